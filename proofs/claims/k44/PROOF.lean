import PyProof.Rows.All
import Wide.All
import OpenK.AllK
import Wide.FinOn
import Lean
import PyProof.EqAt
import PyProof.EqKinds
import PyProof.TupleCall
import PyProof.ReprRoads
import PyProof.EqLayable
import PyProof.NeData
import PyProof.Rows.TupDisplay
import PySem.Challenge.RW_landsentered_k44_tellings_as_texts
set_option Elab.async false
set_option linter.all false
set_option maxRecDepth 100000
set_option compiler.extract_closed false
set_option bootstrap.genMatcherCode false
namespace L2
open PySem PySem.Spec PyProof.Rows
noncomputable abbrev Key := Sum Int Str
noncomputable def CI : Key → Value → Bool
 | .inl k, v => Value.isInt k v
 | .inr x, v => Value.isStrOf x v
noncomputable def Zf4 (w : World) : Key → Int
 | .inl k => hashInt k
 | .inr x => hashStr w x
theorem ZY : ∀ {k : Key} {v : Value}, CI k v = true → (∃ i t, k = Sum.inl i ∧ v = Value.int i t) ∨ (∃ x t, k = Sum.inr x ∧ v = Value.str x t)
 | .inl i, v, h => by
  obtain ⟨t, e⟩ := Value.isInt_shape (k := i) (v := v) h
  exact .inl ⟨i, t, rfl, e⟩
 | .inr x, v, h => by
  obtain ⟨t, e⟩ := Value.isStrOf_shape (x := x) (v := v) h
  exact .inr ⟨x, t, rfl, e⟩
theorem Fo (i : Int) (t : Tok) : CI (.inl i) (.int i t) = true := by simp [CI, Value.isInt]
theorem Dw (x : Str) (t : Tok) : CI (.inr x) (.str x t) = true := by simp [CI, Value.isStrOf]
theorem TN (a b : Int) : decide ((Sum.inl a : Key) = Sum.inl b) = (a == b) := by
 by_cases e : a = b
 ·subst e; simp
 ·have h : ¬ (Sum.inl a : Key) = Sum.inl b := fun q => e (Sum.inl.inj q)
  rw [decide_eq_false h]
  exact (beq_eq_false_iff_ne.mpr e).symm
theorem ZbA (a b : Str) : decide ((Sum.inr a : Key) = Sum.inr b) = decide (a = b) := by
 by_cases e : a = b
 ·subst e; simp
 ·have h : ¬ (Sum.inr a : Key) = Sum.inr b := fun q => e (Sum.inr.inj q)
  rw [decide_eq_false h, decide_eq_false e]
theorem Zaw (a : Int) (b : Str) : decide ((Sum.inl a : Key) = Sum.inr b) = false := decide_eq_false (fun q => nomatch q)
theorem ZbS (a : Str) (b : Int) : decide ((Sum.inr a : Key) = Sum.inl b) = false := decide_eq_false (fun q => nomatch q)
noncomputable def Qg (prog : Program) (w : World) : PySem.KeyKind prog w Key where
 is := CI
 hash := Zf4 w
 inj := fun v a b ha hb => by
  rcases ZY ha with ⟨i, t, rfl, rfl⟩ | ⟨x, t, rfl, rfl⟩
  ·rcases ZY hb with ⟨j, u, rfl, e⟩ | ⟨y, u, rfl, e⟩
   ·injection e with e1 _; rw [e1]
   ·exact nomatch e
  ·rcases ZY hb with ⟨j, u, rfl, e⟩ | ⟨y, u, rfl, e⟩
   ·exact nomatch e
   ·injection e with e1 _; rw [e1]
 byValue := fun k v h => by
  rcases ZY h with ⟨i, t, rfl, rfl⟩ | ⟨x, t, rfl, rfl⟩ <;> rfl
 pyHash := fun hv h => by
  rcases ZY hv with ⟨i, t, rfl, rfl⟩ | ⟨x, t, rfl, rfl⟩
  ·exact wpAny_pyHash_int h
  ·exact wpAny_pyHash_str h
 eqBool := fun hu hv h => by
  rcases ZY hu with ⟨i, t, rfl, rfl⟩ | ⟨x, t, rfl, rfl⟩
  ·rcases ZY hv with ⟨j, u, rfl, rfl⟩ | ⟨y, u, rfl, rfl⟩
   ·rw [TN] at h; exact wpAny_eqBool_int h
   ·rw [Zaw] at h; exact SeqAt.EqAt.int_str i t y u _ _ _ _ h
  ·rcases ZY hv with ⟨j, u, rfl, rfl⟩ | ⟨y, u, rfl, rfl⟩
   ·rw [ZbS] at h; exact SeqAt.EqAt.str_int x t j u _ _ _ _ h
   ·rw [ZbA] at h; exact wpAny_eqBool_str h
 «strs» := fun k x t v h => by
  rcases ZY h with ⟨i, u, rfl, e⟩ | ⟨y, u, rfl, e⟩
  ·exact nomatch e
  ·injection e with e1 _
   subst e1
   cases v <;> rfl
theorem GZ (prog : Program) (w : World) (i : Int) (t : Tok) : (Qg prog w).is (.inl i) (.int i t) = true := Fo i t
theorem Bx (prog : Program) (w : World) (x : Str) (t : Tok) : (Qg prog w).is (.inr x) (.str x t) = true := Dw x t
end L2
namespace L2
open PySem PySem.Spec PyProof.Rows
inductive V where
 | non | bl (b : Bool) | int (i : Int) | str (x : Str) | byt (b : Array UInt8) | flt (b : UInt64) | ref (a : Addr) | ty (n : String)
 deriving DecidableEq
noncomputable def RelV : V → Value → Prop
 | .non, u => u = Value.none
 | .bl b, u => u = Value.bool b
 | .int i, u => ∃ t, u = Value.int i t
 | .str x, u => ∃ t, u = Value.str x t
 | .byt b, u => ∃ t, u = Value.bytes b t
 | .flt b, u => ∃ t, u = Value.float b t
 | .ref a, u => u = Value.ref a
 | .ty n, u => u = Value.type n
noncomputable abbrev Vals : List V → List Value → Prop := Paired RelV
theorem Vals.length {xs : List V} {us : List Value} (r : Vals xs us) : xs.length = us.length := Paired.length r
theorem Vals.get : ∀ {xs : List V} {us : List Value} {i : Nat} {x : V}, Vals xs us → xs[i]? = some x → ∃ u, us[i]? = some u ∧ RelV x u
 | _, _, _, _, .nil, e => by simp at e
 | _, _, 0, _, .cons r _, e => by simp at e; subst e; exact ⟨_, rfl, r⟩
 | _, _, i + 1, x, .cons _ t, e => by
  obtain ⟨u, h1, h2⟩ := Vals.get (i := i) (x := x) t (by simpa using e)
  exact ⟨u, by simpa using h1, h2⟩
theorem Vals.set {x : V} {u : Value} (r : RelV x u) : ∀ {xs : List V} {us : List Value} (i : Nat), Vals xs us → Vals (xs.set i x) (us.set i u)
 | _, _, _, .nil => .nil
 | _, _, 0, .cons _ t => .cons r t
 | _, _, i + 1, .cons q t => .cons q (Vals.set r i t)
theorem Vals.append : ∀ {xs ys : List V} {us ws : List Value}, Vals xs us → Vals ys ws → Vals (xs ++ ys) (us ++ ws)
 | _, _, _, _, .nil, s => s
 | _, _, _, _, .cons r t, s => .cons r (Vals.append t s)
theorem Vals.take : ∀ {xs : List V} {us : List Value} (n : Nat), Vals xs us → Vals (xs.take n) (us.take n)
 | _, _, 0, _ => .nil
 | _, _, _ + 1, .nil => .nil
 | _, _, n + 1, .cons r t => .cons r (Vals.take n t)
theorem Vals.drop : ∀ {xs : List V} {us : List Value} (n : Nat), Vals xs us → Vals (xs.drop n) (us.drop n)
 | _, _, 0, r => r
 | _, _, _ + 1, .nil => .nil
 | _, _, n + 1, .cons _ t => Vals.drop n t
noncomputable def Hk : Option V → Option Value → Prop
 | some v, some u => RelV v u
 | none, none => True
 | _, _ => False
noncomputable def KV {κ : Type} : List (κ × V) → List (κ × Value) → Prop := Paired fun (p : κ × V) (q : κ × Value) => p.1 = q.1 ∧ RelV p.2 q.2
noncomputable def kV : Key → V
 | .inl i => .int i
 | .inr x => .str x
inductive HO where
  | lst (xs : List V)
  | tup (xs : List V)
  | dK (kvs : List (Key × V)) | dT (kvs : List (List Key × V))
  | set (S : Int → Bool) (n : Nat)
  | ins (C dx : Addr) (fs : List (Str × V))
  | own (x : Addr)
  | xd (fs : List (Str × V))
  | met (f x : Addr)
  | rng (lo hi : Int)
  | frz (o : Obj) (u : HO)
  | tbl (ps : Array Value)
  | ext (φ : Heap → Prop)
noncomputable abbrev Hp := Addr → Option HO
noncomputable def upd (H : Hp) (a : Addr) (o : HO) : Hp := fun b => if b = a then some o else H b
theorem JL {H : Hp} {a : Addr} {o : HO} : upd H a o a = some o := by unfold upd; rw [if_pos rfl]
theorem ZV {H : Hp} {a b : Addr} {o : HO} (h : b ≠ a) : upd H a o b = H b := by unfold upd; rw [if_neg h]
theorem R0 {H : Hp} {a : Addr} {o u : HO} : upd (upd H a o) a u = upd H a u := by
 funext b; unfold upd; split <;> rfl
theorem ZA {H : Hp} {a b : Addr} {o : HO} (h : H a = some o) (h' : H b = none) : a ≠ b := by
 intro e; subst e; rw [h] at h'; cases h'
section
variable (P : Program) (w : World)
noncomputable def Q2 (H : Hp) (h : Heap) (a : Addr) : HO → Prop
 | .lst xs => xs.length ≤ sizeLine ∧ ∃ (its : List Value) (n : Nat), Vals xs its ∧ h.get? a = some { cls := .type "list", data := .seq its.toArray n }
 | .tup xs => xs.length ≤ sizeLine ∧ ∃ its : List Value, Vals xs its ∧ IsTup h a its.toArray
 | .dK kvs => kvs.length ≤ sizeLine ∧ (a == sysModules) = false ∧ ∃ vs, KV kvs vs ∧ h.DictOf (Qg P w) a vs
 | .dT kvs => kvs.length ≤ sizeLine ∧ (a == sysModules) = false ∧ ∃ xs : List (List Key × Addr × Value),
   Paired (fun (p : List Key × V) (q : List Key × Addr × Value) => p.1 = q.1 ∧ H q.2.1 = some (.tup (p.1.map kV)) ∧ RelV p.2 q.2.2) kvs xs ∧
   ∃ o es ep, h.get? a = some o ∧ o.ExactDict ∧ o.data = .dict es ep ∧ es.toList = xs.map (entryOfKey (tupleKind (Qg P w))) ∧ (xs.map (·.1)).Nodup
 | .set S n => h.SetOf (intKind P w) a S n
 | .ins C dx fs => H dx = some (.own a) ∧ fs.length ≤ 1000 ∧ dx ≠ a ∧ h.get? a = some (PySem.W.instObj C dx) ∧
   ∃ mA, h.Ns1 dx mA ∧ (∀ f, Hk (fs.lookup f) (mA f)) ∧ PySem.Within mA (fs.map (·.1))
 | .own _ => ∃ o, h.get? a = some o
 | .xd fs => ∃ mA, h.Ns1 a mA ∧ ∀ f, Hk (fs.lookup f) (mA f)
 | .rng lo hi => ∃ t u v, h.get? a = some { cls := .type "range", data := .fields #[.int lo t, .int hi u, .int 1 v] }
 | .frz o u => h.get? a = some o ∧ Q2 H h a u
 | .tbl ps => h.get? a = some { cls := .none, data := .fields ps }
 | .met f x => h.get? a = some (PySem.W.methodObj (.ref f) (.ref x))
 | .ext φ => φ h ∧ (∃ o, h.get? a = some o) ∧ ∀ h1 h2 : Heap, φ h1 → (∀ o, h1.get? a = some o → h2.get? a = some o) → φ h2
noncomputable def HOk (H : Hp) (h : Heap) : Prop := ∀ a o, H a = some o → Q2 P w H h a o
end
section
variable {P : Program} {w : World} {H H' : Hp} {h h' : Heap} {a : Addr} {o : HO}
theorem Q2.lt (x : Q2 P w H h a o) : a < h.objs.size := by
 cases o with
 | lst xs => obtain ⟨_, _, _, _, e⟩ := x; exact Heap.lt_size e
 | tup xs => obtain ⟨_, _, _, p⟩ := x; exact p.lt
 | dK kvs => obtain ⟨_, _, _, _, o, _, _, e, _⟩ := x; exact Heap.lt_size e
 | dT kvs => obtain ⟨_, _, _, _, o, _, _, e, _⟩ := x; exact Heap.lt_size e
 | set S n => obtain ⟨o, _, _, _, e, _⟩ := x; exact Heap.lt_size e
 | ins C dx fs => obtain ⟨_, _, _, e, _⟩ := x; exact Heap.lt_size e
 | own y => obtain ⟨_, e⟩ := x; exact Heap.lt_size e
 | xd fs => obtain ⟨_, ⟨_, _, _, e, _⟩, _⟩ := x; exact Heap.lt_size e
 | rng lo hi => obtain ⟨_, _, _, e⟩ := x; exact Heap.lt_size e
 | frz ob u => obtain ⟨e, _⟩ := x; exact Heap.lt_size e
 | tbl ps => exact Heap.lt_size (show h.get? a = some _ from x)
 | met f y => exact Heap.lt_size (show h.get? a = some _ from x)
 | ext φ => obtain ⟨_, ⟨_, e⟩, _⟩ := x; exact Heap.lt_size e
theorem Paired.Zce {α β : Type} {F G : α → β → Prop} : ∀ {l₁ : List α} {l₂ : List β}, Paired F l₁ l₂ → (∀ a b, F a b → G a b) → Paired G l₁ l₂
 | _, _, .nil, _ => .nil
 | _, _, .cons r t, f => .cons (f _ _ r) (Paired.Zce t f)
theorem Q2.Sb (x : Q2 P w H h a o) (k : ∀ b u, (b = a ∨ H b = some (.own a)) → h.get? b = some u → h'.get? b = some u)
  (ho : ∀ b, H b = some (.own a) → H' b = some (.own a)) (ht : ∀ b xs, H b = some (.tup xs) → H' b = some (.tup xs)) : Q2 P w H' h' a o := by
 induction o with
 | lst xs => obtain ⟨z, its, n, r, e⟩ := x; exact ⟨z, its, n, r, k _ _ (.inl rfl) e⟩
 | tup xs => obtain ⟨z, its, r, ob, e, c⟩ := x; exact ⟨z, its, r, ob, k _ _ (.inl rfl) e, c⟩
 | dK kvs => obtain ⟨z, y, vs, r, ob, es, ep, e, c⟩ := x; exact ⟨z, y, vs, r, ob, es, ep, k _ _ (.inl rfl) e, c⟩
 | dT kvs =>
  obtain ⟨z, y, xs, r, ob, es, ep, e, c⟩ := x
  exact ⟨z, y, xs, Paired.Zce r fun p q z => ⟨z.1, ht _ _ z.2.1, z.2.2⟩, ob, es, ep, k _ _ (.inl rfl) e, c⟩
 | set S n => obtain ⟨ob, es, ep, t, e, c⟩ := x; exact ⟨ob, es, ep, t, k _ _ (.inl rfl) e, c⟩
 | ins C dx fs =>
  obtain ⟨d, z, ne, e, mA, ⟨od, es, ep, e2, c⟩, r⟩ := x
  exact ⟨ho _ d, z, ne, k _ _ (.inl rfl) e, mA, ⟨od, es, ep, k _ _ (.inr d) e2, c⟩, r⟩
 | own y => obtain ⟨ob, e⟩ := x; exact ⟨ob, k _ _ (.inl rfl) e⟩
 | xd fs => obtain ⟨mA, ⟨od, es, ep, e, c⟩, r⟩ := x; exact ⟨mA, ⟨od, es, ep, k _ _ (.inl rfl) e, c⟩, r⟩
 | rng lo hi => obtain ⟨t, u, v, e⟩ := x; exact ⟨t, u, v, k _ _ (.inl rfl) e⟩
 | frz ob u ih => obtain ⟨e, q⟩ := x; exact ⟨k _ _ (.inl rfl) e, ih q⟩
 | tbl ps =>
  have e : h.get? a = some { cls := .none, data := .fields ps } := x
  show h'.get? a = some { cls := .none, data := .fields ps }
  exact k a _ (.inl rfl) e
 | met f y =>
  have e : h.get? a = some (PySem.W.methodObj (.ref f) (.ref y)) := x
  show h'.get? a = some (PySem.W.methodObj (.ref f) (.ref y))
  exact k a _ (.inl rfl) e
 | ext φ => obtain ⟨p, ⟨o, e⟩, st⟩ := x; exact ⟨st _ _ p fun o q => k _ _ (.inl rfl) q, ⟨o, k _ _ (.inl rfl) e⟩, st⟩
theorem HOk.lt (x : HOk P w H h) (e : H a = some o) : a < h.objs.size := (x a o e).lt
theorem HOk.fresh (x : HOk P w H h) (e : h.objs.size ≤ a) : H a = none := by
 cases q : H a with
 | none => rfl
 | some u => exact absurd (Nat.lt_of_lt_of_le (x.lt q) e) (Nat.lt_irrefl _)
theorem HOk.kept (x : HOk P w H h) (k : ∀ b u, h.get? b = some u → h'.get? b = some u) : HOk P w H h' := fun a o e =>
 (x a o e).Sb (fun b u _ q => k b u q) (fun _ q => q) fun _ _ q => q
theorem HOk.laid (x : HOk P w H h) (k : ∀ b u, h.get? b = some u → h'.get? b = some u) (hp : h.objs.size ≤ a) (new : Q2 P w (upd H a o) h' a o) : HOk P w (upd H a o) h' := fun b u e => by
 have hn := x.fresh hp
 by_cases hb : b = a
 ·subst hb; rw [JL] at e; cases e; exact new
 ·rw [ZV hb] at e
  exact (x b u e).Sb (fun c v _ q => k c v q) (fun c q => by rw [ZV (ZA q hn)]; exact q) fun c xs q => by rw [ZV (ZA q hn)]; exact q
end
noncomputable def Rd (H : Hp) (a : Addr) (u : HO) : Prop := H a = some u ∨ ∃ o, H a = some (.frz o u)
theorem Rd.of {H : Hp} {a : Addr} {u : HO} (h : H a = some u) : Rd H a u := .inl h
theorem Rd.ok {P : Program} {w : World} {H : Hp} {h : Heap} {a : Addr} {u : HO} (r : Rd H a u) (x : HOk P w H h) : Q2 P w H h a u := by
 rcases r with r | ⟨o, r⟩
 ·exact x a u r
 ·obtain ⟨_, q⟩ := x a _ r
  exact q
noncomputable def Mut : Option HO → Prop
 | some (.lst _) => True
 | some (.dK _) => True
 | some (.dT _) => True
 | some (.set _ _) => True
 | some (.ins _ _ _) => True
 | some (.ext _) => True
 | _ => False
section
variable {P : Program} {w : World} {H : Hp} {h h' : Heap} {x e : Addr} {o' : HO}
theorem HOk.write (ok : HOk P w H h) (mu : Mut (H x)) (he : e = x ∨ H e = some (.own x)) (k : ∀ b u, b ≠ e → h.get? b = some u → h'.get? b = some u) (heo : ∃ u, h'.get? e = some u)
  (new : Q2 P w (upd H x o') h' x o') : HOk P w (upd H x o') h' := fun b u q => by
 have nown : ∀ c y, H c = some (.own y) → c ≠ x := fun c y r z => by subst z; rw [r] at mu; exact mu
 have ntup : ∀ c xs, H c = some (.tup xs) → c ≠ x := fun c xs r z => by subst z; rw [r] at mu; exact mu
 by_cases hb : b = x
 ·subst hb; rw [JL] at q; cases q; exact new
 ·rw [ZV hb] at q
  by_cases hbe : b = e
  ·have q' : H b = some (.own x) := by
    rcases he with z | z
    ·exact absurd (hbe.trans z) hb
    ·rw [hbe]; exact z
   rw [q] at q'; cases q'
   obtain ⟨v, hv⟩ := heo
   exact ⟨v, by rw [hbe]; exact hv⟩
  ·refine (ok b u q).Sb (fun c v hc r => k c v ?_ r) (fun c r => by rw [ZV (nown c b r)]; exact r) fun c xs r => by rw [ZV (ntup c xs r)]; exact r
   rcases hc with rfl | hc
   ·exact hbe
   ·rintro rfl
    rcases he with z | z
    ·exact nown c b hc z
    ·rw [hc] at z; cases z; exact hb rfl
end
structure Un (fs ex : List Addr) (H H' : Hp) (h h' : Heap) : Prop where
 keep : ∀ b o, h.get? b = some o → H b = none → b ∉ fs → b ∉ ex → h'.get? b = some o
 slot : ∀ b o, h.get? b = some o → H b = none → b ∈ fs → b ∉ ex → ∃ sl, h'.get? b = some { o with slots := sl }
 free : ∀ b o, h.get? b = some o → H b = none → b ∉ ex → H' b = none
 there : ∀ b o, h.get? b = some o → b ∉ ex → ∃ o', h'.get? b = some o'
 tups : ∀ b xs, H b = some (.tup xs) → H' b = some (.tup xs)
 frzs : ∀ b o u, H b = some (.frz o u) → H' b = some (.frz o u)
 tbls : ∀ b ps, H b = some (.tbl ps) → ∃ more, H' b = some (.tbl (ps ++ more))
section
variable {fs fs' ex ex' : List Addr} {H H1 H2 : Hp} {h h1 h2 h' : Heap} {a x e : Addr} {o : HO}
theorem Un.any (u : Un fs ex H H1 h h1) {b : Addr} {ob : Obj} (q : h.get? b = some ob) (n : H b = none) (hx : b ∉ ex) : ∃ sl, h1.get? b = some { ob with slots := sl } := by
 by_cases hb : b ∈ fs
 ·exact u.slot b ob q n hb hx
 ·exact ⟨ob.slots, u.keep b ob q n hb hx⟩
theorem Un.trans (a : Un fs ex H H1 h h1) (b : Un fs ex H1 H2 h1 h2) : Un fs ex H H2 h h2 where
 keep := fun c ob q n hc hx => b.keep c ob (a.keep c ob q n hc hx) (a.free c ob q n hx) hc hx
 slot := fun c ob q n hc hx => by
  obtain ⟨sl, e1⟩ := a.slot c ob q n hc hx
  obtain ⟨sl', e2⟩ := b.slot c _ e1 (a.free c ob q n hx) hc hx
  exact ⟨sl', e2⟩
 free := fun c ob q n hx => by
  obtain ⟨o', e1⟩ := a.there c ob q hx
  exact b.free c o' e1 (a.free c ob q n hx) hx
 there := fun c ob q hx => by
  obtain ⟨o', e1⟩ := a.there c ob q hx
  exact b.there c o' e1 hx
 tups := fun c xs q => b.tups c xs (a.tups c xs q)
 frzs := fun c ob xs q => b.frzs c ob xs (a.frzs c ob xs q)
 tbls := fun c ps q => by
  obtain ⟨m1, e1⟩ := a.tbls c ps q
  obtain ⟨m2, e2⟩ := b.tbls c _ e1
  exact ⟨m1 ++ m2, by rw [e2, Array.append_assoc]⟩
theorem Un.kept (k : ∀ b u, h.get? b = some u → h'.get? b = some u) : Un fs ex H H h h' :=
 ⟨fun b ob q _ _ _ => k b ob q, fun b ob q _ _ _ => ⟨ob.slots, k b ob q⟩, fun _ _ _ n _ => n, fun b ob q _ => ⟨ob, k b ob q⟩, fun _ _ q => q, fun _ _ _ q => q, fun _ ps q => ⟨#[], by rw [q]; simp⟩⟩
theorem Un.refl : Un fs ex H H h h := Un.kept fun _ _ q => q
theorem Un.laid (k : ∀ b u, h.get? b = some u → h'.get? b = some u) (hp : h.objs.size ≤ a) (hn : H a = none) : Un fs ex H (upd H a o) h h' where
 keep := fun b u q _ _ _ => k b u q
 slot := fun b u q _ _ _ => ⟨u.slots, k b u q⟩
 free := fun b u q n _ => by rw [ZV (Nat.ne_of_lt (Nat.lt_of_lt_of_le (Heap.lt_size q) hp))]; exact n
 there := fun b u q _ => ⟨u, k b u q⟩
 tups := fun b xs q => by rw [ZV (ZA q hn)]; exact q
 frzs := fun b u xs q => by rw [ZV (ZA q hn)]; exact q
 tbls := fun b ps q => ⟨#[], by rw [ZV (ZA q hn), q]; simp⟩
theorem Un.write (mu : Mut (H x)) (he : e = x ∨ H e = some (.own x)) (k : ∀ b u, b ≠ e → h.get? b = some u → h'.get? b = some u) (heo : ∃ u, h'.get? e = some u) : Un fs ex H (upd H x o) h h' := by
 have hx : ∀ b, H b = none → b ≠ x := fun b n z => by subst z; rw [n] at mu; exact mu
 have hb : ∀ b, H b = none → b ≠ e := fun b n z => by
  subst z
  rcases he with r | r
  ·exact hx b n r
  ·rw [n] at r; cases r
 have hm : ∀ b u, H b = some u → ¬ Mut (some u) → b ≠ x := fun b u q nm z => by subst z; rw [q] at mu; exact nm mu
 refine ⟨fun b u q n _ _ => k b u (hb b n) q, fun b u q n _ _ => ⟨u.slots, k b u (hb b n) q⟩, fun b u q n _ => by rw [ZV (hx b n)]; exact n, fun b u q _ => ?_,
  fun b xs q => by rw [ZV (hm b _ q fun z => z)]; exact q, fun b u xs q => by rw [ZV (hm b _ q fun z => z)]; exact q, fun b ps q => ⟨#[], by rw [ZV (hm b _ q fun z => z), q]; simp⟩⟩
 by_cases hbe : b = e
 ·subst hbe; exact heo
 ·exact ⟨u, k b u hbe q⟩
end
noncomputable def trk (h : Heap) (H : Hp) : List Addr := (List.range h.objs.size).filter fun a => (H a).isSome
noncomputable def Hw (h : Heap) (H : Hp) : Heap := PySem.W.hideAll h (trk h H)
theorem E1 (h : Heap) (H : Hp) : (Hw h H).objs.size = h.objs.size := PySem.W.hideAll_size _ _
theorem HE {h : Heap} {H : Hp} {b : Addr} {o : Obj} (e : h.get? b = some o) (n : H b = none) : (Hw h H).get? b = some o :=
 PySem.W.hideAll_get _ e fun hm => by
  have q : (H b).isSome = true := (List.mem_filter.mp hm).2
  rw [n] at q; simp at q
theorem RU {h : Heap} {H : Hp} {b : Addr} {o : Obj} (e : (Hw h H).get? b = some o) : h.get? b = some o ∧ H b = none := by
 have e' : h.get? b = some o := PySem.W.of_hideAll (trk h H) e
 refine ⟨e', ?_⟩
 cases q : H b with
 | none => rfl
 | some x =>
  have hm : b ∈ trk h H := List.mem_filter.mpr ⟨List.mem_range.mpr (Heap.lt_size e'), by simp [q]⟩
  have z : (Hw h H).get? b = none := PySem.W.hideAll_none (trk h H) hm
  rw [z] at e; cases e
noncomputable def Pz (g h : Heap) (L : Addr) : List (Addr × Obj) := (List.range h.objs.size).filterMap fun a => if a = L ∨ (g.get? a).isSome = true then none else (h.get? a).map fun o => (a, o)
noncomputable def rest (g h : Heap) (L d : Addr) : List (Addr × Obj) := (Pz g h L).filter fun p => decide (p.1 ≠ d)
end L2
namespace L2
open PySem PySem.Spec PyProof.Rows
structure Mod (K : PySem.W.Frag) (mg : Str → Option Value) (base : Heap) : Prop where
 kin : K.In base
 glob : base.Ns mainGlobals mg
 blt : ∃ mb, base.Ns builtinsNs mb ∧ ∀ x : Str, x ≠ "__name__" → mb x = bootBuiltins x
 nolimit : base.NoLimit
structure Cx where
 prog : Program
 w : World
 K : PySem.W.Frag
 mg : Str → Option Value
 base : Heap
 A : Around
 N : List Str
 s₀ : Shared
 H₀ : Hp
 env : Env
 outer : List Env
 stack : List Env
 ex : List Addr
 fn : Str → Bool
 calm : Bool
 pn : List (Addr × Obj)
 xe : Value → Shared → Prop
noncomputable def frs (l : List Env) : List Addr := l.filterMap (·.frame)
noncomputable abbrev Cx.fs (X : Cx) : List Addr := frs X.outer
noncomputable def Vis (sc : Scope) (x : Str) : Prop := sc.names.lookup x = some .local ∨ sc.names.lookup x = some .cell ∨ sc.names.lookup x = some .free
noncomputable def Loc (sc : Scope) (x : Str) : Prop := sc.names.lookup x = some .local ∨ sc.names.lookup x = some .cell
noncomputable def Look (env : Env) (h : Heap) (m : Str → Option Value) (x : Str) (u : Value) : Prop :=
 (env.kindOf x = some .local ∧ m x = some u) ∨ ((env.kindOf x = some .cell ∨ env.kindOf x = some .free) ∧ ∃ c, env.cells.lookup x = some c ∧ h.IsCell c (some u))
structure Cx.Ok (X : Cx) : Prop where
 mod : Mod X.K X.mg X.base
 kind : X.env.scope.kind = .function
 glob : X.env.globals = mainGlobals
 blt : X.env.builtins = builtinsNs
 above : X.s₀.heap.objs.size ≤ X.env.locals
 inj : ∀ x y c, X.env.cells.lookup x = some c → X.env.cells.lookup y = some c → x = y
 has : ∀ x, (X.env.kindOf x = some .cell ∨ X.env.kindOf x = some .free) → ∃ c, X.env.cells.lookup x = some c
 cab : ∀ x c, X.fn x = true → X.env.cells.lookup x = some c → X.s₀.heap.objs.size ≤ c
 hd : X.calm = true → X.A.handled = none
 frames : X.A.frames = some X.stack
 stk : X.stack = X.outer ∨ (X.stack = X.env :: X.outer ∧ X.env.frame = some X.env.locals)
 exf : ∀ b ∈ X.ex, b ≠ X.env.locals ∧ ∀ x c, X.env.cells.lookup x = some c → c ≠ b
 bs : ∀ b o, X.base.get? b = some o → X.s₀.heap.get? b = some o ∧ X.H₀ b = none
 bsz : X.base.objs.size ≤ X.s₀.heap.objs.size
 noex : ∀ b o, X.base.get? b = some o → b ∉ X.ex
 exfs : ∀ b ∈ X.ex, b ∉ X.fs
 FI : X.s₀.heap.FunFrames X.base X.outer
 frf : ∀ b ∈ X.fs, X.H₀ b = none
structure Inv (X : Cx) (pins : List (Addr × Obj)) (σ : List (Option V)) (H : Hp) (s : Shared) : Prop where
 ok : X.Ok
 os : s.os = X.s₀.os
 bare : AllBare s.gens
 base : Un X.fs X.ex X.H₀ H X.s₀.heap s.heap
 loc : ∃ m, s.heap.Ns X.env.locals m ∧ ∀ (i : Nat) (x : Str) (v : V), X.N[i]? = some x → σ[i]? = some (some v) → Vis X.env.scope x → ∃ u, RelV v u ∧ Look X.env s.heap m x u
 cell : ∀ x c, X.env.cells.lookup x = some c → ∃ v, s.heap.IsCell c v
 free : H X.env.locals = none
 freeC : ∀ x c, X.env.cells.lookup x = some c → H c = none
 pin : ∀ p ∈ X.pn ++ pins, s.heap.get? p.1 = some p.2 ∧ H p.1 = none ∧ p.1 ≠ X.env.locals ∧ p.1 ∉ X.fs ∧ ∀ v, p.2.data ≠ .cell v
 hok : HOk X.prog X.w H s.heap
 len : σ.length = X.N.length
section
variable {X : Cx} {pins : List (Addr × Obj)} {σ : List (Option V)} {H H' : Hp} {s : Shared} {h' : Heap}
theorem Cx.Ok.Zfk (ok : X.Ok) {b : Addr} {o : Obj} (e : X.base.get? b = some o) : b ∉ X.fs := fun hb => by
 have := (ok.FI.mem hb).1
 rw [e] at this; cases this
theorem Inv.bs (I : Inv X pins σ H s) : ∀ b o, X.base.get? b = some o → s.heap.get? b = some o ∧ H b = none := fun b o e =>
 ⟨I.base.keep b o (I.ok.bs b o e).1 (I.ok.bs b o e).2 (I.ok.Zfk e) (I.ok.noex b o e), I.base.free b o (I.ok.bs b o e).1 (I.ok.bs b o e).2 (I.ok.noex b o e)⟩
theorem Inv.bk (I : Inv X pins σ H s) : ∀ b o, X.base.get? b = some o → s.heap.get? b = some o := fun b o e => (I.bs b o e).1
theorem Inv.mod (I : Inv X pins σ H s) : Mod X.K X.mg X.base := I.ok.mod
theorem Inv.kIn (I : Inv X pins σ H s) : X.K.In s.heap := I.ok.mod.kin.keeps I.bk
theorem Inv.fr (I : Inv X pins σ H s) : ∃ m, Fr X.base X.env.locals s.heap m :=
 let ⟨m, hn, _⟩ := I.loc
 ⟨m, hn, I.bk, Nat.le_trans I.ok.bsz I.ok.above⟩
theorem Inv.lt (I : Inv X pins σ H s) : X.env.locals < s.heap.objs.size := let ⟨_, hn, _⟩ := I.loc; hn.lt
theorem Inv.sz (I : Inv X pins σ H s) : X.s₀.heap.objs.size ≤ s.heap.objs.size := Nat.le_trans I.ok.above (Nat.le_of_lt I.lt)
theorem Inv.Zfw (I : Inv X pins σ H s) {a : Addr} (h : s.heap.objs.size ≤ a) : a ∉ X.fs := fun hb => by
 obtain ⟨_, o, ho, _⟩ := I.ok.FI.mem hb
 exact absurd (Nat.lt_of_lt_of_le (Heap.lt_size ho) (Nat.le_trans I.sz h)) (Nat.lt_irrefl _)
theorem Inv.cne (I : Inv X pins σ H s) : ∀ x c, X.env.cells.lookup x = some c → c ≠ X.env.locals := fun x c e z => by
 obtain ⟨v, o, ho, hd⟩ := I.cell x c e
 obtain ⟨m, ⟨o', es, ep, ho', hd', _⟩, _⟩ := I.loc
 rw [z, ho'] at ho; cases ho; rw [hd'] at hd; cases hd
theorem Inv.FI (I : Inv X pins σ H s) : s.heap.FunFrames X.base X.outer := by
 have all : ∀ (l : List Env), (∀ b ∈ frs l, b ∈ X.fs) → X.s₀.heap.FunFrames X.base l → s.heap.FunFrames X.base l := by
  intro l
  induction l with
  | nil => intro _ _; trivial
  | cons env r ih =>
   intro hs hl
   obtain ⟨hk, ⟨L, o, hf, hn, ho, hd⟩, hr⟩ := hl
   have hL : L ∈ X.fs := hs L (by unfold frs; rw [List.filterMap_cons, hf]; exact List.mem_cons_self)
   obtain ⟨sl, e⟩ := I.base.slot L o ho (I.ok.frf L hL) hL fun z => I.ok.exfs L z hL
   exact ⟨hk, ⟨L, _, hf, hn, e, hd⟩, ih (fun b hb => hs b (by unfold frs; rw [List.filterMap_cons, hf]; exact List.mem_cons_of_mem _ hb)) hr⟩
 exact all X.outer (fun _ hb => hb) I.ok.FI
theorem Inv.stack (I : Inv X pins σ H s) : s.heap.FunFrames X.base X.stack := by
 rcases I.ok.stk with e | ⟨e, hf⟩
 ·rw [e]; exact I.FI
 ·rw [e]
  obtain ⟨m, hn, _⟩ := I.loc
  refine .cons (by rw [I.ok.kind]; decide) hf hn ?_ I.FI
  exact Heap.get?_none_of_le (Nat.le_trans I.ok.bsz I.ok.above)
theorem Inv.Fj (I : Inv X pins σ H s) : ∀ b ∈ frs X.stack, b ∈ X.env.locals :: X.fs := fun b hb => by
 rcases I.ok.stk with e | ⟨e, hf⟩
 ·rw [e] at hb; exact List.mem_cons_of_mem _ hb
 ·rw [e] at hb
  unfold frs at hb
  rw [List.filterMap_cons, hf] at hb
  exact hb
theorem Inv.FP (I : Inv X pins σ H s) : ∀ b ∈ frs X.stack, H b = none := fun b hb => by
 rcases List.mem_cons.mp (I.Fj b hb) with e | hb
 ·rw [e]; exact I.free
 ·obtain ⟨_, o, ho, _⟩ := I.ok.FI.mem hb
  exact I.base.free b o ho (I.ok.frf b hb) fun z => I.ok.exfs b z hb
theorem Inv.step {g' : Array GenState} {t' : Nat} {d' : Drawn} {ch : List Addr} (I : Inv X pins σ H s)
  (hch : ∀ b ∈ ch, (b ∈ X.ex ∨ X.s₀.heap.objs.size ≤ b) ∧ b ≠ X.env.locals ∧ (∀ x c, X.env.cells.lookup x = some c → c ≠ b) ∧ ∀ p ∈ X.pn ++ pins, p.1 ≠ b)
  (keep : ∀ b o, b ≠ X.env.locals → b ∉ X.fs → b ∉ ch → s.heap.get? b = some o → H b = none → h'.get? b = some o)
  (slot : ∀ b o, b ≠ X.env.locals → b ∈ X.fs → b ∉ ch → s.heap.get? b = some o → H b = none → ∃ sl, h'.get? b = some { o with slots := sl }) (free : ∀ b o, b ∉ ch → s.heap.get? b = some o → H b = none → H' b = none)
  (there : ∀ b o, b ∉ ch → s.heap.get? b = some o → ∃ o', h'.get? b = some o')
  (tups : ∀ b xs, H b = some (.tup xs) → H' b = some (.tup xs)) (frzs : ∀ b o u, H b = some (.frz o u) → H' b = some (.frz o u)) (tbls : ∀ b ps, H b = some (.tbl ps) → ∃ more, H' b = some (.tbl (ps ++ more)))
  (ns : ∀ m, s.heap.Ns X.env.locals m → h'.Ns X.env.locals m) (hok : HOk X.prog X.w H' h') (hg : AllBare g') :
  Inv X pins σ H' { s with heap := h', gens := g', drawn := d', toks := t' } := by
 have neL : ∀ b o, X.s₀.heap.get? b = some o → b ≠ X.env.locals := fun b o e => Nat.ne_of_lt (Nat.lt_of_lt_of_le (Heap.lt_size e) I.ok.above)
 have neC : ∀ b o, X.s₀.heap.get? b = some o → b ∉ X.ex → b ∉ ch := fun b o e hx hb => by
  rcases (hch b hb).1 with z | z
  ·exact hx z
  ·exact absurd (Nat.lt_of_lt_of_le (Heap.lt_size e) z) (Nat.lt_irrefl _)
 have cellK : ∀ x c, X.env.cells.lookup x = some c → ∀ v, s.heap.IsCell c v → h'.IsCell c v := fun x c e v ⟨o, ho, hd⟩ => by
  have nch : c ∉ ch := fun z => (hch c z).2.2.1 x c e rfl
  by_cases hc : c ∈ X.fs
  ·obtain ⟨sl, q⟩ := slot c o (I.cne x c e) hc nch ho (I.freeC x c e)
   exact ⟨_, q, hd⟩
  ·exact ⟨o, keep c o (I.cne x c e) hc nch ho (I.freeC x c e), hd⟩
 refine ⟨I.ok, I.os, hg, ⟨fun b o e n hb hx => ?_, fun b o e n hb hx => ?_, fun b o e n hx => ?_, fun b o e hx => ?_, fun b xs e => tups b xs (I.base.tups b xs e), fun b o xs e => frzs b o xs (I.base.frzs b o xs e), fun b ps e => ?_⟩, ?_, fun x c e => ?_, ?_, fun x c e => ?_, fun p hp => ?_, hok, I.len⟩
 ·exact keep b o (neL b o e) hb (neC b o e hx) (I.base.keep b o e n hb hx) (I.base.free b o e n hx)
 ·obtain ⟨sl, e1⟩ := I.base.slot b o e n hb hx
  obtain ⟨sl', e2⟩ := slot b _ (neL b o e) hb (neC b o e hx) e1 (I.base.free b o e n hx)
  exact ⟨sl', e2⟩
 ·obtain ⟨o', e1⟩ := I.base.there b o e hx
  exact free b o' (neC b o e hx) e1 (I.base.free b o e n hx)
 ·obtain ⟨o', e1⟩ := I.base.there b o e hx
  exact there b o' (neC b o e hx) e1
 ·obtain ⟨m1, e1⟩ := I.base.tbls b ps e
  obtain ⟨m2, e2⟩ := tbls b _ e1
  exact ⟨m1 ++ m2, by rw [e2, Array.append_assoc]⟩
 ·obtain ⟨m, hn, hl⟩ := I.loc
  refine ⟨m, ns m hn, fun i x v e1 e2 e3 => ?_⟩
  obtain ⟨u, r, l⟩ := hl i x v e1 e2 e3
  refine ⟨u, r, ?_⟩
  rcases l with l | ⟨k, c, e, z⟩
  ·exact .inl l
  ·exact .inr ⟨k, c, e, cellK x c e _ z⟩
 ·obtain ⟨v, z⟩ := I.cell x c e
  exact ⟨v, cellK x c e v z⟩
 ·obtain ⟨m, ⟨o, _, _, ho, _⟩, _⟩ := I.loc
  exact free _ o (fun z => (hch _ z).2.1 rfl) ho I.free
 ·obtain ⟨v, o, ho, hd⟩ := I.cell x c e
  exact free c o (fun z => (hch c z).2.2.1 x c e rfl) ho (I.freeC x c e)
 ·obtain ⟨e, n, ne, nf, d⟩ := I.pin p hp
  have nch : p.1 ∉ ch := fun z => (hch p.1 z).2.2.2 p hp rfl
  exact ⟨keep p.1 p.2 ne nf nch e n, free p.1 p.2 nch e n, ne, nf, d⟩
theorem Inv.un {t' : Nat} (I : Inv X pins σ H s) (u : Un X.fs [] H H' s.heap h') (hok : HOk X.prog X.w H' h') : Inv X pins σ H' { s with heap := h', toks := t' } := by
 obtain ⟨m, ⟨o, es, ep, ho, r⟩, _⟩ := id I.loc
 obtain ⟨sl, hL⟩ := u.any ho I.free (by simp)
 exact I.step (g' := s.gens) (d' := s.drawn) (ch := []) (fun _ z => nomatch z) (fun b o _ hb _ e n => u.keep b o e n hb (by simp)) (fun b o _ hb _ e n => u.slot b o e n hb (by simp)) (fun b o _ e n => u.free b o e n (by simp)) (fun b o _ e => u.there b o e (by simp)) u.tups u.frzs u.tbls (fun m' hm => by
  obtain ⟨o', es', ep', ho', r'⟩ := hm
  rw [ho] at ho'; cases ho'
  exact ⟨_, es', ep', hL, r'⟩) hok I.bare
theorem Inv.call {g' : Array GenState} {t' : Nat} {d' : Drawn} {ch : List Addr} (I : Inv X pins σ H s) (u : Un (frs X.stack) ch H H' s.heap h') (hok : HOk X.prog X.w H' h') (hg : AllBare g')
  (hch : ∀ b ∈ ch, (b ∈ X.ex ∨ X.s₀.heap.objs.size ≤ b) ∧ b ≠ X.env.locals ∧ (∀ x c, X.env.cells.lookup x = some c → c ≠ b) ∧ ∀ p ∈ X.pn ++ pins, p.1 ≠ b) :
  Inv X pins σ H' { s with heap := h', gens := g', drawn := d', toks := t' } := by
 obtain ⟨m, ⟨o, es, ep, ho, r⟩, _⟩ := id I.loc
 obtain ⟨sl, hL⟩ := u.any ho I.free fun z => (hch _ z).2.1 rfl
 exact I.step (ch := ch) hch (fun b o hL hb hc e n => u.keep b o e n (fun z => (List.mem_cons.mp (I.Fj b z)).elim hL hb) hc) (fun b o _ _ hc e n => u.any e n hc) (fun b o hc e n => u.free b o e n hc) (fun b o hc e => u.there b o e hc) u.tups u.frzs u.tbls (fun m' hm => by
  obtain ⟨o', es', ep', ho', r'⟩ := hm
  rw [ho] at ho'; cases ho'
  exact ⟨_, es', ep', hL, r'⟩) hok hg
theorem Inv.turned {t' : Nat} {it : Addr} (I : Inv X pins σ H s) (k : ∀ b o, b ≠ it → s.heap.get? b = some o → h'.get? b = some o) (hn : H it = none) (hL : it ≠ X.env.locals)
  (h1 : it ∈ X.ex ∨ X.s₀.heap.objs.size ≤ it) (h2 : ∀ x c, X.env.cells.lookup x = some c → c ≠ it) (h3 : ∀ p ∈ X.pn ++ pins, p.1 ≠ it) : Inv X pins σ H { s with heap := h', toks := t' } := by
 have nit : ∀ b u, H b = some u → b ≠ it := fun b u e z => by rw [z, hn] at e; cases e
 refine I.step (g' := s.gens) (d' := s.drawn) (ch := [it]) (fun b hb => ?_) (fun b o _ _ hc e _ => k b o (fun z => hc (by simp [z])) e) (fun b o _ _ hc e _ => ⟨o.slots, k b o (fun z => hc (by simp [z])) e⟩) (fun _ _ _ _ n => n)
  (fun b o hc e => ⟨o, k b o (fun z => hc (by simp [z])) e⟩) (fun _ _ e => e) (fun _ _ _ e => e) (fun b ps e => ⟨#[], by rw [e]; simp⟩) (fun m hm => ?_) (fun b u e => ?_) I.bare
 ·have e : b = it := by simpa using hb
  subst e
  exact ⟨h1, hL, h2, h3⟩
 ·obtain ⟨o, es, ep, ho, r⟩ := hm
  exact ⟨o, es, ep, k _ o (Ne.symm hL) ho, r⟩
 ·refine (I.hok b u e).Sb (fun c v hc q => k c v ?_ q) (fun _ q => q) fun _ _ q => q
  rcases hc with z | z
  ·rw [z]; exact nit b u e
  ·exact nit c _ z
theorem Inv.tok (I : Inv X pins σ H s) (t : Nat) : Inv X pins σ H { s with toks := t } := I.un (h' := s.heap) (t' := t) Un.refl I.hok
theorem Inv.kept {t' : Nat} (I : Inv X pins σ H s) (k : ∀ b u, s.heap.get? b = some u → h'.get? b = some u) : Inv X pins σ H { s with heap := h', toks := t' } := I.un (Un.kept k) (I.hok.kept k)
theorem Inv.laid {a : Addr} {o : HO} {t' : Nat} (I : Inv X pins σ H s) (k : ∀ b u, s.heap.get? b = some u → h'.get? b = some u) (hp : s.heap.objs.size ≤ a) (new : Q2 X.prog X.w (upd H a o) h' a o) :
  Inv X pins σ (upd H a o) { s with heap := h', toks := t' } := I.un (Un.laid k hp (I.hok.fresh hp)) (I.hok.laid k hp new)
theorem Inv.write {x e : Addr} {o : HO} {t' : Nat} (I : Inv X pins σ H s) (mu : Mut (H x)) (he : e = x ∨ H e = some (.own x)) (k : ∀ b u, b ≠ e → s.heap.get? b = some u → h'.get? b = some u) (heo : ∃ u, h'.get? e = some u)
  (new : Q2 X.prog X.w (upd H x o) h' x o) : Inv X pins σ (upd H x o) { s with heap := h', toks := t' } := I.un (Un.write mu he k heo) (I.hok.write mu he k heo new)
theorem Inv.XT {pins' : List (Addr × Obj)} (I : Inv X pins σ H s) (h : ∀ p ∈ pins', s.heap.get? p.1 = some p.2 ∧ H p.1 = none ∧ p.1 ≠ X.env.locals ∧ p.1 ∉ X.fs ∧ ∀ v, p.2.data ≠ .cell v) : Inv X pins' σ H s :=
 ⟨I.ok, I.os, I.bare, I.base, I.loc, I.cell, I.free, I.freeC, fun p hp => (List.mem_append.mp hp).elim (fun z => I.pin p (List.mem_append_left _ z)) (h p), I.hok, I.len⟩
theorem Cs {N : List Str} (hN : N.Nodup) {i j : Nat} {x : Str} (a : N[i]? = some x) (b : N[j]? = some x) : i = j := by
 obtain ⟨h1, e1⟩ := List.getElem?_eq_some_iff.mp a
 obtain ⟨h2, e2⟩ := List.getElem?_eq_some_iff.mp b
 exact (List.getElem_inj hN).mp (e1.trans e2.symm)
theorem E9 {M : Model} {A : Around} {E : Value → Shared → Prop} {i : Nat} {x : Str} {v : V} {u : Value} {Q : Unit → Shared → Prop} (I : Inv X pins σ H s) (hN : X.N.Nodup) (hi : X.N[i]? = some x) (hx : Loc X.env.scope x) (r : RelV v u)
  (h : ∀ s', Inv X pins (σ.set i (some v)) H s' → (∃ a, Heap.SameBut a s.heap s'.heap ∧ (a = X.env.locals ∨ X.env.cells.lookup x = some a)) → Q () s') (hf : X.fn x = true ∨ X.env.scope.names.lookup x = some .local := by first | exact .inl rfl | exact .inr rfl | assumption) : wpAny M A (storeName X.env x u) Q E s := by
 obtain ⟨m, hn, hl⟩ := id I.loc
 have hcls : (X.env.scope.kind == .class || (X.env.scope.kind == .module && X.env.locals != X.env.globals)) = false := by rw [I.ok.kind]; rfl
 have hiσ : i < σ.length := by rw [I.len]; exact (List.getElem?_eq_some_iff.mp hi).1
 have cne := I.cne
 have tracked : ∀ {a : Addr} {h' : Heap}, (∃ o, s.heap.get? a = some o ∧ H a = none) → Heap.SameBut a s.heap h' → HOk X.prog X.w H h' := fun {a h'} ha hs b ob e => by
  obtain ⟨_, _, hfree⟩ := ha
  refine (I.hok b ob e).Sb (fun c w' hc q => (hs.2 c ?_).trans q) (fun _ q => q) fun _ _ q => q
  rintro rfl
  rcases hc with rfl | hc
  ·rw [hfree] at e; cases e
  ·rw [hfree] at hc; cases hc
 rcases hx with hk | hk
 ·refine wpAny_storeName_local hk hn (fun h' hn' hs => ?_) hcls
  obtain ⟨oL, _, _, hoL, _⟩ := id hn
  refine h _ ⟨I.ok, I.os, I.bare, ⟨fun b o e n hb hx => ?_, fun b o e n hb hx => ?_, I.base.free, fun b o e hx => ?_, I.base.tups, I.base.frzs, I.base.tbls⟩, ⟨_, hn', fun j y v' e1 e2 e3 => ?_⟩, fun y c e => ?_, I.free, I.freeC, fun p hp => ?_, tracked ⟨oL, hoL, I.free⟩ hs, by simpa using I.len⟩ ⟨_, hs, .inl rfl⟩
  ·exact (hs.2 b (Nat.ne_of_lt (Nat.lt_of_lt_of_le (Heap.lt_size e) I.ok.above))).trans (I.base.keep b o e n hb hx)
  ·obtain ⟨sl, e1⟩ := I.base.slot b o e n hb hx
   exact ⟨sl, (hs.2 b (Nat.ne_of_lt (Nat.lt_of_lt_of_le (Heap.lt_size e) I.ok.above))).trans e1⟩
  ·obtain ⟨o', e1⟩ := I.base.there b o e hx
   exact ⟨o', (hs.2 b (Nat.ne_of_lt (Nat.lt_of_lt_of_le (Heap.lt_size e) I.ok.above))).trans e1⟩
  ·by_cases hj : j = i
   ·subst hj
    rw [hi] at e1; cases e1
    rw [List.getElem?_set_self hiσ] at e2
    cases e2
    exact ⟨u, r, .inl ⟨hk, by simp⟩⟩
   ·rw [List.getElem?_set_ne (Ne.symm hj)] at e2
    obtain ⟨u', r', q⟩ := hl j y v' e1 e2 e3
    refine ⟨u', r', ?_⟩
    rcases q with ⟨k, e⟩ | ⟨k, c, e, z⟩
    ·refine .inl ⟨k, ?_⟩
     have : y ≠ x := fun e => hj (Cs hN e1 (e ▸ hi))
     simp [this, e]
    ·exact .inr ⟨k, c, e, z.sameBut hs (cne y c e)⟩
  ·obtain ⟨w', z⟩ := I.cell y c e
   exact ⟨w', z.sameBut hs (cne y c e)⟩
  ·obtain ⟨e, n, ne, nf, d⟩ := I.pin p hp
   exact ⟨(hs.2 p.1 ne).trans e, n, ne, nf, d⟩
 ·have hfn : X.fn x = true := by
   rcases hf with z | z
   ·exact z
   ·rw [z] at hk; cases hk
  obtain ⟨c, hc⟩ := I.ok.has x (.inl hk)
  obtain ⟨w', z⟩ := I.cell x c hc
  refine wpAny_storeName_cell I.ok.kind hk hc z (fun h' hc' hs => ?_)
  obtain ⟨oc, hoc, hocd⟩ := id z
  refine h { s with heap := h' } ⟨I.ok, I.os, I.bare, ⟨fun b o e n hb hx => ?_, fun b o e n hb hx => ?_, I.base.free, fun b o e hx => ?_, I.base.tups, I.base.frzs, I.base.tbls⟩, ⟨m, hn.sameBut hs (Ne.symm (cne x c hc)), fun j y v' e1 e2 e3 => ?_⟩, fun y c' e => ?_, I.free, I.freeC, fun p hp => ?_, tracked ⟨oc, hoc, I.freeC x c hc⟩ hs, by simpa using I.len⟩ ⟨c, hs, .inr hc⟩
  ·exact (hs.2 b (Nat.ne_of_lt (Nat.lt_of_lt_of_le (Heap.lt_size e) (I.ok.cab x c hfn hc)))).trans (I.base.keep b o e n hb hx)
  ·obtain ⟨sl, e1⟩ := I.base.slot b o e n hb hx
   exact ⟨sl, (hs.2 b (Nat.ne_of_lt (Nat.lt_of_lt_of_le (Heap.lt_size e) (I.ok.cab x c hfn hc)))).trans e1⟩
  ·obtain ⟨o', e1⟩ := I.base.there b o e hx
   exact ⟨o', (hs.2 b (Nat.ne_of_lt (Nat.lt_of_lt_of_le (Heap.lt_size e) (I.ok.cab x c hfn hc)))).trans e1⟩
  ·by_cases hj : j = i
   ·subst hj
    rw [hi] at e1; cases e1
    rw [List.getElem?_set_self hiσ] at e2
    cases e2
    exact ⟨u, r, .inr ⟨.inl hk, c, hc, hc'⟩⟩
   ·rw [List.getElem?_set_ne (Ne.symm hj)] at e2
    obtain ⟨u', r', q⟩ := hl j y v' e1 e2 e3
    refine ⟨u', r', ?_⟩
    rcases q with q | ⟨k, c', e, z'⟩
    ·exact .inl q
    ·refine .inr ⟨k, c', e, z'.sameBut hs ?_⟩
     rintro rfl
     exact hj (Cs hN e1 (I.ok.inj _ _ _ e hc ▸ hi))
  ·by_cases hcc : c' = c
   ·subst hcc; exact ⟨_, hc'⟩
   ·obtain ⟨w2, z2⟩ := I.cell y c' e
    exact ⟨w2, z2.sameBut hs hcc⟩
  ·obtain ⟨e, n, ne, nf, d⟩ := I.pin p hp
   refine ⟨(hs.2 p.1 ?_).trans e, n, ne, nf, d⟩
   intro q
   rw [q, hoc] at e
   have q' : oc = p.2 := Option.some.inj e
   exact d w' (by rw [← q']; exact hocd)
theorem B1 {M : Model} {A : Around} {E : Value → Shared → Prop} {i : Nat} {x : Str} {v : V} {u : Value} {Q : Unit → Shared → Prop} (I : Inv X pins σ H s) (hN : X.N.Nodup) (hi : X.N[i]? = some x) (hx : Loc X.env.scope x) (r : RelV v u)
  (h : ∀ s', Inv X pins (σ.set i (some v)) H s' → Q () s') (hf : X.fn x = true ∨ X.env.scope.names.lookup x = some .local := by first | exact .inl rfl | exact .inr rfl | assumption) : wpAny M A (storeName X.env x u) Q E s :=
 E9 I hN hi hx r (fun s' I' _ => h s' I') hf
theorem Inv.ZcV {s' : Shared} {ch : List Addr} (I : Inv X pins σ H s) (ho : s'.os = s.os) (u : Un (frs X.stack) ch H H' s.heap s'.heap) (hok : HOk X.prog X.w H' s'.heap) (hg : AllBare s'.gens)
  (hch : ∀ b ∈ ch, (b ∈ X.ex ∨ X.s₀.heap.objs.size ≤ b) ∧ b ≠ X.env.locals ∧ (∀ x c, X.env.cells.lookup x = some c → c ≠ b) ∧ ∀ p ∈ X.pn ++ pins, p.1 ≠ b) : Inv X pins σ H' s' := by
 obtain ⟨h', g', d', t', o'⟩ := s'
 have e : o' = s.os := ho
 subst e
 exact I.call (g' := g') (t' := t') (d' := d') u hok hg hch
end
noncomputable abbrev XK := Value → Option Addr → Hp → Prop
noncomputable abbrev St := List (Option V)
noncomputable abbrev VK := V → Hp → Prop
noncomputable abbrev TE := St → Hp → VK → Prop
noncomputable abbrev TT := St → Hp → (Bool → Hp → Prop) → Prop
noncomputable abbrev TA := St → Hp → (List V → Hp → Prop) → Prop
structure Ends where
 nx : St → Hp → Prop
 rt : VK
 bk : St → Hp → Prop := fun _ _ => False
 ct : St → Hp → Prop := fun _ _ => False
noncomputable abbrev TS := Ends → St → Hp → Prop
noncomputable def EP (X : Cx) (pins : List (Addr × Obj)) (σ : St) (Q : VK) (u : Value) (s' : Shared) : Prop := ∃ v H', Inv X pins σ H' s' ∧ RelV v u ∧ Q v H'
noncomputable def TP (X : Cx) (pins : List (Addr × Obj)) (σ : St) (Q : Bool → Hp → Prop) (b : Bool) (s' : Shared) : Prop := ∃ H', Inv X pins σ H' s' ∧ Q b H'
noncomputable def AP (X : Cx) (pins : List (Addr × Obj)) (σ : St) (Q : List V → Hp → Prop) (us : List Value) (s' : Shared) : Prop := ∃ vs H', Inv X pins σ H' s' ∧ Vals vs us ∧ Q vs H'
noncomputable def SP (X : Cx) (pins : List (Addr × Obj)) (D : Ends) (f : Flow) (s' : Shared) : Prop :=
 match f with
 | .next => ∃ σ' H', Inv X pins σ' H' s' ∧ D.nx σ' H'
 | .brk => ∃ σ' H', Inv X pins σ' H' s' ∧ D.bk σ' H'
 | .cont => ∃ σ' H', Inv X pins σ' H' s' ∧ D.ct σ' H'
 | .ret u => ∃ v σ' H', Inv X pins σ' H' s' ∧ RelV v u ∧ D.rt v H'
noncomputable def PE (X : Cx) (e : Expr) (t : TE) : Prop :=
 ∀ (pins : List (Addr × Obj)) (s : Shared) (σ : St) (H : Hp) (Q : VK), Inv X pins σ H s → t σ H Q → wpAny (model X.prog X.w) X.A (eval e X.env) (EP X pins σ Q) X.xe s
noncomputable def PT (X : Cx) (e : Expr) (t : TT) : Prop :=
 ∀ (pins : List (Addr × Obj)) (s : Shared) (σ : St) (H : Hp) (Q : Bool → Hp → Prop), Inv X pins σ H s → t σ H Q → wpAny (model X.prog X.w) X.A (isTrue e X.env (eval e X.env)) (TP X pins σ Q) X.xe s
noncomputable def PW (X : Cx) (e : Expr) (t : TT) : Prop :=
 ∀ (whole : Sem Value) (pins : List (Addr × Obj)) (s : Shared) (σ : St) (H : Hp) (Q : Bool → Hp → Prop), Inv X pins σ H s → t σ H Q → wpAny (model X.prog X.w) X.A (isTrue e X.env whole) (TP X pins σ Q) X.xe s
theorem PW.pt {X : Cx} {e : Expr} {t : TT} (h : PW X e t) : PT X e t := h _
noncomputable def PA (X : Cx) (es : List Expr) (t : TA) : Prop :=
 ∀ (pos : Pos) (pins : List (Addr × Obj)) (s : Shared) (σ : St) (H : Hp) (Q : List V → Hp → Prop), Inv X pins σ H s → t σ H Q → wpAny (model X.prog X.w) X.A (spliced (backTo pos (starEach es X.env))) (AP X pins σ Q) X.xe s
noncomputable def PS (X : Cx) (st : Stmt) (t : TS) : Prop :=
 ∀ (pins : List (Addr × Obj)) (s : Shared) (σ : St) (H : Hp) (D : Ends), Inv X pins σ H s → t D σ H → wpAny (model X.prog X.w) X.A (exec st X.env) (SP X pins D) X.xe s
noncomputable def PSs (X : Cx) (st : List Stmt) (t : TS) : Prop :=
 ∀ (pins : List (Addr × Obj)) (s : Shared) (σ : St) (H : Hp) (D : Ends), Inv X pins σ H s → t D σ H → wpAny (model X.prog X.w) X.A (execs st X.env) (SP X pins D) X.xe s
theorem thn {α : Type} {t : Sem α} {Q Q' : α → Shared → Prop} {M : Model} {A : Around} {E : Value → Shared → Prop} {s : Shared} (h : wpAny M A t Q E s) (hQ : ∀ a s, Q a s → Q' a s) : wpAny M A t Q' E s := wpAny_mono h hQ fun _ _ x => x
end L2
namespace L2
open PySem PySem.Spec PyProof.Rows
section
variable {X : Cx}
noncomputable def ZfD (i : Nat) : TE := fun σ H Q => ∃ v, σ[i]? = some (some v) ∧ Q v H
noncomputable def tC (v : V) : TE := fun _ H Q => Q v H
theorem NK {i : Nat} {x : Str} {pos : Pos} (hN : X.N[i]? = some x) (hv : Vis X.env.scope x) (hd : (x == ("__debug__" : Str)) = false := by decide) (hcd : (x == ("__classdict__" : Str)) = false := by decide) : PE X (.Name x pos) (ZfD i) := by
 intro pins s σ H Q I h
 obtain ⟨v, e, h⟩ := h
 obtain ⟨m, hn, hl⟩ := I.loc
 obtain ⟨u, r, l⟩ := hl i x v hN e hv
 have fin : EP X pins σ Q u s := ⟨v, H, I, r, h⟩
 rcases l with ⟨hk, hm⟩ | ⟨hk, c, hc, hcell⟩
 ·exact wpAny_Name (wpAny_loadName_local I.ok.kind hk hn hm fin) hd
 ·rcases hk with hk | hk
  ·exact wpAny_Name (wpAny_loadName_cell I.ok.kind hk hc hcell fin) hd
  ·exact wpAny_Name (wpAny_loadName_free I.ok.kind hk hc hcell fin hcd) hd
theorem ZbM {i j pos} : PE X (.Constant (.int i) j pos) (tC (.int i)) := fun _ _ _ H _ I h => wpAny_Constant_int ⟨.int i, H, I.tok _, ⟨_, rfl⟩, h⟩
theorem Zcr {b j pos} : PE X (.Constant (.bool b) j pos) (tC (.bl b)) := fun _ _ _ H _ I h => Constant_bool ⟨.bl b, H, I, rfl, h⟩
theorem ZaW {j pos} : PE X (.Constant .none j pos) (tC .non) := fun _ _ _ H _ I h => Constant_none ⟨.non, H, I, rfl, h⟩
theorem Ny {x j pos} : PE X (.Constant (.str x) j pos) (tC (.str x)) := fun _ _ _ H _ I h => Calls.Constant_str ⟨.str x, H, I.tok _, ⟨_, rfl⟩, h⟩
noncomputable def Gl (X : Cx) (x : Str) : Prop := X.env.kindOf x = some .globalImplicit
theorem Hf {E : Value → Shared → Prop} {pins : List (Addr × Obj)} {s : Shared} {σ : St} {H : Hp} {x : Str} {u : Value} {pos : Pos} {Q : Value → Shared → Prop} (I : Inv X pins σ H s) (hg : Gl X x) (hm : X.mg x = some u) (h : Q u s)
  (hd : (x == ("__debug__" : Str)) = false := by decide) : wpAny (model X.prog X.w) X.A (eval (.Name x pos) X.env) Q E s :=
 Calls.Name_function_global I.ok.kind hg (Calls.loadGlobal_global (by rw [I.ok.glob]; exact I.mod.glob.keeps I.bk) hm h) hd
theorem U8 {E : Value → Shared → Prop} {pins : List (Addr × Obj)} {s : Shared} {σ : St} {H : Hp} {x : Str} {u : Value} {pos : Pos} {Q : Value → Shared → Prop} (I : Inv X pins σ H s) (hg : Gl X x) (hm : X.mg x = none) (hv : bootBuiltins x = some u) (h : Q u s)
  (hn : x ≠ "__name__" := by decide) (hd : (x == ("__debug__" : Str)) = false := by decide) : wpAny (model X.prog X.w) X.A (eval (.Name x pos) X.env) Q E s := by
 obtain ⟨mb, h1, h2⟩ := I.mod.blt
 exact Calls.Name_function_global I.ok.kind hg (Calls.loadGlobal_builtin (by rw [I.ok.glob]; exact I.mod.glob.keeps I.bk) hm (by rw [I.ok.blt]; exact h1.keeps I.bk) ((h2 x hn).trans hv) h) hd
theorem OB {x : Str} {v : V} {u : Value} {pos : Pos} (hg : Gl X x) (hm : X.mg x = some u) (r : RelV v u) (hd : (x == ("__debug__" : Str)) = false := by decide) : PE X (.Name x pos) (tC v) :=
 fun _ _ _ H _ I h => Hf I hg hm ⟨v, H, I, r, h⟩ hd
theorem O4 {x : Str} {v : V} {u : Value} {pos : Pos} (hg : Gl X x) (hm : X.mg x = none) (hv : bootBuiltins x = some u) (r : RelV v u) (hn : x ≠ "__name__" := by decide) (hd : (x == ("__debug__" : Str)) = false := by decide) : PE X (.Name x pos) (tC v) :=
 fun _ _ _ H _ I h => U8 I hg hm hv ⟨v, H, I, r, h⟩ hn hd
noncomputable def t2I (ta tb : TE) (k : Int → Int → Hp → Prop) : St → Hp → Prop := fun σ H => ta σ H fun x H1 => tb σ H1 fun y H2 => ∃ i j, x = .int i ∧ y = .int j ∧ k i j H2
noncomputable def Zgx (ta tb : TE) : TE := fun σ H Q => t2I ta tb (fun i j H2 => Q (.int (i + j)) H2) σ H
noncomputable def Zg2 (ta tb : TE) : TE := fun σ H Q => t2I ta tb (fun i j H2 => Q (.int (i - j)) H2) σ H
noncomputable def ZgD (ta tb : TE) : TE := fun σ H Q => t2I ta tb (fun i j H2 => (-(2 ^ 64) < i ∧ i < 2 ^ 64) ∧ Q (.int (i * j)) H2) σ H
variable {a b : Expr} {ta tb : TE} {pos : Pos}
noncomputable def PC (X : Cx) (op : CmpOp) (a b : Expr) (t : TE) : Prop :=
 ∀ (pins : List (Addr × Obj)) (s : Shared) (σ : St) (H : Hp) (Q : VK), Inv X pins σ H s → t σ H Q →
  wpAny (model X.prog X.w) X.A (eval a X.env) (fun v s₁ => wpAny (model X.prog X.w) X.A (eval b X.env) (fun u s₂ => wpAny (model X.prog X.w) X.A (compareOp op v u) (EP X pins σ Q) X.xe s₂) X.xe s₁) X.xe s
noncomputable def Sf (p : Int → Int → Bool) (ta tb : TE) : TE := fun σ H Q => t2I ta tb (fun i j H2 => Q (.bl (p i j)) H2) σ H
noncomputable abbrev tLt : TE → TE → TE := Sf fun i j => decide (i < j)
noncomputable abbrev tLe : TE → TE → TE := Sf fun i j => decide (i ≤ j)
noncomputable abbrev tGt : TE → TE → TE := Sf fun i j => decide (j < i)
noncomputable abbrev tGe : TE → TE → TE := Sf fun i j => decide (j ≤ i)
noncomputable abbrev Zgz : TE → TE → TE := Sf fun i j => decide (i = j)
noncomputable abbrev ZgO : TE → TE → TE := Sf fun i j => !decide (i = j)
noncomputable def ZgP (ta : TE) : TE := fun σ H Q => ta σ H fun x H1 => Q (.bl (decide (x = .non))) H1
noncomputable def ZfE (ta : TE) : TE := fun σ H Q => ta σ H fun x H1 => Q (.bl (!decide (x = .non))) H1
noncomputable def tB (t : TE) : TT := fun σ H Q => t σ H fun x H1 => ∃ c, x = .bl c ∧ Q c H1
theorem Zao {e : Expr} {t : TE} (h : PE X e t) (he : ∀ whole, isTrue e X.env whole = (do let v ← whole; standAt e.pos; holding [v] (truthy v)) := by intro _; rfl) : PT X e (tB t) := by
 intro pins s σ H Q I hw
 refine isTrue_plain (thn (h pins s σ H _ I hw) fun v s1 ⟨x, H1, I1, r1, q1⟩ => ?_) (he _)
 obtain ⟨d, rfl, q⟩ := q1
 cases r1
 exact wpAny_truthy_bool ⟨H1, I1, q⟩
variable {tA tB' : TT} {rest : List Expr}
noncomputable def Zgk (t u : TT) : TT := fun σ H Q => t σ H fun c H1 => if c = true then u σ H1 Q else Q false H1
noncomputable def tOr (t u : TT) : TT := fun σ H Q => t σ H fun c H1 => if c = true then Q true H1 else u σ H1 Q
noncomputable def ZfP (t : TT) : TT := fun σ H Q => t σ H fun c H1 => Q (!c) H1
theorem R1 (ha : PT X a tA) : PW X (.BoolOp .And [a] pos) tA := by
 intro wh pins s σ H Q I h
 refine isTrue_and (thn (ha pins s σ H Q I h) fun c s1 e => ?_)
 cases c with
 | true => exact isTrue_and_nil e
 | false => exact e
theorem Zap (ha : PT X a tA) : PW X (.BoolOp .Or [a] pos) tA := by
 intro wh pins s σ H Q I h
 refine isTrue_or (thn (ha pins s σ H Q I h) fun c s1 e => ?_)
 cases c with
 | false => exact isTrue_or_nil e
 | true => exact e
theorem Zbh (ha : PT X a tA) (hb : PW X (.BoolOp .And (b :: rest) pos) tB') : PW X (.BoolOp .And (a :: b :: rest) pos) (Zgk tA tB') := by
 intro wh pins s σ H Q I h
 refine isTrue_and (thn (ha pins s σ H _ I h) fun c s1 ⟨H1, I1, q1⟩ => ?_)
 cases c with
 | true => exact hb wh pins s1 σ H1 Q I1 q1
 | false => exact ⟨H1, I1, q1⟩
theorem Zcn (ha : PT X a tA) (hb : PW X (.BoolOp .Or (b :: rest) pos) tB') : PW X (.BoolOp .Or (a :: b :: rest) pos) (tOr tA tB') := by
 intro wh pins s σ H Q I h
 refine isTrue_or (thn (ha pins s σ H _ I h) fun c s1 ⟨H1, I1, q1⟩ => ?_)
 cases c with
 | true => exact ⟨H1, I1, q1⟩
 | false => exact hb wh pins s1 σ H1 Q I1 q1
theorem ZaD (ha : PT X a tA) : PT X (.UnaryOp .Not a pos) (ZfP tA) := by
 intro pins s σ H Q I h
 exact isTrue_not (ha pins s σ H (fun c H1 => Q (!c) H1) I h)
noncomputable def ZdE (ta tb : TE) : TE := fun σ H Q => ta σ H fun x H1 => ∃ c, x = .bl c ∧ if c = true then tb σ H1 Q else Q (.bl false) H1
noncomputable def Zgi (ta tb : TE) : TE := fun σ H Q => ta σ H fun x H1 => ∃ c, x = .bl c ∧ if c = true then Q (.bl true) H1 else tb σ H1 Q
noncomputable def Zc2 (ta : TE) : TE := fun σ H Q => ta σ H fun x H1 => ∃ c, x = .bl c ∧ Q (.bl (!c)) H1
theorem ZaZ {op} {t : TE} (h : PE X a t) : PE X (.BoolOp op [a] pos) t := fun pins s σ H Q I hw => BoolOp_one (h pins s σ H Q I hw)
theorem ZaP (ha : PE X a ta) (hb : PE X (.BoolOp .And (b :: rest) pos) tb) : PE X (.BoolOp .And (a :: b :: rest) pos) (ZdE ta tb) := by
 intro pins s σ H Q I h
 refine BoolOp_and (thn (ha pins s σ H _ I h) fun v s1 ⟨x, H1, I1, r1, q1⟩ => ?_)
 obtain ⟨c, rfl, q1⟩ := q1
 cases r1
 refine wpAny_truthy_bool ?_
 cases c with
 | true => exact hb pins s1 σ H1 Q I1 q1
 | false => exact ⟨.bl false, H1, I1, rfl, q1⟩
theorem ZdL (ha : PE X a ta) (hb : PE X (.BoolOp .Or (b :: rest) pos) tb) : PE X (.BoolOp .Or (a :: b :: rest) pos) (Zgi ta tb) := by
 intro pins s σ H Q I h
 refine BoolOp_or (thn (ha pins s σ H _ I h) fun v s1 ⟨x, H1, I1, r1, q1⟩ => ?_)
 obtain ⟨c, rfl, q1⟩ := q1
 cases r1
 refine wpAny_truthy_bool ?_
 cases c with
 | false => exact hb pins s1 σ H1 Q I1 q1
 | true => exact ⟨.bl true, H1, I1, rfl, q1⟩
theorem S3 (ha : PE X a ta) : PE X (.UnaryOp .Not a pos) (Zc2 ta) := by
 intro pins s σ H Q I h
 refine UnaryOp_ (thn (ha pins s σ H _ I h) fun v s1 ⟨x, H1, I1, r1, q1⟩ => ?_)
 obtain ⟨c, rfl, q1⟩ := q1
 cases r1
 exact not_of (wpAny_truthy_bool ⟨.bl (!c), H1, I1, rfl, q1⟩)
noncomputable def tIf (t : TT) (ta tb : TE) : TE := fun σ H Q => t σ H fun c H1 => if c = true then ta σ H1 Q else tb σ H1 Q
theorem Mw {c : Expr} (hc : PT X c tA) (ha : PE X a ta) (hb : PE X b tb) : PE X (.IfExp c a b pos) (tIf tA ta tb) := by
 intro pins s σ H Q I h
 refine wpAny_IfExp (thn (hc pins s σ H _ I h) fun d s1 ⟨H1, I1, q1⟩ => ?_)
 cases d with
 | true => exact ha pins s1 σ H1 Q I1 q1
 | false => exact hb pins s1 σ H1 Q I1 q1
end
end L2
namespace L2
open PySem PySem.Spec PyProof.Rows
noncomputable def SqL (K : PySem.W.Frag) (H : Hp) (a : Addr) (xs : List V) : Prop :=
 Rd H a (.lst xs) ∨
  ∃ (o : Obj) (its : Array Value) (n : Nat), K.lookup a = some o ∧ o.cls = .type "list" ∧ o.dict = none ∧ o.data = .seq its n ∧ its.size ≤ sizeLine ∧ Vals xs its.toList
noncomputable def SqT (K : PySem.W.Frag) (H : Hp) (a : Addr) (xs : List V) : Prop :=
 Rd H a (.tup xs) ∨
  ∃ (o : Obj) (its : Array Value) (n : Nat), K.lookup a = some o ∧ o.cls = .type "tuple" ∧ o.data = .seq its n ∧ its.size ≤ sizeLine ∧ Vals xs its.toList
noncomputable def ZfK : Value → Option V
 | .none => some .non
 | .bool b => some (.bl b)
 | .int i _ => some (.int i)
 | .str x _ => some (.str x)
 | .bytes b _ => some (.byt b)
 | .float b _ => some (.flt b)
 | .ref a => some (.ref a)
 | .type n => some (.ty n)
 | _ => none
theorem RelV.abs {x : V} {u : Value} (r : RelV x u) : ZfK u = some x := by
 cases x with
 | non => cases r; rfl
 | bl _ => cases r; rfl
 | int _ => obtain ⟨t, rfl⟩ := r; rfl
 | str _ => obtain ⟨t, rfl⟩ := r; rfl
 | byt _ => obtain ⟨t, rfl⟩ := r; rfl
 | flt _ => obtain ⟨t, rfl⟩ := r; rfl
 | ref _ => cases r; rfl
 | ty _ => cases r; rfl
theorem RelV.inj {x y : V} {u : Value} (r : RelV x u) (q : RelV y u) : x = y := Option.some.inj (r.abs.symm.trans q.abs)
theorem Vals.inj : ∀ {xs ys : List V} {us : List Value}, Vals xs us → Vals ys us → xs = ys
 | _, _, _, .nil, .nil => rfl
 | _, _, _, .cons r t, .cons r' t' => by rw [r.inj r', Vals.inj t t']
section
variable {X : Cx} {pins : List (Addr × Obj)} {σ : St} {H : Hp} {s : Shared} {a : Addr} {xs ys : List V}
theorem SqL.of {K : PySem.W.Frag} (h : H a = some (.lst xs)) : SqL K H a xs := .inl (.inl h)
theorem SqT.of {K : PySem.W.Frag} (h : H a = some (.tup xs)) : SqT K H a xs := .inl (.inl h)
theorem Inv.list (I : Inv X pins σ H s) (h : SqL X.K H a xs) : ∃ its : List Value, Vals xs its ∧ PlainL s.heap a its.toArray ∧ xs.length ≤ sizeLine := by
 rcases h with h | ⟨o, its, n, hk, hc, hd, hs, hz, r⟩
 ·obtain ⟨z, its, n, r, e⟩ := h.ok I.hok
  exact ⟨its, r, ⟨_, n, e, rfl, rfl, rfl⟩, z⟩
 ·refine ⟨its.toList, r, ⟨o, n, I.kIn a o hk, hc, hd, by simpa using hs⟩, ?_⟩
  have e := r.length
  simp only [Array.length_toList] at e
  omega
theorem Inv.tuple (I : Inv X pins σ H s) (h : SqT X.K H a xs) : ∃ its : List Value, Vals xs its ∧ IsTup s.heap a its.toArray ∧ xs.length ≤ sizeLine := by
 rcases h with h | ⟨o, its, n, hk, hc, hs, hz, r⟩
 ·obtain ⟨z, its, r, p⟩ := h.ok I.hok
  exact ⟨its, r, p, z⟩
 ·refine ⟨its.toList, r, ⟨o, I.kIn a o hk, hc, n, by simpa using hs⟩, ?_⟩
  have e := r.length
  simp only [Array.length_toList] at e
  omega
theorem Inv.Na (I : Inv X pins σ H s) (h : SqL X.K H a xs) (h' : SqL X.K H a ys) : xs = ys := by
 obtain ⟨its, r, ⟨o, n, e, _, _, d⟩, _⟩ := I.list h
 obtain ⟨its', r', ⟨o', n', e', _, _, d'⟩, _⟩ := I.list h'
 rw [e] at e'; cases e'
 rw [d] at d'
 injection d' with d1 _
 have : its = its' := by simpa using congrArg Array.toList d1
 subst this
 exact r.inj r'
theorem Inv.Fh (I : Inv X pins σ H s) (h : SqT X.K H a xs) (h' : SqT X.K H a ys) : xs = ys := by
 obtain ⟨its, r, ⟨o, e, _, n, d⟩, _⟩ := I.tuple h
 obtain ⟨its', r', ⟨o', e', _, n', d'⟩, _⟩ := I.tuple h'
 rw [e] at e'; cases e'
 rw [d] at d'
 injection d' with d1 _
 have : its = its' := by simpa using congrArg Array.toList d1
 subst this
 exact r.inj r'
end
noncomputable abbrev Cx.Hl (X : Cx) (E : Value → Shared → Prop) : Cx := { X with xe := E }
noncomputable abbrev Cx.nox (X : Cx) : Cx := X.Hl fun _ _ => False
theorem Cx.Ok.Hl {X : Cx} (ok : X.Ok) (E : Value → Shared → Prop) : (X.Hl E).Ok :=
 ⟨ok.mod, ok.kind, ok.glob, ok.blt, ok.above, ok.inj, ok.has, ok.cab, ok.hd, ok.frames, ok.stk, ok.exf, ok.bs, ok.bsz, ok.noex, ok.exfs, ok.FI, ok.frf⟩
theorem Cx.Ok.Xh {X : Cx} {E : Value → Shared → Prop} (ok : (X.Hl E).Ok) : X.Ok :=
 ⟨ok.mod, ok.kind, ok.glob, ok.blt, ok.above, ok.inj, ok.has, ok.cab, ok.hd, ok.frames, ok.stk, ok.exf, ok.bs, ok.bsz, ok.noex, ok.exfs, ok.FI, ok.frf⟩
section
variable {X : Cx} {pins : List (Addr × Obj)} {σ : St} {H : Hp} {s : Shared} {E : Value → Shared → Prop}
theorem Inv.Hl (I : Inv X pins σ H s) (E : Value → Shared → Prop) : Inv (X.Hl E) pins σ H s := ⟨I.ok.Hl E, I.os, I.bare, I.base, I.loc, I.cell, I.free, I.freeC, I.pin, I.hok, I.len⟩
theorem Inv.Xh (I : Inv (X.Hl E) pins σ H s) : Inv X pins σ H s := ⟨I.ok.Xh, I.os, I.bare, I.base, I.loc, I.cell, I.free, I.freeC, I.pin, I.hok, I.len⟩
theorem SP.Xh {D : Ends} {f : Flow} {s' : Shared} (h : SP (X.Hl E) pins D f s') : SP X pins D f s' := by
 cases f with
 | next => obtain ⟨σ', H', I, q⟩ := h; exact ⟨σ', H', I.Xh, q⟩
 | brk => obtain ⟨σ', H', I, q⟩ := h; exact ⟨σ', H', I.Xh, q⟩
 | cont => obtain ⟨σ', H', I, q⟩ := h; exact ⟨σ', H', I.Xh, q⟩
 | ret u => obtain ⟨v, σ', H', I, r, q⟩ := h; exact ⟨v, σ', H', I.Xh, r, q⟩
theorem PSs.nox {st : List Stmt} {t : TS} (h : PSs X.nox st t) : PSs X st t := fun pins s σ H D I hw =>
 wpAny_mono (h pins s σ H D (I.Hl _) hw) (fun _ _ q => q.Xh) fun _ _ z => False.elim z
end
section
variable {X : Cx} {st : Stmt} {rest : List Stmt} {t u : TS} {e : Expr} {te : TE} {pos : Pos}
noncomputable def Zds : TS := fun D σ H => D.nx σ H
noncomputable def ZfW (t u : TS) : TS := fun D σ H => t { D with nx := u D } σ H
theorem OY : PSs X [] Zds := fun _ _ σ H _ I h => wpAny_execs_nil ⟨σ, H, I, h⟩
theorem L4 (h1 : PS X st t) (h2 : PSs X rest u) : PSs X (st :: rest) (ZfW t u) := by
 intro pins s σ H D I h
 refine wpAny_execs_cons (thn (h1 pins s σ H { D with nx := u D } I h) fun f s1 q => ?_)
 cases f with
 | next =>
  obtain ⟨σ', H', I', q⟩ := q
  exact h2 pins s1 σ' H' D I' q
 | ret v => exact q
 | brk => exact q
 | cont => exact q
theorem RE (h1 : PS X st t) : PSs X [st] t := by
 intro pins s σ H D I h
 refine wpAny_execs_cons (thn (h1 pins s σ H D I h) fun f s1 q => ?_)
 cases f with
 | next => exact wpAny_execs_nil q
 | ret v => exact q
 | brk => exact q
 | cont => exact q
noncomputable def Zes : TS := fun D σ H => D.bk σ H
noncomputable def ZfA : TS := fun D σ H => D.ct σ H
theorem Inv.quiet {pins : List (Addr × Obj)} {σ : St} {H : Hp} {s : Shared} (I : Inv X pins σ H s) : interactive X.env = false := by simp [interactive, I.ok.kind]
noncomputable def ZdI (te : TE) : TS := fun D σ H => te σ H fun _ H1 => D.nx σ H1
theorem R3 (he : PE X e te) (hs : swapsWith e none pos.line X.env = pure false := by rfl) : PS X (.Expr e pos) (ZdI te) := by
 intro pins s σ H D I h
 exact wpAny_Expr_any (thn (he pins s σ H _ I h) fun v s1 ⟨x, H1, I1, r1, q1⟩ => ⟨σ, H1, I1, q1⟩) I.quiet hs
noncomputable def ZfR (te : TE) : TS := fun D σ H => te σ H D.rt
theorem Zbj (he : PE X e te) : PS X (.Return (some e) pos) (ZfR te) := by
 intro pins s σ H D I h
 exact wpAny_Return_some (thn (he pins s σ H _ I h) fun v s1 ⟨x, H1, I1, r1, q1⟩ => ⟨x, σ, H1, I1, r1, q1⟩)
noncomputable def Zgg : TS := fun D _ H => D.rt .non H
noncomputable def ZfJ (c : TT) (t u : TS) : TS := fun D σ H => c σ H fun b H1 => if b = true then t D σ H1 else u D σ H1
theorem Zdz {c : Expr} {a b : List Stmt} {tc : TT} (hc : PT X c tc) (ha : PSs X a t) (hb : PSs X b u) : PS X (.If c a b pos) (ZfJ tc t u) := by
 intro pins s σ H D I h
 refine wpAny_If (thn (hc pins s σ H _ I h) fun d s1 ⟨H1, I1, q1⟩ => ?_)
 cases d with
 | true => exact ha pins s1 σ H1 D I1 q1
 | false => exact hb pins s1 σ H1 D I1 q1
noncomputable def SG : TS := fun _ _ _ => False
theorem MI : PS X st SG := fun _ _ _ _ _ _ h => h.elim
end
noncomputable abbrev TG := V → St → Hp → (St → Hp → Prop) → Prop
noncomputable abbrev TGs := List V → St → Hp → (St → Hp → Prop) → Prop
noncomputable def PG (X : Cx) (target : Expr) (t : TG) : Prop :=
 ∀ (pins : List (Addr × Obj)) (s : Shared) (σ : St) (H : Hp) (v : V) (u : Value) (Q : St → Hp → Prop), Inv X pins σ H s → RelV v u → t v σ H Q →
  wpAny (model X.prog X.w) X.A (assign target X.env u) (fun _ s' => ∃ σ' H', Inv X pins σ' H' s' ∧ Q σ' H') X.xe s
noncomputable def PGs (X : Cx) (ts : List Expr) (t : TGs) : Prop :=
 ∀ (pins : List (Addr × Obj)) (s : Shared) (σ : St) (H : Hp) (vs : List V) (us : List Value) (Q : St → Hp → Prop), Inv X pins σ H s → Vals vs us → t vs σ H Q →
  wpAny (model X.prog X.w) X.A (assignInOrder ((assignEach ts X.env).map (·.2)) us) (fun _ s' => ∃ σ' H', Inv X pins σ' H' s' ∧ Q σ' H') X.xe s
noncomputable abbrev Zch := V → V → V → Hp → (Hp → Prop) → Prop
noncomputable def ZeE (X : Cx) (t : Zch) : Prop :=
 ∀ (pins : List (Addr × Obj)) (s : Shared) (σ : St) (H : Hp) (o i v : V) (ov iv u : Value) (Q : Hp → Prop), Inv X pins σ H s → RelV o ov → RelV i iv → RelV v u → t o i v H Q →
  wpAny (model X.prog X.w) X.A (setItem ov iv u) (fun _ s' => ∃ H', Inv X pins σ H' s' ∧ Q H') X.xe s
noncomputable abbrev TIp := V → V → Hp → VK → Prop
noncomputable def PIp (X : Cx) (op : Operator) (t : TIp) : Prop :=
 ∀ (pins : List (Addr × Obj)) (s : Shared) (σ : St) (H : Hp) (x y : V) (v u : Value) (Q : VK), Inv X pins σ H s → RelV x v → RelV y u → t x y H Q →
  wpAny (model X.prog X.w) X.A (inplaceOp op v u) (EP X pins σ Q) X.xe s
section
variable {X : Cx} {pos : Pos}
noncomputable def Tw (i : Nat) : TG := fun v σ H Q => Q (σ.set i (some v)) H
theorem FD {i : Nat} {x : Str} (hN : X.N.Nodup) (hi : X.N[i]? = some x) (hx : Loc X.env.scope x) (hf : X.fn x = true ∨ X.env.scope.names.lookup x = some .local := by first | exact .inl rfl | exact .inr rfl | assumption) : PG X (.Name x pos) (Tw i) := by
 intro pins s σ H v u Q I r h
 exact wpAny_assign_Name (B1 I hN hi hx r (fun s' I' => ⟨_, H, I', h⟩) hf)
noncomputable def ZfB : TGs := fun vs σ H Q => vs = [] ∧ Q σ H
noncomputable def Zdj (t : TG) (u : TGs) : TGs := fun vs σ H Q => ∃ v r, vs = v :: r ∧ t v σ H fun σ' H' => u r σ' H' Q
theorem OK : PGs X [] ZfB := by
 intro pins s σ H vs us Q I r h
 obtain ⟨e, h⟩ := h
 subst e
 cases r
 exact assignInOrder_nil ⟨σ, H, I, h⟩
theorem MZ {e : Expr} {es : List Expr} {t : TG} {u : TGs} (h1 : PG X e t) (h2 : PGs X es u)
  (hs : (assignEach (e :: es) X.env).map (·.2) = assign e X.env :: (assignEach es X.env).map (·.2) := by rfl) : PGs X (e :: es) (Zdj t u) := by
 intro pins s σ H vs us Q I r h
 obtain ⟨v, vr, e1, h⟩ := h
 subst e1
 cases r with
 | cons r rr =>
  rw [hs]
  refine assignInOrder_cons (thn (h1 pins s σ H _ _ _ I r h) fun _ s1 ⟨σ1, H1, I1, q1⟩ => ?_)
  exact h2 pins s1 σ1 H1 _ _ Q I1 rr q1
noncomputable def Zfc (K : PySem.W.Frag) (n : Nat) (t : TGs) : TG := fun v σ H Q => ∃ a xs, v = .ref a ∧ SqT K H a xs ∧ xs.length = n ∧ t xs σ H Q
theorem S7 {es : List Expr} {k : Nat} {t : TGs} {n : Nat} (hc : X.calm = true) (h : PGs X es t)
  (hn : (assignEach es X.env).length = n := by rfl) (hst : (assignEach es X.env).findIdx? (·.1) = none := by rfl) : PG X (.Tuple es k pos) (Zfc X.K n t) := by
 intro pins s σ H v u Q I r hw
 obtain ⟨a, xs, e1, hq, hl, hw⟩ := hw
 subst e1
 cases r
 obtain ⟨its, rv, ht, hz⟩ := I.tuple hq
 refine assign_Tuple_tuple (I.ok.hd hc) ht (by simp [hn, ← hl, rv.length]) hst fun h' hx => ?_
 have I1 : Inv X pins σ H { s with heap := h' } := I.kept (t' := s.toks) fun b o e => hx b o (Nat.ne_of_lt (Heap.lt_size e)) e
 exact h pins _ σ H xs _ Q I1 (by simpa using rv) hw
noncomputable def Zgf (to ti : TE) (t : Zch) : TG := fun v σ H Q => to σ H fun o H1 => ti σ H1 fun i H2 => t o i v H2 fun H3 => Q σ H3
theorem Zbc {o i : Expr} {to ti : TE} {t : Zch} (ho : PE X o to) (hi : PE X i ti) (hs : ZeE X t)
  (ha : ∀ v, assign (.Subscript o i pos) X.env v = (do
   let ov ← holding [v] (eval o X.env)
   let iv ← holding [v, ov] (eval i X.env)
   standAt pos
   holding [v, ov, iv] (setItem ov iv v)
   release [v, ov, iv] []) := by intro _; rfl) : PG X (.Subscript o i pos) (Zgf to ti t) := by
 intro pins s σ H v u Q I r h
 rw [ha]
 refine wpAny_bind (wpAny_holding (thn (ho pins s σ H _ I h) fun ov s1 ⟨x, H1, I1, r1, q1⟩ => ?_))
 refine wpAny_bind (wpAny_holding (thn (hi pins s1 σ H1 _ I1 q1) fun iv s2 ⟨y, H2, I2, r2, q2⟩ => ?_))
 refine wpAny_bind (wpAny_standAt (wpAny_bind (wpAny_holding (thn (hs pins s2 σ H2 x y v ov iv u _ I2 r1 r2 r q2) fun _ s3 ⟨H3, I3, q3⟩ => ?_))))
 exact wpAny_release ⟨σ, H3, I3, q3⟩
noncomputable def ZeC (te : TE) (g : TG) : TS := fun D σ H => te σ H fun x H1 => g x σ H1 D.nx
theorem TC {tg e : Expr} {te : TE} {g : TG} (he : PE X e te) (hg : PG X tg g) (hs : swapsWithSole [tg] e pos.line X.env = pure false := by rfl) (hw : swappedStores [tg] e X.env = pure none := by rfl)
  (h1 : (assignEach [tg] X.env).map (·.2) = [assign tg X.env] := by rfl) : PS X (.Assign [tg] e pos) (ZeC te g) := by
 intro pins s σ H D I h
 refine wpAny_Assign_stores (thn (he pins s σ H _ I h) fun v s1 ⟨x, H1, I1, r1, q1⟩ => ?_) hs hw
 rw [h1]
 exact thn (hg pins s1 σ H1 x v _ I1 r1 q1) fun _ s2 q => q
theorem Zbg {i : Nat} {x : Str} {e : Expr} {te : TE} {pos' : Pos} (hN : X.N.Nodup) (hi : X.N[i]? = some x) (hx : Loc X.env.scope x) (he : PE X e te) (hs : swapsWith e (some (.Name x pos')) pos.line X.env = pure false := by rfl) (hf : X.fn x = true ∨ X.env.scope.names.lookup x = some .local := by first | exact .inl rfl | exact .inr rfl | assumption) :
  PS X (.Assign [.Name x pos'] e pos) (ZeC te (Tw i)) := by
 intro pins s σ H D I h
 refine wpAny_Assign_Name (thn (he pins s σ H _ I h) fun v s1 ⟨y, H1, I1, r1, q1⟩ => ?_) hs
 exact B1 I1 hN hi hx r1 (fun s2 I2 => ⟨_, H1, I2, q1⟩) hf
noncomputable def ZgK (i j : Nat) (ta : TA) : TS := fun D σ H => ta σ H fun vs H1 => ∃ v w, vs = [v, w] ∧ D.nx ((σ.set i (some v)).set j (some w)) H1
noncomputable def ZgT (i : Nat) (te : TE) (ti : TIp) : TS := fun D σ H => ∃ x, σ[i]? = some (some x) ∧ te σ H fun y H1 => ti x y H1 fun z H2 => D.nx (σ.set i (some z)) H2
noncomputable def Zf8 (to ti te : TE) (tget : V → V → Hp → VK → Prop) (tip : TIp) (tset : Zch) : TS := fun D σ H => to σ H fun o H1 => ti σ H1 fun i H2 => tget o i H2 fun x H3 => te σ H3 fun y H4 => tip x y H4 fun z H5 => tset o i z H5 fun H6 => D.nx σ H6
noncomputable def ZgA (X : Cx) (t : V → V → Hp → VK → Prop) : Prop :=
 ∀ (pins : List (Addr × Obj)) (s : Shared) (σ : St) (H : Hp) (o i : V) (ov iv : Value) (Q : VK), Inv X pins σ H s → RelV o ov → RelV i iv → t o i H Q →
  wpAny (model X.prog X.w) X.A (getItem ov iv) (EP X pins σ Q) X.xe s
noncomputable def ipI (f : Int → Int → Int) : TIp := fun x y H Q => ∃ i j, x = .int i ∧ y = .int j ∧ Q (.int (f i j)) H
end
section
variable {X : Cx} {pos : Pos}
noncomputable def Zeg (c : TT) (tb : TS) : TS := fun D σ H => ∃ W : Nat → St → Hp → Prop, (∃ m, W m σ H) ∧ ∀ m σ H, W m σ H →
 c σ H fun b H1 => if b = true then ∃ N : St → Hp → Prop, (∀ σ' H', N σ' H' → ∃ m', m' < m ∧ W m' σ' H') ∧ tb { D with nx := N, ct := N, bk := D.nx } σ H1 else D.nx σ H1
end
structure It where
 go : Nat → Hp → Prop
 yld : Nat → Hp → V → Hp → Prop
 stop : Nat → Hp → Prop
noncomputable def D7 (X : Cx) (pins : List (Addr × Obj)) (H : Hp) (b : Addr) : Prop :=
 H b = none ∧ b ≠ X.env.locals ∧ b ∉ X.fs ∧ (b ∈ X.ex ∨ X.s₀.heap.objs.size ≤ b) ∧ (∀ x c, X.env.cells.lookup x = some c → c ≠ b) ∧ ∀ p ∈ X.pn ++ pins, p.1 ≠ b
theorem Inv.Se {X : Cx} {pins : List (Addr × Obj)} {σ : St} {H H' : Hp} {s : Shared} {b : Addr} (I : Inv X pins σ H s) (hb : s.heap.objs.size ≤ b) (hn : H' b = none) : D7 X pins H' b := by
 refine ⟨hn, Nat.ne_of_gt (Nat.lt_of_lt_of_le I.lt hb), I.Zfw hb, .inr (Nat.le_trans I.sz hb), fun x c e z => ?_, fun p hp z => ?_⟩
 ·obtain ⟨v, q⟩ := I.cell x c e
  exact absurd (Nat.lt_of_lt_of_le q.lt (by rw [z]; exact hb)) (Nat.lt_irrefl _)
 ·exact absurd (Nat.lt_of_lt_of_le (Heap.lt_size (I.pin p hp).1) (by rw [z]; exact hb)) (Nat.lt_irrefl _)
structure Turn (P : Program) (w : World) (K : PySem.W.Frag) (tg : Expr) (J : It) (fp : List Addr) (it : Addr) (tn : Nat → Heap → Prop) : Prop where
 mem : it ∈ fp
 obj : ∀ i h, tn i h → ∀ b ∈ fp, ∃ o, h.get? b = some o ∧ ∀ v, o.data ≠ .cell v
 keep : ∀ i h h', tn i h → (∀ b ∈ fp, ∀ o, h.get? b = some o → h'.get? b = some o) → tn i h'
 item : ∀ (X : Cx), X.prog = P → X.w = w → X.K = K → X.calm = true → ∀ (i : Nat) (pins : List (Addr × Obj)) (s : Shared) (σ : St) (H : Hp) (E : Value → Shared → Prop), Inv X pins σ H s → (∀ b ∈ fp, D7 X pins H b) → tn i s.heap → J.go i H →
  wpAny (model P w) X.A (pyNext (.ref it)) (fun r s1 => ∃ u, r = some u ∧
   wpAny (model P w) X.A (letOwnedTupleGo tg (.ref it) u) (fun _ s2 => ∃ x H', Inv X pins σ H' s2 ∧ RelV x u ∧ J.yld i H x H' ∧ tn (i + 1) s2.heap ∧ ∀ b ∈ fp, H' b = none) E s1) E s
 done : ∀ (X : Cx), X.prog = P → X.w = w → X.K = K → X.calm = true → ∀ (i : Nat) (pins : List (Addr × Obj)) (s : Shared) (σ : St) (H : Hp) (E : Value → Shared → Prop), Inv X pins σ H s → (∀ b ∈ fp, D7 X pins H b) → tn i s.heap → J.stop i H →
  wpAny (model P w) X.A (pyNext (.ref it)) (fun r s1 => r = none ∧ Inv X pins σ H s1) E s
 self : ∀ (A : Around) (i : Nat) (s : Shared) (Q : Value → Shared → Prop) (E : Value → Shared → Prop), tn i s.heap → Q (.ref it) s → wpAny (model P w) A (pyIter (.ref it)) Q E s
noncomputable abbrev TI := St → Hp → (It → Hp → Prop) → Prop
noncomputable def PIE (X : Cx) (pins : List (Addr × Obj)) (σ : St) (tg : Expr) (R : It → Hp → Prop) (itv : Value) (s2 : Shared) : Prop :=
 ∃ (it : Addr) (fp : List Addr) (tn : Nat → Heap → Prop) (J : It) (H' : Hp), itv = .ref it ∧ Inv X pins σ H' s2 ∧ Turn X.prog X.w X.K tg J fp it tn ∧ tn 0 s2.heap ∧ (∀ b ∈ fp, D7 X pins H' b) ∧ R J H'
noncomputable def PI (X : Cx) (tg iter : Expr) (wi : TI) : Prop :=
 ∀ (pins : List (Addr × Obj)) (s : Shared) (σ : St) (H : Hp) (R : It → Hp → Prop), Inv X pins σ H s → wi σ H R →
  wpAny (model X.prog X.w) X.A (eval iter X.env) (fun v s1 => wpAny (model X.prog X.w) X.A (pyIter v) (PIE X pins σ tg R) X.xe s1) X.xe s
theorem DQ {M : Model} {A : Around} {E : Value → Shared → Prop} {s : Shared} {tg : Expr} {it : Addr} {u : Value} {o : Obj} {n : String} {vs : Array Value} {Q : Unit → Shared → Prop} (ho : s.heap.get? it = some o) (hc : o.cls = .type n) (hd : o.data = .fields vs)
    (hn : ["enumerate", "zip", "dict_itemiterator", "dict_reverseitemiterator", "odict_iterator", "itertools.zip_longest", "itertools.pairwise"].contains n = false) (hQ : Q () s) : wpAny M A (letOwnedTupleGo tg (.ref it) u) Q E s := by
  unfold letOwnedTupleGo
  cases tg <;> first
    | exact wpAny_pure hQ
    | (cases u <;> first
        | exact wpAny_pure hQ
        | (refine wpAny_bind (wpAny_load ho ?_)
           rw [hc, hd]
           show wpAny M A (if (["enumerate", "zip", "dict_itemiterator", "dict_reverseitemiterator", "odict_iterator", "itertools.zip_longest", "itertools.pairwise"].contains n && vs[0]? == some (rawInt _)) = true then _ else _) Q E s
           rw [if_neg (by intro h; rw [hn, Bool.false_and] at h; cases h)]
           exact wpAny_pure hQ))
noncomputable def Itl (K : PySem.W.Frag) (a : Addr) : It :=
 ⟨fun i H => ∃ xs x, SqL K H a xs ∧ xs[i]? = some x, fun i H x H' => H' = H ∧ ∀ xs, SqL K H a xs → xs[i]? = some x, fun i H => ∃ xs, SqL K H a xs ∧ xs.length ≤ i⟩
noncomputable def Itt (K : PySem.W.Frag) (a : Addr) : It :=
 ⟨fun i H => ∃ xs x, SqT K H a xs ∧ xs[i]? = some x, fun i H x H' => H' = H ∧ ∀ xs, SqT K H a xs → xs[i]? = some x, fun i H => ∃ xs, SqT K H a xs ∧ xs.length ≤ i⟩
noncomputable def Itr (lo : Int) (n : Nat) : It := ⟨fun i _ => i < n, fun i H x H' => H' = H ∧ x = .int (lo + i), fun i _ => n ≤ i⟩
theorem Ey {P : Program} {w : World} {K : PySem.W.Frag} {tg : Expr} (a it : Addr) : Turn P w K tg (Itl K a) [it] it (fun i h => h.IsListIter it a i) where
 mem := by simp
 obj := fun i h st b hb => by
  have e : b = it := by simpa using hb
  subst e
  obtain ⟨o, e, c, d⟩ := st
  exact ⟨o, e, fun v z => by rw [d] at z; cases z⟩
 keep := fun i h h' st k => st.at fun o e => k it (by simp) o e
 item := by
  intro X hP hw hK hc i pins s σ H E I hf st hg
  subst hP hw hK
  obtain ⟨xs, x, hq, hx⟩ := hg
  obtain ⟨its, rv, p, hz⟩ := I.list hq
  obtain ⟨u, hu, ru⟩ := rv.get hx
  obtain ⟨f0, f1, f2, f3, f4, f5⟩ := hf it (by simp)
  refine wpAny_pyNext_list_item st p.isList (x := u) (by simpa using hu) fun h' st' sb => ?_
  have I1 : Inv X pins σ H { s with heap := h' } := I.turned (t' := s.toks) (fun b o hb e => (sb.2 b hb).trans e) f0 f1 f3 f4 f5
  obtain ⟨o, e, c, d⟩ := id st'
  exact ⟨u, rfl, DQ (s := { s with heap := h' }) e c d (by decide) ⟨x, H, I1, ru, ⟨rfl, fun ys hy => by rw [I.Na hy hq]; exact hx⟩, st', fun b hb => (hf b hb).1⟩⟩
 done := by
  intro X hP hw hK hc i pins s σ H E I hf st hg
  subst hP hw hK
  obtain ⟨xs, hq, hx⟩ := hg
  obtain ⟨its, rv, p, hz⟩ := I.list hq
  obtain ⟨f0, f1, f2, f3, f4, f5⟩ := hf it (by simp)
  have hl := rv.length
  exact wpAny_pyNext_list_end (I.ok.hd hc) st p.isList (by simp; omega) fun h' eb => ⟨rfl, I.turned (t' := s.toks) (fun b o hb e => eb b o hb e) f0 f1 f3 f4 f5⟩
 self := fun _ _ _ _ _ st h => wpAny_pyIter_listiter st h
theorem CF {P : Program} {w : World} {K : PySem.W.Frag} {tg : Expr} (a it : Addr) : Turn P w K tg (Itt K a) [it] it (fun i h => h.IsTupleIter it a i) where
 mem := by simp
 obj := fun i h st b hb => by
  have e : b = it := by simpa using hb
  subst e
  obtain ⟨o, e, c, d⟩ := st
  exact ⟨o, e, fun v z => by rw [d] at z; cases z⟩
 keep := fun i h h' st k => st.at fun o e => k it (by simp) o e
 item := by
  intro X hP hw hK hc i pins s σ H E I hf st hg
  subst hP hw hK
  obtain ⟨xs, x, hq, hx⟩ := hg
  obtain ⟨its, rv, p, hz⟩ := I.tuple hq
  obtain ⟨u, hu, ru⟩ := rv.get hx
  obtain ⟨f0, f1, f2, f3, f4, f5⟩ := hf it (by simp)
  refine wpAny_pyNext_tuple_item st (show s.heap.IsTuple a its.toArray from p) (x := u) (by simpa using hu) fun h' st' sb => ?_
  have I1 : Inv X pins σ H { s with heap := h' } := I.turned (t' := s.toks) (fun b o hb e => (sb.2 b hb).trans e) f0 f1 f3 f4 f5
  obtain ⟨o, e, c, d⟩ := id st'
  exact ⟨u, rfl, DQ (s := { s with heap := h' }) e c d (by decide) ⟨x, H, I1, ru, ⟨rfl, fun ys hy => by rw [I.Fh hy hq]; exact hx⟩, st', fun b hb => (hf b hb).1⟩⟩
 done := by
  intro X hP hw hK hc i pins s σ H E I hf st hg
  subst hP hw hK
  obtain ⟨xs, hq, hx⟩ := hg
  obtain ⟨its, rv, p, hz⟩ := I.tuple hq
  obtain ⟨f0, f1, f2, f3, f4, f5⟩ := hf it (by simp)
  have hl := rv.length
  exact wpAny_pyNext_tuple_end (I.ok.hd hc) st (show s.heap.IsTuple a its.toArray from p) (by simp; omega) fun h' eb => ⟨rfl, I.turned (t' := s.toks) (fun b o hb e => eb b o hb e) f0 f1 f3 f4 f5⟩
 self := fun _ _ _ _ _ st h => wpAny_pyIter_tupleiter st h
theorem Df {P : Program} {w : World} {K : PySem.W.Frag} {tg : Expr} (it : Addr) (lo : Int) (n : Nat) : Turn P w K tg (Itr lo n) [it] it (fun i h => IsRangeIter h it (lo + (i : Nat) * 1) ((n : Int) - (i : Nat)) 1) where
 mem := by simp
 obj := fun i h st b hb => by
  have e : b = it := by simpa using hb
  subst e
  exact ⟨_, st, fun v z => by
   have z' : Data.fields _ = Data.cell v := z
   cases z'⟩
 keep := fun i h h' st k => k it (by simp) _ st
 item := by
  intro X hP hw hK hc i pins s σ H E I hf st hg
  subst hP hw hK
  obtain ⟨f0, f1, f2, f3, f4, f5⟩ := hf it (by simp)
  have W := Walks.range (prog := X.prog) (w := X.w) (I.ok.hd hc) it lo 1 n
  refine W.item i s _ _ hg st fun v h' tk hv st' kk => ?_
  obtain ⟨t, rfl⟩ := hv
  have I1 : Inv X pins σ H { s with heap := h', toks := tk } := I.turned (fun b o hb e => kk b o (by simpa using hb) e) f0 f1 f3 f4 f5
  refine ⟨_, rfl, DQ (s := { s with heap := h', toks := tk }) (n := "range_iterator") st' rfl rfl (by decide) ⟨.int (lo + i), H, I1, ⟨t, ?_⟩, ⟨rfl, rfl⟩, st', fun b hb => (hf b hb).1⟩⟩
  rw [Int.mul_one]
 done := by
  intro X hP hw hK hc i pins s σ H E I hf st hg
  subst hP hw hK
  obtain ⟨f0, f1, f2, f3, f4, f5⟩ := hf it (by simp)
  exact wpAny_pyNext_range_end (I.ok.hd hc) st (by have : n ≤ i := hg; omega) fun h' eb => ⟨rfl, I.turned (t' := s.toks) (fun b o hb e => eb b o hb e) f0 f1 f3 f4 f5⟩
 self := fun _ _ _ _ _ st h => wpAny_pyIter_rangeiter st h
end L2
namespace L2
open PySem PySem.Spec PyProof.Rows
section
variable {X : Cx} {tg : Expr}
noncomputable def ZcO (K : PySem.W.Frag) (tl : TE) : TI := fun σ H R => tl σ H fun x H1 => ∃ a, x = .ref a ∧ (∃ xs, SqL K H1 a xs) ∧ R (Itl K a) H1
noncomputable def ZfX (K : PySem.W.Frag) (tl : TE) : TI := fun σ H R => tl σ H fun x H1 => ∃ a, x = .ref a ∧ (∃ xs, SqT K H1 a xs) ∧ R (Itt K a) H1
theorem Ed {l : Expr} {tl : TE} (hl : PE X l tl) : PI X tg l (ZcO X.K tl) := by
 intro pins s σ H R I h
 refine thn (hl pins s σ H _ I h) fun v s1 ⟨x, H1, I1, r1, q1⟩ => ?_
 obtain ⟨a, e, ⟨xs, hq⟩, q⟩ := q1
 subst e
 cases r1
 obtain ⟨its, rv, p, hz⟩ := I1.list hq
 refine wpAny_pyIter_list p.isList ?_
 refine ⟨s1.heap.objs.size, [s1.heap.objs.size], _, _, H1, rfl, I1.kept (t' := s1.toks) fun b o e => Heap.get?_push_of_some _ e, Ey a _, ⟨_, Heap.get?_push_size _ rfl, rfl, rfl⟩, fun b hb => ?_, q⟩
 have e : b = s1.heap.objs.size := by simpa using hb
 subst e
 exact I1.Se (Nat.le_refl _) (I1.hok.fresh (Nat.le_refl _))
theorem Nr {l : Expr} {tl : TE} (hl : PE X l tl) : PI X tg l (ZfX X.K tl) := by
 intro pins s σ H R I h
 refine thn (hl pins s σ H _ I h) fun v s1 ⟨x, H1, I1, r1, q1⟩ => ?_
 obtain ⟨a, e, ⟨xs, hq⟩, q⟩ := q1
 subst e
 cases r1
 obtain ⟨its, rv, p, hz⟩ := I1.tuple hq
 refine wpAny_pyIter_tuple (show s1.heap.IsTuple a its.toArray from p) ?_
 refine ⟨s1.heap.objs.size, [s1.heap.objs.size], _, _, H1, rfl, I1.kept (t' := s1.toks) fun b o e => Heap.get?_push_of_some _ e, CF a _, ⟨_, Heap.get?_push_size _ rfl, rfl, rfl⟩, fun b hb => ?_, q⟩
 have e : b = s1.heap.objs.size := by simpa using hb
 subst e
 exact I1.Se (Nat.le_refl _) (I1.hok.fresh (Nat.le_refl _))
theorem BO {pins : List (Addr × Obj)} {σ : St} {H : Hp} {s : Shared} {R : It → Hp → Prop} {E : Value → Shared → Prop} {lo hi : Int} {t u v : Tok} {tk : Nat} (I : Inv X pins σ H s) (h1 : -(2 ^ 62) ≤ lo) (h2 : lo < 2 ^ 62) (h3 : -(2 ^ 62) ≤ hi) (h4 : hi < 2 ^ 62)
  (q : R (Itr lo (hi - lo).toNat) H) : wpAny (model X.prog X.w) X.A (pyIter (.ref s.heap.objs.size)) (PIE X pins σ tg R) E { s with heap := s.heap.push { cls := .type "range", data := .fields #[.int lo t, .int hi u, .int 1 v] }, toks := tk } := by
 refine wpAny_pyIter_range (IsRange.new ..) (small_one h1 h2 h3 h4) ?_
 have I1 : Inv X pins σ H { s with heap := s.heap.push { cls := .type "range", data := .fields #[.int lo t, .int hi u, .int 1 v] }, toks := tk } := I.kept fun b o e => Heap.get?_push_of_some _ e
 refine ⟨(s.heap.push { cls := .type "range", data := .fields #[.int lo t, .int hi u, .int 1 v] }).objs.size, [(s.heap.push { cls := .type "range", data := .fields #[.int lo t, .int hi u, .int 1 v] }).objs.size], _, _, H, rfl,
  I1.kept (t' := tk) fun b o e => Heap.get?_push_of_some _ e, Df _ lo (hi - lo).toNat, ?_, fun b hb => ?_, q⟩
 ·have e1 : lo + ((0 : Nat) : Int) * 1 = lo := by simp
  have e2 : (((hi - lo).toNat : Nat) : Int) - ((0 : Nat) : Int) = Builtin.Range.rangeSize lo hi 1 := by rw [rangeSize_one]; split <;> omega
  show IsRangeIter _ _ (lo + ((0 : Nat) : Int) * 1) ((((hi - lo).toNat : Nat) : Int) - ((0 : Nat) : Int)) 1
  rw [e1, e2]
  exact Heap.get?_push_size _ rfl
 ·have e : b = (s.heap.push { cls := .type "range", data := .fields #[.int lo t, .int hi u, .int 1 v] }).objs.size := by simpa using hb
  subst e
  exact I1.Se (Nat.le_refl _) (I1.hok.fresh (Nat.le_refl _))
noncomputable def ZdV (ta : TA) : TI := fun σ H R => ta σ H fun vs H1 => ∃ j : Int, vs = [.int j] ∧ -(2 ^ 62) ≤ j ∧ j < 2 ^ 62 ∧ R (Itr 0 j.toNat) H1
noncomputable def ZcT (ta : TA) : TI := fun σ H R => ta σ H fun vs H1 => ∃ i j : Int, vs = [.int i, .int j] ∧ (-(2 ^ 62) ≤ i ∧ i < 2 ^ 62 ∧ -(2 ^ 62) ≤ j ∧ j < 2 ^ 62) ∧ R (Itr i (j - i).toNat) H1
theorem Uw {a : Expr} {ta : TA} {p pos : Pos} (hg : Gl X "range") (hm : X.mg "range" = none) (ha : PA X [a] ta) (hs : starEach [a] X.env = [(false, eval a X.env)] := by rfl) : PI X tg (.Call (.Name "range" p) [a] [] pos) (ZdV ta) := by
 intro pins s σ H R I h
 refine Call_ (U8 I hg hm boot_range (PyProof.Rows.callWith_type1 (thn (ha pos pins s σ H _ I h) fun us s1 ⟨vs, H1, I1, r1, q1⟩ => ?_) hs rfl))
 obtain ⟨j, e, q1, q2, q⟩ := q1
 subst e
 cases r1 with
 | cons r rr =>
  cases rr
  obtain ⟨t, rfl⟩ := r
  exact call_range_1 (BO I1 (by omega) (by omega) q1 q2 (by simpa using q))
theorem Eb {a b : Expr} {ta : TA} {p pos : Pos} (hg : Gl X "range") (hm : X.mg "range" = none) (ha : PA X [a, b] ta) (hs : starEach [a, b] X.env = [(false, eval a X.env), (false, eval b X.env)] := by rfl) (hs2 : starEach [b] X.env = [(false, eval b X.env)] := by rfl) :
  PI X tg (.Call (.Name "range" p) [a, b] [] pos) (ZcT ta) := by
 intro pins s σ H R I h
 refine Call_ (U8 I hg hm boot_range (PyProof.Rows.callWith_type1 (thn (ha pos pins s σ H _ I h) fun us s1 ⟨vs, H1, I1, r1, q1⟩ => ?_) (by rw [hs, hs2]) (by rw [hs2]; rfl)))
 obtain ⟨i, j, e, ⟨q1, q2, q3, q4⟩, q⟩ := q1
 subst e
 cases r1 with
 | cons r rr =>
  cases rr with
  | cons r' rr =>
   cases rr
   obtain ⟨t, rfl⟩ := r
   obtain ⟨t', rfl⟩ := r'
   exact call_range_2 (BO I1 q1 q2 q3 q4 q)
noncomputable def ZfM (wi : TI) (g : TG) (tb : TS) : TS := fun D σ H => wi σ H fun J H1 => ∃ W : Nat → Nat → St → Hp → Prop, (∃ m, W 0 m σ H1) ∧ ∀ i m σ H, W i m σ H →
 (J.stop i H ∧ D.nx σ H) ∨ (J.go i H ∧ ∃ N : St → Hp → Prop, (∀ σ' H', N σ' H' → ∃ m', m' < m ∧ W (i + 1) m' σ' H') ∧ ∀ x H', J.yld i H x H' → g x σ H' fun σ2 H2 => tb { D with nx := N, ct := N, bk := D.nx } σ2 H2)
noncomputable def UH (fp : List Addr) (h : Heap) : List (Addr × Obj) := fp.filterMap fun b => (h.get? b).map fun o => (b, o)
theorem VM {fp : List Addr} {h : Heap} {b : Addr} {o : Obj} (hb : b ∈ fp) (e : h.get? b = some o) : (b, o) ∈ UH fp h := List.mem_filterMap.mpr ⟨b, hb, by rw [e]; rfl⟩
theorem D9 {fp : List Addr} {h : Heap} {p : Addr × Obj} (hp : p ∈ UH fp h) : p.1 ∈ fp ∧ h.get? p.1 = some p.2 := by
 obtain ⟨b, hb, e⟩ := List.mem_filterMap.mp hp
 cases q : h.get? b with
 | none => rw [q] at e; cases e
 | some o =>
  rw [q] at e
  have e' : (b, o) = p := Option.some.inj e
  subst e'
  exact ⟨hb, q⟩
theorem Inv.pinned {pins : List (Addr × Obj)} {σ : St} {H : Hp} {s : Shared} {fp : List Addr} (I : Inv X pins σ H s) (hf : ∀ b ∈ fp, D7 X pins H b) (ho : ∀ b ∈ fp, ∃ o, s.heap.get? b = some o ∧ ∀ v, o.data ≠ .cell v) : Inv X (pins ++ UH fp s.heap) σ H s :=
 I.XT fun p hp => (List.mem_append.mp hp).elim (fun z => I.pin p (List.mem_append_right _ z)) fun z => by
  obtain ⟨hb, e⟩ := D9 z
  obtain ⟨f0, f1, f2, _⟩ := hf p.1 hb
  obtain ⟨o, e', d⟩ := ho p.1 hb
  rw [e] at e'; cases e'
  exact ⟨e, f0, f1, f2, d⟩
theorem Inv.Wr {pins pl : List (Addr × Obj)} {σ : St} {H : Hp} {s : Shared} (I : Inv X (pins ++ pl) σ H s) : Inv X pins σ H s := I.XT fun p hp => I.pin p (List.mem_append_right _ (List.mem_append_left _ hp))
theorem Dx {iter : Expr} {body : List Stmt} {wi : TI} {g : TG} {tb : TS} {pos : Pos} (hp : PassesOwn (model X.prog X.w) X.A X.env X.xe) (hc : X.calm = true) (hi : PI X tg iter wi) (hg : PG X tg g) (hb : PSs X body tb)
  (hs : ∀ x, foldedSetIterable iter X.env x = pure x := by intro _; rfl) : PS X (.For tg iter body [] pos) (ZfM wi g tb) := by
 intro pins s σ H D I h
 refine wpAny_For (thn (hi pins s σ H _ I h) fun v s1 h1 => thn h1 fun itv s2 h2 => ?_) hs
 obtain ⟨it, fp, tn, J, H2, e, I2, T, st2, f2, W, ⟨m0, w0⟩, turn⟩ := h2
 subst e
 have stat : ∀ {H' : Hp}, (∀ b ∈ fp, H' b = none) → ∀ b ∈ fp, D7 X pins H' b := fun hn b hb => ⟨hn b hb, (f2 b hb).2⟩
 refine codeAny_forLoop_any (fun n s' => ∃ i σ' H', Inv X pins σ' H' s' ∧ tn i s'.heap ∧ (∀ b ∈ fp, H' b = none) ∧ W i n σ' H') ?_ m0 ⟨0, σ, H2, I2, st2, fun b hb => (f2 b hb).1, w0⟩
 rintro n s3 ⟨i, σ3, H3, I3, st3, fr3, w3⟩
 rcases turn i n σ3 H3 w3 with ⟨stop, qn⟩ | ⟨go, N, hN, step⟩
 ·refine wpAny_passesOwn hp (thn (T.done X rfl rfl rfl hc i pins s3 σ3 H3 X.xe I3 (stat fr3) st3 stop) fun r s4 ⟨hr, I4⟩ => ?_)
  subst hr
  exact wpAny_execs_nil ⟨σ3, H3, I4, qn⟩
 ·refine wpAny_passesOwn hp (thn (T.item X rfl rfl rfl hc i pins s3 σ3 H3 X.xe I3 (stat fr3) st3 go) fun r s4 ⟨u, hr, h4⟩ => ?_)
  subst hr
  refine wpAny_passesOwn hp (thn h4 fun _ s5 ⟨x, H5, I5, r5, y5, st5, fr5⟩ => ?_)
  have I5' := I5.pinned (stat fr5) (T.obj _ _ st5)
  refine wpAny_passesOwn hp (thn (hg _ s5 σ3 H5 x u _ I5' r5 (step x H5 y5)) fun _ s6 ⟨σ6, H6, I6, q6⟩ => ?_)
  refine wpAny_passesOwn hp (thn (hb _ s6 σ6 H6 _ I6 q6) fun f s7 q7 => ?_)
  have again : ∀ {σ7 : St} {H7 : Hp}, Inv X (pins ++ UH fp s5.heap) σ7 H7 s7 → N σ7 H7 → ∃ m, m < n ∧ ∃ i σ' H', Inv X pins σ' H' s7 ∧ tn i s7.heap ∧ (∀ b ∈ fp, H' b = none) ∧ W i m σ' H' := fun {σ7 H7} I7 n7 => by
   obtain ⟨m', hm, w7⟩ := hN σ7 H7 n7
   refine ⟨m', hm, i + 1, σ7, H7, I7.Wr, T.keep _ _ _ st5 fun b hb o e => (I7.pin (b, o) (List.mem_append_right _ (List.mem_append_right _ (VM hb e)))).1, fun b hb => ?_, w7⟩
   obtain ⟨o, e, d⟩ := T.obj _ _ st5 b hb
   exact (I7.pin (b, o) (List.mem_append_right _ (List.mem_append_right _ (VM hb e)))).2.1
  cases f with
  | next => obtain ⟨σ7, H7, I7, n7⟩ := q7; exact again I7 n7
  | cont => obtain ⟨σ7, H7, I7, n7⟩ := q7; exact again I7 n7
  | brk => obtain ⟨σ7, H7, I7, q7⟩ := q7; exact ⟨σ7, H7, I7.Wr, q7⟩
  | ret v => obtain ⟨x7, σ7, H7, I7, r7, q7⟩ := q7; exact ⟨x7, σ7, H7, I7.Wr, r7, q7⟩
end
theorem LZ {K : PySem.W.Frag} {a : Addr} {xs : List V} {g : TG} {tb : TS} {D : Ends} {σ : St} {H : Hp} (Pv : Nat → St → Hp → Prop) (h0 : Pv 0 σ H) (hl : ∀ i σ H, i ≤ xs.length → Pv i σ H → SqL K H a xs)
  (hs : ∀ i x σ H, xs[i]? = some x → Pv i σ H → g x σ H fun σ2 H2 => tb { D with nx := Pv (i + 1), ct := Pv (i + 1), bk := D.nx } σ2 H2) (hd : ∀ σ H, Pv xs.length σ H → D.nx σ H) :
  ∃ W : Nat → Nat → St → Hp → Prop, (∃ m, W 0 m σ H) ∧ ∀ i m σ H, W i m σ H →
   ((Itl K a).stop i H ∧ D.nx σ H) ∨ ((Itl K a).go i H ∧ ∃ N : St → Hp → Prop, (∀ σ' H', N σ' H' → ∃ m', m' < m ∧ W (i + 1) m' σ' H') ∧ ∀ x H', (Itl K a).yld i H x H' → g x σ H' fun σ2 H2 => tb { D with nx := N, ct := N, bk := D.nx } σ2 H2) := by
 refine ⟨fun i m σ H => m = xs.length - i ∧ i ≤ xs.length ∧ Pv i σ H, ⟨xs.length, by simp, Nat.zero_le _, h0⟩, ?_⟩
 rintro i m σ H ⟨rfl, hi, p⟩
 have q := hl i σ H hi p
 by_cases hlt : i < xs.length
 ·refine .inr ⟨⟨xs, xs[i], q, by simp [hlt]⟩, Pv (i + 1), fun σ' H' p' => ⟨xs.length - (i + 1), by omega, rfl, hlt, p'⟩, fun x H' y => ?_⟩
  obtain ⟨e, y⟩ := y
  subst e
  exact hs i x σ _ (y xs q) p
 ·have e : i = xs.length := by omega
  subst e
  exact .inl ⟨⟨xs, q, Nat.le_refl _⟩, hd σ H p⟩
theorem PM {K : PySem.W.Frag} {a : Addr} {xs : List V} {g : TG} {tb : TS} {D : Ends} {σ : St} {H : Hp} (Pv : Nat → St → Hp → Prop) (h0 : Pv 0 σ H) (hl : ∀ i σ H, i ≤ xs.length → Pv i σ H → SqT K H a xs)
  (hs : ∀ i x σ H, xs[i]? = some x → Pv i σ H → g x σ H fun σ2 H2 => tb { D with nx := Pv (i + 1), ct := Pv (i + 1), bk := D.nx } σ2 H2) (hd : ∀ σ H, Pv xs.length σ H → D.nx σ H) :
  ∃ W : Nat → Nat → St → Hp → Prop, (∃ m, W 0 m σ H) ∧ ∀ i m σ H, W i m σ H →
   ((Itt K a).stop i H ∧ D.nx σ H) ∨ ((Itt K a).go i H ∧ ∃ N : St → Hp → Prop, (∀ σ' H', N σ' H' → ∃ m', m' < m ∧ W (i + 1) m' σ' H') ∧ ∀ x H', (Itt K a).yld i H x H' → g x σ H' fun σ2 H2 => tb { D with nx := N, ct := N, bk := D.nx } σ2 H2) := by
 refine ⟨fun i m σ H => m = xs.length - i ∧ i ≤ xs.length ∧ Pv i σ H, ⟨xs.length, by simp, Nat.zero_le _, h0⟩, ?_⟩
 rintro i m σ H ⟨rfl, hi, p⟩
 have q := hl i σ H hi p
 by_cases hlt : i < xs.length
 ·refine .inr ⟨⟨xs, xs[i], q, by simp [hlt]⟩, Pv (i + 1), fun σ' H' p' => ⟨xs.length - (i + 1), by omega, rfl, hlt, p'⟩, fun x H' y => ?_⟩
  obtain ⟨e, y⟩ := y
  subst e
  exact hs i x σ _ (y xs q) p
 ·have e : i = xs.length := by omega
  subst e
  exact .inl ⟨⟨xs, q, Nat.le_refl _⟩, hd σ H p⟩
theorem DM {lo : Int} {n : Nat} {g : TG} {tb : TS} {D : Ends} {σ : St} {H : Hp} (Pv : Nat → St → Hp → Prop) (h0 : Pv 0 σ H)
  (hs : ∀ i σ H, i < n → Pv i σ H → g (.int (lo + i)) σ H fun σ2 H2 => tb { D with nx := Pv (i + 1), ct := Pv (i + 1), bk := D.nx } σ2 H2) (hd : ∀ σ H, Pv n σ H → D.nx σ H) :
  ∃ W : Nat → Nat → St → Hp → Prop, (∃ m, W 0 m σ H) ∧ ∀ i m σ H, W i m σ H →
   ((Itr lo n).stop i H ∧ D.nx σ H) ∨ ((Itr lo n).go i H ∧ ∃ N : St → Hp → Prop, (∀ σ' H', N σ' H' → ∃ m', m' < m ∧ W (i + 1) m' σ' H') ∧ ∀ x H', (Itr lo n).yld i H x H' → g x σ H' fun σ2 H2 => tb { D with nx := N, ct := N, bk := D.nx } σ2 H2) := by
 refine ⟨fun i m σ H => m = n - i ∧ i ≤ n ∧ Pv i σ H, ⟨n, by simp, Nat.zero_le _, h0⟩, ?_⟩
 rintro i m σ H ⟨rfl, hi, p⟩
 by_cases hlt : i < n
 ·refine .inr ⟨hlt, Pv (i + 1), fun σ' H' p' => ⟨n - (i + 1), by omega, rfl, hlt, p'⟩, fun x H' y => ?_⟩
  obtain ⟨e, y⟩ := y
  subst e y
  exact hs i σ _ hlt p
 ·have e : i = n := by omega
  subst e
  exact .inl ⟨Nat.le_refl _, hd σ H p⟩
end L2
namespace L2
open PySem PySem.Spec PyProof.Rows
noncomputable abbrev R2 := V → V → Hp → VK → Prop
noncomputable def OpR (X : Cx) (f : Value → Value → Sem Value) (r : R2) : Prop :=
 ∀ (pins : List (Addr × Obj)) (s : Shared) (σ : St) (H : Hp) (x y : V) (v u : Value) (Q : VK), Inv X pins σ H s → RelV x v → RelV y u → r x y H Q →
  wpAny (model X.prog X.w) X.A (f v u) (EP X pins σ Q) X.xe s
noncomputable def UnR (X : Cx) (f : Value → Sem Value) (r : V → Hp → VK → Prop) : Prop :=
 ∀ (pins : List (Addr × Obj)) (s : Shared) (σ : St) (H : Hp) (x : V) (v : Value) (Q : VK), Inv X pins σ H s → RelV x v → r x H Q →
  wpAny (model X.prog X.w) X.A (f v) (EP X pins σ Q) X.xe s
noncomputable def J9 (X : Cx) (f : Value) (r : List V → Hp → VK → Prop) : Prop :=
 ∀ (pins : List (Addr × Obj)) (s : Shared) (σ : St) (H : Hp) (xs : List V) (us : List Value) (Q : VK), Inv X pins σ H s → Vals xs us → r xs H Q →
  wpAny (model X.prog X.w) X.A (call f us) (EP X pins σ Q) X.xe s
noncomputable def Zg3 (X : Cx) (r : V → Hp → (Bool → Hp → Prop) → Prop) : Prop :=
 ∀ (pins : List (Addr × Obj)) (s : Shared) (σ : St) (H : Hp) (x : V) (v : Value) (Q : Bool → Hp → Prop), Inv X pins σ H s → RelV x v → r x H Q →
  wpAny (model X.prog X.w) X.A (truthy v) (TP X pins σ Q) X.xe s
noncomputable def tOp (r : R2) (ta tb : TE) : TE := fun σ H Q => ta σ H fun x H1 => tb σ H1 fun y H2 => r x y H2 Q
noncomputable def tUn (r : V → Hp → VK → Prop) (ta : TE) : TE := fun σ H Q => ta σ H fun x H1 => r x H1 Q
noncomputable def rI (C : Int → Int → Prop) (g : Int → Int → V) : R2 := fun x y H Q => ∃ i j, x = .int i ∧ y = .int j ∧ C i j ∧ Q (g i j) H
noncomputable def rI0 (g : Int → Int → V) : R2 := fun x y H Q => ∃ i j, x = .int i ∧ y = .int j ∧ Q (g i j) H
noncomputable def rU (g : Int → V) : V → Hp → VK → Prop := fun x H Q => ∃ i, x = .int i ∧ Q (g i) H
section
variable {X : Cx} {a b c : Expr} {ta tb tc : TE} {pos : Pos}
theorem Zcx (ha : PE X a ta) (hb : PE X b tb) {pins : List (Addr × Obj)} {s : Shared} {σ : St} {H : Hp} {R : V → V → Hp → Prop} (I : Inv X pins σ H s)
  (h : ta σ H fun x H1 => tb σ H1 fun y H2 => R x y H2) {Q : Value → Shared → Prop} {f : Value → Value → Sem Value}
  (hf : ∀ v u s2 x y H2, Inv X pins σ H2 s2 → RelV x v → RelV y u → R x y H2 → wpAny (model X.prog X.w) X.A (f v u) Q X.xe s2) :
  wpAny (model X.prog X.w) X.A (eval a X.env) (fun v s₁ => wpAny (model X.prog X.w) X.A (eval b X.env) (fun u s₂ => wpAny (model X.prog X.w) X.A (f v u) Q X.xe s₂) X.xe s₁) X.xe s := by
 refine thn (ha pins s σ H _ I h) fun v s1 ⟨x, H1, I1, r1, q1⟩ => ?_
 refine thn (hb pins s1 σ H1 _ I1 q1) fun u s2 ⟨y, H2, I2, r2, q2⟩ => ?_
 exact hf v u s2 x y H2 I2 r1 r2 q2
theorem ZdW {op : Operator} {r : R2} (ho : OpR X (binaryOp op) r) (ha : PE X a ta) (hb : PE X b tb) : PE X (.BinOp a op b pos) (tOp r ta tb) := by
 intro pins s σ H Q I h
 exact wpAny_BinOp (Zcx ha hb I h fun v u s2 x y H2 I2 rx ry q => ho pins s2 σ H2 x y v u Q I2 rx ry q)
theorem ZdY {op : UnaryOp} {r : V → Hp → VK → Prop} (ho : UnR X (unaryOp op) r) (ha : PE X a ta) : PE X (.UnaryOp op a pos) (tUn r ta) := by
 intro pins s σ H Q I h
 exact UnaryOp_ (thn (ha pins s σ H _ I h) fun v s1 ⟨x, H1, I1, r1, q1⟩ => ho pins s1 σ H1 x v Q I1 r1 q1)
theorem opI {f : Value → Value → Sem Value} {C : Int → Int → Prop} {g : Int → Int → Int}
  (rule : ∀ (i j : Int) (t u : Tok) (s : Shared) (Q : Value → Shared → Prop) (E : Value → Shared → Prop), C i j → Q (.int (g i j) s.toks) { s with toks := s.toks + 1 } → wpAny (model X.prog X.w) X.A (f (.int i t) (.int j u)) Q E s) :
  OpR X f (rI C fun i j => .int (g i j)) := by
 intro pins s σ H x y v u Q I rx ry h
 obtain ⟨i, j, rfl, rfl, hc, q⟩ := h
 obtain ⟨t, rfl⟩ := rx
 obtain ⟨t', rfl⟩ := ry
 exact rule i j t t' s _ _ hc ⟨.int (g i j), H, I.tok _, ⟨_, rfl⟩, q⟩
theorem Zed {f : Value → Value → Sem Value} {g : Int → Int → Int}
  (rule : ∀ (i j : Int) (t u : Tok) (s : Shared) (Q : Value → Shared → Prop) (E : Value → Shared → Prop), Q (.int (g i j) s.toks) { s with toks := s.toks + 1 } → wpAny (model X.prog X.w) X.A (f (.int i t) (.int j u)) Q E s) :
  OpR X f (rI0 fun i j => .int (g i j)) := by
 intro pins s σ H x y v u Q I rx ry h
 obtain ⟨i, j, rfl, rfl, q⟩ := h
 obtain ⟨t, rfl⟩ := rx
 obtain ⟨t', rfl⟩ := ry
 exact rule i j t t' s _ _ ⟨.int (g i j), H, I.tok _, ⟨_, rfl⟩, q⟩
theorem ZbY {f : Value → Value → Sem Value} {g : Int → Int → Bool}
  (rule : ∀ (i j : Int) (t u : Tok) (s : Shared) (Q : Value → Shared → Prop) (E : Value → Shared → Prop), Q (.bool (g i j)) s → wpAny (model X.prog X.w) X.A (f (.int i t) (.int j u)) Q E s) :
  OpR X f (rI0 fun i j => .bl (g i j)) := by
 intro pins s σ H x y v u Q I rx ry h
 obtain ⟨i, j, rfl, rfl, q⟩ := h
 obtain ⟨t, rfl⟩ := rx
 obtain ⟨t', rfl⟩ := ry
 exact rule i j t t' s _ _ ⟨.bl (g i j), H, I, rfl, q⟩
noncomputable def ZeH (i j : Int) : Prop := 0 < j ∧ j < 1073741824
noncomputable def Zf3 (i j : Int) : Prop := j ≠ 0 ∧ j.natAbs < 1073741824
noncomputable def ZdD (i j : Int) : Prop := 0 ≤ j ∧ j ≤ 1000000 ∧ i.natAbs < 2 ^ 64
noncomputable def Zb0 (i j : Int) : Prop := (-(2 ^ 64) < i ∧ i < 2 ^ 64) ∨ (-(2 ^ 64) < j ∧ j < 2 ^ 64)
theorem Zb0.ok {i j : Int} (h : Zb0 i j) : IntMulOk i j := by
 rcases h with ⟨h1, h2⟩ | ⟨h1, h2⟩
 ·exact .of_left (intBits_le_64 h1 h2)
 ·exact .of_right (intBits_le_64 h1 h2)
theorem ZaU : OpR X (binaryOp .Add) (rI0 fun i j => .int (i + j)) := Zed fun _ _ _ _ _ _ _ q => add_int q
theorem Ts : OpR X (binaryOp .Sub) (rI0 fun i j => .int (i - j)) := Zed fun _ _ _ _ _ _ _ q => sub_int q
theorem Zad : OpR X (binaryOp .Mult) (rI Zb0 fun i j => .int (i * j)) := opI fun _ _ _ _ _ _ _ hc q => mul_int q hc.ok
theorem OD : OpR X (binaryOp .FloorDiv) (rI ZeH fun i j => .int (i / j)) := opI fun i j _ _ _ _ _ hc q => by
 have h1 : (0 : Int) < j := hc.1
 have h2 : j < 1073741824 := hc.2
 exact floordiv_int (by omega) (by rw [Int.fdiv_eq_ediv_of_nonneg i (by omega)]; exact q) (.inl (PyProof.noPylong_small (by omega)))
theorem Tt : OpR X (binaryOp .Mod) (rI (fun _ j => 0 < j) fun i j => .int (i % j)) := opI fun i j _ _ _ _ _ hc q => by
 have h1 : (0 : Int) < j := hc
 exact mod_int' (by omega) (by rw [Int.fmod_eq_emod_of_nonneg i (by omega)]; exact q)
theorem Zbm : OpR X (binaryOp .Pow) (rI ZdD fun i j => .int (i ^ j.toNat)) := opI fun _ _ _ _ _ _ _ hc q => pow_int_small hc.1 hc.2.1 hc.2.2 q
theorem unI {f : Value → Sem Value} {g : Int → Int}
  (rule : ∀ (i : Int) (t : Tok) (s : Shared) (Q : Value → Shared → Prop) (E : Value → Shared → Prop), Q (.int (g i) s.toks) { s with toks := s.toks + 1 } → wpAny (model X.prog X.w) X.A (f (.int i t)) Q E s) :
  UnR X f (rU fun i => .int (g i)) := by
 intro pins s σ H x v Q I rx h
 obtain ⟨i, rfl, q⟩ := h
 obtain ⟨t, rfl⟩ := rx
 exact rule i t s _ _ ⟨.int (g i), H, I.tok _, ⟨_, rfl⟩, q⟩
theorem Zbq : UnR X (unaryOp .USub) (rU fun i => .int (-i)) := unI fun _ _ _ _ _ q => neg_int q
end
noncomputable def Zec : V → V → Bool
 | .non, .non => true | .non, .int _ => true | .int _, .non => true | .non, .bl _ => true | .bl _, .non => true | .non, .str _ => true | .str _, .non => true
 | .int _, .int _ => true | .bl _, .bl _ => true | .str _, .str _ => true | .byt _, .byt _ => true
 | .int _, .str _ => true | .str _, .int _ => true | .bl _, .str _ => true | .str _, .bl _ => true
 | _, _ => false
noncomputable def rEq : R2 := fun x y H Q => Zec x y = true ∧ Q (.bl (decide (x = y))) H
noncomputable def rNe : R2 := fun x y H Q => Zec x y = true ∧ Q (.bl (!decide (x = y))) H
theorem Dj {i j : Int} : decide (V.int i = V.int j) = (i == j) := by
 rw [Bool.eq_iff_iff]
 simp
theorem Nz {i j : Bool} : decide (V.bl i = V.bl j) = (i == j) := by
 rw [Bool.eq_iff_iff]
 simp
theorem Ko {i j : Str} : decide (V.str i = V.str j) = (i == j) := by
 rw [Bool.eq_iff_iff]
 simp
theorem FO {i j : Array UInt8} : decide (V.byt i = V.byt j) = (i.toList == j.toList) := by
 rw [Bool.eq_iff_iff]
 cases i
 cases j
 simp
section
variable {X : Cx} {a b c : Expr} {ta tb tc : TE} {pos : Pos}
theorem ZL {pins : List (Addr × Obj)} {σ : St} {H : Hp} {s : Shared} {Q : VK} {k k' : Bool} (I : Inv X pins σ H s) (q : Q (.bl k) H) (e : k = k') : EP X pins σ Q (.bool k') s := by
 subst e
 exact ⟨.bl k, H, I, rfl, q⟩
theorem ZdX : OpR X (compareOp .Eq) rEq := by
 intro pins s σ H x y v u Q I rx ry h
 obtain ⟨hs, q⟩ := h
 cases x with
 | non =>
  cases rx
  cases y with
  | non => cases ry; exact PySem.EqNone.eq_none_none (ZL I q (by simp))
  | bl j => cases ry; exact PySem.EqNone.eq_none_bool (ZL I q (by simp))
  | int j => obtain ⟨t', rfl⟩ := ry; exact PySem.EqNone.eq_none_int (ZL I q (by simp))
  | str j => obtain ⟨t', rfl⟩ := ry; exact PySem.EqNone.eq_none_str (ZL I q (by simp))
  | _ => exact absurd (show false = true from hs) Bool.false_ne_true
 | bl i =>
  cases rx
  cases y with
  | non => cases ry; exact PySem.EqNone.eq_bool_none (ZL I q (by simp))
  | bl j => cases ry; exact eq_bool (ZL I q Nz)
  | str j => obtain ⟨t', rfl⟩ := ry; exact PySem.EqMixed.eq_bool_str (ZL I q (by simp))
  | _ => exact absurd (show false = true from hs) Bool.false_ne_true
 | int i =>
  obtain ⟨t, rfl⟩ := rx
  cases y with
  | non => cases ry; exact PySem.EqNone.eq_int_none (ZL I q (by simp))
  | int j => obtain ⟨t', rfl⟩ := ry; exact eq_int (ZL I q Dj)
  | str j => obtain ⟨t', rfl⟩ := ry; exact PySem.EqMixed.eq_int_str (ZL I q (by simp))
  | _ => exact absurd (show false = true from hs) Bool.false_ne_true
 | str i =>
  obtain ⟨t, rfl⟩ := rx
  cases y with
  | non => cases ry; exact PySem.EqNone.eq_str_none (ZL I q (by simp))
  | bl j => cases ry; exact PySem.EqMixed.eq_str_bool (ZL I q (by simp))
  | int j => obtain ⟨t', rfl⟩ := ry; exact PySem.EqMixed.eq_str_int (ZL I q (by simp))
  | str j => obtain ⟨t', rfl⟩ := ry; exact eq_str (ZL I q Ko)
  | _ => exact absurd (show false = true from hs) Bool.false_ne_true
 | byt i =>
  obtain ⟨t, rfl⟩ := rx
  cases y with
  | byt j => obtain ⟨t', rfl⟩ := ry; exact PySem.W.eq_bytes (ZL I q FO)
  | _ => exact absurd (show false = true from hs) Bool.false_ne_true
 | _ => cases y <;> exact absurd (show false = true from hs) Bool.false_ne_true
theorem T5 : OpR X (compareOp .NotEq) rNe := by
 intro pins s σ H x y v u Q I rx ry h
 obtain ⟨hs, q⟩ := h
 cases x with
 | non =>
  cases rx
  cases y with
  | non => cases ry; exact PySem.EqNone.ne_none_none (ZL I q (by simp))
  | bl j => cases ry; exact PySem.EqNone.ne_none_bool (ZL I q (by simp))
  | int j => obtain ⟨t', rfl⟩ := ry; exact PySem.EqNone.ne_none_int (ZL I q (by simp))
  | str j => obtain ⟨t', rfl⟩ := ry; exact PySem.EqNone.ne_none_str (ZL I q (by simp))
  | _ => exact absurd (show false = true from hs) Bool.false_ne_true
 | bl i =>
  cases rx
  cases y with
  | non => cases ry; exact PySem.EqNone.ne_bool_none (ZL I q (by simp))
  | bl j => cases ry; exact ne_bool (ZL I q (congrArg not Nz))
  | str j => obtain ⟨t', rfl⟩ := ry; exact PySem.EqMixed.ne_bool_str (ZL I q (by simp))
  | _ => exact absurd (show false = true from hs) Bool.false_ne_true
 | int i =>
  obtain ⟨t, rfl⟩ := rx
  cases y with
  | non => cases ry; exact PySem.EqNone.ne_int_none (ZL I q (by simp))
  | int j => obtain ⟨t', rfl⟩ := ry; exact ne_int (ZL I q (congrArg not Dj))
  | str j => obtain ⟨t', rfl⟩ := ry; exact PySem.EqMixed.ne_int_str (ZL I q (by simp))
  | _ => exact absurd (show false = true from hs) Bool.false_ne_true
 | str i =>
  obtain ⟨t, rfl⟩ := rx
  cases y with
  | non => cases ry; exact PySem.EqNone.ne_str_none (ZL I q (by simp))
  | bl j => cases ry; exact PySem.EqMixed.ne_str_bool (ZL I q (by simp))
  | int j => obtain ⟨t', rfl⟩ := ry; exact PySem.EqMixed.ne_str_int (ZL I q (by simp))
  | str j => obtain ⟨t', rfl⟩ := ry; exact ne_str (ZL I q (congrArg not Ko))
  | _ => exact absurd (show false = true from hs) Bool.false_ne_true
 | byt i =>
  obtain ⟨t, rfl⟩ := rx
  cases y with
  | byt j => obtain ⟨t', rfl⟩ := ry; exact PySem.W.ne_bytes (ZL I q (congrArg not FO))
  | _ => exact absurd (show false = true from hs) Bool.false_ne_true
 | _ => cases y <;> exact absurd (show false = true from hs) Bool.false_ne_true
theorem Zdr : OpR X (compareOp .Lt) (rI0 fun i j => .bl (decide (i < j))) := ZbY fun _ _ _ _ _ _ _ q => lt_int q
theorem ZdR : OpR X (compareOp .LtE) (rI0 fun i j => .bl (decide (i ≤ j))) := ZbY fun _ _ _ _ _ _ _ q => le_int q
theorem ZcN : OpR X (compareOp .Gt) (rI0 fun i j => .bl (decide (j < i))) := ZbY fun _ _ _ _ _ _ _ q => gt_int q
theorem Zdn : OpR X (compareOp .GtE) (rI0 fun i j => .bl (decide (j ≤ i))) := ZbY fun _ _ _ _ _ _ _ q => ge_int q
noncomputable def isObj : HO → Bool
 | .lst _ => true
 | .ins _ _ _ => true
 | _ => false
theorem OpR.or {f : Value → Value → Sem Value} {r r' : R2} (h : OpR X f r) (h' : OpR X f r') : OpR X f (fun x y H Q => r x y H Q ∨ r' x y H Q) := by
 intro pins s σ H x y v u Q I rx ry q
 rcases q with q | q
 ·exact h pins s σ H x y v u Q I rx ry q
 ·exact h' pins s σ H x y v u Q I rx ry q
theorem NF (b : Expr) {op : CmpOp} (h : op ≠ .In := by decide) (h2 : op ≠ .NotIn := by decide) : behindInMarks op b = false := by
 have e1 : (op == CmpOp.In) = false := by cases op <;> first | rfl | exact absurd rfl h
 have e2 : (op == CmpOp.NotIn) = false := by cases op <;> first | rfl | exact absurd rfl h2
 cases b <;> simp [behindInMarks, e1, e2]
theorem Rz {op : CmpOp} {r : R2} (ho : OpR X (compareOp op) r) (ha : PE X a ta) (hb : PE X b tb) (hm : behindInMarks op b = false) : PE X (.Compare a [op] [b] pos) (tOp r ta tb) := by
 intro pins s σ H Q I h
 exact wpAny_Compare1 (Zcx ha hb I h fun v u s2 x y H2 I2 rx ry q => ho pins s2 σ H2 x y v u Q I2 rx ry q) hm
noncomputable def ZaQ (t : TE) : TT := fun σ H Q => t σ H fun x H' => ∃ k, x = .bl k ∧ Q k H'
theorem R9 {op : CmpOp} {r : R2} (ho : OpR X (compareOp op) r) (ha : PE X a ta) (hb : PE X b tb) (hm : behindInMarks op b = false) : PT X (.Compare a [op] [b] pos) (ZaQ (tOp r ta tb)) := by
 intro pins s σ H Q I h
 refine wpAny_isTrue_Compare1 (thn (ha pins s σ H _ I h) fun v s1 ⟨x, H1, I1, r1, q1⟩ => thn (hb pins s1 σ H1 _ I1 q1) fun u s2 ⟨y, H2, I2, r2, q2⟩ =>
  thn (ho pins s2 σ H2 x y v u _ I2 r1 r2 q2) fun c s3 ⟨z, H3, I3, r3, k, e, q3⟩ => ?_) hm
 subst e
 cases r3
 exact wpAny_truthy_bool ⟨H3, I3, q3⟩
noncomputable def Ex (r r' : R2) (ta tb tc : TE) : TE := fun σ H Q => ta σ H fun x H1 => tb σ H1 fun y H2 => r x y H2 fun z H3 => ∃ k, z = .bl k ∧
 (if k = true then tc σ H3 fun w' H4 => r' y w' H4 Q else Q (.bl false) H3)
theorem LK {op op' : CmpOp} {r r' : R2} (ho : OpR X (compareOp op) r) (ho' : OpR X (compareOp op') r') (ha : PE X a ta) (hb : PE X b tb) (hc : PE X c tc)
  (hm : lastMarks [op, op'] [b, c] = false := by with_unfolding_all rfl) : PE X (.Compare a [op, op'] [b, c] pos) (Ex r r' ta tb tc) := by
 intro pins s σ H Q I h
 refine Compare_chain (thn (ha pins s σ H _ I h) fun v s1 ⟨x, H1, I1, r1, q1⟩ => chain_link (thn (hb pins s1 σ H1 _ I1 q1) fun u s2 ⟨y, H2, I2, r2, q2⟩ =>
  thn (ho pins s2 σ H2 x y v u _ I2 r1 r2 q2) fun d s3 ⟨z, H3, I3, r3, k, e, q3⟩ => ?_)) hm
 subst e
 cases r3
 refine wpAny_truthy_bool ?_
 cases k with
 | false => exact ite_ff ⟨.bl false, H3, I3, rfl, q3⟩
 | true => exact ite_tt (chain_last (thn (hc pins s3 σ H3 _ I3 q3) fun w' s4 ⟨z', H4, I4, r4, q4⟩ => ho' pins s4 σ H4 y z' u w' Q I4 r2 r4 q4))
theorem HC {op op' : CmpOp} {r r' : R2} (ho : OpR X (compareOp op) r) (ho' : OpR X (compareOp op') r') (ha : PE X a ta) (hb : PE X b tb) (hc : PE X c tc)
  (hm : lastMarks [op, op'] [b, c] = false := by with_unfolding_all rfl) : PT X (.Compare a [op, op'] [b, c] pos) (ZaQ (Ex r r' ta tb tc)) := by
 intro pins s σ H Q I h
 refine isTrue_chain (thn (ha pins s σ H _ I h) fun v s1 ⟨x, H1, I1, r1, q1⟩ => test_link (thn (hb pins s1 σ H1 _ I1 q1) fun u s2 ⟨y, H2, I2, r2, q2⟩ =>
  thn (ho pins s2 σ H2 x y v u _ I2 r1 r2 q2) fun d s3 ⟨z, H3, I3, r3, k, e, q3⟩ => ?_)) hm
 subst e
 cases r3
 refine wpAny_truthy_bool ?_
 cases k with
 | false =>
  obtain ⟨k', e', q'⟩ := q3
  cases e'
  exact ite_ff ⟨H3, I3, q'⟩
 | true =>
  refine ite_tt (test_last (thn (hc pins s3 σ H3 _ I3 q3) fun w' s4 ⟨z', H4, I4, r4, q4⟩ => thn (ho' pins s4 σ H4 y z' u w' _ I4 r2 r4 q4) fun d' s5 ⟨z2, H5, I5, r5, k2, e2, q5⟩ => ?_))
  subst e2
  cases r5
  exact wpAny_truthy_bool ⟨H5, I5, q5⟩
noncomputable def ZgE (K : PySem.W.Frag) (x : V) (H : Hp) (k : Bool) : Prop :=
 match x with
 | .non => k = false
 | .bl b => k = b
 | .int i => k = (i != 0)
 | .str y => y.length ≤ sizeLine ∧ k = ((y.length : Int) != 0)
 | .byt y => y.size ≤ sizeLine ∧ k = ((y.size : Int) != 0)
 | .ref p => (∃ xs, SqL K H p xs ∧ k = !xs.isEmpty) ∨ (∃ xs, SqT K H p xs ∧ k = !xs.isEmpty) ∨ ∃ kvs, H p = some (.dK kvs) ∧ k = !kvs.isEmpty
 | _ => False
theorem K1 : (sizeLine : Nat) < 2 ^ 63 := by rw [sizeLine_eq]; decide
theorem C2 : OpR X (binaryOp .Add) (fun x y H Q => ∃ i j, x = .str i ∧ y = .str j ∧ i.length + j.length ≤ sizeLine ∧ Q (.str (i ++ j)) H) := by
 intro pins s σ H x y v u Q I rx ry h
 obtain ⟨i, j, rfl, rfl, hz, q⟩ := h
 obtain ⟨t, rfl⟩ := rx
 obtain ⟨t', rfl⟩ := ry
 exact add_str (fun t' tk => ⟨.str (i ++ j), H, I.tok _, ⟨_, rfl⟩, q⟩) hz
noncomputable def Zb7 (b : Expr) : Prop := ∀ o i, subscripted b false o i = operate [o, i] (getItem o i)
theorem vals1 {x : V} {us : List Value} (r : Vals [x] us) : ∃ u, us = [u] ∧ RelV x u := by
 cases r with
 | cons r1 r2 => cases r2; exact ⟨_, rfl, r1⟩
theorem vals2 {x y : V} {us : List Value} (r : Vals [x, y] us) : ∃ u w', us = [u, w'] ∧ RelV x u ∧ RelV y w' := by
 cases r with
 | cons r1 r2 =>
  cases r2 with
  | cons r3 r4 => cases r4; exact ⟨_, _, rfl, r1, r3⟩
theorem MW : J9 X (.builtin "abs") (fun xs H Q => ∃ i, xs = [.int i] ∧ Q (.int (if i < 0 then -i else i)) H) := by
 intro pins s σ H xs us Q I r h
 obtain ⟨i, rfl, q⟩ := h
 obtain ⟨u, rfl, t, rfl⟩ := vals1 r
 exact call_abs_int fun u tk => ⟨.int (if i < 0 then -i else i), H, I.tok _, ⟨_, rfl⟩, q⟩
theorem ET (hc : X.calm = true) : J9 X (.builtin "max") (fun xs H Q => ∃ i j, xs = [.int i, .int j] ∧ Q (.int (if j > i then j else i)) H) := by
 intro pins s σ H xs us Q I r h
 obtain ⟨i, j, rfl, q⟩ := h
 obtain ⟨u, w', rfl, ⟨t, rfl⟩, ⟨t', rfl⟩⟩ := vals2 r
 refine max_two_ints (I.ok.hd hc) fun h' tk k => ⟨_, H, I.kept k, ?_, q⟩
 by_cases hj : j > i
 ·rw [if_pos hj, if_pos hj]; exact ⟨_, rfl⟩
 ·rw [if_neg hj, if_neg hj]; exact ⟨_, rfl⟩
theorem ED : J9 X (.type "int") (fun xs H Q => (∃ i, xs = [.int i] ∧ Q (.int i) H) ∨ ∃ k, xs = [.bl k] ∧ Q (.int (if k then 1 else 0)) H) := by
 intro pins s σ H xs us Q I r h
 rcases h with ⟨i, rfl, q⟩ | ⟨k, rfl, q⟩
 ·obtain ⟨u, rfl, t, rfl⟩ := vals1 r
  exact call_int_int ⟨.int i, H, I, ⟨_, rfl⟩, q⟩
 ·obtain ⟨u, rfl, r1⟩ := vals1 r
  cases r1
  exact call_int_bool ⟨.int (if k then 1 else 0), H, I.tok _, ⟨_, rfl⟩, q⟩
theorem Ui : J9 X (.type "str") (fun xs H Q => ∃ i, xs = [.int i] ∧ i.natAbs.log2 < 1920 ∧ Q (.str (toString i)) H) := by
 intro pins s σ H xs us Q I r h
 obtain ⟨i, rfl, hz, q⟩ := h
 obtain ⟨u, rfl, t, rfl⟩ := vals1 r
 exact PySem.P.str_of_int hz ⟨.str _, H, I.tok _, ⟨_, rfl⟩, q⟩
noncomputable def ZgV (K : PySem.W.Frag) (x : V) (H : Hp) (n : Nat) : Prop :=
 match x with
 | .str y => y.length ≤ sizeLine ∧ n = y.length
 | .byt y => y.size ≤ sizeLine ∧ n = y.size
 | .ref p => (∃ xs, SqL K H p xs ∧ n = xs.length) ∨ ∃ xs, SqT K H p xs ∧ n = xs.length
 | _ => False
end
end L2
namespace L2
open PySem PySem.Spec PyProof.Rows
structure ZgU (h : Heap) (x dx C : Addr) (mA : Str → Option Value) : Prop where
 obj : h.get? x = some (PySem.W.instObj C dx)
 ns : h.Ns1 dx mA
 ne : dx ≠ x
section
variable {prog : Program} {w : World} {A : Around} {E : Value → Shared → Prop} {s : Shared} {K : PySem.W.Frag} {x dx C f : Addr} {mA : Str → Option Value} {name : Str} {v : Value}
end
noncomputable def ZcQ (f : Str) (v : V) : List (Str × V) → List (Str × V)
 | [] => [(f, v)]
 | (g, x) :: r => if g = f then (g, v) :: r else (g, x) :: ZcQ f v r
theorem Hk.some_of {v : V} {o : Option Value} (r : Hk (some v) o) : ∃ u, o = some u ∧ RelV v u := by
 cases o with
 | none => exact (show False from r).elim
 | some u => exact ⟨u, rfl, r⟩
section
variable {P : Program} {w : World} {H H' : Hp} {h h' : Heap} {a C dx : Addr} {fs fs' : List (Str × V)}
end
structure Cls (K : PySem.W.Frag) (C : Addr) : Prop where
 pg : PySem.W.plainGet K C Str.empty = true
 hd : PySem.W.hasDictIn K C = true
 po : PySem.W.plainOver K C = true
 sa : PySem.W.findIn K (.ref C) "__setattr__" = some (some (.builtin "object.__setattr__"))
theorem Cls.get {K : PySem.W.Frag} {C : Addr} (c : Cls K C) (f : Str) : PySem.W.plainGet K C f = true := c.pg
noncomputable def Fq (K : PySem.W.Frag) (C : Addr) (f : Str) : Prop := PySem.W.findIn K (.ref C) f = some none
structure Con (K : PySem.W.Frag) (C : Addr) (f : Str) (v : V) (u : Value) : Prop where
 at_ : PySem.W.findIn K (.ref C) f = some (some u)
 rel : RelV v u
 get : PySem.W.specialIn K u "__get__" = some none
 cp : PySem.W.copiedNames.contains f = false
structure Meth (K : PySem.W.Frag) (C : Addr) (m : Str) (f : Addr) : Prop where
 at_ : PySem.W.findIn K (.ref C) m = some (some (.ref f))
 fn : PySem.W.isFn K (.ref f) = true
 kp : PySem.W.keepIn K (.ref f) = true
section
variable {X : Cx} {pins : List (Addr × Obj)} {σ : St} {H : Hp} {s : Shared} {a C dx : Addr} {fs : List (Str × V)} {f : Str} {v : V} {A : Around} {E : Value → Shared → Prop}
end
noncomputable def ZgX (K : PySem.W.Frag) (ta : TE) (f : Str) : TE := fun σ H Q => ta σ H fun x H1 => ∃ a C dx fs v, x = .ref a ∧ H1 a = some (.ins C dx fs) ∧ Cls K C ∧ Fq K C f ∧ fs.lookup f = some v ∧ Q v H1
noncomputable def Zg0 (K : PySem.W.Frag) (ta : TE) (f : Str) : TE := fun σ H Q => ta σ H fun x H1 => ∃ a C dx fs v u, x = .ref a ∧ H1 a = some (.ins C dx fs) ∧ Cls K C ∧ Con K C f v u ∧ fs.lookup f = none ∧ Q v H1
noncomputable def ZgZ (K : PySem.W.Frag) (ta tv : TE) (f : Str) : TS := fun D σ H => tv σ H fun y H1 => ta σ H1 fun x H2 => ∃ a C dx fs, x = .ref a ∧ H2 a = some (.ins C dx fs) ∧ Cls K C ∧ Fq K C f ∧ fs.length < 1000 ∧
 D.nx σ (upd H2 a (.ins C dx (ZcQ f y fs)))
noncomputable def ZgF (X : Cx) (op : Operator) (rd : V → V → Hp → VK → Prop) : Prop :=
 ∀ (pins : List (Addr × Obj)) (s : Shared) (σ : St) (H : Hp) (x y : V) (u v : Value) (Q : VK), Inv X pins σ H s → RelV x u → RelV y v → rd x y H Q → wpAny (model X.prog X.w) X.A (inplaceOp op u v) (EP X pins σ Q) X.xe s
noncomputable def Zc1 (K : PySem.W.Frag) (ta tv : TE) (rd : V → V → Hp → VK → Prop) (f : Str) : TS := fun D σ H => ta σ H fun x H1 => ∃ a C dx fs v, x = .ref a ∧ H1 a = some (.ins C dx fs) ∧ Cls K C ∧ Fq K C f ∧ fs.lookup f = some v ∧
 tv σ H1 fun y H2 => rd v y H2 fun z H3 => ∃ dx' fs', H3 a = some (.ins C dx' fs') ∧ fs'.length < 1000 ∧ D.nx σ (upd H3 a (.ins C dx' (ZcQ f z fs')))
section
variable {X : Cx} {o e value : Expr} {f : Str} {pos pos' tpos : Pos} {ta tv : TE}
noncomputable def Zgw : V → V → Hp → VK → Prop := fun x y H Q => ∃ i j, x = .int i ∧ y = .int j ∧ Q (.int (i + j)) H
noncomputable def ZgR : V → V → Hp → VK → Prop := fun x y H Q => ∃ i j, x = .int i ∧ y = .int j ∧ Q (.int (i - j)) H
end
section
variable {X : Cx} {pins : List (Addr × Obj)} {σ : St} {H : Hp} {s : Shared} {A : Around} {E : Value → Shared → Prop} {Q : Value → Shared → Prop} {c : Value} {b : Bool}
inductive En (K : PySem.W.Frag) (H : Hp) : V → Value → Prop where
 | non : En K H .non (.type "NoneType")
 | bl (x : Bool) : En K H (.bl x) (.type "bool")
 | int (i : Int) : En K H (.int i) (.type "int")
 | str (x : Str) : En K H (.str x) (.type "str")
 | flt (x : UInt64) : En K H (.flt x) (.type "float")
 | lst {a : Addr} {xs : List V} (e : H a = some (.lst xs)) : En K H (.ref a) (.type "list")
 | frz {a : Addr} {o : Obj} {xs : List V} (e : H a = some (.frz o (.lst xs))) : En K H (.ref a) (.type "list")
 | tup {a : Addr} {xs : List V} (e : H a = some (.tup xs)) : En K H (.ref a) (.type "tuple")
 | dK {a : Addr} {kvs : List (Key × V)} (e : H a = some (.dK kvs)) : En K H (.ref a) (.type "dict")
 | dT {a : Addr} {kvs : List (List Key × V)} (e : H a = some (.dT kvs)) : En K H (.ref a) (.type "dict")
 | ins {a C dx : Addr} {fs : List (Str × V)} (e : H a = some (.ins C dx fs)) (cl : Cls K C) (ha : PySem.W.findIn K (.ref C) "__class__" = some (some (.builtin "object.__class__")))
   (hn : PySem.W.specialIn K (.builtin "object.__class__") "__get__" = some (some (.builtin "getset_descriptor.__get__"))) (htk : PySem.W.takesIn K (.builtin "object.__class__") = some true)
   (hm : PySem.W.mroIn K C (.type "object") = some true) : En K H (.ref a) (.ref C)
end
end L2
namespace L2
open PySem PySem.Spec PyProof.Rows
structure Yr (k : Nat) (A : Around) : Prop where
 hd : A.handled = none
 dp : A.depth + 3 * k + 5 < recursionLimit
 un : A.units + 16 * k + 200 < cLine
 gd : A.guards = some []
theorem Yr.mono {j k : Nat} {A : Around} (r : Yr k A) (h : j ≤ k) : Yr j A := ⟨r.hd, by have := r.dp; omega, by have := r.un; omega, r.gd⟩
theorem Yr.deeper {k : Nat} {A : Around} (r : Yr (k + 1) A) (env : Env) : Yr k (A.deeper env) :=
 ⟨r.hd, by have := r.dp; show A.depth + 1 + 3 * k + 5 < _; omega, by have := r.un; show A.units + 3 + 16 * k + 200 < _; omega, r.gd⟩
theorem Yr.depth {k : Nat} {A : Around} (r : Yr k A) : A.depth < recursionLimit := by have := r.dp; omega
theorem Yr.units {k : Nat} {A : Around} (r : Yr k A) : A.units + 64 < cLine := by have := r.un; omega
noncomputable def Zgn : TA := fun _ H Q => Q [] H
noncomputable def ZdU (ta : TE) (tr : TA) : TA := fun σ H Q => ta σ H fun x H1 => tr σ H1 fun xs H2 => Q (x :: xs) H2
section
variable {X : Cx} {e : Expr} {es : List Expr} {te : TE} {t : TA} {pos : Pos}
theorem We : PA X [] Zgn := fun _ _ _ _ H Q I h => Calls.spliced_nil ⟨[], H, I, .nil, h⟩
theorem Y7 (ha : PE X e te) (hr : PA X es t) (hs : starEach (e :: es) X.env = (false, eval e X.env) :: starEach es X.env := by rfl) : PA X (e :: es) (ZdU te t) := by
 intro pos pins s σ H Q I h
 rw [hs]
 show wpAny _ _ (spliced ((false, eval e X.env) :: backTo pos (starEach es X.env))) _ _ s
 refine Calls.spliced_cons (thn (ha pins s σ H _ I h) fun u s1 ⟨x, H1, I1, r1, q1⟩ => ?_)
 exact thn (hr pos pins s1 σ H1 _ I1 q1) fun us s2 ⟨xs, H2, I2, r2, q2⟩ => ⟨x :: xs, H2, I2, .cons r1 r2, q2⟩
noncomputable def Zff (t : TA) : TE := fun σ H Q => t σ H fun xs H1 => xs.length ≤ sizeLine ∧ ∀ p, H1 p = none → Q (.ref p) (upd H1 p (.tup xs))
noncomputable def Zgm (t : TA) : TE := fun σ H Q => t σ H fun xs H1 => xs.length ≤ sizeLine ∧ ∀ p, H1 p = none → Q (.ref p) (upd H1 p (.lst xs))
theorem Zaq {x1} (h : PA X es t) : PE X (.Tuple es x1 pos) (Zff t) := by
 intro pins s σ H Q I hq
 refine wpAny_Tuple_spliced (thn (h pos pins s σ H _ I hq) fun us s1 ⟨xs, H1, I1, r, z, q⟩ => ⟨by rw [← r.length]; exact z, ?_⟩)
 have hf : H1 s1.heap.objs.size = none := I1.hok.fresh (Nat.le_refl _)
 refine ⟨.ref s1.heap.objs.size, upd H1 s1.heap.objs.size (.tup xs), I1.laid (t' := s1.toks) (fun b u e => Heap.get?_push_of_some _ e) (Nat.le_refl _) ?_, rfl, q _ hf⟩
 exact ⟨z, us, r, ⟨_, Heap.get?_push_size _ rfl, rfl, _, rfl⟩⟩
theorem NO (h : PA X es t) : PE X (.List es pos) (Zgm t) := by
 intro pins s σ H Q I hq
 refine wpAny_List_spliced (thn (h pos pins s σ H _ I hq) fun us s1 ⟨xs, H1, I1, r, z, q⟩ => ⟨by rw [← r.length]; exact z, ?_⟩)
 have hf : H1 s1.heap.objs.size = none := I1.hok.fresh (Nat.le_refl _)
 refine ⟨.ref s1.heap.objs.size, upd H1 s1.heap.objs.size (.lst xs), I1.laid (t' := s1.toks) (fun b u e => Heap.get?_push_of_some _ e) (Nat.le_refl _) ?_, rfl, q _ hf⟩
 exact ⟨z, us, 0, r, Heap.get?_push_size _ rfl⟩
end
noncomputable abbrev Sp := List V → Hp → VK → XK → Prop
noncomputable abbrev CXT := List Env → Hp → Shared → XK → Value → Shared → Prop
structure Zcb (P : Program) (w : World) (K : PySem.W.Frag) (mg : Str → Option Value) (base : Heap) (A : Around) (outer : List Env) (s : Shared) (H : Hp) : Prop where
 frames : A.frames = some outer
 mod : Mod K mg base
 bs : ∀ b o, base.get? b = some o → s.heap.get? b = some o ∧ H b = none
 bsz : base.objs.size ≤ s.heap.objs.size
 FI : s.heap.FunFrames base outer
 frf : ∀ b ∈ frs outer, H b = none
 hok : HOk P w H s.heap
 bare : AllBare s.gens
noncomputable def CE (outer : List Env) (P : Program) (w : World) (H : Hp) (s : Shared) (Q : VK) (u : Value) (s' : Shared) : Prop :=
 ∃ v H', s'.os = s.os ∧ AllBare s'.gens ∧ Un (frs outer) [] H H' s.heap s'.heap ∧ HOk P w H' s'.heap ∧ RelV v u ∧ Q v H'
noncomputable def CR (CX : CXT) (outer : List Env) (P : Program) (w : World) (H : Hp) (s : Shared) (Q : VK) (E : XK) (r : Result) (s' : Shared) : Prop :=
 match r with
 | .ok (.ret u) => CE outer P w H s Q u s'
 | .ok _ => False
 | .error e => CX outer H s E e s'
structure ZE (P : Program) (w : World) (K : PySem.W.Frag) (mg : Str → Option Value) (base : Heap) (CX : CXT) (k : Nat) (f : Addr) (fd : FuncData) (ps : List Str) (sp : Sp) : Prop where
 len : ∀ vs H Q E, sp vs H Q E → vs.length = ps.length
 run : ∀ (A : Around) (outer : List Env) (s : Shared) (H : Hp) (args : Args) (us : List Value) (vs : List V) (Q : VK) (E : XK), Yr k A → Zcb P w K mg base A outer s H → BindsTo s fd args (ps.zip us) → Vals vs us → sp vs H Q E →
  codeAny (model P w) A (.call (.ref f) args) (CR CX outer P w H s Q E) s
section
variable {X : Cx} {pins : List (Addr × Obj)} {σ : St} {H : Hp} {s s' : Shared}
theorem Inv.Zgp (I : Inv X pins σ H s) : Zcb X.prog X.w X.K X.mg X.base X.A X.stack s H :=
 ⟨I.ok.frames, I.ok.mod, I.bs, Nat.le_trans I.ok.bsz I.sz, I.stack, I.FP, I.hok, I.bare⟩
theorem Inv.after {Q : VK} {u : Value} (I : Inv X pins σ H s) (h : CE X.stack X.prog X.w H s Q u s') : EP X pins σ Q u s' := by
 obtain ⟨v, H', os, bare, un, hok, r, q⟩ := h
 obtain ⟨hh, g, d, t, os'⟩ := s'
 obtain rfl : os' = s.os := os
 exact ⟨v, H', I.call (h' := hh) (g' := g) (d' := d) (t' := t) (ch := []) un hok bare (fun b z => absurd z (by simp)), r, q⟩
end
noncomputable def Zde (sp : Sp) (dvs : List V) (E : XK) (t : TA) : TE := fun σ H Q => t σ H fun vs H1 => sp (vs ++ dvs) H1 Q E
noncomputable def Zga (C : Addr) (m : Str) (sp : Sp) (dvs : List V) (E : XK) (ta : TE) (t : TA) : TE := fun σ H Q => ta σ H fun x H1 => ∃ a dx fs, x = .ref a ∧ H1 a = some (.ins C dx fs) ∧ fs.lookup m = none ∧
 t σ H1 fun vs H2 => sp (x :: (vs ++ dvs)) H2 Q E
noncomputable def Zgj (C : Addr) (sp : Sp) (dvs : List V) (E : XK) (t : TA) : TE := fun σ H Q => t σ H fun vs H1 => ∀ x dx, H1 x = none → H1 dx = none → dx ≠ x →
 sp (.ref x :: (vs ++ dvs)) (upd (upd H1 dx (.own x)) x (.ins C dx [])) (fun v H2 => v = .non ∧ Q (.ref x) H2) E
noncomputable def Binds (K : PySem.W.Frag) (fd : FuncData) (ps : List Str) (ds : List Value) : Prop :=
 ∀ (s : Shared) (us : List Value), K.In s.heap → (us ++ ds).length = ps.length → BindsTo s fd ⟨us, []⟩ (ps.zip (us ++ ds))
theorem Binds.all {K : PySem.W.Frag} {fd : FuncData} {ps : List Str} (h : ∀ us : List Value, us.length = ps.length → bindArgs fd ⟨us, []⟩ = pure (ps.zip us)) : Binds K fd ps [] := fun s us _ hl => by
 rw [List.append_nil] at hl ⊢
 exact .of_eq (h us hl)
noncomputable def Passes (CX : CXT) (X : Cx) (E : XK) : Prop := ∀ (pins : List (Addr × Obj)) (σ : St) (H : Hp) (s : Shared) (e : Value) (s' : Shared), Inv X pins σ H s → CX X.stack H s E e s' → X.xe e s'
section
variable {X : Cx} {CX : CXT} {k : Nat} {f C : Addr} {fd : FuncData} {ps : List Str} {sp : Sp} {dvs : List V} {ds : List Value} {E : XK} {x m : Str} {p pos apos : Pos} {e o : Expr} {es : List Expr} {ta : TE} {t : TA}
theorem Tv {pins : List (Addr × Obj)} {σ : St} {H : Hp} {s : Shared} {Q : VK} {us : List Value} {vs : List V} (F : ZE X.prog X.w X.K X.mg X.base CX k f fd ps sp) (hr : Yr k X.A) (hb : Binds X.K fd ps ds) (hd : Vals dvs ds) (hx : Passes CX X E)
  (I : Inv X pins σ H s) (r : Vals vs us) (h : sp (vs ++ dvs) H Q E) : wpAny (model X.prog X.w) X.A (call (.ref f) us) (EP X pins σ Q) X.xe s := by
 have r2 : Vals (vs ++ dvs) (us ++ ds) := r.append hd
 have hl : (us ++ ds).length = ps.length := by rw [← r2.length]; exact F.len _ _ _ _ h
 refine wpAny_call (codeAny_mono (F.run X.A X.stack s H ⟨us, []⟩ (us ++ ds) (vs ++ dvs) Q E hr I.Zgp (hb s us I.kIn hl) r2 h) fun r s' hq => ?_)
 cases r with
 | error e => exact hx pins σ H s e s' I hq
 | ok fl =>
  cases fl with
  | ret u => exact I.after hq
  | next => exact False.elim hq
  | brk => exact False.elim hq
  | cont => exact False.elim hq
theorem Rv (F : ZE X.prog X.w X.K X.mg X.base CX k f fd ps sp) (hr : Yr k X.A) (hg : Gl X x) (hm : X.mg x = some (.ref f)) (hk : PySem.W.keepIn X.K (.ref f) = true) (hb : Binds X.K fd ps ds) (hd : Vals dvs ds) (hx : Passes CX X E)
  (ha : PA X (e :: es) t) (hdb : (x == ("__debug__" : Str)) = false := by decide) (he : starEach (e :: es) X.env = (false, eval e X.env) :: starEach es X.env := by rfl) (hpl : (backTo pos (starEach es X.env)).any (·.1) = false := by rfl) :
  PE X (.Call (.Name x p) (e :: es) [] pos) (Zde sp dvs E t) := by
 intro pins s σ H Q I h
 refine wpAny_Call_Name_kw (Hf I hg hm ?_ hdb)
 refine PySem.W.callWith_K (h₀ := X.base) I.ok.mod.kin hk (thn (ha pos pins s σ H _ I h) fun us s1 ⟨vs, H1, I1, r, q⟩ => ⟨I1.kIn, ?_⟩) he hpl
 exact Tv F hr hb hd hx I1 r q
structure Mk (K : PySem.W.Frag) (C f : Addr) : Prop where
 makes : PySem.W.makesIn K C = true
 init : PySem.W.findIn K (.ref C) "__init__" = some (some (.ref f))
 fn : PySem.W.isFn K (.ref f) = true
 kp : PySem.W.keepIn K (.ref C) = true
end
noncomputable def PK (X : Cx) (kws : List Keyword) (t : TA) : Prop :=
 ∀ (pos : Pos) (pins : List (Addr × Obj)) (s : Shared) (σ : St) (H : Hp) (Q : List V → Hp → Prop), Inv X pins σ H s → t σ H Q → wpAny (model X.prog X.w) X.A (evalAll ((backToKw pos (keywordEach kws X.env)).map (·.2))) (AP X pins σ Q) X.xe s
section
variable {X : Cx} {CX : CXT} {k : Nat} {f C : Addr} {fd : FuncData} {ps ks : List Str} {sp : Sp} {E : XK} {x m : Str} {p pos apos kpos : Pos} {e o : Expr} {es : List Expr} {kws : List Keyword} {te ta : TE} {t tk : TA} {nm : Option Str}
structure Zd6 (K : PySem.W.Frag) (fd : FuncData) (ps ks : List Str) (g : List Value → List Value → List Value) (gV : List V → List V → List V) : Prop where
 to : ∀ (s : Shared) (us ws : List Value), K.In s.heap → (g us ws).length = ps.length → BindsTo s fd ⟨us, ks.zip ws⟩ (ps.zip (g us ws))
 rel : ∀ {vs : List V} {us : List Value} {zs : List V} {ws : List Value}, Vals vs us → Vals zs ws → Vals (gV vs zs) (g us ws)
noncomputable def ZeT (sp : Sp) (gV : List V → List V → List V) (E : XK) (t tk : TA) : TE := fun σ H Q => t σ H fun vs H1 => tk σ H1 fun zs H2 => sp (gV vs zs) H2 Q E
variable {g : List Value → List Value → List Value} {gV : List V → List V → List V}
end
structure Zs (N P : List Str) (sc : Scope) : Prop where
 kind : sc.kind = .function
 co : sc.isCoroutine = false
 gen : sc.isGenerator = false
 nd : N.Nodup
 pre : N.take P.length = P
 par : ∀ x ∈ P, sc.names.lookup x = some .local ∨ sc.names.lookup x = some .cell
 nofree : ∀ y ∈ sc.names, y.2 ≠ .free
theorem UU {kindOf : Str → Option NameKind} {x : Str} : ∀ {binds : List (Str × Value)} {m : Str → Option Value}, (∀ v, (x, v) ∉ binds) → bindL kindOf binds m x = m x
 | [], _, _ => rfl
 | (n, v) :: r, m, h => by
  unfold bindL
  rw [UU fun w hw => h w (List.mem_cons_of_mem _ hw)]
  split
  ·have : x ≠ n := by rintro rfl; exact h v List.mem_cons_self
   simp [this]
  ·rfl
theorem W6 {kindOf : Str → Option NameKind} {x : Str} : ∀ {binds : List (Str × Value)} {m : Str → Option Value}, (∀ v, (x, v) ∉ binds) → bindC kindOf binds m x = m x
 | [], _, _ => rfl
 | (n, v) :: r, m, h => by
  unfold bindC
  rw [W6 fun w hw => h w (List.mem_cons_of_mem _ hw)]
  split
  ·rfl
  ·have : x ≠ n := by rintro rfl; exact h v List.mem_cons_self
   simp [this]
theorem U3 {kindOf : Str → Option NameKind} {x : Str} {v : Value} : ∀ {P : List Str} {vs : List Value} {i : Nat} {m : Str → Option Value}, P.Nodup → P[i]? = some x → vs[i]? = some v → kindOf x = some .local →
  bindL kindOf (P.zip vs) m x = some v
 | [], _, _, _, _, h, _, _ => by simp at h
 | _ :: _, [], _, _, _, _, h, _ => by simp at h
 | p :: P, w :: vs, 0, m, nd, h1, h2, hk => by
  simp at h1 h2; subst h1; subst h2
  show bindL kindOf ((p, w) :: P.zip vs) m p = _
  unfold bindL
  rw [UU fun v hv => (List.nodup_cons.mp nd).1 (List.of_mem_zip hv).1, if_pos hk]
  simp
 | p :: P, w :: vs, i + 1, m, nd, h1, h2, hk => by
  show bindL kindOf ((p, w) :: P.zip vs) m x = _
  unfold bindL
  exact U3 (i := i) (List.nodup_cons.mp nd).2 (by simpa using h1) (by simpa using h2) hk
theorem W0 {kindOf : Str → Option NameKind} {x : Str} {v : Value} : ∀ {P : List Str} {vs : List Value} {i : Nat} {m : Str → Option Value}, P.Nodup → P[i]? = some x → vs[i]? = some v → kindOf x ≠ some .local →
  bindC kindOf (P.zip vs) m x = some v
 | [], _, _, _, _, h, _, _ => by simp at h
 | _ :: _, [], _, _, _, _, h, _ => by simp at h
 | p :: P, w :: vs, 0, m, nd, h1, h2, hk => by
  simp at h1 h2; subst h1; subst h2
  show bindC kindOf ((p, w) :: P.zip vs) m p = _
  unfold bindC
  rw [W6 fun v hv => (List.nodup_cons.mp nd).1 (List.of_mem_zip hv).1, if_neg hk]
  simp
 | p :: P, w :: vs, i + 1, m, nd, h1, h2, hk => by
  show bindC kindOf ((p, w) :: P.zip vs) m x = _
  unfold bindC
  exact W0 (i := i) (List.nodup_cons.mp nd).2 (by simpa using h1) (by simpa using h2) hk
noncomputable def start (N : List Str) (vs : List V) : St := vs.map some ++ List.replicate (N.length - vs.length) none
noncomputable def N5 (CX : CXT) (P : Program) (w : World) (K : PySem.W.Frag) (mg : Str → Option Value) (base : Heap) (N : List Str) (qual : Str) (scope : Scope) (f : Addr) (cd : Value) (A : Around) (outer : List Env) (s : Shared) (H : Hp) (E : XK) : Cx where
 prog := P
 w := w
 K := K
 mg := mg
 base := base
 A := A.deeper (envOfC qual scope s.heap.objs.size f cd)
 N := N
 s₀ := s
 H₀ := H
 env := envOfC qual scope s.heap.objs.size f cd
 outer := outer
 stack := envOfC qual scope s.heap.objs.size f cd :: outer
 ex := []
 calm := true
 fn := fun _ => true
 pn := []
 xe := fun e s' => wpAny (model P w) (A.deeper (envOfC qual scope s.heap.objs.size f cd)) (leaving (envOfC qual scope s.heap.objs.size f cd) e) (fun _ s'' => CX outer H s E e s'') (fun e' s'' => CX outer H s E e' s'') s'
theorem Cf {sc : Scope} {n : Nat} {x : Str} (h : sc.names.lookup x = some .cell) : ∃ c, (cellsFrom n sc.names []).lookup x = some c := by
 have q := PySem.W.cellsFrom_some sc.names n [] (.inl h)
 exact Option.isSome_iff_exists.mp q
theorem Hg {CX : CXT} {P : Program} {w : World} {K : PySem.W.Frag} {mg : Str → Option Value} {base : Heap} {N ps : List Str} {qual : Str} {scope : Scope} {f : Addr} {cd : Value} {A : Around} {outer : List Env} {s s1 : Shared} {H : Hp} {E : XK} {us : List Value} {vs : List V}
  (S : Zs N ps scope) (hd : A.handled = none) (e0 : Zcb P w K mg base A outer s H) (hl : vs.length = ps.length) (r : Vals vs us)
  (x : InCallC s s.heap.objs.size (bindL (envOfC qual scope s.heap.objs.size f cd).kindOf (ps.zip us) fun _ => none) (cellsFrom (s.heap.objs.size + 1) scope.names []) (bindC (envOfC qual scope s.heap.objs.size f cd).kindOf (ps.zip us) fun _ => none) s1) :
  Inv (N5 CX P w K mg base N qual scope f cd A outer s H E) [] (start N vs) H s1 := by
 have hpl : ps.length ≤ N.length := by have := congrArg List.length S.pre; rw [List.length_take] at this; omega
 obtain ⟨h1, tk, rfl, hk⟩ := x.done
 have noA : ∀ b : Addr, b ∉ (N5 CX P w K mg base N qual scope f cd A outer s H E).ex := fun b z => absurd (show b ∈ ([] : List Addr) from z) (by simp)
 refine ⟨⟨e0.mod, S.kind, rfl, rfl, Nat.le_refl _, fun y z c h1 h2 => ?_, fun y hy => ?_, fun y c _ h => ?_, fun _ => hd, Around.frames_deeper e0.frames, .inr ⟨rfl, rfl⟩, fun b z => absurd z (noA b), e0.bs, e0.bsz, fun b _ _ => noA b, fun b z => absurd z (noA b), e0.FI, e0.frf⟩,
  rfl, e0.bare, Un.kept hk, ⟨_, x.toInCall.ns, fun i y v h1 h2 h3 => ?_⟩, fun y c h => ⟨_, x.cell y c h⟩, e0.hok.fresh (Nat.le_refl _), fun y c h => ?_, fun p hp => absurd (show p ∈ ([] : List (Addr × Obj)) from hp) (by simp), e0.hok.kept hk, ?_⟩
 ·exact name_of_addr x.apart (PySem.mem_of_lookup h1) (PySem.mem_of_lookup h2)
 ·have hy : scope.names.lookup y = some .cell ∨ scope.names.lookup y = some .free := hy
  rcases hy with hy | hy
  ·exact Cf hy
  ·exact absurd rfl (S.nofree _ (PySem.mem_of_lookup hy))
 ·exact Nat.le_of_lt (x.above y c (PySem.mem_of_lookup h))
 ·have hi : i < vs.length := by
   unfold start at h2
   by_cases hi : i < vs.length
   ·exact hi
   ·rw [List.getElem?_append_right (by simpa using hi)] at h2
    rw [List.getElem?_replicate] at h2
    split at h2 <;> cases h2
  have ha : vs[i]? = some v := by
   unfold start at h2
   rw [List.getElem?_append_left (by simpa using hi), List.getElem?_map] at h2
   cases e : vs[i]? with
   | none => rw [e] at h2; cases h2
   | some a => rw [e] at h2; cases h2; rfl
  obtain ⟨u, hu, rv⟩ := r.get ha
  have hp : ps[i]? = some y := by
   rw [← S.pre, List.getElem?_take_of_lt (by omega)]; exact h1
  have ndP : ps.Nodup := by rw [← S.pre]; exact S.nd.sublist (List.take_sublist _ _)
  refine ⟨u, rv, ?_⟩
  rcases S.par y (List.mem_of_getElem? hp) with k | k
  ·exact .inl ⟨k, U3 ndP hp hu k⟩
  ·obtain ⟨c, e⟩ := Cf (n := s.heap.objs.size + 1) k
   refine .inr ⟨.inl k, c, e, ?_⟩
   have q := x.cell y c e
   rw [W0 ndP hp hu (by show scope.names.lookup y ≠ _; rw [k]; decide)] at q
   exact q
 ·exact e0.hok.fresh (Nat.le_of_lt (x.above y c (PySem.mem_of_lookup h)))
 ·unfold start
  show _ = N.length
  rw [List.length_append, List.length_map, List.length_replicate]
  omega
theorem Zc9 {CX : CXT} {P : Program} {w : World} {K : PySem.W.Frag} {mg : Str → Option Value} {base : Heap} {k : Nat} {f : Addr} {name qual : Str} {params : Arguments} {body : List Stmt} {scope : Scope} {dV kV doc pm cdv ct oc : Value} {an od : Option Addr}
  {osl : Array (Option Value)} {N ps : List Str} {sp : Sp} (lk : K.lookup f = some ⟨oc, od, .func (PySem.W.fnOf name qual params body scope dV kV doc pm an cdv ct), osl⟩) (hcd : PySem.W.codeIn K cdv qual = true) (S : Zs N ps scope)
  (len : ∀ vs H Q E, sp vs H Q E → vs.length = ps.length)
  (hbody : ∀ (A : Around) (outer : List Env) (s : Shared) (H : Hp) (vs : List V) (Q : VK) (E : XK), Yr k (A.deeper (envOfC qual scope s.heap.objs.size f cdv)) → sp vs H Q E →
   ∃ t, PSs (N5 CX P w K mg base N qual scope f cdv A outer s H E) body t ∧ t { nx := fun _ H' => Q .non H', rt := Q } (start N vs) H) :
  ZE P w K mg base CX (k + 1) f (PySem.W.fnOf name qual params body scope dV kV doc pm an cdv ct) ps sp := by
 refine ⟨len, fun A outer s H args us vs Q E hr e0 hb r hsp => ?_⟩
 have hl := len _ _ _ _ hsp
 have KX : K.In s.heap := e0.mod.kin.keeps fun b o e => (e0.bs b o e).1
 have lim : s.heap.NoLimit := e0.mod.nolimit.keeps fun b o e => (e0.bs b o e).1
 have hkind : ∀ y ∈ ps.zip us, scope.names.lookup y.1 = some .local ∨ (scope.names.lookup y.1 = some .cell ∧ ((cellsFrom (s.heap.objs.size + 1) scope.names []).lookup y.1).isSome = true) := fun ⟨n, v⟩ hy => by
  rcases S.par n (List.of_mem_zip hy).1 with q | q
  ·exact .inl q
  ·exact .inr ⟨q, PySem.W.cellsFrom_some _ _ _ (.inl q)⟩
 refine codeAny_call_function hr.depth (KX _ _ lk) rfl S.co S.gen rfl (PySem.W.codeRec_of KX hcd) (hb _ _ _ _ ?_)
 refine wpAny_newFunctionEnv_cells S.kind hkind fun env he s1 x => ?_
 subst he
 refine ⟨lim.keeps x.toInCall.keep, codeAny_func ?_⟩
 obtain ⟨t, ht, hq⟩ := hbody A outer s H vs Q E (hr.deeper _) hsp
 have I : Inv (N5 CX P w K mg base N qual scope f cdv A outer s H E) [] (start N vs) H s1 := Hg S hr.hd e0 hl r x
 refine wpAny_mono (ht [] s1 (start N vs) H _ I hq) (fun fl s' hs => ?_) fun e s' hs => hs
 have fin : ∀ {σ' : St} {H' : Hp} {v : V} {u : Value}, Inv (N5 CX P w K mg base N qual scope f cdv A outer s H E) [] σ' H' s' → RelV v u → Q v H' → CE outer P w H s Q u s' :=
  fun {σ' H' v u} J rv q => ⟨v, H', J.os, J.bare, J.base, J.hok, rv, q⟩
 cases fl with
 | ret u =>
  obtain ⟨v, σ', H', J, rv, q⟩ := hs
  exact fin J rv q
 | next =>
  obtain ⟨σ', H', J, q⟩ := hs
  exact fin (v := V.non) (u := Value.none) J rfl q
 | brk =>
  obtain ⟨_, _, _, q⟩ := hs
  exact False.elim q
 | cont =>
  obtain ⟨_, _, _, q⟩ := hs
  exact False.elim q
end L2
namespace L2
open PySem PySem.Spec PyProof.Rows
section
variable {X : Cx} {x : Str} {p pos : Pos} {e : Expr} {es : List Expr} {t : TA} {id T : String} {r : List V → Hp → VK → Prop}
noncomputable def tCB (r : List V → Hp → VK → Prop) (t : TA) : TE := fun σ H Q => t σ H fun vs H1 => r vs H1 Q
theorem MD (hc : J9 X (.builtin id) r) (hg : Gl X x) (hm : X.mg x = none) (hv : bootBuiltins x = some (.builtin id)) (ha : PA X (e :: es) t) (hn : x ≠ "__name__" := by decide) (hdb : (x == ("__debug__" : Str)) = false := by decide)
  (he : starEach (e :: es) X.env = (false, eval e X.env) :: starEach es X.env := by rfl) (hpl : (backTo pos (starEach es X.env)).any (·.1) = false := by rfl) : PE X (.Call (.Name x p) (e :: es) [] pos) (tCB r t) := by
 intro pins s σ H Q I h
 refine wpAny_Call_Name_kw (U8 I hg hm hv ?_ hn hdb)
 exact PyProof.Rows.callWith_builtin1 (thn (ha pos pins s σ H _ I h) fun us s1 ⟨vs, H1, I1, r1, q1⟩ => hc pins s1 σ H1 vs us Q I1 r1 q1) he hpl
theorem Es (hc : J9 X (.type T) r) (hg : Gl X x) (hm : X.mg x = none) (hv : bootBuiltins x = some (.type T)) (ha : PA X (e :: es) t) (hn : x ≠ "__name__" := by decide) (hdb : (x == ("__debug__" : Str)) = false := by decide)
  (he : starEach (e :: es) X.env = (false, eval e X.env) :: starEach es X.env := by rfl) (hpl : (backTo pos (starEach es X.env)).any (·.1) = false := by rfl) : PE X (.Call (.Name x p) (e :: es) [] pos) (tCB r t) := by
 intro pins s σ H Q I h
 refine wpAny_Call_Name_kw (U8 I hg hm hv ?_ hn hdb)
 exact PyProof.Rows.callWith_type1 (thn (ha pos pins s σ H _ I h) fun us s1 ⟨vs, H1, I1, r1, q1⟩ => hc pins s1 σ H1 vs us Q I1 r1 q1) he hpl
end
end L2
namespace HT
open PySem PyProof.Rows
noncomputable def lexLt : List Int → List Int → Bool
 | [], [] => false
 | [], _ :: _ => true
 | _ :: _, [] => false
 | x :: xs, y :: ys => if x = y then lexLt xs ys else decide (x < y)
section
open PySem.SeqAt
open PySem.AutoSeq1 (wpAny_loadPart')
open PySem.MeetsSeq PySem.MeetsSeq2 PySem.MeetsSeq3
end
section
variable {prog : Program} {w : World} {A : Around} {E : Value → Shared → Prop} {s : Shared}
noncomputable def sIx (n d : Nat) : Option Int → Nat
 | none => d
 | some v => if v < 0 then (v + (n : Int)).toNat else min v.toNat n
theorem Wz (n d : Nat) : sIx n d none = d := rfl
theorem PU (n d k : Nat) : sIx n d (some (k : Int)) = min k n := by
 show (if (k : Int) < 0 then ((k : Int) + (n : Int)).toNat else min (k : Int).toNat n) = min k n
 rw [if_neg (by omega), Int.toNat_natCast]
theorem K3 (n d : Nat) (hd : d ≤ n) (o : Option Int) : sIx n d o ≤ n := by
 cases o with
 | none => exact hd
 | some v =>
  show (if v < 0 then (v + (n : Int)).toNat else min v.toNat n) ≤ n
  by_cases hv : v < 0
  ·rw [if_pos hv]; omega
  ·rw [if_neg hv]; exact Nat.min_le_right _ _
theorem Gs (v : Int) (n d : Nat) : (if v < 0 then max (v + (n : Int)) 0 else min v (n : Int)) = ((sIx n d (some v) : Nat) : Int) := by
 show (if v < 0 then max (v + (n : Int)) 0 else min v (n : Int)) = (((if v < 0 then (v + (n : Int)).toNat else min v.toNat n) : Nat) : Int)
 by_cases hv : v < 0
 ·simp only [if_pos hv]; omega
 ·simp only [if_neg hv]; omega
theorem CC (lo hi : Option Int) (n : Nat) : Builtin.Slice.sliceAdjust lo hi 1 (n : Int) = (((sIx n 0 lo : Nat) : Int), ((sIx n n hi : Nat) : Int)) := by
 have h1 : ¬ ((1 : Int) < 0) := by omega
 unfold Builtin.Slice.sliceAdjust
 simp only [h1, if_false]
 refine Prod.ext ?_ ?_
 ·cases lo with
  | none => rfl
  | some v => exact Gs v n 0
 ·cases hi with
  | none => rfl
  | some v => exact Gs v n n
theorem CN (i j : Nat) : Builtin.Slice.slicePlaces (i : Int) (j : Int) 1 = j - i := by
 unfold Builtin.Slice.slicePlaces
 have h1 : (1 : Int) > 0 := by omega
 simp only [h1, if_true, Int.ediv_one]
 split <;> omega
theorem K2 {v : Value} {o : Option Int} {Q : Option Int → Shared → Prop} (p : IsPart v o) (h : Q o s) : wpAny (model prog w) A (Builtin.Slice.slicePartIndex v) Q E s := by
 cases p with
 | none => exact slicePart_none h
 | int i t => exact slicePart_int h
theorem Xt {sl : Addr} {vl vu : Value} {lo hi : Option Int} {n : Nat} {Q : Int × Int × Nat → Shared → Prop} (hs : s.heap.IsSliceOf sl vl vu .none) (pl : IsPart vl lo) (pu : IsPart vu hi)
  (h : Q (((sIx n 0 lo : Nat) : Int), 1, sIx n n hi - sIx n 0 lo) s) : wpAny (model prog w) A (Builtin.Slice.sliceApplied (.ref sl) (pure (n : Int))) Q E s := by
 obtain ⟨os, hos, hcs, hds⟩ := id hs
 unfold Builtin.Slice.sliceApplied Builtin.Slice.sliceFields
 refine wpAny_bind (wpAny_bind (wpAny_field hos hds (x := vl) rfl (wpAny_bind (wpAny_field hos hds (x := vu) rfl (wpAny_bind (wpAny_field hos hds (x := .none) rfl (wpAny_pure ?_)))))))
 refine wpAny_bind (slicePart_none ?_)
 show wpAny _ _ (if ((1 : Int) == 0) = true then _ else _) _ _ s
 rw [if_neg (by decide)]
 refine wpAny_bind (K2 pl (wpAny_bind (K2 pu (wpAny_bind (wpAny_pure ?_)))))
 show wpAny _ _ (match Builtin.Slice.sliceAdjust lo hi 1 (n : Int) with | (lo, hi) => pure (lo, (1 : Int), Builtin.Slice.slicePlaces lo hi 1)) _ _ s
 rw [CC lo hi n]
 show wpAny _ _ (pure (((sIx n 0 lo : Nat) : Int), (1 : Int), Builtin.Slice.slicePlaces ((sIx n 0 lo : Nat) : Int) ((sIx n n hi : Nat) : Int) 1)) _ _ s
 rw [CN]
 exact wpAny_pure h
theorem LI (xs : Array Value) (i k : Nat) : ((List.range k).filterMap fun (m : Nat) => xs[((i : Int) + (m : Int) * 1).toNat]?).toArray = ((xs.toList.drop i).take k).toArray := by
 have e : (fun (m : Nat) => xs[((i : Int) + (m : Int) * 1).toNat]?) = fun m => xs[i + m]? := by
  funext m
  have : ((i : Int) + (m : Int) * 1).toNat = i + m := by omega
  rw [this]
 rw [e]
 have := pick_run xs i k
 rw [List.filterMap_map] at this
 have e2 : ((fun x => xs[x]?) ∘ fun x => i + x) = fun m => xs[i + m]? := rfl
 rw [e2] at this
 rw [this]
theorem YZ {t sl : Addr} {items : Array Value} {vl vu : Value} {lo hi : Option Int} {Q : Value → Shared → Prop} (ht : IsTup s.heap t items) (hs : s.heap.IsSliceOf sl vl vu .none) (pl : IsPart vl lo) (pu : IsPart vu hi)
  (hw : ¬ (sIx items.size 0 lo = 0 ∧ sIx items.size items.size hi = items.size))
  (h : Q (.ref s.heap.objs.size) { s with heap := s.heap.push { cls := .type "tuple", data := .seq ((items.toList.drop (sIx items.size 0 lo)).take (sIx items.size items.size hi - sIx items.size 0 lo)).toArray } })
  (hsz : items.size ≤ sizeLine) : wpAny (model prog w) A (getItem (.ref t) (.ref sl)) Q E s := by
 have htake : sizeOk (.seq ((items.toList.drop (sIx items.size 0 lo)).take (sIx items.size items.size hi - sIx items.size 0 lo)).toArray) := by
  show ((items.toList.drop (sIx items.size 0 lo)).take (sIx items.size items.size hi - sIx items.size 0 lo)).toArray.size ≤ sizeLine
  rw [List.size_toArray, List.length_take, List.length_drop, Array.length_toList]
  omega
 have hj : sIx items.size items.size hi ≤ items.size := K3 _ _ (Nat.le_refl _) hi
 obtain ⟨os, hos, hcs, hds⟩ := id hs
 have hTs : s.TypeIs (.ref sl) "slice" := ⟨os, hos, hcs⟩
 unfold getItem
 try with_reducible refine wpAny_holding ?_
 first | refine wpAny_bind (wpAny_pure ?_) | skip
 refine wpAny_bind (wpAny_sequenceKey ht.typeIs (by decide) ?_)
 refine wpAny_bind (wpAny_callSpecial?_slot (name := Str.ofString "__getitem__") ht.typeIs PyProof.Rows.slot_tuple_getitem
  (wpAny_call_entry PyProof.Rows.slot_tuple_getitem ht.typeIs entry_tuple_getitem ?_ (args_tuple_getitem _ _)))
 show wpAny _ _ (Builtin.Tuple.tupleItemsOf (.ref t) >>= _) _ _ s
 refine wpAny_bind (tupleItemsOf_ ht ?_)
 refine wpAny_bind (wpAny_typeOf hTs ?_)
 rw [if_pos (by decide)]
 refine wpAny_bind (Xt hs pl pu ?_)
 have hno : ¬ ((((sIx items.size 0 lo : Nat) : Int) == 0 && (1 : Int) == 1 && (sIx items.size items.size hi - sIx items.size 0 lo) == items.size) = true) := by
  intro q
  rw [Bool.and_eq_true, Bool.and_eq_true] at q
  have q1 : ((sIx items.size 0 lo : Nat) : Int) = 0 := eq_of_beq q.1.1
  have q2 : sIx items.size items.size hi - sIx items.size 0 lo = items.size := eq_of_beq q.2
  exact hw ⟨by omega, by omega⟩
 show wpAny _ _ (if (((sIx items.size 0 lo : Nat) : Int) == 0 && (1 : Int) == 1 && (sIx items.size items.size hi - sIx items.size 0 lo) == items.size) = true then _ else _) _ _ s
 rw [if_neg hno, LI]
 first
  | exact wpAny_bind (m := Builtin.Tuple.tupleExact _) (wpAny_newObj_type (wpAny_pure ⟨_, rfl, wpAny_pure h⟩) htake)
  | exact wpAny_bind (m := Builtin.Tuple.tupleExact _) (wpAny_newObj_type (wpAny_bind (wpAny_pure (wpAny_pure ⟨_, rfl, wpAny_pure h⟩))) htake)
  | exact wpAny_bind (wpAny_bind (m := Builtin.Tuple.tupleExact _) (wpAny_newObj_type (wpAny_pure (wpAny_pure ⟨_, rfl, wpAny_pure h⟩)) htake))
  | exact wpAny_bind (wpAny_bind (m := Builtin.Tuple.tupleExact _) (wpAny_newObj_type (wpAny_pure ⟨_, rfl, wpAny_pure h⟩) htake))
end
end HT
namespace L2
open PySem PySem.Spec PyProof.Rows
noncomputable abbrev TO := St → Hp → (Option Int → Hp → Prop) → Prop
noncomputable def PO (X : Cx) (e : Option Expr) (t : TO) : Prop :=
 ∀ (pins : List (Addr × Obj)) (s : Shared) (σ : St) (H : Hp) (Q : Option Int → Hp → Prop), Inv X pins σ H s → t σ H Q →
  wpAny (model X.prog X.w) X.A (evalPart e X.env) (fun u s' => ∃ o H', Inv X pins σ H' s' ∧ IsPart u o ∧ Q o H') X.xe s
noncomputable def Rq : TO := fun _ H Q => Q none H
noncomputable def ZcY (t : TE) : TO := fun σ H Q => t σ H fun x H1 => ∃ i, x = .int i ∧ Q (some i) H1
section
variable {X : Cx} {e : Expr} {te : TE} {lo hi : Option Expr} {tl th : TO} {pos p2 : Pos}
theorem P2 : PO X none Rq := by
 intro pins s σ H Q I h
 rw [evalPart_none]
 exact wpAny_pure ⟨none, H, I, .none, h⟩
theorem RF (h : PE X e te) : PO X (some e) (ZcY te) := by
 intro pins s σ H Q I hw
 rw [evalPart_some]
 refine thn (h pins s σ H _ I hw) fun u s1 ⟨x, H1, I1, r1, q1⟩ => ?_
 obtain ⟨i, rfl, q⟩ := q1
 obtain ⟨t, rfl⟩ := r1
 exact ⟨some i, H1, I1, .int i t, q⟩
noncomputable def SlR (X : Cx) (r : V → Option Int → Option Int → Hp → VK → Prop) : Prop :=
 ∀ (pins : List (Addr × Obj)) (s : Shared) (σ : St) (H : Hp) (x : V) (v vl vu : Value) (lo hi : Option Int) (sl : Addr) (Q : VK), Inv X pins σ H s → RelV x v → s.heap.IsSliceOf sl vl vu .none → IsPart vl lo → IsPart vu hi → r x lo hi H Q →
  ∃ T id, typeLookup (.type T) "__getitem__" = pure (some (.builtin id)) ∧ s.TypeIs v T ∧ wpAny (model X.prog X.w) X.A (getItem v (.ref sl)) (EP X pins σ Q) X.xe s
theorem SlR.or {r r' : V → Option Int → Option Int → Hp → VK → Prop} (h : SlR X r) (h' : SlR X r') : SlR X (fun x lo hi H Q => r x lo hi H Q ∨ r' x lo hi H Q) := by
 intro pins s σ H x v vl vu lo hi sl Q I rx hs pl pu q
 rcases q with q | q
 ·exact h pins s σ H x v vl vu lo hi sl Q I rx hs pl pu q
 ·exact h' pins s σ H x v vl vu lo hi sl Q I rx hs pl pu q
noncomputable def tSl (r : V → Option Int → Option Int → Hp → VK → Prop) (te : TE) (tl th : TO) : TE := fun σ H Q => te σ H fun x H1 => tl σ H1 fun l H2 => th σ H2 fun u H3 => r x l u H3 Q
theorem Wl {r : V → Option Int → Option Int → Hp → VK → Prop} (hr : SlR X r) (he : PE X e te) (hl : PO X lo tl) (hu : PO X hi th) : PE X (.Subscript e (.Slice lo hi none p2) pos) (tSl r te tl th) := by
 intro pins s σ H Q I h
 refine Subscript_ (thn (he pins s σ H _ I h) fun v s1 ⟨x, H1, I1, r1, q1⟩ => ?_)
 refine wpAny_Slice (thn (hl pins s1 σ H1 _ I1 q1) fun vl s2 ⟨l, H2, I2, pl, q2⟩ => thn (hu pins s2 σ H2 _ I2 q2) fun vu s3 ⟨u, H3, I3, pu, q3⟩ => ?_)
 rw [evalPart_none]
 refine wpAny_pure ?_
 have I4 : Inv X pins σ H3 { s3 with heap := s3.heap.push { cls := .type "slice", data := .fields #[vl, vu, .none] } } := I3.kept (t' := s3.toks) fun b ob q => Heap.get?_push_of_some _ q
 obtain ⟨T, id, hT, ht, hg⟩ := hr pins { s3 with heap := s3.heap.push { cls := .type "slice", data := .fields #[vl, vu, .none] } } σ H3 x v vl vu l u s3.heap.objs.size Q I4 r1 (Heap.IsSliceOf.new ..) pl pu q3
 show wpAny (model X.prog X.w) X.A (subscriptTail e (.Slice lo hi none p2) v (.ref s3.heap.objs.size)) (EP X pins σ Q) X.xe { s3 with heap := s3.heap.push { cls := .type "slice", data := .fields #[vl, vu, .none] } }
 exact tail_any (ops := [.ref s3.heap.objs.size, v]) ht hT hg (by with_unfolding_all rfl)
noncomputable def N3 (xs : List V) (lo hi : Option Int) : List V := (xs.drop (HT.sIx xs.length 0 lo)).take (HT.sIx xs.length xs.length hi - HT.sIx xs.length 0 lo)
theorem X6 (xs : List V) (lo hi : Option Int) : (N3 xs lo hi).length ≤ xs.length := by
 unfold N3
 rw [List.length_take, List.length_drop]
 omega
noncomputable def Zf6 (K : PySem.W.Frag) : V → Option Int → Option Int → Hp → VK → Prop := fun x lo hi H Q => ∃ a xs, x = .ref a ∧ SqT K H a xs ∧
 ¬ (HT.sIx xs.length 0 lo = 0 ∧ HT.sIx xs.length xs.length hi = xs.length) ∧ ∀ p, H p = none → Q (.ref p) (upd H p (.tup (N3 xs lo hi)))
theorem Zau : SlR X (Zf6 X.K) := by
 intro pins s σ H x v vl vu lo hi sl Q I rx hs pl pu h
 obtain ⟨a, xs, rfl, hx, hw, q⟩ := h
 cases rx
 obtain ⟨its, r, ht, hz⟩ := I.tuple hx
 have hlen : its.toArray.size = xs.length := by rw [List.size_toArray]; exact r.length.symm
 refine ⟨"tuple", _, PyProof.Rows.slot_tuple_getitem.lookup, ht.typeIs, ?_⟩
 refine HT.YZ ht hs pl pu (by rw [hlen]; exact hw) ?_ (by rw [hlen]; exact hz)
 rw [hlen]
 refine ⟨.ref s.heap.objs.size, _, I.laid (t' := s.toks) (o := .tup (N3 xs lo hi)) (fun b ob q => Heap.get?_push_of_some _ q) (Nat.le_refl _) ?_, rfl, q _ (I.hok.fresh (Nat.le_refl _))⟩
 exact ⟨Nat.le_trans (X6 xs lo hi) hz, _, (r.drop (HT.sIx xs.length 0 lo)).take (HT.sIx xs.length xs.length hi - HT.sIx xs.length 0 lo), IsTup.new _ _⟩
noncomputable def Zg4 (K : PySem.W.Frag) : R2 := fun x y H Q => ∃ a b ns ms, x = .ref a ∧ y = .ref b ∧ SqT K H a (ns.map V.int) ∧ SqT K H b (ms.map V.int) ∧ Q (.bl (HT.lexLt ns ms)) H
noncomputable def ZfV (K : PySem.W.Frag) : R2 := fun x y H Q => ∃ a b xs ys, x = .ref a ∧ y = .ref b ∧ SqT K H a xs ∧ SqT K H b ys ∧ xs ≠ [] ∧ xs.length + ys.length ≤ sizeLine ∧
 (ys = [] → Q (.ref a) H) ∧ (ys ≠ [] → ∀ p, H p = none → Q (.ref p) (upd H p (.tup (xs ++ ys))))
end
end L2
namespace L2
open PySem PySem.Spec PyProof.Rows
noncomputable def ixN (n : Nat) (i : Int) : Option Nat := if 0 ≤ i then (if i < n then some i.toNat else none) else if -(n : Int) ≤ i then some (i + n).toNat else none
noncomputable def atI {α : Type} (xs : List α) (i : Int) : Option α := (ixN xs.length i).bind fun j => xs[j]?
theorem E6 {n : Nat} {i : Int} {j : Nat} (h : ixN n i = some j) : seqIndex? i n = some j ∧ j < n ∧ -(n : Int) ≤ i ∧ i < n := by
 unfold ixN at h
 by_cases h0 : 0 ≤ i
 ·rw [if_pos h0] at h
  by_cases h1 : i < n
  ·rw [if_pos h1] at h
   have e : i.toNat = j := Option.some.inj h
   exact ⟨by rw [seqIndex_of h0 h1, e], by omega, by omega, h1⟩
  ·rw [if_neg h1] at h; cases h
 ·rw [if_neg h0] at h
  by_cases h1 : -(n : Int) ≤ i
  ·rw [if_pos h1] at h
   have e : (i + n).toNat = j := Option.some.inj h
   exact ⟨by rw [seqIndex_neg (by omega) h1, e], by omega, h1, by omega⟩
  ·rw [if_neg h1] at h; cases h
theorem Gp {α : Type} {xs : List α} {i : Int} {v : α} (h : atI xs i = some v) : ∃ j, seqIndex? i xs.length = some j ∧ xs[j]? = some v ∧ j < xs.length ∧ -(xs.length : Int) ≤ i ∧ i < xs.length := by
 unfold atI at h
 cases e : ixN xs.length i with
 | none => rw [e] at h; cases h
 | some j =>
  rw [e] at h
  obtain ⟨h1, h2, h3, h4⟩ := E6 e
  exact ⟨j, h1, h, h2, h3, h4⟩
theorem Yh {α : Type} {xs : List α} {j : Nat} {v : α} (h : xs[j]? = some v) : atI xs (j : Int) = some v := by
 have hj : j < xs.length := (List.getElem?_eq_some_iff.mp h).1
 have e : ixN xs.length (j : Int) = some j := by
  unfold ixN
  rw [if_pos (by omega), if_pos (by omega)]; simp
 unfold atI; rw [e]; exact h
noncomputable def Be (b : Expr) : Prop := ∀ o i, subscripted b false o i = operate [o, i] (getItem o i)
noncomputable def IxR (X : Cx) (r : R2) : Prop :=
 ∀ (value slice : Expr) (pins : List (Addr × Obj)) (s : Shared) (σ : St) (H : Hp) (x y : V) (v u : Value) (Q : VK), Inv X pins σ H s → RelV x v → RelV y u → r x y H Q →
  subscripted slice false v u = operate [v, u] (getItem v u) → wpAny (model X.prog X.w) X.A (subscriptTail value slice v u) (EP X pins σ Q) X.xe s
noncomputable def MtR (X : Cx) (id : String) (r : V → List V → Hp → VK → Prop) : Prop :=
 ∀ (pins : List (Addr × Obj)) (s : Shared) (σ : St) (H : Hp) (x : V) (xs : List V) (v : Value) (us : List Value) (Q : VK), Inv X pins σ H s → RelV x v → Vals xs us → r x xs H Q →
  wpAny (model X.prog X.w) X.A (call (.builtin id) (v :: us)) (EP X pins σ Q) X.xe s
section
variable {X : Cx} {a b : Expr} {ta tb : TE} {pos : Pos}
theorem IxR.or {r r' : R2} (h : IxR X r) (h' : IxR X r') : IxR X (fun x y H Q => r x y H Q ∨ r' x y H Q) := by
 intro value slice pins s σ H x y v u Q I rx ry q hs
 rcases q with q | q
 ·exact h value slice pins s σ H x y v u Q I rx ry q hs
 ·exact h' value slice pins s σ H x y v u Q I rx ry q hs
theorem MtR.or {id : String} {r r' : V → List V → Hp → VK → Prop} (h : MtR X id r) (h' : MtR X id r') : MtR X id (fun x xs H Q => r x xs H Q ∨ r' x xs H Q) := by
 intro pins s σ H x xs v us Q I rx rs q
 rcases q with q | q
 ·exact h pins s σ H x xs v us Q I rx rs q
 ·exact h' pins s σ H x xs v us Q I rx rs q
theorem ZaB {r : R2} (hr : IxR X r) (ha : PE X a ta) (hb : PE X b tb) (hs : Be b) : PE X (.Subscript a b pos) (tOp r ta tb) := by
 intro pins s σ H Q I h
 exact Subscript_ (Zcx ha hb I h fun v u s2 x y H2 I2 rx ry q => hr a b pins s2 σ H2 x y v u Q I2 rx ry q (hs _ _))
noncomputable def Zew (K : PySem.W.Frag) : R2 := fun x y H Q => ∃ p xs i v, x = .ref p ∧ y = .int i ∧ SqL K H p xs ∧ atI xs i = some v ∧ Q v H
noncomputable def Ze1 (K : PySem.W.Frag) : R2 := fun x y H Q => ∃ p xs i v, x = .ref p ∧ y = .int i ∧ SqT K H p xs ∧ atI xs i = some v ∧ Q v H
noncomputable def ZeR : R2 := fun x y H Q => ∃ z i c, x = .str z ∧ y = .int i ∧ z.length ≤ sizeLine ∧ atI z.cps.toList i = some c ∧ Q (.str ⟨#[c]⟩) H
theorem P6 : IxR X (Zew X.K) := by
 intro value slice pins s σ H x y v u Q I rx ry h hs
 obtain ⟨p, xs, i, z, rfl, rfl, hq, he, q⟩ := h
 cases rx
 obtain ⟨t, rfl⟩ := ry
 obtain ⟨its, r, pl, hz⟩ := I.list hq
 obtain ⟨j, h1, h2, h3, h4, h5⟩ := Gp he
 obtain ⟨w, ew, rw'⟩ := r.get h2
 have hl := r.length
 have hn := K1
 have fin : EP X pins σ Q w s := ⟨z, H, I, rw', q⟩
 by_cases h0 : 0 ≤ i
 ·have hj : i.toNat = j := by
   rw [seqIndex_of h0 h5] at h1
   exact Option.some.inj h1
  exact item_listR pl.isList h0 (by omega) (by rw [hj]; simpa using ew) fin hs
 ·have hj : (i + (its.toArray.size : Int)).toNat = j := by
   rw [seqIndex_neg (by omega) h4] at h1
   rw [List.size_toArray, ← hl]
   exact Option.some.inj h1
  exact subscriptTail_builtinR (x := w) pl.isList.typeIs slot_list_getitem.lookup
   (wpAny_getItem_list_neg (Q := fun r s' => r = w ∧ EP X pins σ Q r s') pl.isList (by omega) (by rw [List.size_toArray] <;> omega) (by omega) (by rw [hj]; simpa using ew) ⟨rfl, fin⟩) hs
theorem Zal : IxR X (Ze1 X.K) := by
 intro value slice pins s σ H x y v u Q I rx ry h hs
 obtain ⟨p, xs, i, z, rfl, rfl, hq, he, q⟩ := h
 cases rx
 obtain ⟨t, rfl⟩ := ry
 obtain ⟨its, r, pl, hz⟩ := I.tuple hq
 obtain ⟨j, h1, h2, h3, h4, h5⟩ := Gp he
 obtain ⟨w, ew, rw'⟩ := r.get h2
 have hl := r.length
 have hn := K1
 have fin : EP X pins σ Q w s := ⟨z, H, I, rw', q⟩
 exact subscriptTail_builtinR (x := w) pl.typeIs slot_tuple_getitem.lookup
  (getItem_tuple (j := j) (Q := fun r s' => r = w ∧ EP X pins σ Q r s') pl (by omega) (by omega) (by rw [List.size_toArray, ← hl]; exact h1) (by simpa using ew) ⟨rfl, fin⟩) hs
theorem NX : IxR X ZeR := by
 intro value slice pins s σ H x y v u Q I rx ry h hs
 obtain ⟨z, i, c, rfl, rfl, hz, he, q⟩ := h
 obtain ⟨t, rfl⟩ := rx
 obtain ⟨t', rfl⟩ := ry
 obtain ⟨j, h1, h2, h3, h4, h5⟩ := Gp he
 have hl : z.cps.toList.length = z.length := by simp [Str.length]
 rw [hl] at h1 h4 h5
 have hn := K1
 exact tail_any (typeIs_str s z t) slot_str_getitem.lookup (getItem_str (c := c) (by
  have e1 : decide (i < -(2 ^ 63 : Int)) = false := decide_eq_false (by omega)
  have e2 : decide (i ≥ 2 ^ 63) = false := decide_eq_false (by omega)
  rw [e1, e2, Bool.or_false]) (by rw [h1]; simpa using h2) ⟨.str ⟨#[c]⟩, H, I.tok _, ⟨_, rfl⟩, q⟩) hs
noncomputable def rIx (K : PySem.W.Frag) : R2 := fun x y H Q => Zew K x y H Q ∨ Ze1 K x y H Q ∨ ZeR x y H Q
theorem ZbJ : IxR X (rIx X.K) := P6.or (Zal.or NX)
theorem C4 (its : List Value) (n j : Nat) (u : Value) : Obj.mapSeq (·.setIfInBounds j u) { cls := .type "list", data := .seq its.toArray n } = { cls := .type "list", data := .seq (its.set j u).toArray n } := by
 simp [Obj.mapSeq]
theorem Inv.lst {pins : List (Addr × Obj)} {σ : St} {H : Hp} {s : Shared} {p : Addr} {xs : List V} (I : Inv X pins σ H s) (h : H p = some (.lst xs)) :
  ∃ (its : List Value) (n : Nat), Vals xs its ∧ s.heap.get? p = some { cls := .type "list", data := .seq its.toArray n } ∧ xs.length ≤ sizeLine := by
 obtain ⟨z, its, n, r, e⟩ := I.hok p _ h
 exact ⟨its, n, r, e, z⟩
theorem Inv.So {pins : List (Addr × Obj)} {σ : St} {H : Hp} {s : Shared} {p : Addr} {xs ys : List V} {its its' : List Value} {n n' : Nat} {f : Obj → Obj} (I : Inv X pins σ H s) (h : H p = some (.lst xs))
  (ho : s.heap.get? p = some { cls := .type "list", data := .seq its.toArray n }) (hf : f { cls := .type "list", data := .seq its.toArray n } = { cls := .type "list", data := .seq its'.toArray n' }) (r : Vals ys its') (hz : ys.length ≤ sizeLine) (t : Nat) :
  Inv X pins σ (upd H p (.lst ys)) { s with heap := s.heap.update p f, toks := t } := by
 have e : (s.heap.update p f).get? p = some { cls := .type "list", data := .seq its'.toArray n' } := by
  rw [Heap.get?_update_self f ho (by rw [hf] <;> rfl), hf]
 refine I.write (x := p) (e := p) (by rw [h]; trivial) (.inl rfl) (fun b u hb q => (Heap.get?_update_other _ _ (Ne.symm hb)).trans q) ⟨_, e⟩ ?_
 exact ⟨hz, its', n', r, e⟩
noncomputable def ZcX : V → V → V → Hp → (Hp → Prop) → Prop := fun o i v H Q => ∃ p xs k j, o = .ref p ∧ i = .int k ∧ H p = some (.lst xs) ∧ ixN xs.length k = some j ∧ Q (upd H p (.lst (xs.set j v)))
theorem set_list : ZeE X ZcX := by
 intro pins s σ H o i v ov iv u Q I ro ri rv h
 obtain ⟨p, xs, k, j, rfl, rfl, hp, hj, q⟩ := h
 cases ro
 obtain ⟨t, rfl⟩ := ri
 obtain ⟨its, n, r, ho, hz⟩ := I.lst hp
 obtain ⟨h1, h2, h3, h4⟩ := E6 hj
 have hl := r.length
 have hn := K1
 have I' : Inv X pins σ (upd H p (.lst (xs.set j v))) { s with heap := s.heap.update p (Obj.mapSeq (·.setIfInBounds j u)) } :=
  I.So hp ho (C4 its n j u) (r.set rv j) (by rw [List.length_set]; exact hz) s.toks
 by_cases h0 : 0 ≤ k
 ·have hk : k.toNat = j := by
   rw [seqIndex_of h0 h4] at h1
   exact Option.some.inj h1
  exact PySem.W.ki_setAt ho h0 (by omega) (by rw [List.size_toArray, ← hl]; exact h4) (by rw [hk]; exact ⟨_, I', q⟩)
 ·have hk : (k + (its.toArray.size : Int)).toNat = j := by
   rw [seqIndex_neg (by omega) h3] at h1
   rw [List.size_toArray, ← hl]
   exact Option.some.inj h1
  exact PySem.W.ki_setBack ho (by omega) (by rw [List.size_toArray, ← hl]; exact h3) (by omega) (by rw [hk]; exact ⟨_, I', q⟩)
theorem Gd (lo hi : Option Int) (n : Nat) : (sliceBounds lo hi none n).1 = ((HT.sIx n 0 lo : Nat) : Int) ∧ (sliceBounds lo hi none n).2.1 = ((HT.sIx n n hi : Nat) : Int) ∧ (sliceBounds lo hi none n).2.2 = 1 := by
 refine ⟨?_, ?_, rfl⟩
 ·cases lo with
  | none => simp [sliceBounds, HT.sIx]
  | some i =>
   simp only [sliceBounds, HT.sIx, Option.getD_none, show (1 : Int) > 0 by decide, if_true]
   by_cases h : i < 0
   ·simp only [h, if_true] <;> omega
   ·simp only [h, if_false] <;> omega
 ·cases hi with
  | none => simp [sliceBounds, HT.sIx]
  | some i =>
   simp only [sliceBounds, HT.sIx, Option.getD_none, show (1 : Int) > 0 by decide, if_true]
   by_cases h : i < 0
   ·simp only [h, if_true] <;> omega
   ·simp only [h, if_false] <;> omega
theorem Wv (its : List Value) (lo hi : Option Int) : slicePick its.toArray lo hi none = ((its.drop (HT.sIx its.length 0 lo)).take (HT.sIx its.length its.length hi - HT.sIx its.length 0 lo)).toArray := by
 obtain ⟨h1, h2, h3⟩ := Gd lo hi its.toArray.size
 unfold slicePick
 rw [h1, h2, h3]
 simp only [sliceRange_one, pick_run, List.size_toArray] <;> rfl
noncomputable def Zfq (K : PySem.W.Frag) : V → Option Int → Option Int → Hp → VK → Prop := fun x lo hi H Q => ∃ a xs, x = .ref a ∧ SqL K H a xs ∧ ∀ p, H p = none → Q (.ref p) (upd H p (.lst (N3 xs lo hi)))
theorem Rt : SlR X (Zfq X.K) := by
 intro pins s σ H x v vl vu lo hi sl Q I rx hs pl pu h
 obtain ⟨a, xs, rfl, hx, q⟩ := h
 cases rx
 obtain ⟨its, r, ht, hz⟩ := I.list hx
 have hlen := r.length
 refine ⟨"list", _, slot_list_getitem.lookup, ht.isList.typeIs, ?_⟩
 refine wpAny_getItem_list_slice ht.isList hs pl pu .none (by simp) ?_ (by rw [List.size_toArray] <;> omega)
 rw [Wv, ← hlen]
 refine ⟨.ref s.heap.objs.size, _, I.laid (t' := s.toks) (o := .lst (N3 xs lo hi)) (fun b ob q => Heap.get?_push_of_some _ q) (Nat.le_refl _) ?_, rfl, q _ (I.hok.fresh (Nat.le_refl _))⟩
 exact ⟨Nat.le_trans (X6 xs lo hi) hz, _, 0, (r.drop (HT.sIx xs.length 0 lo)).take (HT.sIx xs.length xs.length hi - HT.sIx xs.length 0 lo), Heap.get?_push_size _ rfl⟩
noncomputable def Sm : V → Bool
 | .non => true
 | .bl _ => true
 | .int _ => true
 | .str _ => true
 | _ => false
noncomputable def eqV : V → V → Bool
 | .non, .non => true
 | .bl a, .bl b => a == b
 | .bl a, .int b => (if a then 1 else 0) == b
 | .int a, .bl b => a == (if b then 1 else 0)
 | .int a, .int b => a == b
 | .str a, .str b => a == b
 | _, _ => false
noncomputable def eqU (x : V) (u : Value) : Bool := match u with
 | .none => eqV .non x
 | .bool b => eqV (.bl b) x
 | .int i _ => eqV (.int i) x
 | .str z _ => eqV (.str z) x
 | _ => false
noncomputable def inV (x : V) (xs : List V) : Bool := xs.any fun y => eqV y x
noncomputable def rIn (K : PySem.W.Frag) (neg : Bool) : R2 := fun x y H Q => ∃ p xs, y = .ref p ∧ (SqL K H p xs ∨ SqT K H p xs) ∧ Sm x = true ∧ xs.all Sm = true ∧ Q (.bl (if neg then !inV x xs else inV x xs)) H
theorem Uv : J9 X (.builtin "len") (fun xs H Q => ∃ p ys, xs = [.ref p] ∧ (SqL X.K H p ys ∨ SqT X.K H p ys) ∧ Q (.int ys.length) H) := by
 intro pins s σ H xs us Q I r h
 obtain ⟨p, ys, rfl, hq, q⟩ := h
 obtain ⟨u, rfl, rx⟩ := vals1 r
 cases rx
 have hn := K1
 rcases hq with hq | hq
 ·obtain ⟨its, r', pl, hz⟩ := I.list hq
  have hlen := r'.length
  exact Calls.call_len_list pl.isList (by simp only [List.size_toArray] <;> omega) ⟨.int ys.length, H, I.tok _, ⟨s.toks + 1, by rw [List.size_toArray, hlen]⟩, q⟩
 ·obtain ⟨its, r', pl, hz⟩ := I.tuple hq
  have hlen := r'.length
  exact len_tuple pl (by simp only [List.size_toArray] <;> omega) ⟨.int ys.length, H, I.tok _, ⟨s.toks + 1, by rw [List.size_toArray, hlen]⟩, q⟩
theorem UD : J9 X (.builtin "len") (fun xs H Q => ∃ z, xs = [.str z] ∧ z.length ≤ sizeLine ∧ Q (.int z.length) H) := by
 intro pins s σ H xs us Q I r h
 obtain ⟨z, rfl, hz, q⟩ := h
 obtain ⟨u, rfl, t, rfl⟩ := vals1 r
 have hn := K1
 exact len_str (by omega) ⟨.int z.length, H, I.tok _, ⟨_, rfl⟩, q⟩
theorem J9.or {f : Value} {r r' : List V → Hp → VK → Prop} (h : J9 X f r) (h' : J9 X f r') : J9 X f (fun xs H Q => r xs H Q ∨ r' xs H Q) := by
 intro pins s σ H xs us Q I rs q
 rcases q with q | q
 ·exact h pins s σ H xs us Q I rs q
 ·exact h' pins s σ H xs us Q I rs q
theorem WK : J9 X (.type "tuple") (fun xs H Q => ∃ p ys, xs = [.ref p] ∧ ((SqL X.K H p ys ∧ ∀ l, H l = none → Q (.ref l) (upd H l (.tup ys))) ∨ (SqT X.K H p ys ∧ Q (.ref p) H))) := by
 intro pins s σ H xs us Q I r h
 obtain ⟨p, ys, rfl, h⟩ := h
 obtain ⟨u, rfl, rx⟩ := vals1 r
 cases rx
 rcases h with ⟨hq, q⟩ | ⟨hq, q⟩
 ·obtain ⟨its, r', pl, hz⟩ := I.list hq
  have hlen := r'.length
  refine call_tuple_list pl.isList (fun h' kp => ?_) (by simp only [List.size_toArray] <;> omega)
  have I1 : Inv X pins σ H { s with heap := h' } := I.kept (t' := s.toks) kp
  have I2 : Inv X pins σ (upd H h'.objs.size (.tup ys)) { s with heap := h'.push { cls := .type "tuple", data := .seq its.toArray } } :=
   I1.laid (t' := s.toks) (fun b o e => Heap.get?_push_of_some _ e) (Nat.le_refl _) (show Q2 X.prog X.w _ _ _ (.tup ys) from ⟨hz, its, r', IsTup.new _ _⟩)
  exact ⟨.ref h'.objs.size, _, I2, rfl, q _ (I1.hok.fresh (Nat.le_refl _))⟩
 ·obtain ⟨its, r', pl, hz⟩ := I.tuple hq
  exact call_tuple_same pl ⟨.ref p, H, I, rfl, q⟩
noncomputable def tyV (K : PySem.W.Frag) (T : String) (x : V) (H : Hp) : Prop := match x with
 | .str _ => T = "str"
 | .int _ => T = "int"
 | .ref p => (T = "list" ∧ ∃ xs, SqL K H p xs) ∨ (T = "tuple" ∧ ∃ o, K.lookup p = some o ∧ o.cls = .type "tuple" ∧ o.dict = none) ∨
   (T = "dict" ∧ ((∃ kvs, H p = some (.dK kvs)) ∨ ∃ kvs, H p = some (.dT kvs))) ∨ (T = "set" ∧ ∃ S n, H p = some (.set S n))
 | _ => False
theorem Of {pins : List (Addr × Obj)} {σ : St} {H : Hp} {s : Shared} {T : String} {x : V} {v : Value} (I : Inv X pins σ H s) (r : RelV x v) (ty : tyV X.K T x H) :
  s.TypeIs v T ∧ ∀ a, v = .ref a → ∃ ob, s.heap.get? a = some ob ∧ ob.dict = none := by
 cases x with
 | str z =>
  obtain ⟨t, rfl⟩ := r
  cases (show T = "str" from ty)
  exact ⟨typeIs_str s z t, fun _ e => nomatch e⟩
 | int i =>
  obtain ⟨t, rfl⟩ := r
  cases (show T = "int" from ty)
  exact ⟨typeIs_int s i t, fun _ e => nomatch e⟩
 | ref p =>
  cases r
  rcases ty with ⟨rfl, xs, hq⟩ | ⟨rfl, o, hk, hc, hd⟩ | ⟨rfl, hk⟩ | ⟨rfl, S, n, hk⟩
  ·obtain ⟨its, _, pl, _⟩ := I.list hq
   refine ⟨pl.isList.typeIs, fun a e => ?_⟩
   cases e
   obtain ⟨o, n, e, c, hd, _⟩ := pl
   exact ⟨o, e, hd⟩
  ·refine ⟨⟨o, I.kIn p o hk, hc⟩, fun a e => ?_⟩
   cases e
   exact ⟨o, I.kIn _ o hk, hd⟩
  ·have z : ∃ o, s.heap.get? p = some o ∧ o.ExactDict := by
    rcases hk with ⟨kvs, hk⟩ | ⟨kvs, hk⟩
    ·obtain ⟨_, _, _, _, o, _, _, e, ex, _⟩ := I.hok p _ hk
     exact ⟨o, e, ex⟩
    ·obtain ⟨_, _, _, _, o, _, _, e, ex, _⟩ := I.hok p _ hk
     exact ⟨o, e, ex⟩
   obtain ⟨o, e, ex⟩ := z
   refine ⟨⟨o, e, ex.1⟩, fun a e2 => ?_⟩
   cases e2
   exact ⟨o, e, ex.2.1⟩
  ·obtain ⟨o, _, _, _, e, ex, _⟩ := I.hok p _ hk
   refine ⟨⟨o, e, ex.1⟩, fun a e2 => ?_⟩
   cases e2
   exact ⟨o, e, ex.2.1⟩
 | _ => exact False.elim ty
noncomputable def Zfy (K : PySem.W.Frag) (T : String) (r : V → List V → Hp → VK → Prop) (to : TE) : TE := fun σ H Q => to σ H fun x H1 => tyV K T x H1 ∧ r x [] H1 Q
noncomputable def tBM (K : PySem.W.Frag) (T : String) (r : V → List V → Hp → VK → Prop) (to : TE) (t : TA) : TE := fun σ H Q => to σ H fun x H1 => tyV K T x H1 ∧ t σ H1 fun xs H2 => r x xs H2 Q
variable {o e : Expr} {es : List Expr} {to : TE} {t : TA} {name : Str} {apos cpos : Pos} {T id : String} {r : V → List V → Hp → VK → Prop}
theorem Zaa (pa : PlainAttrs T) (slot : Slot T name id) (hty : typeOf (.builtin id) = pure (.type "method_descriptor")) (hm : MtR X id r) (ho : PE X o to)
  (hbase : attributeBase o name X.env (eval o X.env) = eval o X.env := by rfl) (hline : (apos.endLine == cpos.line) = true := by rfl) : PE X (.Call (.Attribute o name apos) [] [] cpos) (Zfy X.K T r to) := by
 intro pins s σ H Q I h
 refine wpAny_Call_method0_late hbase hline (thn (ho pins s σ H _ I h) fun v s1 ⟨x, H1, I1, r1, ty, q1⟩ => ?_)
 obtain ⟨h1, h2⟩ := Of I1 r1 ty
 exact ⟨T, id, pa, slot, hty, h1, h2, Calls.callWith_builtin rfl (PySem.evalArgs_none (hm pins s1 σ H1 x [] v [] Q I1 r1 .nil q1))⟩
theorem DN (pa : PlainAttrs T) (slot : Slot T name id) (hty : typeOf (.builtin id) = pure (.type "method_descriptor")) (hm : MtR X id r) (ho : PE X o to) (ha : PA X (e :: es) t)
  (hbase : attributeBase o name X.env (eval o X.env) = eval o X.env := by rfl)
  (hfew : ((backTo cpos (starEach (e :: es) X.env)).all (fun x => !x.1) && (backToKw cpos (keywordEach [] X.env)).all (fun x => x.1.isSome)
   && decide ((e :: es).length + ([] : List Keyword).length + (if ([] : List Keyword).isEmpty then 0 else 1) < 30)) = true := by rfl)
  (hline : (apos.endLine == cpos.line) = true := by rfl) (hs : starEach (e :: es) X.env = (false, eval e X.env) :: starEach es X.env := by rfl) (hplain : (backTo cpos (starEach es X.env)).any (·.1) = false := by rfl) :
  PE X (.Call (.Attribute o name apos) (e :: es) [] cpos) (tBM X.K T r to t) := by
 intro pins s σ H Q I h
 refine wpAny_Call_method_late hbase hfew hline rfl (thn (ho pins s σ H _ I h) fun v s1 ⟨x, H1, I1, r1, ty, q1⟩ => ?_)
 obtain ⟨h1, h2⟩ := Of I1 r1 ty
 refine ⟨T, id, pa, slot, hty, h1, h2, ?_⟩
 have hA := ha cpos pins s1 σ H1 _ I1 q1
 rw [hs] at hA ⊢
 refine Calls.callWith_builtin (by show (false || (backTo cpos (starEach es X.env)).any (·.1)) = false; rw [hplain] <;> rfl) (Calls.evalArgs_plain ?_)
 exact thn hA fun us s2 ⟨vs, H2, I2, r2, q2⟩ => hm pins s2 σ H2 x vs v us Q I2 r1 r2 q2
end
end L2
namespace L2
open PySem PySem.Spec PyProof.Rows
noncomputable def MtM (X : Cx) (id : String) (r : V → List V → Hp → VK → Prop) : Prop :=
 ∀ (pins : List (Addr × Obj)) (s : Shared) (σ : St) (H : Hp) (x : V) (xs : List V) (v : Value) (us : List Value) (Q : VK), Inv X pins σ H s → RelV x v → Vals xs us → r x xs H Q →
  wpAny (model X.prog X.w) X.A (call (.builtin id) (v :: us)) (EP X pins σ Q) X.xe s
theorem Vals.one : ∀ {x : V} {us : List Value}, Vals [x] us → ∃ u, us = [u] ∧ RelV x u
 | _, _, .cons r .nil => ⟨_, rfl, r⟩
theorem Vals.two : ∀ {x y : V} {us : List Value}, Vals [x, y] us → ∃ u v, us = [u, v] ∧ RelV x u ∧ RelV y v
 | _, _, _, .cons r (.cons q .nil) => ⟨_, _, rfl, r, q⟩
theorem Vals.zero : ∀ {us : List Value}, Vals [] us → us = []
 | _, .nil => rfl
theorem Vals.reverse {xs : List V} {us : List Value} (h : Vals xs us) : Vals xs.reverse us.reverse := by
 induction h with
 | nil => exact .nil
 | cons r t ih => rw [List.reverse_cons, List.reverse_cons]; exact Vals.append ih (.cons r .nil)
theorem Vals.rep {xs : List V} {us : List Value} (h : Vals xs us) : ∀ k : Nat, Vals (List.replicate k xs).flatten (List.replicate k us).flatten
 | 0 => .nil
 | k + 1 => by
  rw [List.replicate_succ, List.replicate_succ, List.flatten_cons, List.flatten_cons]
  exact Vals.append h (Vals.rep h k)
theorem foldl_rep (its : List Value) : ∀ (k : Nat) (acc : List Value),
  List.foldl (fun x1 x2 => x1 ++ x2) acc.toArray (List.replicate k its.toArray) = (acc ++ (List.replicate k its).flatten).toArray
 | 0, acc => by simp
 | k + 1, acc => by
  have e : acc.toArray ++ its.toArray = (acc ++ its).toArray := by simp
  have e2 : (acc ++ its) ++ (List.replicate k its).flatten = acc ++ (List.replicate (k + 1) its).flatten := by
   rw [List.replicate_succ, List.flatten_cons, List.append_assoc]
  rw [← e2, ← foldl_rep its k (acc ++ its), ← e, List.replicate_succ, List.foldl_cons]
section
variable {X : Cx} {pins : List (Addr × Obj)} {σ : St} {H : Hp} {s : Shared} {l b : Addr} {xs ys zs : List V}
theorem Inv.Zc4 {its its' : List Value} {n : Nat} {f : Array Value → Array Value} {t' : Nat} (I : Inv X pins σ H s) (hH : H l = some (.lst xs))
  (e : s.heap.get? l = some { cls := .type "list", data := .seq its.toArray n }) (hf : f its.toArray = its'.toArray) (hv : Vals ys its') (hz : ys.length ≤ sizeLine) :
  Inv X pins σ (upd H l (.lst ys)) { s with heap := s.heap.update l (Obj.mapSeq f), toks := t' } := by
 have q := PySem.IsL.update e f
 rw [hf] at q
 refine I.write (x := l) (e := l) (by rw [hH]; exact trivial) (.inl rfl) (fun b' u hb hu => (Heap.get?_update_other s.heap (Obj.mapSeq f) (Ne.symm hb)).trans hu) ⟨_, q⟩ ?_
 exact ⟨hz, its', _, hv, q⟩
theorem Inv.Zfa {its : List Value} {t' : Nat} (I : Inv X pins σ H s) (hv : Vals ys its) (hz : ys.length ≤ sizeLine) :
  Inv X pins σ (upd H s.heap.objs.size (.lst ys)) { s with heap := s.heap.push { cls := .type "list", data := .seq its.toArray }, toks := t' } :=
 I.laid (fun _ _ q => Heap.get?_push_of_some _ q) (Nat.le_refl _) ⟨hz, its, 0, hv, Heap.get?_push_size _ rfl⟩
theorem Inv.fresh (I : Inv X pins σ H s) : H s.heap.objs.size = none := I.hok.fresh (Nat.le_refl _)
theorem Inv.Za4 (I : Inv X pins σ H s) (hH : H l = some (.lst xs)) : xs.length ≤ sizeLine ∧ ∃ (its : List Value) (n : Nat), Vals xs its ∧ xs.length = its.length ∧ s.heap.get? l = some { cls := .type "list", data := .seq its.toArray n } := by
 obtain ⟨z, its, n, r, e⟩ := I.hok l _ hH
 exact ⟨z, its, n, r, r.length, e⟩
theorem BK {n : Nat} (h : n ≤ sizeLine) : Builtin.List.listTooLong n = false := by
 unfold Builtin.List.listTooLong
 exact decide_eq_false (by omega)
end
section
variable {X : Cx}
noncomputable def O7 : V → List V → Hp → VK → Prop := fun x vs H Q => ∃ l xs y, x = .ref l ∧ vs = [y] ∧ H l = some (.lst xs) ∧ xs.length < sizeLine ∧ Q .non (upd H l (.lst (xs ++ [y])))
theorem EE : MtM X "list.append" O7 := by
 intro pins s σ H x vs v us Q I rx rv h
 obtain ⟨l, xs, y, rfl, rfl, hH, hz, q⟩ := h
 cases rx
 obtain ⟨u, rfl, ru⟩ := rv.one
 obtain ⟨z, its, n, r, hl, e⟩ := I.Za4 hH
 refine call_meets F.slot_list_append ⟨_, e, rfl⟩ F.entry_list_append (F.args_list_append_2 _ _) (PySem.list_append l its.toArray n u (by rw [List.size_toArray]; omega)) ⟨e, ?_⟩
 refine ⟨.non, _, I.Zc4 (its' := its ++ [u]) hH e (by simp) (r.append (.cons ru .nil)) ?_, rfl, q⟩
 rw [List.length_append, List.length_singleton]
 omega
noncomputable def R5 : V → List V → Hp → VK → Prop := fun x vs H Q => ∃ l b xs zs, x = .ref l ∧ vs = [.ref b] ∧ H l = some (.lst xs) ∧ H b = some (.lst zs) ∧ xs.length + zs.length ≤ sizeLine ∧ Q .non (upd H l (.lst (xs ++ zs)))
theorem FA : MtM X "list.extend" R5 := by
 intro pins s σ H x vs v us Q I rx rv h
 obtain ⟨l, b, xs, zs, rfl, rfl, hH, hB, hz, q⟩ := h
 cases rx
 obtain ⟨u, rfl, ru⟩ := rv.one
 cases ru
 obtain ⟨z, its, n, r, hl, e⟩ := I.Za4 hH
 obtain ⟨z2, its2, n2, r2, hl2, e2⟩ := I.Za4 hB
 have hsz : its.toArray.size + its2.toArray.size ≤ sizeLine := by rw [List.size_toArray, List.size_toArray]; omega
 have hlong : ¬ (!its.toArray.isEmpty && Builtin.List.listTooLong (its.toArray.size + its2.toArray.size)) = true := by
  rw [BK hsz, Bool.and_false]
  exact Bool.false_ne_true
 refine call_meets F.slot_list_extend ⟨_, e, rfl⟩ F.entry_list_extend (F.args_list_extend_2 _ _)
  (AutoSeq1.list_extend_list_list_0 l its.toArray n b its2.toArray n2 hlong (by rw [List.size_toArray]; omega) (by omega)) ⟨e, e2, ?_⟩
 refine ⟨.non, _, I.Zc4 (its' := its ++ its2) hH e (by simp) (r.append r2) ?_, rfl, q⟩
 rw [List.length_append]
 omega
noncomputable def ZgL : V → List V → Hp → VK → Prop := fun x vs H Q => ∃ l xs y, x = .ref l ∧ vs = [] ∧ H l = some (.lst xs) ∧ xs[xs.length - 1]? = some y ∧ Q y (upd H l (.lst xs.dropLast))
noncomputable def Ze7 : V → List V → Hp → VK → Prop := fun x vs H Q => ∃ l xs i k y, x = .ref l ∧ vs = [.int i] ∧ H l = some (.lst xs) ∧ -(2 ^ 63) ≤ i ∧ i < 2 ^ 63 ∧ seqIndex? i xs.length = some k ∧ xs[k]? = some y ∧ Q y (upd H l (.lst (xs.eraseIdx k)))
noncomputable def MF : V → List V → Hp → VK → Prop := fun x vs H Q => ∃ l xs, x = .ref l ∧ vs = [] ∧ H l = some (.lst xs) ∧ Q .non (upd H l (.lst xs.reverse))
theorem Dg : MtM X "list.reverse" MF := by
 intro pins s σ H x vs v us Q I rx rv h
 obtain ⟨l, xs, rfl, rfl, hH, q⟩ := h
 cases rx
 have hus := rv.zero
 subst hus
 obtain ⟨z, its, n, r, hl, e⟩ := I.Za4 hH
 refine call_meets F.slot_list_reverse ⟨_, e, rfl⟩ F.entry_list_reverse (F.args_list_reverse_1 _) (AutoSeq1.list_reverse_list_0 l its.toArray n (by rw [List.size_toArray]; omega)) ⟨e, ?_⟩
 refine ⟨.non, _, I.Zc4 (its' := its.reverse) hH e (by simp) r.reverse ?_, rfl, q⟩
 rw [List.length_reverse]
 omega
noncomputable def ZeB : V → List V → Hp → VK → Prop := fun x vs H Q => ∃ l xs, x = .ref l ∧ vs = [] ∧ H l = some (.lst xs) ∧ Q .non (upd H l (.lst []))
noncomputable def ZgN : R2 := fun x y H Q => ∃ l b xs zs, x = .ref l ∧ y = .ref b ∧ H l = some (.lst xs) ∧ H b = some (.lst zs) ∧ xs.length + zs.length ≤ sizeLine ∧ ∀ p, H p = none → Q (.ref p) (upd H p (.lst (xs ++ zs)))
noncomputable def Zgo : R2 := fun x y H Q => ∃ l k xs, x = .ref l ∧ y = .int k ∧ H l = some (.lst xs) ∧ -(2 ^ 63) ≤ k ∧ k < 2 ^ 63 ∧ xs.length * k.toNat ≤ sizeLine ∧
 ∀ p, H p = none → Q (.ref p) (upd H p (.lst (List.replicate k.toNat xs).flatten))
theorem len_rep {α : Type} (xs : List α) (k : Nat) : (List.replicate k xs).flatten.length = k * xs.length := by
 induction k with
 | zero => simp
 | succ k ih => rw [List.replicate_succ, List.flatten_cons, List.length_append, ih, Nat.succ_mul, Nat.add_comm]
theorem T7 : OpR X (binaryOp .Mult) Zgo := by
 intro pins s σ H x y v u Q I rx ry h
 obtain ⟨l, k, xs, rfl, rfl, hH, h1, h2, hz, q⟩ := h
 cases rx
 obtain ⟨t, rfl⟩ := ry
 obtain ⟨z, its, n, r, hl, e⟩ := I.Za4 hH
 have hlen : its.toArray.size * k.toNat ≤ sizeLine := by rw [List.size_toArray, ← hl]; exact hz
 have hcap : ¬ its.toArray.size * k.toNat > (2 ^ 63 - 1) / 8 := by
  have : (sizeLine : Nat) ≤ (2 ^ 63 - 1) / 8 := by decide
  omega
 have hfit : ¬ (!Builtin.List.listFitsIndex k) = true := by
  rw [fitsIndex_both h1 h2]
  exact Bool.false_ne_true
 have hlong : ¬ Builtin.List.listTooLong (its.toArray.size * k.toNat) = true := by
  rw [BK hlen]
  exact Bool.false_ne_true
 have hnew : List.foldl (fun x1 x2 => x1 ++ x2) #[] (List.replicate (if its.toArray.isEmpty = true then 0 else k.toNat) its.toArray) = (List.replicate k.toNat its).flatten.toArray := by
  have f0 : ∀ m : Nat, List.foldl (fun x1 x2 => x1 ++ x2) #[] (List.replicate m its.toArray) = (List.replicate m its).flatten.toArray := fun m => by
   have := foldl_rep its m []
   rw [List.nil_append] at this
   exact this
  rw [f0]
  cases its with
  | nil => simp
  | cons a r' => rw [if_neg (by simp)]
 refine wpAny_binaryOp_repeat_ref (T := "list") (U := "int") (by decide) ⟨_, e, rfl⟩ (fun s' => typeIs_int s' k t) noFill_list_mul F.fills_int_mul F.slot_int_rmul repeat_list F.slot_int_index.lookup
  (call_meets F.slot_int_rmul (typeIs_int s k t) F.entry_int_rmul (F.args_int_rmul_2 _ _) (int___rmul___int_list k t l its.toArray n)
   ⟨e, rfl, ⟨_, e, rfl⟩, call_meets F.slot_list_mul ⟨_, e, rfl⟩ F.entry_list_mul (F.args_list_mul_2 _ _) (AutoListH.list___mul___list_int_3 l its.toArray n k t hfit hcap hlong) ⟨e, ?_⟩⟩)
 rw [hnew]
 exact ⟨.ref _, _, I.Zfa (t' := s.toks) (r.rep k.toNat) (by rw [len_rep, Nat.mul_comm]; exact hz), rfl, q _ I.fresh⟩
end
section
variable {prog : Program} {w : World} {A : Around} {E : Value → Shared → Prop} {s : Shared}
set_option maxRecDepth 100000 in
end
section
variable {X : Cx}
end
end L2
namespace L2
open PySem PySem.Spec PyProof.Rows
section
variable {κ : Type} [DecidableEq κ]
noncomputable def Wb (kvs : List (κ × V)) (k : κ) : Option V := (kvs.find? fun kv => decide (kv.1 = k)).map (·.2)
noncomputable def putK (kvs : List (κ × V)) (k : κ) (v : V) : List (κ × V) :=
 if (kvs.any fun kv => decide (kv.1 = k)) = true then kvs.map (fun kv => if kv.1 = k then (kv.1, v) else kv) else kvs ++ [(k, v)]
noncomputable def FZ (kvs : List (κ × V)) (k : κ) : List (κ × V) := kvs.filter fun kv => decide (kv.1 ≠ k)
theorem WN {p : κ × V} {r : List (κ × V)} {k : κ} (e : p.1 = k) : Wb (p :: r) k = some p.2 := by simp [Wb, List.find?_cons, e]
theorem WH {p : κ × V} {r : List (κ × V)} {k : κ} (e : ¬ p.1 = k) : Wb (p :: r) k = Wb r k := by simp [Wb, List.find?_cons, e]
theorem B8 (k : κ) : ∀ kvs : List (κ × V), (kvs.any fun kv => decide (kv.1 = k)) = (Wb kvs k).isSome
 | [] => rfl
 | p :: r => by
  rw [List.any_cons]
  by_cases e : p.1 = k
  ·simp only [WN e, decide_eq_true e, Bool.true_or, Option.isSome_some]
  ·rw [WH e, decide_eq_false e, Bool.false_or]; exact B8 k r
theorem GB (kvs : List (κ × V)) (k : κ) (v : V) : (putK kvs k v).length ≤ kvs.length + 1 := by
 unfold putK
 split
 ·rw [List.length_map]; omega
 ·rw [List.length_append, List.length_cons, List.length_nil]; omega
theorem Hk.EJ {o : Option V} {u : Option Value} (r : Hk o u) : o.isSome = u.isSome := by
 cases o with
 | none => cases u with
  | none => rfl
  | some _ => exact (show False from r).elim
 | some _ => cases u with
  | none => exact (show False from r).elim
  | some _ => rfl
theorem KV.val {kvs : List (κ × V)} {vs : List (κ × Value)} (r : KV kvs vs) (k : κ) : Hk (Wb kvs k) (valueAt vs k) := by
 unfold KV at r
 induction r with
 | nil => exact True.intro
 | @cons p q ps qs h t ih =>
  obtain ⟨h1, h2⟩ := h
  by_cases e : p.1 = k
  ·have e' : q.1 = k := h1.symm.trans e
   have b : valueAt (q :: qs) k = some q.2 := by simp [valueAt, List.find?_cons, e']
   rw [WN e, b]; exact h2
  ·have e' : ¬ q.1 = k := fun z => e (h1.trans z)
   have b : valueAt (q :: qs) k = valueAt qs k := by simp [valueAt, List.find?_cons, e']
   rw [WH e, b]; exact ih
theorem KV.any {kvs : List (κ × V)} {vs : List (κ × Value)} (r : KV kvs vs) (k : κ) : (kvs.any fun kv => decide (kv.1 = k)) = vs.any fun kv => decide (kv.1 = k) := by
 unfold KV at r
 induction r with
 | nil => rfl
 | cons h t ih => rw [List.any_cons, List.any_cons, ih, h.1]
theorem KV.O2 {kvs : List (κ × V)} {vs : List (κ × Value)} (r : KV kvs vs) (k : κ) {y : V} {u : Value} (ry : RelV y u) :
  KV (kvs.map fun kv => if kv.1 = k then (kv.1, y) else kv) (vs.map fun kv => if kv.1 = k then (kv.1, u) else kv) := by
 unfold KV at r ⊢
 induction r with
 | nil => exact .nil
 | @cons p q ps qs h t ih =>
  rw [List.map_cons, List.map_cons]
  refine .cons ?_ ih
  obtain ⟨h1, h2⟩ := h
  by_cases e : p.1 = k
  ·rw [if_pos e, if_pos (h1.symm.trans e)]; exact ⟨h1, ry⟩
  ·rw [if_neg e, if_neg (fun z => e (h1.trans z))]; exact ⟨h1, h2⟩
theorem KV.put {kvs : List (κ × V)} {vs : List (κ × Value)} (r : KV kvs vs) (k : κ) {y : V} {u : Value} (ry : RelV y u) : KV (putK kvs k y) (stored vs k u) := by
 unfold putK stored
 rw [r.any k]
 by_cases e : (vs.any fun kv => decide (kv.1 = k)) = true
 ·rw [if_pos e, if_pos e]; exact r.O2 k ry
 ·rw [if_neg e, if_neg e]; exact Paired.snoc r ⟨rfl, ry⟩
theorem KV.drop {kvs : List (κ × V)} {vs : List (κ × Value)} (r : KV kvs vs) (k : κ) : KV (FZ kvs k) (without vs k) := by
 unfold KV at r ⊢
 unfold FZ without
 induction r with
 | nil => exact .nil
 | @cons p q ps qs h t ih =>
  obtain ⟨h1, h2⟩ := h
  rw [List.filter_cons, List.filter_cons]
  by_cases e : p.1 = k
  ·have a : ¬ decide (p.1 ≠ k) = true := by simp [e]
   have b : ¬ decide (q.1 ≠ k) = true := by simp [h1.symm.trans e]
   rw [if_neg a, if_neg b]; exact ih
  ·have e' : ¬ q.1 = k := fun z => e (h1.trans z)
   have a : decide (p.1 ≠ k) = true := by simp [e]
   have b : decide (q.1 ≠ k) = true := by simp [e']
   rw [if_pos a, if_pos b]; exact .cons ⟨h1, h2⟩ ih
theorem KV.length {kvs : List (κ × V)} {vs : List (κ × Value)} (r : KV kvs vs) : kvs.length = vs.length := Paired.length r
end
theorem OX {P : Program} {w : World} {k : Key} {u : Value} (r : RelV (kV k) u) : (Qg P w).is k u = true := by
 cases k with
 | inl i => obtain ⟨t, e⟩ := (show ∃ t, u = Value.int i t from r); subst e; exact GZ P w i t
 | inr x => obtain ⟨t, e⟩ := (show ∃ t, u = Value.str x t from r); subst e; exact Bx P w x t
theorem Ub {P : Program} {w : World} : ∀ {ks : List Key} {us : List Value}, Vals (ks.map kV) us → ItemsAre (Qg P w) ks us
 | [], _, r => by rw [List.map_nil] at r; cases r; exact .nil
 | k :: ks, _, r => by
  rw [List.map_cons] at r
  cases r with
  | cons h t => exact .cons (OX h) (Ub t)
noncomputable abbrev KT (H : Hp) : List (List Key × V) → List (List Key × Addr × Value) → Prop := Paired fun p q => p.1 = q.1 ∧ H q.2.1 = some (.tup (p.1.map kV)) ∧ RelV p.2 q.2.2
theorem KT.val {H : Hp} {kvs : List (List Key × V)} {xs : List (List Key × Addr × Value)} (r : KT H kvs xs) (k : List Key) : Hk (Wb kvs k) ((atKey xs k).map (·.2)) := by
 induction r with
 | nil => exact True.intro
 | @cons p q ps qs h t ih =>
  obtain ⟨h1, _, h2⟩ := h
  by_cases e : p.1 = k
  ·have e' : q.1 = k := h1.symm.trans e
   have b : atKey (q :: qs) k = some q.2 := by simp [atKey, List.find?_cons, e']
   rw [WN e, b]; exact h2
  ·have e' : ¬ q.1 = k := fun z => e (h1.trans z)
   have b : atKey (q :: qs) k = atKey qs k := by simp [atKey, List.find?_cons, e']
   rw [WH e, b]; exact ih
theorem KT.O2 {H : Hp} {kvs : List (List Key × V)} {xs : List (List Key × Addr × Value)} (r : KT H kvs xs) (k : List Key) {y : V} {u : Value} (ry : RelV y u) :
  KT H (kvs.map fun kv => if kv.1 = k then (kv.1, y) else kv) (xs.map (putAt k u)) := by
 induction r with
 | nil => exact .nil
 | @cons p q ps qs h t ih =>
  rw [List.map_cons, List.map_cons]
  refine .cons ?_ ih
  obtain ⟨h1, h2, h3⟩ := h
  unfold putAt
  by_cases e : p.1 = k
  ·rw [if_pos e, if_pos (h1.symm.trans e)]; exact ⟨h1, h2, ry⟩
  ·rw [if_neg e, if_neg (fun z => e (h1.trans z))]; exact ⟨h1, h2, h3⟩
theorem KT.put {H : Hp} {kvs : List (List Key × V)} {xs : List (List Key × Addr × Value)} (r : KT H kvs xs) (k : List Key) {b : Addr} {y : V} {u : Value} (hb : H b = some (.tup (k.map kV))) (ry : RelV y u) :
  KT H (putK kvs k y) (storedH xs k b u) := by
 have e : (kvs.any fun kv => decide (kv.1 = k)) = (atKey xs k).isSome := by
  rw [B8, (r.val k).EJ, Option.isSome_map]
 unfold putK storedH
 rw [e]
 by_cases q : (atKey xs k).isSome = true
 ·rw [if_pos q, if_pos q]; exact r.O2 k ry
 ·rw [if_neg q, if_neg q]; exact Paired.snoc r ⟨rfl, hb, ry⟩
section
variable {P : Program} {w : World} {H : Hp} {h : Heap} {a : Addr}
theorem ZbC {u : HO} (ok : HOk P w H h) (e : Rd H a u) : Q2 P w H h a u := e.ok ok
theorem RO {kvs : List (Key × V)} (ok : HOk P w H h) (e : Rd H a (.dK kvs)) : kvs.length ≤ sizeLine ∧ (a == sysModules) = false ∧ ∃ vs, KV kvs vs ∧ h.DictOf (Qg P w) a vs :=
 show Q2 P w H h a (.dK kvs) from ZbC ok e
theorem Zcv {kvs : List (Key × V)} (ok : HOk P w H h) (e : H a = some (.dK kvs)) : kvs.length ≤ sizeLine ∧ (a == sysModules) = false ∧ ∃ vs, KV kvs vs ∧ h.DictOf (Qg P w) a vs := RO ok (.inl e)
theorem NV {ks : List Key} (ok : HOk P w H h) (e : H a = some (.tup (ks.map kV))) : (tupleKind (Qg P w)).is h ks a := by
 obtain ⟨_, its, r, o, h1, h2, n, h3⟩ := (show Q2 P w H h a (.tup (ks.map kV)) from ok a _ e)
 exact ⟨o, its.toArray, n, h1, h2, h3, by simpa using Ub r⟩
theorem Zac {kvs : List (List Key × V)} (ok : HOk P w H h) (e : Rd H a (.dT kvs)) : kvs.length ≤ sizeLine ∧ (a == sysModules) = false ∧
  ∃ xs, KT H kvs xs ∧ h.DictOfH (tupleKind (Qg P w)) a xs := by
 obtain ⟨z, y, xs, r, o, es, ep, h1, h2, h3, h4, h5⟩ := (show Q2 P w H h a (.dT kvs) from ZbC ok e)
 refine ⟨z, y, xs, r, o, es, ep, h1, h2, h3, h4, fun x hx => ?_, h5⟩
 have all : ∀ {l : List (List Key × V)} {m : List (List Key × Addr × Value)}, KT H l m → ∀ x ∈ m, (tupleKind (Qg P w)).is h x.1 x.2.1 := by
  intro l m q
  induction q with
  | nil => intro x hx; exact nomatch hx
  | @cons p q ps qs hq t ih =>
   intro x hx
   rcases List.mem_cons.mp hx with e | hx
   ·subst e
    exact NV ok (by rw [← hq.1]; exact hq.2.1)
   ·exact ih x hx
 exact all r x hx
end
noncomputable def CU (H : Hp) (a : Addr) (y : V) (r : Option V) : Prop :=
 (∃ kvs k, Rd H a (.dK kvs) ∧ y = kV k ∧ r = Wb kvs k) ∨ ∃ kvs k b, Rd H a (.dT kvs) ∧ y = .ref b ∧ H b = some (.tup (k.map kV)) ∧ r = Wb kvs k
noncomputable def Sd (H : Hp) (a : Addr) (y v : V) (H' : Hp) : Prop :=
 (∃ kvs k, H a = some (.dK kvs) ∧ y = kV k ∧ kvs.length < sizeLine ∧ H' = upd H a (.dK (putK kvs k v))) ∨
 ∃ kvs k b, H a = some (.dT kvs) ∧ y = .ref b ∧ H b = some (.tup (k.map kV)) ∧ kvs.length < sizeLine ∧ H' = upd H a (.dT (putK kvs k v))
theorem CU.k {H : Hp} {a : Addr} {kvs : List (Key × V)} {k : Key} (e : H a = some (.dK kvs)) : CU H a (kV k) (Wb kvs k) := .inl ⟨kvs, k, .inl e, rfl, rfl⟩
theorem CU.t {H : Hp} {a b : Addr} {kvs : List (List Key × V)} {k : List Key} (e : H a = some (.dT kvs)) (eb : H b = some (.tup (k.map kV))) : CU H a (.ref b) (Wb kvs k) := .inr ⟨kvs, k, b, .inl e, rfl, eb, rfl⟩
theorem Sd.k {H : Hp} {a : Addr} {kvs : List (Key × V)} {k : Key} {v : V} (e : H a = some (.dK kvs)) (hl : kvs.length < sizeLine) : Sd H a (kV k) v (upd H a (.dK (putK kvs k v))) := .inl ⟨kvs, k, e, rfl, hl, rfl⟩
theorem Sd.t {H : Hp} {a b : Addr} {kvs : List (List Key × V)} {k : List Key} {v : V} (e : H a = some (.dT kvs)) (eb : H b = some (.tup (k.map kV))) (hl : kvs.length < sizeLine) :
  Sd H a (.ref b) v (upd H a (.dT (putK kvs k v))) := .inr ⟨kvs, k, b, e, rfl, eb, hl, rfl⟩
section
variable {X : Cx} {pins : List (Addr × Obj)} {σ : St} {H : Hp} {s : Shared} {a : Addr} {y v : V} {u r : Value} {o : Option V} {A : Around} {E : Value → Shared → Prop}
theorem Inv.big (I : Inv X pins σ H s) : sysModules < s.heap.objs.size := by
 have h : mainGlobals < s.heap.objs.size := (I.mod.glob.keeps I.bk).lt
 exact Nat.lt_trans (by decide) h
theorem Fy {Q : Value → Shared → Prop} (hu : A.units + 1 < cLine) (I : Inv X pins σ H s) (g : CU H a y (some v)) (ry : RelV y u) (h : ∀ w' s', Inv X pins σ H s' → RelV v w' → Q w' s') :
  wpAny (model X.prog X.w) A (getItem (.ref a) u) Q E s := by
 rcases g with ⟨kvs, k, e, ey, l⟩ | ⟨kvs, k, b, e, ey, eb, l⟩
 ·subst ey
  obtain ⟨z, hd, vs, rel, dd⟩ := RO I.hok e
  obtain ⟨w', hw, rw'⟩ := Hk.some_of (v := v) (o := valueAt vs k) (by rw [l]; exact rel.val k)
  exact wpAny_getItem_of (OX ry) dd.mapOf hw (h w' _ (I.tok _) rw')
 ·subst ey
  cases (show u = Value.ref b from ry)
  obtain ⟨z, hd, xs, rel, dd⟩ := Zac I.hok e
  obtain ⟨w', hw, rw'⟩ := Hk.some_of (v := v) (o := (atKey xs k).map (·.2)) (by rw [l]; exact rel.val k)
  obtain ⟨p, hp, hp2⟩ := Option.map_eq_some_iff.mp hw
  refine wpAny_getItem_heap (tupleKind_room_in1 hu) (NV I.hok eb) dd hp ?_
  rw [hp2]
  exact h w' _ (I.tok _) rw'
theorem Pf {h' : Heap} {t' : Nat} {ob : HO} (I : Inv X pins σ H s) (mu : Mut (H a)) (hs : Heap.SameBut a s.heap h') (he : ∃ q, h'.get? a = some q) (new : Q2 X.prog X.w (upd H a ob) h' a ob) :
  Inv X pins σ (upd H a ob) { s with heap := h', toks := t' } :=
 I.write (x := a) (e := a) mu (.inl rfl) (fun b q hb z => (hs.2 b hb).trans z) he new
theorem ZaR {P : Program} {w : World} {H' : Hp} {h' : Heap} {kvs : List (Key × V)} {vs : List (Key × Value)} (z : kvs.length ≤ sizeLine) (hd : (a == sysModules) = false) (rel : KV kvs vs) (dd : h'.DictOf (Qg P w) a vs) :
  Q2 P w H' h' a (.dK kvs) := ⟨z, hd, vs, rel, dd⟩
end
section
variable {X : Cx} {pins : List (Addr × Obj)} {σ : St} {H : Hp} {s : Shared} {a : Addr} {kvs : List (Key × V)} {k : Key} {u : Value} {A : Around} {E : Value → Shared → Prop}
end
noncomputable def Zdt (i : Expr) : Prop := ∀ ov iv, subscripted i false ov iv = operate [ov, iv] (getItem ov iv)
theorem Rb {prog : Program} {w : World} {A : Around} {E : Value → Shared → Prop} {s : Shared} {env : Env} {value slice : Expr} {pos : Pos} {T id : String} {Q : Value → Shared → Prop}
  (hl : typeLookup (.type T) "__getitem__" = pure (some (.builtin id))) (hs : Zdt slice)
  (h : wpAny (model prog w) A (eval value env) (fun o s₁ => wpAny (model prog w) A (eval slice env) (fun i s₂ => s₂.TypeIs o T ∧ wpAny (model prog w) A (getItem o i) Q E s₂) E s₁) E s) :
  wpAny (model prog w) A (eval (.Subscript value slice pos) env) Q E s := by
 refine Subscript_ (wpAny_mono h (fun o s₁ h₁ => wpAny_mono h₁ (fun i s₂ h₂ => ?_) fun _ _ x => x) fun _ _ x => x)
 obtain ⟨hT, h₂⟩ := h₂
 unfold subscriptTail
 refine wpAny_bind ?_
 rw [getitemInPython_of_ne hT.not_modules]
 refine wpAny_bind (wpAny_specialOf hT hl ?_)
 have fin : wpAny (model prog w) A (subscripted slice false o i) (fun r s₃ => wpAny (model prog w) A (letTemporaryGo value o r >>= fun _ => pure r) Q E s₃) E s₂ := by
  rw [hs o i]
  exact wpAny_operating (wpAny_mono h₂ (fun r s₃ h₃ => wpAny_bind (wpAny_letTemporaryGo (wpAny_pure h₃))) fun _ _ x => x)
 first
  | exact wpAny_pure (wpAny_bind fin)
  | exact wpAny_bind (wpAny_pure (wpAny_bind fin))
  | exact wpAny_bind fin
theorem G0 {X : Cx} {pins : List (Addr × Obj)} {σ : St} {H : Hp} {s : Shared} {a : Addr} {y : V} {o : Option V} (I : Inv X pins σ H s) (g : CU H a y o) : s.TypeIs (.ref a) "dict" := by
 rcases g with ⟨kvs, k, e, _, _⟩ | ⟨kvs, k, b, e, _, _, _⟩
 ·obtain ⟨_, _, vs, _, dd⟩ := RO I.hok e
  exact dd.typeIs
 ·obtain ⟨_, _, xs, _, dd⟩ := Zac I.hok e
  exact dd.typeIs
noncomputable def ZcI (td ty : TE) : TE := fun σ H Q => td σ H fun x H1 => ty σ H1 fun y H2 => ∃ a v, x = .ref a ∧ CU H2 a y (some v) ∧ Q v H2
noncomputable def Zgu (ty td : TE) : TE := fun σ H Q => ty σ H fun y H1 => td σ H1 fun x H2 => ∃ a o, x = .ref a ∧ CU H2 a y o ∧ Q (.bl o.isSome) H2
noncomputable def ZcS (ty td : TE) : TE := fun σ H Q => ty σ H fun y H1 => td σ H1 fun x H2 => ∃ a o, x = .ref a ∧ CU H2 a y o ∧ Q (.bl (!o.isSome)) H2
noncomputable def ZfY (td ty tv : TE) : TS := fun D σ H => tv σ H fun v H1 => td σ H1 fun x H2 => ty σ H2 fun y H3 => ∃ a H4, x = .ref a ∧ Sd H3 a y v H4 ∧ D.nx σ H4
noncomputable def Zgc (td ty tv : TE) (rd : V → V → Hp → VK → Prop) : TS := fun D σ H => td σ H fun x H1 => ty σ H1 fun y H2 => ∃ a v, x = .ref a ∧ CU H2 a y (some v) ∧
 tv σ H2 fun y2 H3 => rd v y2 H3 fun z H4 => ∃ H5, Sd H4 a y z H5 ∧ D.nx σ H5
noncomputable def ZfI (td ty : TE) : TS := fun D σ H => td σ H fun x H1 => ty σ H1 fun y H2 => ∃ a kvs k, x = .ref a ∧ H2 a = some (.dK kvs) ∧ y = kV k ∧ (Wb kvs k).isSome = true ∧ D.nx σ (upd H2 a (.dK (FZ kvs k)))
section
variable {X : Cx} {o i e value : Expr} {pos pos' tpos : Pos} {td ty tv : TE}
theorem Ro (hu : X.A.units + 1 < cLine) (ho : PE X o td) (hi : PE X i ty) (hs : Zdt i) : PE X (.Subscript o i pos) (ZcI td ty) := by
 intro pins s σ H Q I h
 refine Rb PySem.F.slot_dict_getitem.lookup hs (thn (ho pins s σ H _ I h) fun u s1 ⟨x, H1, I1, rx, q1⟩ => thn (hi pins s1 σ H1 _ I1 q1) fun iv s2 ⟨y, H2, I2, ry, a, v, ex, g, q2⟩ => ?_)
 subst ex
 obtain rfl : u = Value.ref a := rx
 exact ⟨G0 I2 g, Fy hu I2 g ry fun w' s3 I3 rw' => ⟨v, H2, I3, rw', q2⟩⟩
end
theorem H0 {P : Program} {w : World} {H : Hp} (h : Heap) (hb : sysModules < h.objs.size) : Q2 P w H (h.push { cls := .type "dict", data := .dict #[] }) h.objs.size (.dK []) :=
 ⟨Nat.zero_le _, beq_eq_false_iff_ne.mpr (Ne.symm (Nat.ne_of_lt hb)), [], .nil, Heap.DictOf.new h⟩
noncomputable def Zd7 : TE := fun _ H Q => ∀ p, H p = none → Q (.ref p) (upd H p (.dK []))
noncomputable def Zeh : TE := fun _ H Q => ∀ p, H p = none → Q (.ref p) (upd H p (.dT []))
section
variable {X : Cx} {pos : Pos}
end
noncomputable def Cq : List (TE × TE) → St → Hp → (List (V × V) → Hp → Prop) → Prop
 | [], _, H, Q => Q [] H
 | (tk, tv) :: r, σ, H, Q => tk σ H fun x H1 => tv σ H1 fun y H2 => Cq r σ H2 fun ps H3 => Q ((x, y) :: ps) H3
noncomputable abbrev VV : List (V × V) → List (Value × Value) → Prop := Paired fun p q => RelV p.1 q.1 ∧ RelV p.2 q.2
noncomputable def PPs (X : Cx) (pos : Pos) (keys : List (Option Expr)) (values : List Expr) (trs : List (TE × TE)) : Prop :=
 ∀ (pins : List (Addr × Obj)) (s : Shared) (σ : St) (H : Hp) (Q : List (V × V) → Hp → Prop), Inv X pins σ H s → Cq trs σ H Q →
  wpAny (model X.prog X.w) X.A (evalPairs (pairTrees keys values X.env pos)) (fun vs s' => ∃ ps H', Inv X pins σ H' s' ∧ VV ps vs ∧ Q ps H') X.xe s
theorem Pg {X : Cx} {pos : Pos} : PPs X pos [] [] [] := fun pins s σ H Q I h => pairTrees_nil_walk ⟨[], H, I, .nil, h⟩
theorem VP {X : Cx} {pos : Pos} {k v : Expr} {ks : List (Option Expr)} {vs : List Expr} {tk tv : TE} {trs : List (TE × TE)} (hk : PE X k tk) (hv : PE X v tv) (hr : PPs X pos ks vs trs) :
  PPs X pos (some k :: ks) (v :: vs) ((tk, tv) :: trs) := fun pins s σ H Q I h =>
 pairTrees_cons_walk (thn (hk pins s σ H _ I h) fun u s1 ⟨x, H1, I1, rx, q1⟩ => thn (hv pins s1 σ H1 _ I1 q1) fun w2 s2 ⟨y, H2, I2, ry, q2⟩ =>
  thn (hr pins s2 σ H2 _ I2 q2) fun ws s3 ⟨ps, H3, I3, rel, q3⟩ => ⟨(x, y) :: ps, H3, I3, .cons ⟨rx, ry⟩ rel, q3⟩)
noncomputable def Xi (kvs more : List (Key × V)) : List (Key × V) := more.foldl (fun acc kv => putK acc kv.1 kv.2) kvs
theorem KV.merge : ∀ {more : List (Key × V)} {rs : List (Key × Value)} {kvs : List (Key × V)} {vs : List (Key × Value)}, KV more rs → KV kvs vs → KV (Xi kvs more) (merged vs rs) := by
 intro more rs kvs vs r
 unfold KV at r
 induction r generalizing kvs vs with
 | nil => intro q; exact q
 | @cons p q ps qs h t ih =>
  intro r0
  have e : KV (putK kvs p.1 p.2) (stored vs q.1 q.2) := by
   have := r0.put p.1 h.2
   rw [← h.1]; exact this
  exact ih e
theorem YD : ∀ (more kvs : List (Key × V)), (Xi kvs more).length ≤ kvs.length + more.length
 | [], kvs => by show kvs.length ≤ kvs.length + 0; omega
 | p :: r, kvs => by
  have h1 := YD r (putK kvs p.1 p.2)
  have h2 := GB kvs p.1 p.2
  show (Xi (putK kvs p.1 p.2) r).length ≤ _
  rw [List.length_cons]; omega
theorem KS {P : Program} {w : World} : ∀ {kvs : List (Key × V)} {ws : List (Value × Value)}, VV (kvs.map fun kv => (kV kv.1, kv.2)) ws → ∃ rs, Carries (Qg P w) ws rs ∧ KV kvs rs
 | [], _, r => by rw [List.map_nil] at r; cases r; exact ⟨[], True.intro, .nil⟩
 | p :: kvs, _, r => by
  rw [List.map_cons] at r
  cases r with
  | @cons a b as bs h t =>
   obtain ⟨rs, c, q⟩ := KS (P := P) (w := w) t
   obtain ⟨b1, b2⟩ := b
   exact ⟨(p.1, b2) :: rs, ⟨OX h.1, rfl, c⟩, .cons ⟨rfl, h.2⟩ q⟩
noncomputable def ZcW (trs : List (TE × TE)) : TE := fun σ H Q => ∀ p, H p = none → Cq trs σ (upd H p (.dK [])) fun ps H2 => H2 p = some (.dK []) ∧ ∃ kvs : List (Key × V), ps = kvs.map (fun kv => (kV kv.1, kv.2)) ∧ kvs.length ≤ 15 ∧ Q (.ref p) (upd H2 p (.dK (Xi [] kvs)))
theorem Pk {X : Cx} {pos : Pos} {keys : List (Option Expr)} {values : List Expr} {trs : List (TE × TE)} (h : PPs X pos keys values trs) (hall : keys.all (·.isSome) = true) (hl : keys.length = values.length) (h0 : keys ≠ [])
  (h15 : keys.length ≤ 15) : PE X (.Dict keys values pos) (ZcW trs) := by
 intro pins s σ H Q I q
 have hn := I.hok.fresh (Nat.le_refl s.heap.objs.size)
 have I1 := I.laid (a := s.heap.objs.size) (o := .dK []) (h' := s.heap.push { cls := .type "dict", data := .dict #[] }) (t' := s.toks) (fun _ _ q => Heap.get?_push_of_some _ q) (Nat.le_refl _) (H0 s.heap I.big)
 refine wpAny_Dict_walk (knd := Qg X.prog X.w) hall hl h0 h15 (thn (h pins _ σ _ _ I1 (q _ hn)) fun ws s2 ⟨ps, H2, I2, rel, e, kvs, ep, lk, q2⟩ => ?_)
 subst ep
 obtain ⟨rs, c, rk⟩ := KS (P := X.prog) (w := X.w) rel
 obtain ⟨z, hd, vs0, r0, dd⟩ := Zcv I2.hok e
 cases r0
 refine ⟨rs, c, dd, fun h' dd' hs => ⟨.ref s.heap.objs.size, _, ?_, rfl, q2⟩⟩
 have hz : (Xi [] kvs).length ≤ sizeLine := by
  have h1 := YD kvs []
  rw [List.length_nil] at h1
  rw [sizeLine_eq]; omega
 have he : ∃ q, h'.get? s.heap.objs.size = some q := let ⟨q, _, _, hq, _⟩ := dd'; ⟨q, hq⟩
 exact Pf I2 (by rw [e]; exact True.intro) hs he (ZaR hz hd (rk.merge .nil) dd')
structure M1 (X : Cx) (o : Expr) (m : Str) (apos : Pos) (e : Expr) (cpos : Pos) : Prop where
 base : attributeBase o m X.env (eval o X.env) = eval o X.env
 few : ((backTo cpos (starEach [e] X.env)).all (fun x => !x.1) && (backToKw cpos (keywordEach [] X.env)).all (fun x => x.1.isSome)
  && decide (([e] : List Expr).length + ([] : List Keyword).length + (if ([] : List Keyword).isEmpty then 0 else 1) < 30)) = true
 line : (apos.endLine == cpos.line) = true
 trees : backTo cpos (starEach [e] X.env) = [(false, eval e X.env)]
structure M2 (X : Cx) (o : Expr) (m : Str) (apos : Pos) (e f : Expr) (cpos : Pos) : Prop where
 base : attributeBase o m X.env (eval o X.env) = eval o X.env
 few : ((backTo cpos (starEach [e, f] X.env)).all (fun x => !x.1) && (backToKw cpos (keywordEach [] X.env)).all (fun x => x.1.isSome)
  && decide (([e, f] : List Expr).length + ([] : List Keyword).length + (if ([] : List Keyword).isEmpty then 0 else 1) < 30)) = true
 line : (apos.endLine == cpos.line) = true
 trees : backTo cpos (starEach [e, f] X.env) = [(false, eval e X.env), (false, eval f X.env)]
noncomputable def IsD (H : Hp) (a : Addr) : Prop := (∃ kvs, Rd H a (.dK kvs)) ∨ ∃ kvs, Rd H a (.dT kvs)
section
variable {X : Cx} {pins : List (Addr × Obj)} {σ : St} {H : Hp} {s : Shared} {a : Addr} {y d : V} {u r : Value} {o : Option V} {A : Around} {E : Value → Shared → Prop}
end
noncomputable def Zd2 (td ty : TE) : TE := fun σ H Q => td σ H fun x H1 => ∃ a, x = .ref a ∧ IsD H1 a ∧ ty σ H1 fun y H2 => ∃ o, CU H2 a y o ∧ Q (o.getD .non) H2
noncomputable def ZeX (td ty tx : TE) : TE := fun σ H Q => td σ H fun x H1 => ∃ a, x = .ref a ∧ IsD H1 a ∧ ty σ H1 fun y H2 => tx σ H2 fun z H3 => ∃ o, CU H3 a y o ∧ Q (o.getD z) H3
noncomputable def Zeb (td ty : TE) : TE := fun σ H Q => td σ H fun x H1 => ∃ a, x = .ref a ∧ IsD H1 a ∧ ty σ H1 fun y H2 => ∃ kvs k v, H2 a = some (.dK kvs) ∧ y = kV k ∧ Wb kvs k = some v ∧ Q v (upd H2 a (.dK (FZ kvs k)))
noncomputable def Zen (td ty tx : TE) : TE := fun σ H Q => td σ H fun x H1 => ∃ a, x = .ref a ∧ IsD H1 a ∧ ty σ H1 fun y H2 => tx σ H2 fun z H3 => ∃ kvs k, H3 a = some (.dK kvs) ∧ y = kV k ∧
 (∀ v, Wb kvs k = some v → Q v (upd H3 a (.dK (FZ kvs k)))) ∧ (Wb kvs k = none → Q z H3)
section
variable {X : Cx} {o e f : Expr} {apos cpos : Pos} {td ty tx : TE}
end
section
variable {X : Cx} {pins : List (Addr × Obj)} {σ : St} {H : Hp} {s : Shared} {a : Addr} {kvs : List (Key × V)} {A : Around} {E : Value → Shared → Prop}
end
section
variable {X : Cx} {pins : List (Addr × Obj)} {σ : St} {H : Hp} {s : Shared} {a : Addr} {y : V} {u : Value} {A : Around} {E : Value → Shared → Prop}
end
end L2
namespace Att
open PySem PySem.W PySem.Calls PyProof.Rows
theorem XM {P : Params} {h : Heap} : ∀ (ns : List Int) (vs : List Value), WellAll P h vs (ns.map WData.int) → IntsAre vs ns := by
 intro ns
 induction ns with
 | nil =>
  intro vs w
  rw [List.map_nil] at w
  cases w
  exact .nil
 | cons n ns ih =>
  intro vs w
  rw [List.map_cons] at w
  cases w with
  | cons a b =>
   cases a
   exact .cons _ _ (ih _ b)
theorem FE {l : OpenLaw} {n : Nat} (hn : l.most = some n) {P : Params} {h : Heap} {args : List WData} {vals : List Value}
  (hpre : l.row.toRowW.claim.pre args = true) (hwl : WellAll P h vals args) :
  ∃ a vs ns, vals = [Value.ref a] ∧ args = [WData.list (ns.map WData.int)] ∧ h.get? a = some { cls := .type "list", data := .seq vs.toArray } ∧ IntsAre vs ns ∧ ns.length ≤ n := by
 have hsh : WShape.hasAll [] args [.list .int] = true := (pre_splitW hpre).1
 have hc : l.pre.holds [] { args := args } = true := (pre_splitW hpre).2
 obtain ⟨d, r, rfl, h1, h2⟩ := hasAllW_cons hsh
 obtain rfl := hasAllW_nil h2
 obtain ⟨xs, rfl, h3⟩ := hasW_list h1
 obtain ⟨ns, rfl⟩ := items_int h3
 have hlen : ns.length ≤ n := by
  unfold OpenLaw.pre at hc
  have h4 : (WTm.not (.lt (.lit (.int (n : Int))) (.len (.arg 0)))).holds [] { args := [.list (ns.map .int)] } = true := by
   have h4 := (holds_andW hc).1
   rw [hn] at h4
   exact h4
  have h5 := condW_of h4 (w_not (w_lt w_lit (w_len_list (w_arg rfl))))
  rw [List.length_map] at h5
  refine Nat.le_of_not_lt fun q => ?_
  have q' : (n : Int) < ((ns.length : Nat) : Int) := by omega
  first
   | (rw [decide_eq_true q'] at h5; exact absurd h5 (by decide))
   | (simp at h5; omega)
 cases hwl with
 | cons w1 w2 =>
  cases w2
  cases w1 with
  | list ho hall => exact ⟨_, _, ns, rfl, rfl, ho, XM ns _ hall, hlen⟩
theorem Em (l : OpenLaw) (args : List WData) : l.row.toRowW.claim.post args (.bool true) args = true :=
 postW_of (r := l.row.toRowW) (X := (true == true))
  (show WShape.has [] (.bool true) .bool = true by first | rfl | decide | simp [WShape.has, WShape.arms, WShape.armsAll])
  (show (WTm.eq .res (.lit (.bool true))).value [] { args := args, res := some (.bool true), after := args } = some (.bool (true == true)) from w_eq_bool (w_res rfl) w_lit) rfl
theorem GD {l : OpenLaw} {n : Nat} {q : Program} {loose : List Str} {XP : (Str → Option Value) → Heap → Prop} {YP : World → Heap → Prop} {d : DefRec}
  (hn : l.most = some n) (hdf : d.params.defaults = [])
  (call : ∀ (w : World) (s₀ s₁ : Shared) (mg mb : Str → Option Value) (fa : Addr) (o : Obj) (pm cd doc : Value) (a : Addr) (vs : List Value) (ns : List Int),
   Ground q loose [] XP w s₀ mg mb s₁.heap → YP w s₁.heap →
   s₁.heap.get? fa = some o → o.data = .func (docDef d.name d.params d.body d.scope pm cd doc) → s₁.heap.CodeRec cd d.name → mg d.name = some (.ref fa) →
   s₁.heap.get? a = some { cls := .type "list", data := .seq vs.toArray } → IntsAre vs ns → ns.length ≤ n → s₁.gens = #[] →
   codeAny (model l.prog w) callerA (.call (.ref fa) ⟨[.ref a], []⟩) (fun r s' => r = .ok (.ret (.bool true)) ∧ OldK s₁.heap s'.heap ∧ s'.os = s₁.os ∧ AllBare s'.gens) s₁) :
  WalkO q loose XP YP l.row.toRowW d [] (fun f vs => PySem.call f vs) := by
 intro w s₀ s₁ mg mb G Y fa o pm cd doc dV kV ho hd hcd hD hmg hg args vals as hpre hlay hrd hwl hlo
 obtain rfl : dV = .none := Dflts.none hD hdf
 obtain rfl : kV = .none := Dflts.noKw hD
 obtain ⟨a, vs, ns, rfl, rfl, hobj, hints, hlen⟩ := FE hn hpre hwl
 refine enter_call (codeAny_mono (call w s₀ s₁ mg mb fa o pm cd doc a vs ns G Y ho (fd_plain hd) hcd hmg hobj hints hlen hg) fun r s' hq => ?_)
 obtain ⟨rfl, h2, h3, h4⟩ := hq
 exact ⟨.inl ⟨.bool true, .bool true, [], rfl, fun _ => rfl, .bool true, Em l _, fun _ => ⟨List.Pairwise.nil, fun _ hm => (nomatch hm)⟩⟩, h2, h3, h4⟩
section
variable {prog : Program} {w : World} {A : Around} {E : Value → Shared → Prop} {s : Shared} {K : Frag}
noncomputable def Zeu (h : Heap) : Heap := { h with objs := #[] }
noncomputable def ledger (h : Heap) (L d : Addr) : List (Addr × Obj) := (List.range h.objs.size).filterMap fun a => if a = L ∨ a = d then none else (h.get? a).map fun o => (a, o)
end
end Att
namespace L2
open PySem PySem.Spec PyProof.Rows
theorem UJ : ∀ {vs : List Value} {ns : List Int}, IntsAre vs ns → Vals (ns.map V.int) vs
 | _, _, .nil => .nil
 | _, _, .cons n t h => .cons ⟨t, rfl⟩ (UJ h)
noncomputable def Zb9 (H : Hp) : Prop := ∀ b, H b = none ∨ ∃ o xs, H b = some (.frz o (.lst xs))
theorem MU {P : Program} {w : World} {K : PySem.W.Frag} {mg mb : Str → Option Value} {CX : CXT} {k : Nat} {fa a : Addr} {fd : FuncData} {x : Str} {sp : Sp} {s₁ : Shared} {vs : List Value} {ns : List Int}
  (KX : K.In s₁.heap) (hns : s₁.heap.Ns mainGlobals mg) (hb : s₁.heap.Ns builtinsNs mb) (hbb : ∀ x : Str, x ≠ "__name__" → mb x = bootBuiltins x) (hlim : s₁.heap.NoLimit) (hg : s₁.gens = #[])
  (ha : s₁.heap.get? a = some { cls := .type "list", data := .seq vs.toArray }) (hi : IntsAre vs ns) (hl : ns.length ≤ sizeLine) (hr : Yr k callerA)
  (F : ∀ base : Heap, K.In base → base.Ns mainGlobals mg → ZE P w K mg base CX k fa fd [x] sp) (hbind : ∀ (s : Shared) (u : Value), BindsTo s fd ⟨[u], []⟩ [(x, u)])
  (hsp : ∀ H : Hp, Zb9 H → SqL K H a (ns.map V.int) → sp [.ref a] H (fun v _ => v = .bl true) fun _ _ _ => False)
  (hCX : ∀ H e s', CX [] H s₁ (fun _ _ _ => False) e s' → False) :
  codeAny (model P w) callerA (.call (.ref fa) ⟨[.ref a], []⟩) (fun r s' => r = .ok (.ret (.bool true)) ∧ OldK s₁.heap s'.heap ∧ s'.os = s₁.os ∧ AllBare s'.gens) s₁ := by
 have rv := UJ hi
 have lenV := hi.length
 have core : ∀ H : Hp, Zb9 H → SqL K H a (ns.map V.int) → HOk P w H s₁.heap → (∀ b, H b ≠ none → b = a) → (H a ≠ none → K.lookup a = none) →
   codeAny (model P w) callerA (.call (.ref fa) ⟨[.ref a], []⟩) (fun r s' => r = .ok (.ret (.bool true)) ∧ OldK s₁.heap s'.heap ∧ s'.os = s₁.os ∧ AllBare s'.gens) s₁ := by
  intro H hO hS hok hA hK
  have base_of : ∀ {b : Addr} {o : Obj}, s₁.heap.get? b = some o → H b = none → (Hw s₁.heap H).get? b = some o := fun e n => HE e n
  have noA : ∀ {b : Addr} {o : Obj} {es : Array DictEntry} {ep : Nat}, s₁.heap.get? b = some o → o.data = .dict es ep → H b = none := fun {b o es ep} e d => by
   cases q : H b with
   | none => rfl
   | some u =>
    have e' : b = a := hA b (by rw [q]; simp)
    subst e'
    rw [ha] at e; cases e
    have d' : Data.seq vs.toArray _ = Data.dict es ep := d
    cases d'
  have nsK : ∀ {b : Addr} {m : Str → Option Value}, s₁.heap.Ns b m → (Hw s₁.heap H).Ns b m := fun {b m} ⟨o, es, ep, e, d, r⟩ => ⟨o, es, ep, base_of e (noA e d), d, r⟩
  have hKb : K.In (Hw s₁.heap H) := fun b o e => base_of (KX b o e) (by
   cases q : H b with
   | none => rfl
   | some u =>
    have e' : b = a := hA b (by rw [q]; simp)
    subst e'
    rw [hK (by rw [q]; simp)] at e; cases e)
  have hM : Mod K mg (Hw s₁.heap H) := ⟨hKb, nsK hns, ⟨mb, nsK hb, hbb⟩, let ⟨mc, h1, h2⟩ := hlim; ⟨mc, nsK h1, h2⟩⟩
  have e0 : Zcb P w K mg (Hw s₁.heap H) callerA [] s₁ H := ⟨rfl, hM, fun b o e => RU e, Nat.le_of_eq (E1 _ _), trivial, fun b hb => absurd (show b ∈ ([] : List Addr) from hb) (by simp), hok, .of_eq hg⟩
  refine codeAny_mono ((F _ hKb (nsK hns)).run callerA [] s₁ H ⟨[.ref a], []⟩ [.ref a] [.ref a] _ _ hr e0 (hbind s₁ (.ref a)) (.cons rfl .nil) (hsp H hO hS)) fun r s' h => ?_
  cases r with
  | error e => exact (hCX H e s' h).elim
  | ok fl =>
   cases fl with
   | next => exact False.elim h
   | brk => exact False.elim h
   | cont => exact False.elim h
   | ret u =>
    obtain ⟨v, H', os, bare, un, hok', r', q⟩ := h
    have q' : v = .bl true := q
    subst q'
    obtain rfl : u = Value.bool true := r'
    refine ⟨rfl, OldK.of_keep fun b o e => ?_, os, bare⟩
    cases q : H b with
    | none => exact un.keep b o e q (by intro z; exact absurd (show b ∈ ([] : List Addr) from z) (by simp)) (by simp)
    | some u =>
     rcases hO b with z | ⟨ob, xs, z⟩
     ·rw [q] at z; cases z
     ·have z2 := un.frzs b ob _ z
      obtain ⟨e1, _⟩ := hok b _ z
      obtain ⟨e2, _⟩ := hok' b _ z2
      rw [e] at e1; cases e1
      exact e2
 cases hk : K.lookup a with
 | some o =>
  have e := KX a o hk
  rw [ha] at e
  cases e
  refine core (fun _ => none) (fun _ => .inl rfl) (.inr ⟨_, vs.toArray, _, hk, rfl, rfl, rfl, by rw [List.size_toArray, lenV]; exact hl, by simpa using rv⟩) (fun b u z => by have z' : (none : Option HO) = some u := z; cases z') (fun b z => absurd rfl z) fun z => absurd rfl z
 | none =>
  refine core (fun b => if b = a then some (.frz { cls := .type "list", data := .seq vs.toArray } (.lst (ns.map V.int))) else none) (fun b => ?_) (.inl (.inr ⟨{ cls := .type "list", data := .seq vs.toArray }, if_pos rfl⟩)) (fun b u z => ?_) (fun b z => ?_) fun _ => hk
  ·by_cases hb : b = a
   ·exact .inr ⟨_, _, if_pos hb⟩
   ·exact .inl (if_neg hb)
  ·by_cases hb : b = a
   ·have z' := (if_pos hb).symm.trans z
    cases z'
    subst hb
    exact ⟨ha, by rw [List.length_map]; exact hl, vs, _, rv, ha⟩
   ·have z' := (if_neg hb).symm.trans z
    cases z'
  ·by_cases hb : b = a
   ·exact hb
   ·exact absurd (if_neg hb) z
end L2
namespace L2
open PySem PySem.Spec PyProof.Rows
noncomputable abbrev KOf {K : PySem.W.Frag} {h : Heap} (_ : K.In h) : PySem.W.Frag := K
theorem RI {l : PySem.W.OpenLaw} {n k : Nat} {q : Program} {loose : List Str} {XP : (Str → Option Value) → Heap → Prop} {YP : World → Heap → Prop} {d : DefRec} {K : Params → PySem.W.Frag} {CX : World → CXT} {sp : World → Sp} {x : Str}
  (hn : l.most = some n) (hn2 : n ≤ sizeLine) (hdf : d.params.defaults = []) (hr : Yr k callerA)
  (hY : ∀ (w : World) (h : Heap), YP w h → (K w.params).In h)
  (F : ∀ (w : World) (mg : Str → Option Value) (fa : Addr) (h : Heap), (K w.params).In h → h.Ns mainGlobals mg → mg d.name = some (.ref fa) →
   ∃ fd : FuncData, (∀ (s : Shared) (u : Value), BindsTo s fd ⟨[u], []⟩ [(x, u)]) ∧
    ∀ base : Heap, (K w.params).In base → base.Ns mainGlobals mg → ZE l.prog w (K w.params) mg base (CX w) k fa fd [x] (sp w))
  (hsp : ∀ (w : World) (H : Hp) (a : Addr) (ns : List Int), ns.length ≤ n → Zb9 H → SqL (K w.params) H a (ns.map V.int) → sp w [.ref a] H (fun v _ => v = .bl true) fun _ _ _ => False)
  (hCX : ∀ (w : World) (H : Hp) (s : Shared) (e : Value) (s' : Shared), CX w [] H s (fun _ _ _ => False) e s' → False) :
  PySem.W.WalkO q loose XP YP l.row.toRowW d [] (fun f vs => PySem.call f vs) := by
 refine Att.GD hn hdf fun w s₀ s₁ mg mb fa o pm cd doc a vs ns G Y ho hd hcd hmg hobj hints hlen hg => ?_
 have KX := hY w _ Y
 obtain ⟨fd, hb, hF⟩ := F w mg fa _ KX G.T.g hmg
 exact MU KX G.T.g G.T.b G.T.builtins G.T.nolimit hg hobj hints (Nat.le_trans hlen hn2) hr hF hb (fun H hO hS => hsp w H a ns hlen hO hS) fun H e s' => hCX w H s₁ e s'
end L2
namespace L2
open PySem PySem.Spec PyProof.Rows
noncomputable def inClass (s : Stmt) (j : Nat) : Stmt := match s with
 | .ClassDef _ _ _ body _ _ _ _ _ _ _ => body.getD j (.Pass ⟨0, 0, 0, 0⟩)
 | _ => .Pass ⟨0, 0, 0, 0⟩
noncomputable def Zt (s : Stmt) : Arguments := match s with
 | .FunctionDef _ a _ _ _ _ _ _ _ _ => a
 | _ => { posonlyargs := [], args := [], vararg := none, kwonlyargs := [], kw_defaults := [], kwarg := none, defaults := [] }
noncomputable def Zr (s : Stmt) : List Stmt := match s with
 | .FunctionDef _ _ b _ _ _ _ _ _ _ => b
 | _ => []
noncomputable def Ze (s : Stmt) : Scope := match s with
 | .FunctionDef _ _ _ _ _ _ sc _ _ _ => sc
 | _ => { kind := .function, names := [], isGenerator := false, isCoroutine := false }
noncomputable abbrev CX0 : CXT := fun _ _ _ _ _ _ => False
noncomputable abbrev E0 : XK := fun _ _ _ => False
theorem Zp {X : Cx} : Passes CX0 X E0 := fun _ _ _ _ _ _ _ h => h.elim
structure Fun (K : PySem.W.Frag) (x qual : Str) (st : Stmt) (f : Addr) (fd : FuncData) : Prop where
 ex : ∃ (oc : Value) (od : Option Addr) (kV doc pm : Value) (an : Option Addr) (cdv ct : Value) (osl : Array (Option Value)),
  fd = PySem.W.fnOf x qual (Zt st) (Zr st) (Ze st) .none kV doc pm an cdv ct ∧ K.lookup f = some ⟨oc, od, .func fd, osl⟩ ∧ PySem.W.codeIn K cdv qual = true
 kp : PySem.W.keepIn K (.ref f) = true
section
variable {P : Program} {w : World} {K : PySem.W.Frag} {mg : Str → Option Value} {base : Heap}
theorem Fun.ok {x qual : Str} {st : Stmt} {f : Addr} {fd : FuncData} {N ps : List Str} {k : Nat} {sp : Sp} (F : Fun K x qual st f fd) (S : Zs N ps (Ze st)) (len : ∀ vs H Q E, sp vs H Q E → vs.length = ps.length)
  (hbody : ∀ (cdv : Value) (A : Around) (outer : List Env) (s : Shared) (H : Hp) (vs : List V) (Q : VK) (E : XK), Yr k (A.deeper (envOfC qual (Ze st) s.heap.objs.size f cdv)) → sp vs H Q E →
   ∃ t, PSs (N5 CX0 P w K mg base N qual (Ze st) f cdv A outer s H E).nox (Zr st) t ∧ t { nx := fun _ H' => Q .non H', rt := Q } (start N vs) H) : ZE P w K mg base CX0 (k + 1) f fd ps sp := by
 obtain ⟨oc, od, kV, doc, pm, an, cdv, ct, osl, rfl, lk, hcd⟩ := F.ex
 refine Zc9 lk hcd S len fun A outer s H vs Q E hr hsp => ?_
 obtain ⟨t, h, q⟩ := hbody cdv A outer s H vs Q E hr hsp
 exact ⟨t, h.nox, q⟩
theorem Fun.binds {x qual : Str} {st : Stmt} {f : Addr} {fd : FuncData} {ps : List Str} (F : Fun K x qual st f fd)
  (h : ∀ (kV doc pm : Value) (an : Option Addr) (cdv ct : Value) (us : List Value), us.length = ps.length → bindArgs (PySem.W.fnOf x qual (Zt st) (Zr st) (Ze st) .none kV doc pm an cdv ct) ⟨us, []⟩ = pure (ps.zip us)) : Binds K fd ps [] := by
 obtain ⟨oc, od, kV, doc, pm, an, cdv, ct, osl, rfl, lk, hcd⟩ := F.ex
 exact .all (h kV doc pm an cdv ct)
theorem Zy {x qual : Str} {st : Stmt} {f : Addr} {oc : Value} {od an : Option Addr} {osl : Array (Option Value)} {kV doc pm cdv ct : Value} (l : K.lookup f = some ⟨oc, od, .func (PySem.W.fnOf x qual (Zt st) (Zr st) (Ze st) .none kV doc pm an cdv ct), osl⟩)
  (c : PySem.W.codeIn K cdv qual = true) (k : PySem.W.keepIn K (.ref f) = true) : Fun K x qual st f (PySem.W.fnOf x qual (Zt st) (Zr st) (Ze st) .none kV doc pm an cdv ct) := ⟨⟨oc, od, kV, doc, pm, an, cdv, ct, osl, rfl, l, c⟩, k⟩
end
section
variable {X : Cx}
end
noncomputable def NR (H H' : Hp) : Prop := ∀ b o, H b = some o → H' b = some o
theorem NR.refl (H : Hp) : NR H H := fun _ _ h => h
theorem NR.trans {H H1 H2 : Hp} (a : NR H H1) (b : NR H1 H2) : NR H H2 := fun c o h => b c o (a c o h)
theorem NR.free {H H' : Hp} (e : NR H H') {l : Addr} (h : H' l = Option.none) : H l = Option.none := by
 cases q : H l with
 | none => rfl
 | some o =>
  rw [e l o q] at h
  cases h
end L2
namespace DL
open PySem PySem.Spec PyProof.Rows L2
inductive DV where
 | dat (d : PyData)
 | own (a : Addr)
 | ty (n : String)
inductive OO where
 | lst (ds : List PyData)
  | dct (ks : List (List Key))
  | dtv (kvs : List (List Key × PyData))
  | dkv (kvs : List (Key × PyData))
  | dko (kvs : List (Key × DV))
  | fdk (o : Obj) (kvs : List (Key × PyData))
  | ext (φ : Heap → Prop)
noncomputable abbrev Mp := Addr → Option OO
noncomputable def Z1 (M : Mp) (a : Addr) (o : OO) : Mp := fun b => if b = a then some o else M b
noncomputable def YQ (M : Mp) (a : Addr) : Mp := fun b => if b = a then none else M b
theorem Z7 {M : Mp} {a : Addr} {o : OO} : Z1 M a o a = some o := by unfold Z1; rw [if_pos rfl]
theorem Jl {M : Mp} {a b : Addr} {o : OO} (h : b ≠ a) : Z1 M a o b = M b := by unfold Z1; rw [if_neg h]
theorem FJ {M : Mp} {a : Addr} {o u : OO} : Z1 (Z1 M a o) a u = Z1 M a u := by
 funext b; unfold Z1; split <;> rfl
theorem Kd {M : Mp} {a : Addr} : YQ M a a = none := by unfold YQ; rw [if_pos rfl]
theorem WY {M : Mp} {a b : Addr} (h : b ≠ a) : YQ M a b = M b := by unfold YQ; rw [if_neg h]
noncomputable def kD : Key → PyData
 | .inl i => .int i
 | .inr x => .str x
noncomputable def KTu (K : PySem.W.Frag) (a : Addr) (xs : List V) : Prop :=
 ∃ (o : Obj) (its : Array Value) (n : Nat), K.lookup a = some o ∧ o.cls = .type "tuple" ∧ o.data = .seq its n ∧ its.size ≤ sizeLine ∧ Vals xs its.toList
noncomputable def KLs (K : PySem.W.Frag) (a : Addr) (xs : List V) : Prop :=
 ∃ (o : Obj) (its : Array Value) (n : Nat), K.lookup a = some o ∧ o.cls = .type "list" ∧ o.dict = none ∧ o.data = .seq its n ∧ its.size ≤ sizeLine ∧ Vals xs its.toList
noncomputable def TupAt (K : PySem.W.Frag) (M : Mp) (H : Hp) (a : Addr) (xs : List V) : Prop := (M a = none ∧ Rd H a (.tup xs)) ∨ KTu K a xs
noncomputable def LstAt (K : PySem.W.Frag) (M : Mp) (H : Hp) (a : Addr) (xs : List V) : Prop := (M a = none ∧ Rd H a (.lst xs)) ∨ KLs K a xs
theorem TupAt.sq {K : PySem.W.Frag} {M : Mp} {H : Hp} {a : Addr} {xs : List V} (h : TupAt K M H a xs) : SqT K H a xs := by
 rcases h with ⟨_, h⟩ | h
 ·exact .inl h
 ·exact .inr h
theorem LstAt.sq {K : PySem.W.Frag} {M : Mp} {H : Hp} {a : Addr} {xs : List V} (h : LstAt K M H a xs) : SqL K H a xs := by
 rcases h with ⟨_, h⟩ | h
 ·exact .inl h
 ·exact .inr h
mutual
inductive Dt (K : PySem.W.Frag) (M : Mp) (H : Hp) : V → PyData → Prop
 | non : Dt K M H .non .none
 | bl (b : Bool) : Dt K M H (.bl b) (.bool b)
 | int (i : Int) : Dt K M H (.int i) (.int i)
 | str (x : Str) : Dt K M H (.str x) (.str x)
 | tup {a : Addr} {xs : List V} {ds : List PyData} : TupAt K M H a xs → Dts K M H xs ds → Dt K M H (.ref a) (.tuple ds)
 | lst {a : Addr} {xs : List V} {ds : List PyData} : LstAt K M H a xs → Dts K M H xs ds → Dt K M H (.ref a) (.list ds)
 | dK {a : Addr} {kvs : List (Key × V)} {ds : List PyData} : M a = none → H a = some (.dK kvs) → Dts K M H (kvs.map (·.2)) ds → Dt K M H (.ref a) (.dict ((kvs.map fun kv => kD kv.1).zip ds))
 | dT {a : Addr} {kvs : List (List Key × V)} {ds : List PyData} : M a = none → H a = some (.dT kvs) → Dts K M H (kvs.map (·.2)) ds → Dt K M H (.ref a) (.dict ((kvs.map fun kv => PyData.tuple (kv.1.map kD)).zip ds))
 | dX {a b : Addr} {φ : Heap → Prop} {v : V} {dk d : PyData} : M a = none → H a = some (.ext φ) → (a == sysModules) = false →
   (∀ h, φ h → ∃ o es n u, h.get? a = some o ∧ o.cls = .type "dict" ∧ o.data = .dict es n ∧ es.toList.map (·.key) = [.ref b] ∧ es.toList.map (·.val) = [u] ∧ RelV v u) → Dt K M H (.ref b) dk → Dt K M H v d → Dt K M H (.ref a) (.dict [(dk, d)])
inductive Dts (K : PySem.W.Frag) (M : Mp) (H : Hp) : List V → List PyData → Prop
 | nil : Dts K M H [] []
 | cons {x : V} {xs : List V} {d : PyData} {ds : List PyData} : Dt K M H x d → Dts K M H xs ds → Dts K M H (x :: xs) (d :: ds)
end
structure Step (M : Mp) (H : Hp) (M' : Mp) (H' : Hp) : Prop where
 keep : ∀ b o, M b = none → H b = some o → H' b = some o
 free : ∀ b o, M b = none → H b = some o → M' b = none
theorem Step.refl {M : Mp} {H : Hp} : Step M H M H := ⟨fun _ _ _ h => h, fun _ _ h _ => h⟩
theorem Step.trans {M M1 M2 : Mp} {H H1 H2 : Hp} (a : Step M H M1 H1) (b : Step M1 H1 M2 H2) : Step M H M2 H2 :=
 ⟨fun c o h1 h2 => b.keep c o (a.free c o h1 h2) (a.keep c o h1 h2), fun c o h1 h2 => b.free c o (a.free c o h1 h2) (a.keep c o h1 h2)⟩
section
variable {K : PySem.W.Frag} {M M' : Mp} {H H' : Hp}
theorem Ef {a : Addr} {u : HO} (st : Step M H M' H') (hm : M a = none) (h : Rd H a u) : M' a = none ∧ Rd H' a u := by
 rcases h with h | ⟨o, h⟩
 ·exact ⟨st.free _ _ hm h, .inl (st.keep _ _ hm h)⟩
 ·exact ⟨st.free _ _ hm h, .inr ⟨o, st.keep _ _ hm h⟩⟩
theorem TupAt.step {a : Addr} {xs : List V} (h : TupAt K M H a xs) (st : Step M H M' H') : TupAt K M' H' a xs := by
 rcases h with ⟨h1, h2⟩ | h
 ·exact .inl (Ef st h1 h2)
 ·exact .inr h
theorem LstAt.step {a : Addr} {xs : List V} (h : LstAt K M H a xs) (st : Step M H M' H') : LstAt K M' H' a xs := by
 rcases h with ⟨h1, h2⟩ | h
 ·exact .inl (Ef st h1 h2)
 ·exact .inr h
mutual
theorem Dt.step (st : Step M H M' H') : ∀ {v : V} {d : PyData}, Dt K M H v d → Dt K M' H' v d
 | _, _, .non => .non
 | _, _, .bl b => .bl b
 | _, _, .int i => .int i
 | _, _, .str x => .str x
 | _, _, .tup h1 h2 => .tup (h1.step st) (Dts.step st h2)
 | _, _, .lst h1 h2 => .lst (h1.step st) (Dts.step st h2)
 | _, _, .dK h0 h1 h2 => .dK (st.free _ _ h0 h1) (st.keep _ _ h0 h1) (Dts.step st h2)
 | _, _, .dT h0 h1 h2 => .dT (st.free _ _ h0 h1) (st.keep _ _ h0 h1) (Dts.step st h2)
 | _, _, .dX h0 h1 h2 h3 h4 h5 => .dX (st.free _ _ h0 h1) (st.keep _ _ h0 h1) h2 h3 (Dt.step st h4) (Dt.step st h5)
theorem Dts.step (st : Step M H M' H') : ∀ {vs : List V} {ds : List PyData}, Dts K M H vs ds → Dts K M' H' vs ds
 | _, _, .nil => .nil
 | _, _, .cons h1 h2 => .cons (Dt.step st h1) (Dts.step st h2)
end
theorem Dts.length : ∀ {vs : List V} {ds : List PyData}, Dts K M H vs ds → vs.length = ds.length
 | _, _, .nil => rfl
 | _, _, .cons _ h => by rw [List.length_cons, List.length_cons, Dts.length h]
theorem Dts.get : ∀ {vs : List V} {ds : List PyData} {i : Nat} {d : PyData}, Dts K M H vs ds → ds[i]? = some d → ∃ v, vs[i]? = some v ∧ Dt K M H v d
 | _, _, _, _, .nil, e => by simp at e
 | _, _, 0, _, .cons h _, e => by simp at e; subst e; exact ⟨_, rfl, h⟩
 | _, _, i + 1, d, .cons _ h, e => by
  obtain ⟨v, h1, h2⟩ := Dts.get (i := i) (d := d) h (by simpa using e)
  exact ⟨v, by simpa using h1, h2⟩
theorem Dts.To : ∀ {vs : List V} {ds : List PyData} {i : Nat} {v : V}, Dts K M H vs ds → vs[i]? = some v → ∃ d, ds[i]? = some d ∧ Dt K M H v d
 | _, _, _, _, .nil, e => by simp at e
 | _, _, 0, _, .cons h _, e => by simp at e; subst e; exact ⟨_, rfl, h⟩
 | _, _, i + 1, v, .cons _ h, e => by
  obtain ⟨d, h1, h2⟩ := Dts.To (i := i) (v := v) h (by simpa using e)
  exact ⟨d, by simpa using h1, h2⟩
theorem Dts.append : ∀ {vs ws : List V} {ds es : List PyData}, Dts K M H vs ds → Dts K M H ws es → Dts K M H (vs ++ ws) (ds ++ es)
 | _, _, _, _, .nil, h => h
 | _, _, _, _, .cons h1 h2, h => .cons h1 (Dts.append h2 h)
theorem Dts.take : ∀ {vs : List V} {ds : List PyData} (n : Nat), Dts K M H vs ds → Dts K M H (vs.take n) (ds.take n)
 | _, _, 0, _ => .nil
 | _, _, _ + 1, .nil => .nil
 | _, _, n + 1, .cons h1 h2 => .cons h1 (Dts.take n h2)
theorem Dts.drop : ∀ {vs : List V} {ds : List PyData} (n : Nat), Dts K M H vs ds → Dts K M H (vs.drop n) (ds.drop n)
 | _, _, 0, h => h
 | _, _, _ + 1, .nil => .nil
 | _, _, n + 1, .cons _ h2 => Dts.drop n h2
theorem Dts.set {v : V} {d : PyData} (h : Dt K M H v d) : ∀ {vs : List V} {ds : List PyData} (i : Nat), Dts K M H vs ds → Dts K M H (vs.set i v) (ds.set i d)
 | _, _, _, .nil => .nil
 | _, _, 0, .cons _ t => .cons h t
 | _, _, i + 1, .cons q t => .cons q (Dts.set h i t)
theorem Dts.ints : ∀ (ns : List Int), Dts K M H (ns.map V.int) (ns.map PyData.int)
 | [] => .nil
 | n :: ns => .cons (.int n) (Dts.ints ns)
noncomputable def VR0 (K : PySem.W.Frag) (M : Mp) (H : Hp) (v : V) : DV → Prop
 | .dat d => Dt K M H v d
 | .own b => v = .ref b
 | .ty _ => False
theorem VR0.step {v : V} {x : DV} (h : VR0 K M H v x) (st : Step M H M' H') : VR0 K M' H' v x := by
 cases x with
 | dat d => exact Dt.step st h
 | own b => exact h
 | ty n => exact h
noncomputable def OOk (K : PySem.W.Frag) (M : Mp) (H : Hp) (a : Addr) : OO → Prop
 | .lst ds => ∃ vs, H a = some (.lst vs) ∧ Dts K M H vs ds
 | .dct ks => ∃ kvs, H a = some (.dT kvs) ∧ kvs.map (·.1) = ks
 | .dtv ps => ∃ kvs, H a = some (.dT kvs) ∧ kvs.map (·.1) = ps.map (·.1) ∧ Dts K M H (kvs.map (·.2)) (ps.map (·.2))
 | .dkv ps => ∃ kvs, H a = some (.dK kvs) ∧ kvs.map (·.1) = ps.map (·.1) ∧ Dts K M H (kvs.map (·.2)) (ps.map (·.2))
 | .dko ps => ∃ kvs, H a = some (.dK kvs) ∧ Paired (fun (p : Key × V) (q : Key × DV) => p.1 = q.1 ∧ VR0 K M H p.2 q.2) kvs ps
 | .fdk o ps => ∃ kvs, H a = some (.frz o (.dK kvs)) ∧ kvs.map (·.1) = ps.map (·.1) ∧ Dts K M H (kvs.map (·.2)) (ps.map (·.2))
 | .ext φ => H a = some (.ext φ)
theorem OOk.step {a : Addr} {o : OO} (h : OOk K M H a o) (st : Step M H M' H') (e : ∀ u, H a = some u → H' a = some u) : OOk K M' H' a o := by
 cases o with
 | lst ds => obtain ⟨vs, e1, e2⟩ := h; exact ⟨vs, e _ e1, e2.step st⟩
 | dct ks => obtain ⟨vs, e1, e2⟩ := h; exact ⟨vs, e _ e1, e2⟩
 | dtv ps => obtain ⟨vs, e1, e2, e3⟩ := h; exact ⟨vs, e _ e1, e2, e3.step st⟩
 | dkv ps => obtain ⟨vs, e1, e2, e3⟩ := h; exact ⟨vs, e _ e1, e2, e3.step st⟩
 | dko ps => obtain ⟨vs, e1, e2⟩ := h; exact ⟨vs, e _ e1, Paired.Zce e2 fun _ _ z => ⟨z.1, z.2.step st⟩⟩
 | fdk o ps => obtain ⟨vs, e1, e2, e3⟩ := h; exact ⟨vs, e _ e1, e2, e3.step st⟩
 | ext φ => exact e _ h
theorem OOk.some {a : Addr} {o : OO} (h : OOk K M H a o) : ∃ u, H a = some u := by
 cases o with
 | lst ds => obtain ⟨vs, e1, _⟩ := h; exact ⟨_, e1⟩
 | dct ks => obtain ⟨vs, e1, _⟩ := h; exact ⟨_, e1⟩
 | dtv ps => obtain ⟨vs, e1, _⟩ := h; exact ⟨_, e1⟩
 | dkv ps => obtain ⟨vs, e1, _⟩ := h; exact ⟨_, e1⟩
 | dko ps => obtain ⟨vs, e1, _⟩ := h; exact ⟨_, e1⟩
 | fdk o ps => obtain ⟨vs, e1, _⟩ := h; exact ⟨_, e1⟩
 | ext φ => exact ⟨_, h⟩
structure ZW (K : PySem.W.Frag) (M : Mp) (H : Hp) : Prop where
 ok : ∀ a o, M a = some o → OOk K M H a o
theorem ZW.ls (r : ZW K M H) (a : Addr) (ds : List PyData) (h : M a = some (.lst ds)) : ∃ vs, H a = some (.lst vs) ∧ Dts K M H vs ds := r.ok a _ h
theorem ZW.tracked (r : ZW K M H) {a : Addr} (h : H a = none) : M a = none := by
 cases q : M a with
 | none => rfl
 | some o =>
  obtain ⟨u, e⟩ := (r.ok a o q).some
  rw [h] at e
  cases e
theorem Step.new {p : Addr} {o : HO} (h : H p = none) : Step M H M (upd H p o) :=
 ⟨fun b u _ e => by rw [ZV (ZA e h)]; exact e, fun _ _ h _ => h⟩
theorem ZW.step_same (r : ZW K M H) (st : Step M H M H') (hk : ∀ a u, M a ≠ none → H a = some u → H' a = some u) : ZW K M H' :=
 ⟨fun a o e => (r.ok a o e).step st fun u hu => hk a u (by rw [e]; simp) hu⟩
theorem ZW.new (r : ZW K M H) {p : Addr} {o : HO} (h : H p = none) : ZW K M (upd H p o) :=
 r.step_same (Step.new h) fun a vs _ e => by rw [ZV (ZA e h)]; exact e
theorem Step.Xo {p : Addr} {o : HO} {q : OO} (h : H p = none) : Step M H (Z1 M p q) (upd H p o) :=
 ⟨fun b u _ e => by rw [ZV (ZA e h)]; exact e, fun b u hm e => by rw [Jl (ZA e h)]; exact hm⟩
theorem Step.BR {p : Addr} {o : HO} {q q' : OO} (h : M p = some q) : Step M H (Z1 M p q') (upd H p o) := by
 have ne : ∀ b, M b = none → b ≠ p := fun b hb e => by rw [e, h] at hb; cases hb
 exact ⟨fun b u hb e => by rw [ZV (ne b hb)]; exact e, fun b u hb e => by rw [Jl (ne b hb)]; exact hb⟩
theorem ZW.Nv (r : ZW K M H) {p : Addr} {u : HO} {o : OO} (st : Step M H (Z1 M p o) (upd H p u)) (h : OOk K (Z1 M p o) (upd H p u) p o) : ZW K (Z1 M p o) (upd H p u) := by
 refine ⟨fun a q e => ?_⟩
 by_cases ha : a = p
 ·subst ha
  rw [Z7] at e
  cases e
  exact h
 ·rw [Jl ha] at e
  exact (r.ok a q e).step st fun v hv => by rw [ZV ha]; exact hv
theorem ZW.XY (r : ZW K M H) {p : Addr} {vs : List V} {ds : List PyData} (st : Step M H (Z1 M p (.lst ds)) (upd H p (.lst vs))) (hv : Dts K M H vs ds) :
  ZW K (Z1 M p (.lst ds)) (upd H p (.lst vs)) := r.Nv st ⟨vs, JL, hv.step st⟩
theorem Step.frz {p : Addr} : Step M H (YQ M p) H :=
 ⟨fun _ _ _ h => h, fun b o hb _ => by unfold YQ; split <;> first | rfl | exact hb⟩
theorem ZW.frz (r : ZW K M H) {p : Addr} : ZW K (YQ M p) H := by
 refine ⟨fun a o e => ?_⟩
 have hne : a ≠ p := fun z => by rw [z, Kd] at e; cases e
 rw [WY hne] at e
 exact (r.ok a o e).step Step.frz fun _ h => h
noncomputable def QB (K : PySem.W.Frag) (M : Mp) (H : Hp) (v : V) : DV → Prop
 | .dat d => Dt K M H v d
 | .own a => v = .ref a
 | .ty n => v = .ty n
theorem QB.step {v : V} {x : DV} (h : QB K M H v x) (st : Step M H M' H') : QB K M' H' v x := by
 cases x with
 | dat d => exact Dt.step st h
 | own a => exact h
 | ty n => exact h
noncomputable abbrev Xa (K : PySem.W.Frag) (M : Mp) (H : Hp) : List V → List DV → Prop := Paired (QB K M H)
theorem Xa.step {vs : List V} {xs : List DV} (h : Xa K M H vs xs) (st : Step M H M' H') : Xa K M' H' vs xs := Paired.Zce h fun _ _ q => QB.step q st
theorem Xa.Zb3 : ∀ {vs : List V} {ds : List PyData}, Xa K M H vs (ds.map DV.dat) → Dts K M H vs ds
 | vs, [], h => by rw [List.map_nil] at h; cases h; exact .nil
 | vs, d :: ds, h => by
  rw [List.map_cons] at h
  cases h with
  | cons h1 h2 => exact .cons h1 (Xa.Zb3 h2)
noncomputable def onV (o : Option (Option DV)) (P : DV → Prop) : Prop := match o with | some (some x) => P x | _ => False
theorem EO {o : Option (Option DV)} {P : DV → Prop} (h : onV o P) : ∃ x, o = some (some x) ∧ P x := by
 unfold onV at h
 split at h
 ·exact ⟨_, rfl, h⟩
 ·exact h.elim
noncomputable def onI (x : DV) (P : Int → Prop) : Prop := match x with | .dat (.int i) => P i | _ => False
theorem ZN {x : DV} {P : Int → Prop} (h : onI x P) : ∃ i, x = .dat (.int i) ∧ P i := by
 unfold onI at h
 split at h
 ·exact ⟨_, rfl, h⟩
 ·exact h.elim
noncomputable def onB (x : DV) (P : Bool → Prop) : Prop := match x with | .dat (.bool i) => P i | _ => False
theorem KY {x : DV} {P : Bool → Prop} (h : onB x P) : ∃ i, x = .dat (.bool i) ∧ P i := by
 unfold onB at h
 split at h
 ·exact ⟨_, rfl, h⟩
 ·exact h.elim
noncomputable def onS (x : DV) (P : Str → Prop) : Prop := match x with | .dat (.str i) => P i | _ => False
theorem Z4 {x : DV} {P : Str → Prop} (h : onS x P) : ∃ i, x = .dat (.str i) ∧ P i := by
 unfold onS at h
 split at h
 ·exact ⟨_, rfl, h⟩
 ·exact h.elim
noncomputable def onT (x : DV) (P : List PyData → Prop) : Prop := match x with | .dat (.tuple i) => P i | _ => False
theorem W3 {x : DV} {P : List PyData → Prop} (h : onT x P) : ∃ i, x = .dat (.tuple i) ∧ P i := by
 unfold onT at h
 split at h
 ·exact ⟨_, rfl, h⟩
 ·exact h.elim
noncomputable def onL (x : DV) (P : List PyData → Prop) : Prop := match x with | .dat (.list i) => P i | _ => False
theorem Nm {x : DV} {P : List PyData → Prop} (h : onL x P) : ∃ i, x = .dat (.list i) ∧ P i := by
 unfold onL at h
 split at h
 ·exact ⟨_, rfl, h⟩
 ·exact h.elim
noncomputable def onD (x : DV) (P : PyData → Prop) : Prop := match x with | .dat i => P i | _ => False
theorem Z0 {x : DV} {P : PyData → Prop} (h : onD x P) : ∃ i, x = .dat i ∧ P i := by
 unfold onD at h
 split at h
 ·exact ⟨_, rfl, h⟩
 ·exact h.elim
noncomputable def onO (x : DV) (P : Addr → Prop) : Prop := match x with | .own i => P i | _ => False
theorem Qd {x : DV} {P : Addr → Prop} (h : onO x P) : ∃ i, x = .own i ∧ P i := by
 unfold onO at h
 split at h
 ·exact ⟨_, rfl, h⟩
 ·exact h.elim
noncomputable def J1 (o : Option OO) (P : List PyData → Prop) : Prop := match o with | some (.lst ds) => P ds | _ => False
theorem X5 (ds : List PyData) (P : List PyData → Prop) : J1 (some (.lst ds)) P = P ds := rfl
theorem QH {o : Option OO} {P : List PyData → Prop} (h : J1 o P) : ∃ ds, o = some (.lst ds) ∧ P ds := by
 unfold J1 at h
 split at h
 ·exact ⟨_, rfl, h⟩
 ·exact h.elim
noncomputable def Pc (o : Option OO) (P : List (List Key) → Prop) : Prop := match o with | some (.dct ks) => P ks | _ => False
noncomputable def onQ (x : DV) (M : Mp) (P : List PyData → Prop) : Prop := match x with | .dat (.tuple ds) => P ds | .dat (.list ds) => P ds | .own l => J1 (M l) P | _ => False
theorem Dr {x : DV} {M : Mp} {P : List PyData → Prop} (h : onQ x M P) : ∃ ds, (x = .dat (.tuple ds) ∨ x = .dat (.list ds) ∨ ∃ l, x = .own l ∧ M l = some (.lst ds)) ∧ P ds := by
 unfold onQ at h
 split at h
 ·exact ⟨_, .inl rfl, h⟩
 ·exact ⟨_, .inr (.inl rfl), h⟩
 ·replace h := QH h
  obtain ⟨ds, e, h⟩ := h
  exact ⟨ds, .inr (.inr ⟨_, rfl, e⟩), h⟩
 ·exact h.elim
noncomputable def onK (x : DV) (M : Mp) (P : List PyData → Prop) : Prop := match x with | .dat (.list ds) => P ds | .own l => J1 (M l) P | _ => False
theorem Wc {x : DV} {M : Mp} {P : List PyData → Prop} (h : onK x M P) : ∃ ds, (x = .dat (.list ds) ∨ ∃ l, x = .own l ∧ M l = some (.lst ds)) ∧ P ds := by
 unfold onK at h
 split at h
 ·exact ⟨_, .inl rfl, h⟩
 ·replace h := QH h
  obtain ⟨ds, e, h⟩ := h
  exact ⟨ds, .inr ⟨_, rfl, e⟩, h⟩
 ·exact h.elim
noncomputable def on1 (xs : List DV) (P : DV → Prop) : Prop := match xs with | [x] => P x | _ => False
theorem Zn {xs : List DV} {P : DV → Prop} (h : on1 xs P) : ∃ x, xs = [x] ∧ P x := by
 unfold on1 at h
 split at h
 ·exact ⟨_, rfl, h⟩
 ·exact h.elim
noncomputable def on2 (xs : List DV) (P : DV → DV → Prop) : Prop := match xs with | [x, y] => P x y | _ => False
theorem QJ {xs : List DV} {P : DV → DV → Prop} (h : on2 xs P) : ∃ x y, xs = [x, y] ∧ P x y := by
 unfold on2 at h
 split at h
 ·exact ⟨_, _, rfl, h⟩
 ·exact h.elim
noncomputable def on3 (xs : List DV) (P : DV → DV → DV → Prop) : Prop := match xs with | [x, y, z] => P x y z | _ => False
theorem Yv {xs : List DV} {P : DV → DV → DV → Prop} (h : on3 xs P) : ∃ x y z, xs = [x, y, z] ∧ P x y z := by
 unfold on3 at h
 split at h
 ·exact ⟨_, _, _, rfl, h⟩
 ·exact h.elim
noncomputable def on4 (xs : List DV) (P : DV → DV → DV → DV → Prop) : Prop := match xs with | [x0, x1, x2, x3] => P x0 x1 x2 x3 | _ => False
noncomputable def on5 (xs : List DV) (P : DV → DV → DV → DV → DV → Prop) : Prop := match xs with | [x0, x1, x2, x3, x4] => P x0 x1 x2 x3 x4 | _ => False
noncomputable def on6 (xs : List DV) (P : DV → DV → DV → DV → DV → DV → Prop) : Prop := match xs with | [x0, x1, x2, x3, x4, x5] => P x0 x1 x2 x3 x4 x5 | _ => False
noncomputable def MY : List DV → Option (List PyData)
 | [] => some []
 | .dat d :: r => match MY r with | some ds => some (d :: ds) | none => none
 | _ :: _ => none
theorem B0 : ∀ {xs : List DV} {ds : List PyData}, MY xs = some ds → xs = ds.map DV.dat
 | [], _, h => by cases h; rfl
 | .dat d :: r, ds, h => by
  rw [MY] at h
  split at h
  ·rename_i es e
   cases h
   rw [List.map_cons, ← B0 e]
  ·cases h
 | .own _ :: _, _, h => by cases h
 | .ty _ :: _, _, h => by cases h
noncomputable def XZ (xs : List DV) (P : List PyData → Prop) : Prop := match Nat.ble xs.length 100 with
 | true => (match MY xs with | some ds => P ds | none => False)
 | false => False
theorem GJ {xs : List DV} {P : List PyData → Prop} (h : XZ xs P) : ∃ ds, xs = ds.map DV.dat ∧ ds.length ≤ 100 ∧ P ds := by
 unfold XZ at h
 split at h
 ·rename_i e
  split at h
  ·rename_i ds e2
   have e3 := B0 e2
   refine ⟨ds, e3, ?_, h⟩
   have e4 := Nat.le_of_ble_eq_true e
   rwa [e3, List.length_map] at e4
  ·exact h.elim
 ·exact h.elim
noncomputable abbrev DSt := List (Option DV)
structure JD (K : PySem.W.Frag) (M : Mp) (H : Hp) (σ : L2.St) (Δ : DSt) : Prop where
 len : σ.length = Δ.length
 at' : ∀ (i : Nat) (x : DV), Δ[i]? = some (some x) → ∃ v, σ[i]? = some (some v) ∧ QB K M H v x
theorem JD.step {σ : L2.St} {Δ : DSt} (h : JD K M H σ Δ) (st : Step M H M' H') : JD K M' H' σ Δ :=
 ⟨h.len, fun i x e => let ⟨v, e1, e2⟩ := h.at' i x e; ⟨v, e1, e2.step st⟩⟩
theorem JD.set {σ : L2.St} {Δ : DSt} {i : Nat} {v : V} {x : DV} (h : JD K M H σ Δ) (r : QB K M H v x) : JD K M H (σ.set i (some v)) (Δ.set i (some x)) := by
 refine ⟨by rw [List.length_set, List.length_set, h.len], fun j y e => ?_⟩
 by_cases hj : i = j
 ·subst hj
  by_cases hl : i < Δ.length
  ·rw [List.getElem?_set_self hl] at e
   cases e
   exact ⟨v, List.getElem?_set_self (by rw [h.len]; exact hl), r⟩
  ·rw [List.getElem?_eq_none (by rw [List.length_set]; omega)] at e
   cases e
 ·rw [List.getElem?_set_ne hj] at e
  rw [List.getElem?_set_ne hj]
  exact h.at' j y e
noncomputable def Xg (N : List Str) (xs : List DV) : DSt := xs.map some ++ List.replicate (N.length - xs.length) none
theorem Paired.Zep {α β : Type} {F : α → β → Prop} : ∀ {l : List α} {m : List β} {i : Nat} {b : β}, Paired F l m → m[i]? = some b → ∃ a, l[i]? = some a ∧ F a b
 | _, _, _, _, .nil, e => by simp at e
 | _, _, 0, _, .cons h _, e => by simp at e; subst e; exact ⟨_, rfl, h⟩
 | _, _, i + 1, b, .cons _ h, e => by
  obtain ⟨a, h1, h2⟩ := Paired.Zep (i := i) (b := b) h (by simpa using e)
  exact ⟨a, by simpa using h1, h2⟩
theorem JD.start {N : List Str} {vs : List V} {xs : List DV} (h : Xa K M H vs xs) : JD K M H (start N vs) (Xg N xs) := by
 have hl : vs.length = xs.length := Paired.length h
 refine ⟨by unfold L2.start Xg; simp [hl], fun i x e => ?_⟩
 unfold Xg at e
 unfold L2.start
 by_cases hi : i < xs.length
 ·rw [List.getElem?_append_left (by simpa using hi), List.getElem?_map] at e
  cases q : xs[i]? with
  | none => rw [q] at e; cases e
  | some y =>
   rw [q] at e
   cases e
   obtain ⟨v, h1, h2⟩ := Paired.Zep h q
   exact ⟨v, by rw [List.getElem?_append_left (by simpa [hl] using hi), List.getElem?_map, h1]; rfl, h2⟩
 ·rw [List.getElem?_append_right (by simpa using hi), List.getElem?_replicate] at e
  split at e <;> cases e
end
noncomputable abbrev DK := DV → Mp → Prop
noncomputable abbrev DTE := DSt → Mp → DK → Prop
noncomputable abbrev DTT := DSt → Mp → (Bool → Mp → Prop) → Prop
noncomputable abbrev DTA := DSt → Mp → (List DV → Mp → Prop) → Prop
structure Qy where
 nx : DSt → Mp → Prop
 rt : DK
 bk : DSt → Mp → Prop := fun _ _ => False
 ct : DSt → Mp → Prop := fun _ _ => False
noncomputable abbrev DTS := Qy → DSt → Mp → Prop
noncomputable def Rch (K : PySem.W.Frag) (M : Mp) (H : Hp) (Φ : DK) (Q : VK) : Prop := ∀ v H' x M', ZW K M' H' → Step M H M' H' → QB K M' H' v x → Φ x M' → Q v H'
theorem Rch.step {K : PySem.W.Frag} {M M' : Mp} {H H' : Hp} {Φ : DK} {Q : VK} (h : Rch K M H Φ Q) (st : Step M H M' H') : Rch K M' H' Φ Q := fun v H2 x M2 r s2 q f => h v H2 x M2 r (st.trans s2) q f
theorem Rch.dat {K : PySem.W.Frag} {M M' : Mp} {H H' : Hp} {Φ : DK} {Q : VK} {v : V} {d : PyData} (h : Rch K M H Φ Q) (r : ZW K M' H') (st : Step M H M' H') (hd : Dt K M' H' v d) (f : Φ (.dat d) M') : Q v H' := h v H' (.dat d) M' r st hd f
noncomputable def DE (X : Cx) (e : Expr) (τ : DTE) : Prop := ∃ t, PE X e t ∧ ∀ σ H Δ M Φ Q, ZW X.K M H → JD X.K M H σ Δ → τ Δ M Φ → Rch X.K M H Φ Q → t σ H Q
noncomputable def DT (X : Cx) (e : Expr) (τ : DTT) : Prop := ∃ t, PT X e t ∧ ∀ σ H Δ M Φ (Q : Bool → Hp → Prop), ZW X.K M H → JD X.K M H σ Δ → τ Δ M Φ →
 (∀ b H' M', ZW X.K M' H' → Step M H M' H' → Φ b M' → Q b H') → t σ H Q
noncomputable def DW (X : Cx) (e : Expr) (τ : DTT) : Prop := ∃ t, PW X e t ∧ ∀ σ H Δ M Φ (Q : Bool → Hp → Prop), ZW X.K M H → JD X.K M H σ Δ → τ Δ M Φ →
 (∀ b H' M', ZW X.K M' H' → Step M H M' H' → Φ b M' → Q b H') → t σ H Q
noncomputable def DA (X : Cx) (es : List Expr) (τ : DTA) : Prop := ∃ t, PA X es t ∧ ∀ σ H Δ M Φ (Q : List V → Hp → Prop), ZW X.K M H → JD X.K M H σ Δ → τ Δ M Φ →
 (∀ vs H' xs M', ZW X.K M' H' → Step M H M' H' → Xa X.K M' H' vs xs → Φ xs M' → Q vs H') → t σ H Q
structure Kr (K : PySem.W.Frag) (M : Mp) (H : Hp) (D : Qy) (E : Ends) : Prop where
 nx : ∀ σ' H' Δ' M', ZW K M' H' → Step M H M' H' → JD K M' H' σ' Δ' → D.nx Δ' M' → E.nx σ' H'
 rt : Rch K M H D.rt E.rt
 bk : ∀ σ' H' Δ' M', ZW K M' H' → Step M H M' H' → JD K M' H' σ' Δ' → D.bk Δ' M' → E.bk σ' H'
 ct : ∀ σ' H' Δ' M', ZW K M' H' → Step M H M' H' → JD K M' H' σ' Δ' → D.ct Δ' M' → E.ct σ' H'
theorem Kr.step {K : PySem.W.Frag} {M M' : Mp} {H H' : Hp} {D : Qy} {E : Ends} (h : Kr K M H D E) (st : Step M H M' H') : Kr K M' H' D E :=
 ⟨fun a b c d r s => h.nx a b c d r (st.trans s), h.rt.step st, fun a b c d r s => h.bk a b c d r (st.trans s), fun a b c d r s => h.ct a b c d r (st.trans s)⟩
noncomputable def DS (X : Cx) (st : Stmt) (τ : DTS) : Prop := ∃ t, PS X st t ∧ ∀ σ H Δ M D E, ZW X.K M H → JD X.K M H σ Δ → τ D Δ M → Kr X.K M H D E → t E σ H
noncomputable def DSs (X : Cx) (st : List Stmt) (τ : DTS) : Prop := ∃ t, PSs X st t ∧ ∀ σ H Δ M D E, ZW X.K M H → JD X.K M H σ Δ → τ D Δ M → Kr X.K M H D E → t E σ H
section
variable {X : Cx} {a b c : Expr} {ta tb tc : DTE} {pos : Pos}
noncomputable def ZcG (i : Nat) : DTE := fun Δ M Φ => onV Δ[i]? fun x => Φ x M
noncomputable def dC (d : PyData) : DTE := fun _ M Φ => Φ (.dat d) M
theorem Zb (i : Nat) {x : Str} {pos : Pos} (hN : X.N[i]? = some x := by rfl) (hv : Vis X.env.scope x := by first | exact Or.inl rfl | exact Or.inr (Or.inl rfl) | exact Or.inr (Or.inr rfl)) (hd : (x == ("__debug__" : Str)) = false := by decide)
  (hcd : (x == ("__classdict__" : Str)) = false := by decide) : DE X (.Name x pos) (ZcG i) := by
 refine ⟨_, NK hN hv hd hcd, fun σ H Δ M Φ Q r e h k => ?_⟩
 replace h := EO h
 obtain ⟨x, e1, h⟩ := h
 obtain ⟨v, e2, q⟩ := e.at' i x e1
 exact ⟨v, e2, k v H x M r Step.refl q h⟩
theorem YN {e : Expr} {v : V} {d : PyData} (h : PE X e (tC v)) (q : ∀ M H, Dt X.K M H v d) : DE X e (dC d) :=
 ⟨_, h, fun _ H _ M _ _ r _ h k => k v H (.dat d) M r Step.refl (q M H) h⟩
theorem Zc {i j pos} : DE X (.Constant (.int i) j pos) (dC (.int i)) := YN ZbM fun _ _ => .int i
theorem Gj {b j pos} : DE X (.Constant (.bool b) j pos) (dC (.bool b)) := YN Zcr fun _ _ => .bl b
theorem K8 {j pos} : DE X (.Constant .none j pos) (dC .none) := YN ZaW fun _ _ => .non
theorem Zk {x j pos} : DE X (.Constant (.str x) j pos) (dC (.str x)) := YN Ny fun _ _ => .str x
theorem VL {x : Str} {i : Int} {t : Tok} {pos : Pos} (hg : Gl X x) (hm : X.mg x = some (.int i t)) (hd : (x == ("__debug__" : Str)) = false := by decide) : DE X (.Name x pos) (dC (.int i)) :=
 YN (OB (v := .int i) hg hm ⟨t, rfl⟩ hd) fun _ _ => .int i
noncomputable def dTy (n : String) : DTE := fun _ M Φ => Φ (.ty n) M
theorem UB {x : Str} {n : String} {pos : Pos} (hg : Gl X x) (hm : X.mg x = none) (hv : bootBuiltins x = some (.type n)) (hn : x ≠ "__name__" := by decide) (hdb : (x == ("__debug__" : Str)) = false := by decide) : DE X (.Name x pos) (dTy n) :=
 ⟨_, O4 (v := .ty n) hg hm hv rfl hn hdb, fun _ H _ M _ _ r _ h k => k (.ty n) H (.ty n) M r Step.refl rfl h⟩
end
end DL
namespace DL
open PySem PySem.Spec PyProof.Rows L2
section
variable {K : PySem.W.Frag} {M M' : Mp} {H H' : Hp} {v : V}
theorem QB.bool {b : Bool} (h : QB K M H v (.dat (.bool b))) : v = .bl b := by cases (show Dt K M H v (.bool b) from h); rfl
theorem QB.int {i : Int} (h : QB K M H v (.dat (.int i))) : v = .int i := by cases (show Dt K M H v (.int i) from h); rfl
theorem QB.str {x : Str} (h : QB K M H v (.dat (.str x))) : v = .str x := by cases (show Dt K M H v (.str x) from h); rfl
theorem QB.tup {ds : List PyData} (h : QB K M H v (.dat (.tuple ds))) : ∃ a xs, v = .ref a ∧ TupAt K M H a xs ∧ Dts K M H xs ds := by
 cases (show Dt K M H v (.tuple ds) from h) with
 | tup h1 h2 => exact ⟨_, _, rfl, h1, h2⟩
theorem QB.lst {ds : List PyData} (h : QB K M H v (.dat (.list ds))) : ∃ a xs, v = .ref a ∧ LstAt K M H a xs ∧ Dts K M H xs ds := by
 cases (show Dt K M H v (.list ds) from h) with
 | lst h1 h2 => exact ⟨_, _, rfl, h1, h2⟩
theorem Dt.BU {p : Addr} {xs : List V} {ds : List PyData} (r : ZW K M H) (hp : H p = none) (h : Dts K M H xs ds) : Dt K M (upd H p (.tup xs)) (.ref p) (.tuple ds) :=
 .tup (.inl ⟨r.tracked hp, .inl JL⟩) (h.step (Step.new hp))
theorem Dt.Ki {p : Addr} {xs : List V} {ds : List PyData} (r : ZW K M H) (hp : H p = none) (h : Dts K M H xs ds) : Dt K M (upd H p (.lst xs)) (.ref p) (.list ds) :=
 .lst (.inl ⟨r.tracked hp, .inl JL⟩) (h.step (Step.new hp))
end
noncomputable def Snd (K : PySem.W.Frag) (t : TE) (τ : DTE) : Prop := ∀ σ H Δ M Φ Q, ZW K M H → JD K M H σ Δ → τ Δ M Φ → Rch K M H Φ Q → t σ H Q
theorem Snd.bin {K : PySem.W.Frag} {ta tb : TE} {τa τb : DTE} (qa : Snd K ta τa) (qb : Snd K tb τb) {M : Mp} {H : Hp} {σ : L2.St} {Δ : DSt} {S : DV → DV → Mp → Prop} {R : V → V → Hp → Prop} (r : ZW K M H) (e : JD K M H σ Δ)
  (h : τa Δ M fun x M1 => τb Δ M1 fun y M2 => S x y M2)
  (k : ∀ v u H2 x y M2, ZW K M2 H2 → Step M H M2 H2 → QB K M2 H2 v x → QB K M2 H2 u y → S x y M2 → R v u H2) : ta σ H fun v H1 => tb σ H1 fun u H2 => R v u H2 :=
 qa σ H Δ M _ _ r e h fun v H1 x M1 r1 st rv hx => qb σ H1 Δ M1 _ _ r1 (e.step st) hx fun u H2 y M2 r2 st2 ru hy => k v u H2 x y M2 r2 (st.trans st2) (rv.step st2) ru hy
noncomputable abbrev D2 := DV → DV → Mp → DK → Prop
noncomputable def OpD (X : Cx) (f : Value → Value → Sem Value) (δ : D2) : Prop := ∃ r : R2, OpR X f r ∧ ∀ v u H x y M Φ Q, ZW X.K M H → QB X.K M H v x → QB X.K M H u y → δ x y M Φ → Rch X.K M H Φ Q → r v u H Q
noncomputable def dOp (δ : D2) (ta tb : DTE) : DTE := fun Δ M Φ => ta Δ M fun x M1 => tb Δ M1 fun y M2 => δ x y M2 Φ
section
variable {X : Cx} {a b c : Expr} {ta tb tc : DTE} {pos : Pos} {op op' : CmpOp} {δ δ' : D2}
theorem Snd.opn {ta' tb' : TE} {r : R2} (ha : Snd X.K ta' ta) (hb : Snd X.K tb' tb) (q : ∀ v u H x y M Φ Q, ZW X.K M H → QB X.K M H v x → QB X.K M H u y → δ x y M Φ → Rch X.K M H Φ Q → r v u H Q) : Snd X.K (tOp r ta' tb') (dOp δ ta tb) :=
 fun _ _ _ _ _ _ dr e h k => Snd.bin ha hb dr e h fun v u H2 x y M2 r2 st rv ru hs => q v u H2 x y M2 _ _ r2 rv ru hs (k.step st)
theorem Zo {bop : Operator} (ho : OpD X (binaryOp bop) δ) (ha : DE X a ta) (hb : DE X b tb) : DE X (.BinOp a bop b pos) (dOp δ ta tb) := by
 obtain ⟨ta', pa, qa⟩ := ha
 obtain ⟨tb', pb, qb⟩ := hb
 obtain ⟨r, hr, q⟩ := ho
 exact ⟨_, ZdW hr pa pb, Snd.opn qa qb q⟩
theorem JE (ho : OpD X (compareOp op) δ) (ha : DE X a ta) (hb : DE X b tb) (hm : behindInMarks op b = false := by first | exact NF _ | rfl) : DE X (.Compare a [op] [b] pos) (dOp δ ta tb) := by
 obtain ⟨ta', pa, qa⟩ := ha
 obtain ⟨tb', pb, qb⟩ := hb
 obtain ⟨r, hr, q⟩ := ho
 exact ⟨_, Rz hr pa pb hm, Snd.opn qa qb q⟩
noncomputable def dB (t : DTE) : DTT := fun Δ M Φ => t Δ M fun x M1 => onB x fun c => Φ c M1
theorem Snd.test {t : TE} {τ : DTE} (h : Snd X.K t τ) {σ : L2.St} {H : Hp} {Δ : DSt} {M : Mp} {Φ : Bool → Mp → Prop} {Q : Bool → Hp → Prop} (r : ZW X.K M H) (e : JD X.K M H σ Δ) (hw : dB τ Δ M Φ)
  (k : ∀ b H' M', ZW X.K M' H' → Step M H M' H' → Φ b M' → Q b H') : t σ H fun x H1 => ∃ c, x = .bl c ∧ Q c H1 := by
 refine h σ H Δ M _ _ r e hw fun v H1 x M1 r1 st rv hx => ?_
 replace hx := KY hx
 obtain ⟨c, rfl, hx⟩ := hx
 exact ⟨c, rv.bool, k c H1 M1 r1 st hx⟩
theorem ZJ (ho : OpD X (compareOp op) δ) (ha : DE X a ta) (hb : DE X b tb) (hm : behindInMarks op b = false := by first | exact NF _ | rfl) : DT X (.Compare a [op] [b] pos) (dB (dOp δ ta tb)) := by
 obtain ⟨ta', pa, qa⟩ := ha
 obtain ⟨tb', pb, qb⟩ := hb
 obtain ⟨r, hr, q⟩ := ho
 exact ⟨_, R9 hr pa pb hm, fun _ _ _ _ _ _ dr e h k => Snd.test (Snd.opn qa qb q) dr e h k⟩
theorem JS {e : Expr} {τ : DTE} (h : DE X e τ) (he : ∀ whole, isTrue e X.env whole = (do let v ← whole; standAt e.pos; holding [v] (truthy v)) := by intro _; rfl) : DT X e (dB τ) := by
 obtain ⟨t, p, q⟩ := h
 exact ⟨_, Zao p he, fun _ _ _ _ _ _ dr e h k => Snd.test q dr e h k⟩
noncomputable def Ci (δ δ' : D2) (ta tb tc : DTE) : DTE := fun Δ M Φ => ta Δ M fun x M1 => tb Δ M1 fun y M2 => δ x y M2 fun z M3 => onB z fun k => (if k = true then tc Δ M3 fun w' M4 => δ' y w' M4 Φ else Φ (.dat (.bool false)) M3)
theorem Snd.chain {ta' tb' tc' : TE} {r r' : R2} (ha : Snd X.K ta' ta) (hb : Snd X.K tb' tb) (hc : Snd X.K tc' tc) (q : ∀ v u H x y M Φ Q, ZW X.K M H → QB X.K M H v x → QB X.K M H u y → δ x y M Φ → Rch X.K M H Φ Q → r v u H Q)
  (q' : ∀ v u H x y M Φ Q, ZW X.K M H → QB X.K M H v x → QB X.K M H u y → δ' x y M Φ → Rch X.K M H Φ Q → r' v u H Q) : Snd X.K (Ex r r' ta' tb' tc') (Ci δ δ' ta tb tc) := by
 intro σ H Δ M Φ Q dr e h k
 refine Snd.bin ha hb dr e h fun v u H2 x y M2 r2 st rv ru hs => ?_
 refine q v u H2 x y M2 _ _ r2 rv ru hs fun z H3 zd M3 r3 st3 rz hz => ?_
 replace hz := KY hz
 obtain ⟨kb, rfl, hz⟩ := hz
 refine ⟨kb, rz.bool, ?_⟩
 cases kb with
 | true =>
  have hz' : tc Δ M3 fun w' M4 => δ' y w' M4 Φ := by simpa using hz
  rw [if_pos rfl]
  refine hc σ H3 Δ M3 _ _ r3 (e.step (st.trans st3)) hz' fun w' H4 wd M4 r4 st4 rw4 hw4 => ?_
  exact q' u w' H4 y wd M4 _ _ r4 (ru.step (st3.trans st4)) rw4 hw4 (k.step (st.trans (st3.trans st4)))
 | false =>
  have hz' : Φ (.dat (.bool false)) M3 := by simpa using hz
  rw [if_neg Bool.false_ne_true]
  exact k.dat r3 (st.trans st3) (Dt.bl false) hz'
theorem YL (ho : OpD X (compareOp op) δ) (ho' : OpD X (compareOp op') δ') (ha : DE X a ta) (hb : DE X b tb) (hc : DE X c tc) (hm : lastMarks [op, op'] [b, c] = false := by with_unfolding_all rfl) :
  DE X (.Compare a [op, op'] [b, c] pos) (Ci δ δ' ta tb tc) := by
 obtain ⟨ta', pa, qa⟩ := ha
 obtain ⟨tb', pb, qb⟩ := hb
 obtain ⟨tc', pc, qc⟩ := hc
 obtain ⟨r, hr, q⟩ := ho
 obtain ⟨r', hr', q'⟩ := ho'
 exact ⟨_, LK hr hr' pa pb pc hm, Snd.chain qa qb qc q q'⟩
theorem Cr (ho : OpD X (compareOp op) δ) (ho' : OpD X (compareOp op') δ') (ha : DE X a ta) (hb : DE X b tb) (hc : DE X c tc) (hm : lastMarks [op, op'] [b, c] = false := by with_unfolding_all rfl) :
  DT X (.Compare a [op, op'] [b, c] pos) (dB (Ci δ δ' ta tb tc)) := by
 obtain ⟨ta', pa, qa⟩ := ha
 obtain ⟨tb', pb, qb⟩ := hb
 obtain ⟨tc', pc, qc⟩ := hc
 obtain ⟨r, hr, q⟩ := ho
 obtain ⟨r', hr', q'⟩ := ho'
 exact ⟨_, HC hr hr' pa pb pc hm, fun _ _ _ _ _ _ dr e h k => Snd.test (Snd.chain qa qb qc q q') dr e h k⟩
variable {tA tB' : DTT} {rest : List Expr}
noncomputable def ZeG (t u : DTT) : DTT := fun Δ M Φ => t Δ M fun c M1 => if c = true then u Δ M1 Φ else Φ false M1
noncomputable def dOr (t u : DTT) : DTT := fun Δ M Φ => t Δ M fun c M1 => if c = true then Φ true M1 else u Δ M1 Φ
noncomputable def Ze6 (t : DTT) : DTT := fun Δ M Φ => t Δ M fun c M1 => Φ (!c) M1
theorem DW.dt {e : Expr} {τ : DTT} (h : DW X e τ) : DT X e τ := by
 obtain ⟨t, p, q⟩ := h
 exact ⟨t, p.pt, q⟩
theorem Xe (ha : DT X a tA) : DW X (.BoolOp .And [a] pos) tA := by
 obtain ⟨t, p, q⟩ := ha
 exact ⟨t, R1 p, q⟩
theorem X3 (ha : DT X a tA) : DW X (.BoolOp .Or [a] pos) tA := by
 obtain ⟨t, p, q⟩ := ha
 exact ⟨t, Zap p, q⟩
theorem Wf (ha : DT X a tA) (hb : DW X (.BoolOp .And (b :: rest) pos) tB') : DW X (.BoolOp .And (a :: b :: rest) pos) (ZeG tA tB') := by
 obtain ⟨t, p, q⟩ := ha
 obtain ⟨u, p2, q2⟩ := hb
 refine ⟨_, Zbh p p2, fun σ H Δ M Φ Q r e h k => ?_⟩
 refine q σ H Δ M _ _ r e h fun c H1 M1 r1 st hc => ?_
 cases c with
 | true => rw [if_pos rfl]; exact q2 σ H1 Δ M1 Φ Q r1 (e.step st) (by simpa using hc) fun b H2 M2 r2 st2 hb => k b H2 M2 r2 (st.trans st2) hb
 | false => rw [if_neg Bool.false_ne_true]; exact k false H1 M1 r1 st (by simpa using hc)
theorem Br (ha : DT X a tA) (hb : DW X (.BoolOp .Or (b :: rest) pos) tB') : DW X (.BoolOp .Or (a :: b :: rest) pos) (dOr tA tB') := by
 obtain ⟨t, p, q⟩ := ha
 obtain ⟨u, p2, q2⟩ := hb
 refine ⟨_, Zcn p p2, fun σ H Δ M Φ Q r e h k => ?_⟩
 refine q σ H Δ M _ _ r e h fun c H1 M1 r1 st hc => ?_
 cases c with
 | false => rw [if_neg Bool.false_ne_true]; exact q2 σ H1 Δ M1 Φ Q r1 (e.step st) (by simpa using hc) fun b H2 M2 r2 st2 hb => k b H2 M2 r2 (st.trans st2) hb
 | true => rw [if_pos rfl]; exact k true H1 M1 r1 st (by simpa using hc)
theorem Vm (ha : DT X a tA) : DT X (.UnaryOp .Not a pos) (Ze6 tA) := by
 obtain ⟨t, p, q⟩ := ha
 exact ⟨_, ZaD p, fun σ H Δ M Φ Q r e h k => q σ H Δ M _ _ r e h fun c H1 M1 r1 st hc => k _ H1 M1 r1 st hc⟩
noncomputable def Zaj (ta tb : DTE) : DTE := fun Δ M Φ => ta Δ M fun x M1 => onB x fun c => if c = true then tb Δ M1 Φ else Φ (.dat (.bool false)) M1
noncomputable def ZeU (ta tb : DTE) : DTE := fun Δ M Φ => ta Δ M fun x M1 => onB x fun c => if c = true then Φ (.dat (.bool true)) M1 else tb Δ M1 Φ
noncomputable def TB (ta : DTE) : DTE := fun Δ M Φ => ta Δ M fun x M1 => onB x fun c => Φ (.dat (.bool (!c))) M1
theorem QZ {bop} (h : DE X a ta) : DE X (.BoolOp bop [a] pos) ta := by
 obtain ⟨t, p, q⟩ := h
 exact ⟨t, ZaZ p, q⟩
theorem Qh (ha : DE X a ta) (hb : DE X (.BoolOp .And (b :: rest) pos) tb) : DE X (.BoolOp .And (a :: b :: rest) pos) (Zaj ta tb) := by
 obtain ⟨t, p, q⟩ := ha
 obtain ⟨u, p2, q2⟩ := hb
 refine ⟨_, ZaP p p2, fun σ H Δ M Φ Q r e h k => ?_⟩
 refine q σ H Δ M _ _ r e h fun v H1 x M1 r1 st rv hx => ?_
 replace hx := KY hx
 obtain ⟨c, rfl, hx⟩ := hx
 refine ⟨c, rv.bool, ?_⟩
 cases c with
 | true => rw [if_pos rfl]; exact q2 σ H1 Δ M1 Φ Q r1 (e.step st) (by simpa using hx) (k.step st)
 | false => rw [if_neg Bool.false_ne_true]; exact k.dat r1 st (Dt.bl false) (by simpa using hx)
theorem Zdd (ha : DE X a ta) (hb : DE X (.BoolOp .Or (b :: rest) pos) tb) : DE X (.BoolOp .Or (a :: b :: rest) pos) (ZeU ta tb) := by
 obtain ⟨t, p, q⟩ := ha
 obtain ⟨u, p2, q2⟩ := hb
 refine ⟨_, ZdL p p2, fun σ H Δ M Φ Q r e h k => ?_⟩
 refine q σ H Δ M _ _ r e h fun v H1 x M1 r1 st rv hx => ?_
 replace hx := KY hx
 obtain ⟨c, rfl, hx⟩ := hx
 refine ⟨c, rv.bool, ?_⟩
 cases c with
 | false => rw [if_neg Bool.false_ne_true]; exact q2 σ H1 Δ M1 Φ Q r1 (e.step st) (by simpa using hx) (k.step st)
 | true => rw [if_pos rfl]; exact k.dat r1 st (Dt.bl true) (by simpa using hx)
theorem Zba (ha : DE X a ta) : DE X (.UnaryOp .Not a pos) (TB ta) := by
 obtain ⟨t, p, q⟩ := ha
 refine ⟨_, S3 p, fun σ H Δ M Φ Q r e h k => ?_⟩
 refine q σ H Δ M _ _ r e h fun v H1 x M1 r1 st rv hx => ?_
 replace hx := KY hx
 obtain ⟨c, rfl, hx⟩ := hx
 exact ⟨c, rv.bool, k.dat r1 st (Dt.bl (!c)) hx⟩
noncomputable def dIf (t : DTT) (ta tb : DTE) : DTE := fun Δ M Φ => t Δ M fun c M1 => if c = true then ta Δ M1 Φ else tb Δ M1 Φ
theorem Rf (hc : DT X c tA) (ha : DE X a ta) (hb : DE X b tb) : DE X (.IfExp c a b pos) (dIf tA ta tb) := by
 obtain ⟨t, p, q⟩ := hc
 obtain ⟨u, p2, q2⟩ := ha
 obtain ⟨w, p3, q3⟩ := hb
 refine ⟨_, Mw p p2 p3, fun σ H Δ M Φ Q r e h k => ?_⟩
 refine q σ H Δ M _ _ r e h fun c H1 M1 r1 st hc => ?_
 cases c with
 | true => rw [if_pos rfl]; exact q2 σ H1 Δ M1 Φ Q r1 (e.step st) (by simpa using hc) (k.step st)
 | false => rw [if_neg Bool.false_ne_true]; exact q3 σ H1 Δ M1 Φ Q r1 (e.step st) (by simpa using hc) (k.step st)
noncomputable def Zd8 (g : Int → Int) (ta : DTE) : DTE := fun Δ M Φ => ta Δ M fun x M1 => onI x fun i => Φ (.dat (.int (g i))) M1
theorem NN (ha : DE X a ta) : DE X (.UnaryOp .USub a pos) (Zd8 (fun i => -i) ta) := by
 obtain ⟨t, p, q⟩ := ha
 refine ⟨_, ZdY Zbq p, fun σ H Δ M Φ Q r e h k => ?_⟩
 refine q σ H Δ M _ _ r e h fun v H1 x M1 r1 st rv hx => ?_
 replace hx := ZN hx
 obtain ⟨i, rfl, hx⟩ := hx
 exact ⟨i, rv.int, k.dat r1 st (Dt.int (-i)) hx⟩
noncomputable def δI (C : Int → Int → Prop) (g : Int → Int → PyData) : D2 := fun x y M Φ => onI x fun i => onI y fun j => C i j ∧ Φ (.dat (g i j)) M
noncomputable def δI0 (g : Int → Int → PyData) : D2 := fun x y M Φ => onI x fun i => onI y fun j => Φ (.dat (g i j)) M
theorem Sr {f : Value → Value → Sem Value} {C : Int → Int → Prop} {g : Int → Int → Int} (h : OpR X f (rI C fun i j => .int (g i j))) : OpD X f (δI C fun i j => .int (g i j)) :=
 ⟨_, h, fun v u H x y M Φ Q r rv ru h k => by
  replace h := ZN h
  obtain ⟨i, e1, h⟩ := h
  replace h := ZN h
  obtain ⟨j, e2, hc, q⟩ := h
  subst e1 e2
  exact ⟨i, j, rv.int, ru.int, hc, k.dat r Step.refl (Dt.int _) q⟩⟩
theorem ZaM {f : Value → Value → Sem Value} {g : Int → Int → Int} (h : OpR X f (rI0 fun i j => .int (g i j))) : OpD X f (δI0 fun i j => .int (g i j)) :=
 ⟨_, h, fun v u H x y M Φ Q r rv ru h k => by
  replace h := ZN h
  obtain ⟨i, e1, h⟩ := h
  replace h := ZN h
  obtain ⟨j, e2, q⟩ := h
  subst e1 e2
  exact ⟨i, j, rv.int, ru.int, k.dat r Step.refl (Dt.int _) q⟩⟩
theorem Lr {f : Value → Value → Sem Value} {g : Int → Int → Bool} (h : OpR X f (rI0 fun i j => .bl (g i j))) : OpD X f (δI0 fun i j => .bool (g i j)) :=
 ⟨_, h, fun v u H x y M Φ Q r rv ru h k => by
  replace h := ZN h
  obtain ⟨i, e1, h⟩ := h
  replace h := ZN h
  obtain ⟨j, e2, q⟩ := h
  subst e1 e2
  exact ⟨i, j, rv.int, ru.int, k.dat r Step.refl (Dt.bl _) q⟩⟩
theorem ZI : OpD X (binaryOp .Add) (δI0 fun i j => .int (i + j)) := ZaM ZaU
theorem JH : OpD X (binaryOp .Sub) (δI0 fun i j => .int (i - j)) := ZaM Ts
theorem Q6 : OpD X (binaryOp .Mult) (δI Zb0 fun i j => .int (i * j)) := Sr Zad
theorem BB : OpD X (binaryOp .FloorDiv) (δI ZeH fun i j => .int (i / j)) := Sr OD
theorem JQ : OpD X (binaryOp .Mod) (δI (fun _ j => 0 < j) fun i j => .int (i % j)) := Sr Tt
theorem YG : OpD X (binaryOp .Pow) (δI ZdD fun i j => .int (i ^ j.toNat)) := Sr Zbm
theorem HW : OpD X (compareOp .Lt) (δI0 fun i j => .bool (decide (i < j))) := Lr Zdr
theorem Y3 : OpD X (compareOp .LtE) (δI0 fun i j => .bool (decide (i ≤ j))) := Lr ZdR
theorem OR : OpD X (compareOp .Gt) (δI0 fun i j => .bool (decide (j < i))) := Lr ZcN
theorem SK : OpD X (compareOp .GtE) (δI0 fun i j => .bool (decide (j ≤ i))) := Lr Zdn
noncomputable def δB (g : Bool → Bool → Bool) : D2 := fun x y M Φ => onB x fun c => onB y fun d => Φ (.dat (.bool (g c d))) M
noncomputable def ZbE : D2 := fun x y M Φ => onT x fun ds => onT y fun es => ds ≠ [] ∧ ds.length + es.length ≤ sizeLine ∧ Φ (.dat (.tuple (ds ++ es))) M
theorem Mo : OpR X (binaryOp .Add) (fun x y H Q => ∃ l b xs zs, x = .ref l ∧ y = .ref b ∧ SqL X.K H l xs ∧ SqL X.K H b zs ∧ xs.length + zs.length ≤ sizeLine ∧ ∀ p, H p = none → Q (.ref p) (upd H p (.lst (xs ++ zs)))) := by
 intro pins s σ H x y v u Q I rx ry h
 obtain ⟨l, b, xs, zs, rfl, rfl, hl, hb, hz, q⟩ := h
 cases rx
 cases ry
 obtain ⟨its, r1, p1, _⟩ := I.list hl
 obtain ⟨its2, r2, p2, _⟩ := I.list hb
 obtain ⟨⟨cls, dd, data, sl⟩, ho, hc, n, hd⟩ := p1.isList
 obtain ⟨⟨cls2, dd2, data2, sl2⟩, ho2, hc2, n2, hd2⟩ := p2.isList
 simp only at hc hd hc2 hd2
 subst hc hd hc2 hd2
 have e : its.toArray ++ its2.toArray = (its ++ its2).toArray := by simp
 have hsz : its.toArray.size + its2.toArray.size ≤ sizeLine := by rw [List.size_toArray, List.size_toArray, ← r1.length, ← r2.length]; exact hz
 refine concat_meets ⟨_, ho, rfl⟩ ⟨_, ho2, rfl⟩ noFill_list_add seq_list_add PySem.F.slot_list_add PySem.F.entry_list_add (PySem.F.args_list_add_2 _ _) (list_addW l b its.toArray its2.toArray n n2 dd dd2 sl sl2 hsz) ⟨ho, ho2, ?_⟩
 rw [e]
 exact ⟨.ref _, _, I.Zfa (t' := s.toks) (r1.append r2) (by rw [List.length_append]; exact hz), rfl, q _ I.fresh⟩
noncomputable def ZbO : D2 := fun x y M Φ => onL x fun ds => onL y fun es => ds.length + es.length ≤ sizeLine ∧ Φ (.dat (.list (ds ++ es))) M
noncomputable def OT : D2 := fun x y M Φ => onL x fun ds => onL y fun es => ds.length + es.length ≤ sizeLine ∧ ∀ p, M p = none → Φ (.own p) (Z1 M p (.lst (ds ++ es)))
end
noncomputable def Zej : DTA := fun _ M Φ => Φ [] M
noncomputable def ZbF (ta : DTE) (tr : DTA) : DTA := fun Δ M Φ => ta Δ M fun x M1 => tr Δ M1 fun xs M2 => Φ (x :: xs) M2
section
variable {X : Cx} {e : Expr} {es : List Expr} {te : DTE} {t : DTA} {pos : Pos}
theorem Zd : DA X [] Zej := ⟨_, We, fun _ H _ M _ _ r _ h k => k [] H [] M r Step.refl .nil h⟩
theorem Za (ha : DE X e te) (hr : DA X es t) (hs : starEach (e :: es) X.env = (false, eval e X.env) :: starEach es X.env := by rfl) : DA X (e :: es) (ZbF te t) := by
 obtain ⟨u, p, q⟩ := ha
 obtain ⟨w, p2, q2⟩ := hr
 refine ⟨_, Y7 p p2 hs, fun σ H Δ M Φ Q r e h k => ?_⟩
 refine q σ H Δ M _ _ r e h fun v H1 x M1 r1 st rv hx => ?_
 exact q2 σ H1 Δ M1 _ _ r1 (e.step st) hx fun vs H2 xs M2 r2 st2 rvs hxs => k (v :: vs) H2 (x :: xs) M2 r2 (st.trans st2) (.cons (rv.step st2) rvs) hxs
noncomputable def Ze2 (t : DTA) : DTE := fun Δ M Φ => t Δ M fun xs M1 => XZ xs fun ds => Φ (.dat (.tuple ds)) M1
noncomputable def ZeD (t : DTA) : DTE := fun Δ M Φ => t Δ M fun xs M1 => XZ xs fun ds => Φ (.dat (.list ds)) M1
noncomputable def Sq (t : DTA) : DTE := fun Δ M Φ => t Δ M fun xs M1 => XZ xs fun ds => ∀ p, M1 p = none → Φ (.own p) (Z1 M1 p (.lst ds))
theorem Qw {x1} (h : DA X es t) : DE X (.Tuple es x1 pos) (Ze2 t) := by
 obtain ⟨u, p, q⟩ := h
 refine ⟨_, Zaq p, fun σ H Δ M Φ Q r e h k => ?_⟩
 refine q σ H Δ M _ _ r e h fun vs H1 xs M1 r1 st rv hx => ?_
 replace hx := GJ hx
 obtain ⟨ds, rfl, hz', hx⟩ := hx
 have hz : ds.length ≤ sizeLine := by rw [sizeLine_eq]; omega
 have hd := rv.Zb3
 refine ⟨by rw [hd.length]; exact hz, fun p hp => ?_⟩
 exact k.dat (r1.new hp) (st.trans (Step.new hp)) (Dt.BU r1 hp hd) hx
theorem Jv (h : DA X es t) : DE X (.List es pos) (ZeD t) := by
 obtain ⟨u, p, q⟩ := h
 refine ⟨_, NO p, fun σ H Δ M Φ Q r e h k => ?_⟩
 refine q σ H Δ M _ _ r e h fun vs H1 xs M1 r1 st rv hx => ?_
 replace hx := GJ hx
 obtain ⟨ds, rfl, hz', hx⟩ := hx
 have hz : ds.length ≤ sizeLine := by rw [sizeLine_eq]; omega
 have hd := rv.Zb3
 refine ⟨by rw [hd.length]; exact hz, fun p hp => ?_⟩
 exact k.dat (r1.new hp) (st.trans (Step.new hp)) (Dt.Ki r1 hp hd) hx
theorem Yb (h : DA X es t) : DE X (.List es pos) (Sq t) := by
 obtain ⟨u, p, q⟩ := h
 refine ⟨_, NO p, fun σ H Δ M Φ Q r e h k => ?_⟩
 refine q σ H Δ M _ _ r e h fun vs H1 xs M1 r1 st rv hx => ?_
 replace hx := GJ hx
 obtain ⟨ds, rfl, hz', hx⟩ := hx
 have hz : ds.length ≤ sizeLine := by rw [sizeLine_eq]; omega
 have hd := rv.Zb3
 refine ⟨by rw [hd.length]; exact hz, fun p hp => ?_⟩
 exact k _ _ (.own p) _ (r1.XY (Step.Xo hp) hd) (st.trans (Step.Xo hp)) rfl (hx p (r1.tracked hp))
noncomputable def Zer (t : DTE) : DTE := fun Δ M Φ => t Δ M fun x M1 => onO x fun l => J1 (M1 l) fun ds => Φ (.dat (.list ds)) (YQ M1 l)
theorem NA (h : DE X e te) : DE X e (Zer te) := by
 obtain ⟨u, p, q⟩ := h
 refine ⟨u, p, fun σ H Δ M Φ Q r e h k => ?_⟩
 refine q σ H Δ M _ _ r e h fun v H1 x M1 r1 st rv hx => ?_
 replace hx := Qd hx
 obtain ⟨l, rfl, hx⟩ := hx
 replace hx := QH hx
 obtain ⟨ds, hm, hx⟩ := hx
 obtain ⟨vs, e1, e2⟩ := r1.ls l ds hm
 cases (show v = .ref l from rv)
 exact k.dat r1.frz (st.trans Step.frz) (Dt.lst (.inl ⟨Kd, .inl e1⟩) (e2.step Step.frz)) hx
noncomputable def CG : List PyData → Nat → (PyData → Prop) → Prop
 | [], _, _ => False
 | d :: _, 0, P => P d
 | _ :: r, n + 1, P => CG r n P
noncomputable def K7 (ds : List PyData) (i : Int) (P : PyData → Prop) : Prop := match i with
 | Int.ofNat n => CG ds n P
 | Int.negSucc n => CG ds.reverse n P
theorem WR : ∀ {ds : List PyData} {n : Nat} {P : PyData → Prop}, CG ds n P → ∃ d, ds[n]? = some d ∧ P d
 | [], _, _, h => h.elim
 | d :: _, 0, _, h => ⟨d, rfl, h⟩
 | _ :: r, n + 1, _, h => by
  obtain ⟨d, e, hp⟩ := WR (ds := r) (n := n) h
  exact ⟨d, by rw [List.getElem?_cons_succ]; exact e, hp⟩
theorem Wx : ∀ {ds : List PyData} {n : Nat} {P : PyData → Prop} {d : PyData}, ds[n]? = some d → P d → CG ds n P
 | [], _, _, _, e, _ => by simp at e
 | d :: _, 0, _, _, e, h => by simp at e; subst e; exact h
 | _ :: r, n + 1, _, _, e, h => Wx (ds := r) (n := n) (by rw [List.getElem?_cons_succ] at e; exact e) h
theorem Rh {ds : List PyData} {i : Int} {P : PyData → Prop} (h : K7 ds i P) : ∃ d, atI ds i = some d ∧ P d := by
 unfold K7 at h
 split at h
 ·rename_i n
  replace h := WR h
  obtain ⟨d, e, hp⟩ := h
  exact ⟨d, Yh e, hp⟩
 ·rename_i n
  replace h := WR h
  obtain ⟨d, e, hp⟩ := h
  refine ⟨d, ?_, hp⟩
  have hl := (List.getElem?_eq_some_iff.mp e).1
  rw [List.length_reverse] at hl
  rw [List.getElem?_reverse hl] at e
  unfold L2.atI ixN
  have e1 : ¬ (0 ≤ Int.negSucc n) := by omega
  rw [if_neg e1]
  have e2 : -(ds.length : Int) ≤ Int.negSucc n := by omega
  rw [if_pos e2]
  have e3 : (Int.negSucc n + (ds.length : Int)).toNat = ds.length - 1 - n := by omega
  simp only [e3]
  exact e
theorem Y5 {ds : List PyData} {i : Int} {P : PyData → Prop} {d : PyData} (e : atI ds i = some d) (h : P d) : K7 ds i P := by
 unfold L2.atI at e
 cases i with
 | ofNat n =>
  have hh : ixN ds.length (Int.ofNat n) = if n < ds.length then some n else none := by
   unfold ixN
   rw [if_pos (show (0 : Int) ≤ Int.ofNat n from Int.natCast_nonneg n)]
   by_cases hn : n < ds.length
   ·rw [if_pos hn, if_pos (show Int.ofNat n < _ by show ((n : Nat) : Int) < _; omega)]
    rfl
   ·rw [if_neg hn, if_neg (show ¬ Int.ofNat n < _ by show ¬ ((n : Nat) : Int) < _; omega)]
  rw [hh] at e
  split at e
  ·exact Wx (by exact e) h
  ·cases e
 | negSucc n =>
  unfold ixN at e
  rw [if_neg (by omega)] at e
  by_cases hn : -(ds.length : Int) ≤ Int.negSucc n
  ·rw [if_pos hn] at e
   have e3 : (Int.negSucc n + (ds.length : Int)).toNat = ds.length - 1 - n := by omega
   simp only [e3] at e
   refine Wx (d := d) ?_ h
   rw [List.getElem?_reverse (by omega)]
   exact e
  ·rw [if_neg hn] at e
   cases e
theorem DF (l : List PyData) (a : PyData) (P : PyData → Prop) : K7 (l ++ [a]) (-1) P = P a := by
 show CG (l ++ [a]).reverse 0 P = P a
 rw [List.reverse_append]
 rfl
noncomputable def δIx : D2 := fun x y M Φ => onQ x M fun ds => onI y fun i => K7 ds i fun d => Φ (.dat d) M
theorem Dts.atI {K : PySem.W.Frag} {M : Mp} {H : Hp} {vs : List V} {ds : List PyData} {i : Int} {d : PyData} (h : Dts K M H vs ds) (e : L2.atI ds i = some d) : ∃ v, L2.atI vs i = some v ∧ Dt K M H v d := by
 unfold L2.atI at e ⊢
 rw [h.length]
 cases q : ixN ds.length i with
 | none => rw [q] at e; cases e
 | some j =>
  rw [q] at e
  exact h.get e
theorem Zl {a b : Expr} {ta tb : DTE} (ha : DE X a ta) (hb : DE X b tb) (hs : Be b := by intro _ _; rfl) : DE X (.Subscript a b pos) (dOp δIx ta tb) := by
 obtain ⟨ta', pa, qa⟩ := ha
 obtain ⟨tb', pb, qb⟩ := hb
 refine ⟨_, ZaB ZbJ pa pb hs, Snd.opn qa qb fun v u H x y M Φ Q r rv ru h k => ?_⟩
 replace h := Dr h
 obtain ⟨ds, hx, h⟩ := h
 replace h := ZN h
 obtain ⟨i, rfl, h⟩ := h
 replace h := Rh h
 obtain ⟨d, hd, q⟩ := h
 cases ru.int
 rcases hx with rfl | rfl | ⟨l, rfl, hm⟩
 ·obtain ⟨p, xs, rfl, h1, h2⟩ := rv.tup
  obtain ⟨w', e1, e2⟩ := h2.atI hd
  exact .inr (.inl ⟨p, xs, i, w', rfl, rfl, h1.sq, e1, k.dat r Step.refl e2 q⟩)
 ·obtain ⟨p, xs, rfl, h1, h2⟩ := rv.lst
  obtain ⟨w', e1, e2⟩ := h2.atI hd
  exact .inl ⟨p, xs, i, w', rfl, rfl, h1.sq, e1, k.dat r Step.refl e2 q⟩
 ·cases (show v = .ref l from rv)
  obtain ⟨vs, g1, g2⟩ := r.ls l ds hm
  obtain ⟨w', e1, e2⟩ := g2.atI hd
  exact .inl ⟨l, vs, i, w', rfl, rfl, SqL.of g1, e1, k.dat r Step.refl e2 q⟩
end
noncomputable abbrev D1 := List DV → Mp → DK → Prop
noncomputable def Yi (X : Cx) (f : Value) (δ : D1) : Prop := ∃ r, J9 X f r ∧ ∀ vs H xs M Φ Q, ZW X.K M H → Xa X.K M H vs xs → δ xs M Φ → Rch X.K M H Φ Q → r vs H Q
noncomputable def dCB (δ : D1) (t : DTA) : DTE := fun Δ M Φ => t Δ M fun xs M1 => δ xs M1 Φ
section
variable {X : Cx} {e : Expr} {es : List Expr} {t : DTA} {pos p : Pos} {x : Str} {id : String} {δ : D1}
theorem Zj (hc : Yi X (.builtin id) δ) (hg : Gl X x) (hm : X.mg x = none) (hv : bootBuiltins x = some (.builtin id)) (ha : DA X (e :: es) t) (hn : x ≠ "__name__" := by decide) (hdb : (x == ("__debug__" : Str)) = false := by decide)
  (he : starEach (e :: es) X.env = (false, eval e X.env) :: starEach es X.env := by rfl) (hpl : (backTo pos (starEach es X.env)).any (·.1) = false := by rfl) : DE X (.Call (.Name x p) (e :: es) [] pos) (dCB δ t) := by
 obtain ⟨u, p, q⟩ := ha
 obtain ⟨r, hr, qr⟩ := hc
 refine ⟨_, MD hr hg hm hv p hn hdb he hpl, fun σ H Δ M Φ Q r e h k => ?_⟩
 exact q σ H Δ M _ _ r e h fun vs H1 xs M1 r1 st rv hx => qr vs H1 xs M1 _ _ r1 rv hx (k.step st)
theorem ZD (hc : Yi X (.type id) δ) (hg : Gl X x) (hm : X.mg x = none) (hv : bootBuiltins x = some (.type id)) (ha : DA X (e :: es) t) (hn : x ≠ "__name__" := by decide) (hdb : (x == ("__debug__" : Str)) = false := by decide)
  (he : starEach (e :: es) X.env = (false, eval e X.env) :: starEach es X.env := by rfl) (hpl : (backTo pos (starEach es X.env)).any (·.1) = false := by rfl) : DE X (.Call (.Name x p) (e :: es) [] pos) (dCB δ t) := by
 obtain ⟨u, p, q⟩ := ha
 obtain ⟨r, hr, qr⟩ := hc
 refine ⟨_, Es hr hg hm hv p hn hdb he hpl, fun σ H Δ M Φ Q r e h k => ?_⟩
 exact q σ H Δ M _ _ r e h fun vs H1 xs M1 r1 st rv hx => qr vs H1 xs M1 _ _ r1 rv hx (k.step st)
theorem Paired.one {α β : Type} {F : α → β → Prop} {l : List α} {b : β} (h : Paired F l [b]) : ∃ a, l = [a] ∧ F a b := by
 cases h with
 | cons h1 h2 => cases h2; exact ⟨_, rfl, h1⟩
theorem Paired.two {α β : Type} {F : α → β → Prop} {l : List α} {b c : β} (h : Paired F l [b, c]) : ∃ a a', l = [a, a'] ∧ F a b ∧ F a' c := by
 cases h with
 | cons h1 h2 =>
  obtain ⟨a, rfl, h3⟩ := Paired.one h2
  exact ⟨_, a, rfl, h1, h3⟩
noncomputable def ZaO : D1 := fun xs M Φ => on1 xs fun x => onQ x M fun ds => Φ (.dat (.int ds.length)) M
theorem Qu : Yi X (.builtin "len") ZaO := by
 refine ⟨_, Uv, fun vs H xs M Φ Q r rv h k => ?_⟩
 replace h := Zn h
 obtain ⟨x, rfl, h⟩ := h
 replace h := Dr h
 obtain ⟨ds, hx, q⟩ := h
 have fin : Q (.int ds.length) H := k.dat r Step.refl (Dt.int _) q
 rcases hx with rfl | rfl | ⟨l, rfl, hm⟩
 ·obtain ⟨v, rfl, h1⟩ := Paired.one rv
  obtain ⟨p, ys, rfl, g1, g2⟩ := QB.tup h1
  exact ⟨p, ys, rfl, .inr g1.sq, by rw [g2.length]; exact fin⟩
 ·obtain ⟨v, rfl, h1⟩ := Paired.one rv
  obtain ⟨p, ys, rfl, g1, g2⟩ := QB.lst h1
  exact ⟨p, ys, rfl, .inl g1.sq, by rw [g2.length]; exact fin⟩
 ·obtain ⟨v, rfl, h1⟩ := Paired.one rv
  cases (show v = .ref l from h1)
  obtain ⟨ws, g1, g2⟩ := r.ls l ds hm
  exact ⟨l, ws, rfl, .inl (SqL.of g1), by rw [g2.length]; exact fin⟩
noncomputable def NI : D1 := fun xs M Φ => on1 xs fun x => onS x fun z => z.length ≤ sizeLine ∧ Φ (.dat (.int z.length)) M
theorem GP : Yi X (.builtin "len") NI := by
 refine ⟨_, UD, fun vs H xs M Φ Q r rv h k => ?_⟩
 replace h := Zn h
 obtain ⟨x, rfl, h⟩ := h
 replace h := Z4 h
 obtain ⟨z, rfl, hz, q⟩ := h
 obtain ⟨v, rfl, h1⟩ := Paired.one rv
 exact ⟨z, by rw [QB.str h1], hz, k.dat r Step.refl (Dt.int _) q⟩
noncomputable def NL : D1 := fun xs M Φ => on1 xs fun x => onI x fun i => i.natAbs.log2 < 1920 ∧ Φ (.dat (.str (toString i))) M
theorem Vc : Yi X (.type "str") NL := by
 refine ⟨_, Ui, fun vs H xs M Φ Q r rv h k => ?_⟩
 replace h := Zn h
 obtain ⟨x, rfl, h⟩ := h
 replace h := ZN h
 obtain ⟨i, rfl, hz, q⟩ := h
 obtain ⟨v, rfl, h1⟩ := Paired.one rv
 exact ⟨i, by rw [QB.int h1], hz, k.dat r Step.refl (Dt.str _) q⟩
noncomputable def ZaY : D1 := fun xs M Φ => on1 xs fun x => onI x fun i => Φ (.dat (.int (if i < 0 then -i else i))) M
theorem DJ : Yi X (.builtin "abs") ZaY := by
 refine ⟨_, MW, fun vs H xs M Φ Q r rv h k => ?_⟩
 replace h := Zn h
 obtain ⟨x, rfl, h⟩ := h
 replace h := ZN h
 obtain ⟨i, rfl, q⟩ := h
 obtain ⟨v, rfl, h1⟩ := Paired.one rv
 exact ⟨i, by rw [QB.int h1], k.dat r Step.refl (Dt.int _) q⟩
noncomputable def δ2I (g : Int → Int → Int) : D1 := fun xs M Φ => on2 xs fun x y => onI x fun i => onI y fun j => Φ (.dat (.int (g i j))) M
theorem Ol (hc : X.calm = true) : Yi X (.builtin "max") (δ2I fun i j => max i j) := by
 refine ⟨_, ET hc, fun vs H xs M Φ Q r rv h k => ?_⟩
 replace h := QJ h
 obtain ⟨x, y, rfl, h⟩ := h
 replace h := ZN h
 obtain ⟨i, rfl, h⟩ := h
 replace h := ZN h
 obtain ⟨j, rfl, q⟩ := h
 obtain ⟨v, u, rfl, h1, h2⟩ := Paired.two rv
 have e : (if j > i then j else i) = max i j := by rw [Int.max_def]; split <;> split <;> omega
 exact ⟨i, j, by rw [QB.int h1, QB.int h2], by rw [e]; exact k.dat r Step.refl (Dt.int _) q⟩
noncomputable def Nh : D1 := fun xs M Φ => on1 xs fun x => onQ x M fun ds => Φ (.dat (.list ds)) M
end
end DL
namespace DL
open PySem PySem.Spec PyProof.Rows L2
mutual
noncomputable def Z2 : PyData → Bool
 | .none | .bool _ | .int _ | .str _ => false
 | .list _ => true
 | .tuple xs => ZF xs
 | .dict kvs => J8 kvs
noncomputable def ZF : List PyData → Bool
 | [] => false
 | x :: xs => Z2 x || ZF xs
noncomputable def J8 : List (PyData × PyData) → Bool
 | [] => false
 | (k, v) :: r => Z2 k || Z2 v || J8 r
end
theorem VC : ∀ (ks ds : List PyData), ks.length = ds.length → J8 (ks.zip ds) = false → ZF ds = false
 | [], [], _, _ => by simp [ZF]
 | k :: ks, d :: ds, h, e => by
  rw [List.zip_cons_cons, J8] at e
  have e' : (Z2 k = false ∧ Z2 d = false) ∧ J8 (ks.zip ds) = false := by simpa using e
  rw [ZF, e'.1.2, VC ks ds (by simpa using h) e'.2]; rfl
 | [], _ :: _, h, _ => by simp at h
 | _ :: _, [], h, _ => by simp at h
section
variable {X : Cx} {pins : List (Addr × Obj)} {σ : L2.St} {H : Hp} {s : Shared} {M : Mp}
theorem Um {h : Heap} {P : Program} {w : World} : ∀ {es : List DictEntry} {kvs : List (Key × Value)}, Pairs (Qg P w) es kvs → ReadsAll h (es.map (·.key)) (kvs.map fun kv => kD kv.1) []
 | _, _, .nil => .nil
 | _, _, .cons (e := e) (kv := kv) h1 _ h3 => by
  rw [List.map_cons, List.map_cons]
  have hk : Reads h e.key (kD kv.1) [] := by
   rcases ZY (k := kv.1) (v := e.key) h1 with ⟨i, t, e1, e2⟩ | ⟨x, t, e1, e2⟩
   ·rw [e1, e2]; exact .int i t
   ·rw [e1, e2]; exact .str x t
  exact .cons (as := []) (bs := []) hk (Um h3)
theorem KU {P : Program} {w : World} : ∀ {es : List DictEntry} {kvs : List (Key × Value)}, Pairs (Qg P w) es kvs → es.map (·.val) = kvs.map (·.2)
 | _, _, .nil => rfl
 | _, _, .cons h1 h2 h3 => by rw [List.map_cons, List.map_cons, h2, KU h3]
theorem KV.vals {kvs : List (Key × V)} {vs : List (Key × Value)} (r : KV kvs vs) : Vals (kvs.map (·.2)) (vs.map (·.2)) ∧ (kvs.map fun kv => kD kv.1) = vs.map fun kv => kD kv.1 := by
 unfold KV at r
 induction r with
 | nil => exact ⟨.nil, rfl⟩
 | cons h _ ih => exact ⟨.cons h.2 ih.1, by rw [List.map_cons, List.map_cons, h.1, ih.2]⟩
theorem D6 {h : Heap} : ∀ {ks : List Key} {us : List Value}, Vals (ks.map kV) us → ReadsAll h us (ks.map kD) []
 | [], _, r => by rw [List.map_nil] at r; cases r; exact .nil
 | k :: ks, _, r => by
  rw [List.map_cons] at r
  cases r with
  | cons r1 r2 =>
   rw [List.map_cons]
   refine .cons (as := []) (bs := []) ?_ (D6 r2)
   cases k with
   | inl i => obtain ⟨t, rfl⟩ := r1; exact .int i t
   | inr x => obtain ⟨t, rfl⟩ := r1; exact .str x t
theorem KT.read (I : Inv X pins σ H s) {kvs : List (List Key × V)} {xs : List (List Key × Addr × Value)} (r : KT H kvs xs) :
  ReadsAll s.heap (xs.map fun x => Value.ref x.2.1) (kvs.map fun kv => PyData.tuple (kv.1.map kD)) [] ∧ Vals (kvs.map (·.2)) (xs.map fun x => x.2.2) := by
 induction r with
 | nil => exact ⟨.nil, .nil⟩
 | @cons p q ps qs h _ ih =>
  obtain ⟨its, r, ⟨o, ho, hc, n, hd⟩, _⟩ := I.tuple (SqT.of (K := X.K) h.2.1)
  rw [List.map_cons, List.map_cons, List.map_cons, List.map_cons]
  exact ⟨.cons (as := []) (bs := []) (.tuple ho hc hd (by simpa using D6 r)) ih.1, .cons h.2.2 ih.2⟩
mutual
theorem Dt.reads (I : Inv X pins σ H s) : ∀ {v : V} {d : PyData}, Dt X.K M H v d → ∀ {u : Value}, RelV v u → ∃ as, Reads s.heap u d as ∧ (Z2 d = false → sysModules ∉ as)
 | _, _, .non, _, r => by cases r; exact ⟨[], .none, fun _ h => nomatch h⟩
 | _, _, .bl b, _, r => by cases r; exact ⟨[], .bool b, fun _ h => nomatch h⟩
 | _, _, .int i, _, r => by obtain ⟨t, rfl⟩ := r; exact ⟨[], .int i t, fun _ h => nomatch h⟩
 | _, _, .str x, _, r => by obtain ⟨t, rfl⟩ := r; exact ⟨[], .str x t, fun _ h => nomatch h⟩
 | _, _, .tup h1 h2, _, r => by
  cases r
  obtain ⟨its, rv, ⟨o, ho, hc, n, hd⟩, _⟩ := I.tuple h1.sq
  obtain ⟨as, ra, hs⟩ := Dts.reads I h2 rv
  exact ⟨as, .tuple ho hc hd (by simpa using ra), fun h => hs (by simpa [Z2] using h)⟩
 | _, _, .lst h1 h2, _, r => by
  cases r
  obtain ⟨its, rv, ⟨o, n, ho, hc, _, hd⟩, _⟩ := I.list h1.sq
  obtain ⟨as, ra, hs⟩ := Dts.reads I h2 rv
  exact ⟨_, .list ho hc hd (by simpa using ra), fun h => by simp [Z2] at h⟩
 | _, _, .dK (a := a) (kvs := kvs) (ds := ds) h0 h1 h2, _, r => by
  cases r
  obtain ⟨_, hsys, vs, rel, o, es, ep, ho, hc, hd, _, hp, _⟩ := (show Q2 X.prog X.w H s.heap a (.dK kvs) from I.hok a _ h1)
  obtain ⟨rv, hk⟩ := KV.vals rel
  obtain ⟨bs, rb, hs⟩ := Dts.reads I h2 rv
  have hl : (kvs.map fun kv => kD kv.1).length = ds.length := by rw [List.length_map, ← h2.length, List.length_map]
  refine ⟨a :: [] ++ bs, .dict (as := []) ho hc.1 hd ?_ ?_, fun h => ?_⟩
  ·rw [List.map_fst_zip (Nat.le_of_eq hl), hk]
   exact Um hp
  ·rw [List.map_snd_zip (Nat.le_of_eq hl.symm), KU hp]
   exact rb
  ·have h' : ZF ds = false := VC _ _ hl (by rw [Z2] at h; exact h)
   intro hm
   rcases List.mem_cons.mp hm with e | hm
   ·rw [← e] at hsys
    simp at hsys
   ·exact hs h' hm
 | _, _, .dT (a := a) (kvs := kvs) (ds := ds) h0 h1 h2, _, r => by
  cases r
  obtain ⟨_, hsys, xs, rel, o, es, ep, ho, hc, hd, he, _⟩ := (show Q2 X.prog X.w H s.heap a (.dT kvs) from I.hok a _ h1)
  obtain ⟨rk, rv⟩ := KT.read I rel
  obtain ⟨bs, rb, hs⟩ := Dts.reads I h2 rv
  have hl : (kvs.map fun kv => PyData.tuple (kv.1.map kD)).length = ds.length := by rw [List.length_map, ← h2.length, List.length_map]
  refine ⟨a :: [] ++ bs, .dict (as := []) ho hc.1 hd ?_ ?_, fun h => ?_⟩
  ·rw [List.map_fst_zip (Nat.le_of_eq hl), he, List.map_map]
   exact rk
  ·rw [List.map_snd_zip (Nat.le_of_eq hl.symm), he, List.map_map]
   exact rb
  ·have h' : ZF ds = false := VC _ _ hl (by rw [Z2] at h; exact h)
   intro hm
   rcases List.mem_cons.mp hm with e | hm
   ·rw [← e] at hsys
    simp at hsys
   ·exact hs h' hm
 | _, _, .dX (a := a) (dk := dk) (d := d) h0 h1 hsys h3 h4 h5, _, r => by
  cases r
  obtain ⟨hφ, _⟩ := (show Q2 X.prog X.w H s.heap a (.ext _) from I.hok a _ h1)
  obtain ⟨o, es, n, u, ho, hc, hd, ek, ev, ru⟩ := h3 s.heap hφ
  obtain ⟨as, ra, ha⟩ := Dt.reads I h4 (u := .ref _) rfl
  obtain ⟨bs, rb, hb⟩ := Dt.reads I h5 ru
  refine ⟨a :: (as ++ []) ++ (bs ++ []), .dict ho hc hd ?_ ?_, fun h => ?_⟩
  ·rw [ek]; exact .cons ra .nil
  ·rw [ev]; exact .cons rb .nil
  ·have h' : Z2 dk = false ∧ Z2 d = false := by simpa [Z2, J8] using h
   intro hm
   rw [List.append_nil, List.append_nil, List.cons_append] at hm
   rcases List.mem_cons.mp hm with e | hm
   ·rw [← e] at hsys
    simp at hsys
   ·rcases List.mem_append.mp hm with hm | hm
    ·exact ha h'.1 hm
    ·exact hb h'.2 hm
theorem Dts.reads (I : Inv X pins σ H s) : ∀ {vs : List V} {ds : List PyData}, Dts X.K M H vs ds → ∀ {us : List Value}, Vals vs us → ∃ as, ReadsAll s.heap us ds as ∧ (ZF ds = false → sysModules ∉ as)
 | _, _, .nil, _, r => by cases r; exact ⟨[], .nil, fun _ h => nomatch h⟩
 | _, _, .cons (d := d) (ds := ds) h1 h2, _, r => by
  cases r with
  | cons r1 r2 =>
   obtain ⟨as, ra, ha⟩ := Dt.reads I h1 r1
   obtain ⟨bs, rb, hb⟩ := Dts.reads I h2 r2
   refine ⟨as ++ bs, .cons ra rb, fun h hm => ?_⟩
   have h' : Z2 d = false ∧ ZF ds = false := by simpa [ZF] using h
   rcases List.mem_append.mp hm with hm | hm
   ·exact ha h'.1 hm
   ·exact hb h'.2 hm
end
end
section
variable {X : Cx}
theorem K6 (hg : X.A.guards = some []) (hu : X.A.units + 100 < cLine) : J9 X (.builtin "repr") (fun xs H Q => ∃ v d M, xs = [v] ∧ Dt X.K M H v d ∧ d.showable = true ∧ (d.hasDict && Z2 d) = false ∧ d.depth ≤ 64 ∧
  d.shown.length ≤ sizeLine ∧ Q (.str d.shown) H) := by
 intro pins s σ H xs us Q I r h
 obtain ⟨v, d, M, rfl, hd, hs, hm, hdp, hz, q⟩ := h
 obtain ⟨u, rfl, ru⟩ := vals1 r
 have ref : ∀ a, u = .ref a → wpAny (model X.prog X.w) X.A (call (.builtin "repr") [u]) (EP X pins σ Q) X.xe s := fun a e => by
  obtain ⟨as, ra, hsm⟩ := hd.reads I ru
  subst e
  refine repr_of_reads' ra hs (fun hx => hsm ?_) hg (by omega) (fun _ _ e => e) (fun h' u tk k => ⟨.str d.shown, H, I.kept k, ⟨_, rfl⟩, q⟩) hz
  rw [hx, Bool.true_and] at hm
  exact hm
 cases hd with
 | non => cases ru; simp only [PyData.shown] at q; exact PySem.P.repr_of_none ⟨.str _, H, I.tok _, ⟨_, rfl⟩, q⟩
 | bl b => cases ru; simp only [PyData.shown] at q; exact PySem.P.repr_of_bool ⟨.str _, H, I.tok _, ⟨_, rfl⟩, q⟩
 | int i => obtain ⟨t, rfl⟩ := ru; simp only [PyData.shown] at q; exact PySem.P.repr_of_int (by simpa [PyData.showable] using hs) ⟨.str _, H, I.tok _, ⟨_, rfl⟩, q⟩
 | str x => obtain ⟨t, rfl⟩ := ru; simp only [PyData.shown] at q hz; exact PySem.P.repr_of_str ⟨.str _, H, I.tok _, ⟨_, rfl⟩, q⟩ hz
 | tup _ _ => exact ref _ ru
 | lst _ _ => exact ref _ ru
 | dK _ _ _ => exact ref _ ru
 | dT _ _ _ => exact ref _ ru
 | dX _ _ _ _ _ _ => exact ref _ ru
structure Shw (d : PyData) : Prop where
 s : d.showable = true
 m : (d.hasDict && Z2 d) = false
 dp : d.depth ≤ 64
 z : d.shown.length ≤ sizeLine
noncomputable def NQ : D1 := fun xs M Φ => on1 xs fun x => onD x fun d => Shw d ∧ Φ (.dat (.str d.shown)) M
theorem Gq {k : Nat} (hr : Yr k X.A) : Yi X (.builtin "repr") NQ := by
 refine ⟨_, K6 hr.gd (by have := hr.un; omega), fun vs H xs M Φ Q r rv h k => ?_⟩
 replace h := Zn h
 obtain ⟨x, rfl, h⟩ := h
 replace h := Z0 h
 obtain ⟨d, rfl, hs, q⟩ := h
 obtain ⟨v, rfl, h1⟩ := Paired.one rv
 exact ⟨v, d, M, rfl, h1, hs.s, hs.m, hs.dp, hs.z, k.dat r Step.refl (Dt.str _) q⟩
noncomputable def tyN : PyData → String
 | .none => "NoneType"
 | .bool _ => "bool"
 | .int _ => "int"
 | .str _ => "str"
 | .list _ => "list"
 | .tuple _ => "tuple"
 | .dict _ => "dict"
theorem Ej : J9 X (.builtin "isinstance") (fun xs H Q => ∃ v d M T b, xs = [v, .ty T] ∧ Dt X.K M H v d ∧ PySem.W.kitOne X.K (.type (tyN d)) (.type T) = some b ∧ Q (.bl b) H) := by
 intro pins s σ H xs us Q I r h
 obtain ⟨v, d, M, T, b, rfl, hd, e, q⟩ := h
 obtain ⟨u, w', rfl, ru, rt⟩ := vals2 r
 cases (show w' = Value.type T from rt)
 have fin : ∀ tk, EP X pins σ Q (.bool b) { s with toks := tk } := fun tk => ⟨.bl b, H, I.tok tk, rfl, q⟩
 cases hd with
 | non => cases ru; exact PySem.W.kia_one PySem.W.kitx_none I.kIn True.intro e (fun z => nomatch z) fin
 | bl y => cases ru; exact PySem.W.kia_one PySem.W.kitx_bool I.kIn True.intro e (fun z => nomatch z) fin
 | int i => obtain ⟨t, rfl⟩ := ru; exact PySem.W.kia_one PySem.W.kitx_int I.kIn True.intro e (fun z => nomatch z) fin
 | str y => obtain ⟨t, rfl⟩ := ru; exact PySem.W.kia_one PySem.W.kitx_str I.kIn True.intro e (fun z => nomatch z) fin
 | tup h1 _ =>
  cases ru
  obtain ⟨_, _, ⟨o, ho, hc, _⟩, _⟩ := I.tuple h1.sq
  exact PySem.W.kia_one PySem.W.kitx_tuple I.kIn ⟨o, ho, hc⟩ e (fun z => nomatch z) fin
 | lst h1 _ =>
  cases ru
  obtain ⟨_, _, ⟨o, n, ho, hc, _⟩, _⟩ := I.list h1.sq
  exact PySem.W.kia_one PySem.W.kitx_list I.kIn ⟨o, ho, hc⟩ e (fun z => nomatch z) fin
 | dK _ h1 _ =>
  cases ru
  obtain ⟨_, _, vs, _, p⟩ := (show Q2 X.prog X.w H s.heap _ (.dK _) from I.hok _ _ h1)
  obtain ⟨o, es, ep, g1, g2, _⟩ := p
  exact PySem.W.kia_one PySem.W.kitx_dict I.kIn ⟨o, g1, g2.1⟩ e (fun z => nomatch z) fin
 | dT _ h1 _ =>
  cases ru
  obtain ⟨_, _, xs, _, o, es, ep, g1, g2, _⟩ := (show Q2 X.prog X.w H s.heap _ (.dT _) from I.hok _ _ h1)
  exact PySem.W.kia_one PySem.W.kitx_dict I.kIn ⟨o, g1, g2.1⟩ e (fun z => nomatch z) fin
 | dX _ h1 _ h3 _ _ =>
  cases ru
  obtain ⟨hφ, _⟩ := (show Q2 X.prog X.w H s.heap _ (.ext _) from I.hok _ _ h1)
  obtain ⟨o, es, n, u, ho, hc, _⟩ := h3 s.heap hφ
  exact PySem.W.kia_one PySem.W.kitx_dict I.kIn ⟨o, ho, hc⟩ e (fun z => nomatch z) fin
noncomputable def ZG (T : String) (d : PyData) : Bool := tyN d == T || (T == "int" && tyN d == "bool")
theorem OP (K : PySem.W.Frag) (d : PyData) : PySem.W.kitOne K (.type (tyN d)) (.type "int") = some (ZG "int" d) := by cases d <;> rfl
theorem Ld (K : PySem.W.Frag) (d : PyData) : PySem.W.kitOne K (.type (tyN d)) (.type "bool") = some (ZG "bool" d) := by cases d <;> rfl
theorem kit_tuple (K : PySem.W.Frag) (d : PyData) : PySem.W.kitOne K (.type (tyN d)) (.type "tuple") = some (ZG "tuple" d) := by cases d <;> rfl
theorem Ff (K : PySem.W.Frag) (d : PyData) : PySem.W.kitOne K (.type (tyN d)) (.type "str") = some (ZG "str" d) := by cases d <;> rfl
noncomputable def Oj (T : String) : D1 := fun xs M Φ => match xs with | [.dat d, .ty t] => t = T ∧ Φ (.dat (.bool (ZG T d))) M | _ => False
theorem Xn {T : String} (ht : ∀ d, PySem.W.kitOne X.K (.type (tyN d)) (.type T) = some (ZG T d)) : Yi X (.builtin "isinstance") (Oj T) := by
 refine ⟨_, Ej, fun vs H xs M Φ Q r rv h k => ?_⟩
 replace h : ∃ d, xs = [.dat d, .ty T] ∧ Φ (.dat (.bool (ZG T d))) M := by
  unfold Oj at h
  split at h
  ·exact ⟨_, by rw [h.1], h.2⟩
  ·exact h.elim
 obtain ⟨d, rfl, q⟩ := h
 obtain ⟨v, u, rfl, h1, h2⟩ := Paired.two rv
 cases (show u = .ty T from h2)
 exact ⟨v, d, M, T, _, rfl, h1, ht d, k.dat r Step.refl (Dt.bl _) q⟩
theorem NU (hu : X.A.units + 64 < cLine) : OpR X (compareOp .Eq) (fun x y H Q => ∃ M d e, Dt X.K M H x d ∧ Dt X.K M H y e ∧ d.canLay0 = true ∧ e.canLay0 = true ∧ min d.depth e.depth ≤ 64 ∧ Q (.bl (PyData.eqv d e)) H) := by
 intro pins s σ H x y v u Q I rx ry h
 obtain ⟨M, d, e, h1, h2, c1, c2, hdp, q⟩ := h
 obtain ⟨as, ra, _⟩ := h1.reads I rx
 obtain ⟨bs, rb, _⟩ := h2.reads I ry
 exact PySem.SeqAt.compareEq_reads ra rb c1 c2 (by omega) ⟨.bl _, H, I, rfl, q⟩
theorem Zbb (hu : X.A.units + 64 < cLine) : OpR X (compareOp .NotEq) (fun x y H Q => ∃ M d e, Dt X.K M H x d ∧ Dt X.K M H y e ∧ d.canLay0 = true ∧ e.canLay0 = true ∧ min d.depth e.depth ≤ 64 ∧ Q (.bl (!PyData.eqv d e)) H) := by
 intro pins s σ H x y v u Q I rx ry h
 obtain ⟨M, d, e, h1, h2, c1, c2, hdp, q⟩ := h
 obtain ⟨as, ra, _⟩ := h1.reads I rx
 obtain ⟨bs, rb, _⟩ := h2.reads I ry
 exact PySem.SeqAt.compareNe_reads ra rb c1 c2 (by omega) ⟨.bl _, H, I, rfl, q⟩
noncomputable def BM (d e : PyData) : Bool := d.canLay0 && e.canLay0 && Nat.ble (min d.depth e.depth) 64
noncomputable def eqD : PyData → PyData → (Bool → Prop) → Prop
 | .int i, .int j, P => P (decide (i = j))
 | .str s, .str t, P => P (decide (s = t))
 | .bool a, .bool b, P => P (a == b)
 | d, e, P => BM d e = true ∧ P (PyData.eqv d e)
theorem NG {d e : PyData} {P : Bool → Prop} (h : eqD d e P) : (d.canLay0 = true ∧ e.canLay0 = true ∧ min d.depth e.depth ≤ 64 ∧ P (PyData.eqv d e)) ∨ ∃ s t, d = .str s ∧ e = .str t ∧ P (decide (s = t)) := by
 unfold eqD at h
 split at h
 ·refine .inl ⟨by simp [PyData.canLay0], by simp [PyData.canLay0], by simp [PyData.depth], ?_⟩
  simp only [PyData.eqv]
  rw [Bool.beq_eq_decide_eq]
  exact h
 ·exact .inr ⟨_, _, rfl, rfl, h⟩
 ·refine .inl ⟨by simp [PyData.canLay0], by simp [PyData.canLay0], by simp [PyData.depth], ?_⟩
  simp only [PyData.eqv]
  exact h
 ·have h1 := h.1
  unfold BM at h1
  simp only [Bool.and_eq_true] at h1
  exact .inl ⟨h1.1.1, h1.1.2, Nat.le_of_ble_eq_true h1.2, h.2⟩
theorem Za7 {f : Value → Value → Sem Value} {r1 r2 : R2} (h1 : OpR X f r1) (h2 : OpR X f r2) : OpR X f (fun x y H Q => r1 x y H Q ∨ r2 x y H Q) :=
 fun pins s σ H x y v u Q I rx ry h => h.elim (h1 pins s σ H x y v u Q I rx ry) (h2 pins s σ H x y v u Q I rx ry)
noncomputable def δEq : D2 := fun x y M Φ => onD x fun d => onD y fun e => eqD d e fun b => Φ (.dat (.bool b)) M
noncomputable def δNe : D2 := fun x y M Φ => onD x fun d => onD y fun e => eqD d e fun b => Φ (.dat (.bool (!b))) M
theorem VT {k : Nat} (hr : Yr k X.A) : OpD X (compareOp .Eq) δEq :=
 ⟨_, Za7 (NU hr.units) ZdX, fun v u H x y M Φ Q r rv ru h k => by
  obtain ⟨d, e1, h⟩ := Z0 h
  obtain ⟨e, e2, h⟩ := Z0 h
  subst e1 e2
  rcases NG h with ⟨c1, c2, hdp, q⟩ | ⟨s, t, rfl, rfl, q⟩
  ·exact .inl ⟨M, d, e, rv, ru, c1, c2, hdp, k.dat r Step.refl (Dt.bl _) q⟩
  ·have q' : Q (.bl (decide (s = t))) H := k.dat r Step.refl (Dt.bl _) q
   refine .inr ⟨by rw [rv.str, ru.str]; rfl, ?_⟩
   rw [rv.str, ru.str, Ko, Bool.beq_eq_decide_eq]
   exact q'⟩
theorem Za3 {k : Nat} (hr : Yr k X.A) : OpD X (compareOp .NotEq) δNe :=
 ⟨_, Za7 (Zbb hr.units) T5, fun v u H x y M Φ Q r rv ru h k => by
  obtain ⟨d, e1, h⟩ := Z0 h
  obtain ⟨e, e2, h⟩ := Z0 h
  subst e1 e2
  rcases NG h with ⟨c1, c2, hdp, q⟩ | ⟨s, t, rfl, rfl, q⟩
  ·exact .inl ⟨M, d, e, rv, ru, c1, c2, hdp, k.dat r Step.refl (Dt.bl _) q⟩
  ·have q' : Q (.bl (!decide (s = t))) H := k.dat r Step.refl (Dt.bl _) q
   refine .inr ⟨by rw [rv.str, ru.str]; rfl, ?_⟩
   rw [rv.str, ru.str, Ko, Bool.beq_eq_decide_eq]
   exact q'⟩
noncomputable def Zae : D2 := fun x y M Φ => onS x fun s => onS y fun t => Φ (.dat (.bool (!decide (s = t)))) M
theorem TQ : OpD X (compareOp .NotEq) Zae :=
 ⟨_, T5, fun v u H x y M Φ Q r rv ru h k => by
  obtain ⟨s, e1, h⟩ := Z4 h
  obtain ⟨t, e2, q⟩ := Z4 h
  subst e1 e2
  have q' : Q (.bl (!decide (s = t))) H := k.dat r Step.refl (Dt.bl _) q
  refine ⟨by rw [rv.str, ru.str]; rfl, ?_⟩
  rw [rv.str, ru.str, Ko, Bool.beq_eq_decide_eq]
  exact q'⟩
noncomputable def ZcB : D2 := fun x y M Φ => onS x fun s => onS y fun t => Φ (.dat (.bool (decide (s = t)))) M
noncomputable abbrev DTO := DSt → Mp → (Option Int → Mp → Prop) → Prop
noncomputable def DO (X : Cx) (e : Option Expr) (τ : DTO) : Prop := ∃ t, PO X e t ∧ ∀ σ H Δ M Φ (Q : Option Int → Hp → Prop), ZW X.K M H → JD X.K M H σ Δ → τ Δ M Φ → (∀ o H' M', ZW X.K M' H' → Step M H M' H' → Φ o M' → Q o H') → t σ H Q
noncomputable def FL : DTO := fun _ M Φ => Φ none M
noncomputable def TJ (t : DTE) : DTO := fun Δ M Φ => t Δ M fun x M1 => onI x fun i => Φ (some i) M1
theorem XO : DO X none FL := ⟨_, P2, fun _ H _ M _ _ r _ h k => k none H M r Step.refl h⟩
theorem Ym {e : Expr} {te : DTE} (h : DE X e te) : DO X (some e) (TJ te) := by
 obtain ⟨t, p, q⟩ := h
 refine ⟨_, RF p, fun σ H Δ M Φ Q r e h k => ?_⟩
 refine q σ H Δ M _ _ r e h fun v H1 x M1 r1 st rv hx => ?_
 replace hx := ZN hx
 obtain ⟨i, rfl, hx⟩ := hx
 exact ⟨i, rv.int, k _ H1 M1 r1 st hx⟩
noncomputable def cutD (xs : List PyData) (lo hi : Option Int) : List PyData := (xs.drop (HT.sIx xs.length 0 lo)).take (HT.sIx xs.length xs.length hi - HT.sIx xs.length 0 lo)
theorem Dts.cut {K : PySem.W.Frag} {M : Mp} {H : Hp} {vs : List V} {ds : List PyData} (h : Dts K M H vs ds) (lo hi : Option Int) : Dts K M H (N3 vs lo hi) (cutD ds lo hi) := by
 unfold N3 cutD
 rw [h.length]
 exact (h.drop _).take _
noncomputable def ZeJ (te : DTE) (tl th : DTO) : DTE := fun Δ M Φ => te Δ M fun x M1 => tl Δ M1 fun l M2 => th Δ M2 fun u M3 => onT x fun ds => ¬ (HT.sIx ds.length 0 l = 0 ∧ HT.sIx ds.length ds.length u = ds.length) ∧ Φ (.dat (.tuple (cutD ds l u))) M3
theorem FR {e : Expr} {te : DTE} {lo hi : Option Expr} {tl th : DTO} {p2 pos : Pos} (he : DE X e te) (hl : DO X lo tl) (hu : DO X hi th) : DE X (.Subscript e (.Slice lo hi none p2) pos) (ZeJ te tl th) := by
 obtain ⟨t1, p1, q1⟩ := he
 obtain ⟨t2, p2, q2⟩ := hl
 obtain ⟨t3, p3, q3⟩ := hu
 refine ⟨_, Wl Zau p1 p2 p3, fun σ H Δ M Φ Q r e h k => ?_⟩
 refine q1 σ H Δ M _ _ r e h fun v H1 x M1 r1 st rv hx => ?_
 refine q2 σ H1 Δ M1 _ _ r1 (e.step st) hx fun l H2 M2 r2 st2 hl => ?_
 refine q3 σ H2 Δ M2 _ _ r2 (e.step (st.trans st2)) hl fun u H3 M3 r3 st3 hu => ?_
 replace hu := W3 hu
 obtain ⟨ds, rfl, hw, hu⟩ := hu
 obtain ⟨a, xs, rfl, h1, h2⟩ := (rv.step (st2.trans st3)).tup
 refine ⟨a, xs, rfl, h1.sq, by rw [h2.length]; exact hw, fun p hp => ?_⟩
 exact k.dat (r3.new hp) ((st.trans (st2.trans st3)).trans (Step.new hp)) (Dt.BU r3 hp (h2.cut l u)) hu
end
end DL
namespace DL
open PySem PySem.Spec PyProof.Rows L2
noncomputable def SS : DTS := fun D Δ M => D.nx Δ M
noncomputable def Zb6 (t u : DTS) : DTS := fun D Δ M => t { D with nx := u D } Δ M
section
variable {X : Cx} {st : Stmt} {rest : List Stmt} {t u : DTS} {e : Expr} {te : DTE} {pos : Pos}
theorem Zz : DSs X [] SS := ⟨_, OY, fun σ H Δ M D E r e h k => k.nx σ H Δ M r Step.refl e h⟩
theorem Zf (h1 : DS X st t) (h2 : DSs X rest u) : DSs X (st :: rest) (Zb6 t u) := by
 obtain ⟨t1, p1, q1⟩ := h1
 obtain ⟨t2, p2, q2⟩ := h2
 refine ⟨_, L4 p1 p2, fun σ H Δ M D E r e h k => ?_⟩
 refine q1 σ H Δ M { D with nx := u D } { E with nx := t2 E } r e h ⟨fun σ' H' Δ' M' r' st' e' hn => ?_, k.rt, k.bk, k.ct⟩
 exact q2 σ' H' Δ' M' D E r' e' hn (k.step st')
theorem Zi (h1 : DS X st t) : DSs X [st] t := by
 obtain ⟨t1, p1, q1⟩ := h1
 exact ⟨_, RE p1, q1⟩
noncomputable def T2 : DTS := fun D Δ M => D.bk Δ M
noncomputable def Zda : DTS := fun D Δ M => D.ct Δ M
noncomputable def Tf (te : DTE) : DTS := fun D Δ M => te Δ M fun _ M1 => D.nx Δ M1
theorem VB (he : DE X e te) (hs : swapsWith e none pos.line X.env = pure false := by rfl) : DS X (.Expr e pos) (Tf te) := by
 obtain ⟨t, p, q⟩ := he
 refine ⟨_, R3 p hs, fun σ H Δ M D E r e h k => ?_⟩
 exact q σ H Δ M _ _ r e h fun v H1 x M1 r1 st rv hx => k.nx σ H1 Δ M1 r1 st (e.step st) hx
noncomputable def ZeS (te : DTE) : DTS := fun D Δ M => te Δ M D.rt
theorem Zq (he : DE X e te) : DS X (.Return (some e) pos) (ZeS te) := by
 obtain ⟨t, p, q⟩ := he
 exact ⟨_, Zbj p, fun σ H Δ M D E r e h k => q σ H Δ M _ _ r e h k.rt⟩
noncomputable def Zdl : DTS := fun D _ M => D.rt (.dat .none) M
noncomputable def Zd9 (c : DTT) (t u : DTS) : DTS := fun D Δ M => c Δ M fun b M1 => if b = true then t D Δ M1 else u D Δ M1
theorem Ql {c : Expr} {a b : List Stmt} {tc : DTT} (hc : DT X c tc) (ha : DSs X a t) (hb : DSs X b u) : DS X (.If c a b pos) (Zd9 tc t u) := by
 obtain ⟨t0, p0, q0⟩ := hc
 obtain ⟨t1, p1, q1⟩ := ha
 obtain ⟨t2, p2, q2⟩ := hb
 refine ⟨_, Zdz p0 p1 p2, fun σ H Δ M D E r e h k => ?_⟩
 refine q0 σ H Δ M _ _ r e h fun c H1 M1 r1 st hc => ?_
 cases c with
 | true => rw [if_pos rfl]; exact q1 σ H1 Δ M1 D E r1 (e.step st) (by simpa using hc) (k.step st)
 | false => rw [if_neg Bool.false_ne_true]; exact q2 σ H1 Δ M1 D E r1 (e.step st) (by simpa using hc) (k.step st)
noncomputable abbrev DTG := DV → DSt → Mp → (DSt → Mp → Prop) → Prop
noncomputable abbrev Hi := List DV → DSt → Mp → (DSt → Mp → Prop) → Prop
noncomputable def DG (X : Cx) (tg : Expr) (τ : DTG) : Prop := ∃ t, PG X tg t ∧ ∀ v σ H x Δ M Φ (Q : L2.St → Hp → Prop), ZW X.K M H → JD X.K M H σ Δ → QB X.K M H v x → τ x Δ M Φ →
 (∀ σ' H' Δ' M', ZW X.K M' H' → Step M H M' H' → JD X.K M' H' σ' Δ' → Φ Δ' M' → Q σ' H') → t v σ H Q
noncomputable def DGs (X : Cx) (ts : List Expr) (τ : Hi) : Prop := ∃ t, PGs X ts t ∧ ∀ vs σ H xs Δ M Φ (Q : L2.St → Hp → Prop), ZW X.K M H → JD X.K M H σ Δ → Xa X.K M H vs xs → τ xs Δ M Φ →
 (∀ σ' H' Δ' M', ZW X.K M' H' → Step M H M' H' → JD X.K M' H' σ' Δ' → Φ Δ' M' → Q σ' H') → t vs σ H Q
noncomputable def U0 (i : Nat) : DTG := fun x Δ M Φ => Φ (Δ.set i (some x)) M
theorem Zv (i : Nat) {x : Str} (hN : X.N.Nodup) (hi : X.N[i]? = some x := by rfl) (hx : Loc X.env.scope x := by first | exact Or.inl rfl | exact Or.inr rfl) (hf : X.fn x = true ∨ X.env.scope.names.lookup x = some .local := by first | exact .inl rfl | exact .inr rfl | assumption) :
  DG X (.Name x pos) (U0 i) :=
 ⟨_, FD hN hi hx hf, fun v σ H x Δ M Φ Q r e rv h k => k _ H _ M r Step.refl (e.set rv) h⟩
noncomputable def Su : Hi := fun xs Δ M Φ => match xs with | [] => Φ Δ M | _ => False
noncomputable def N7 (t : DTG) (u : Hi) : Hi := fun xs Δ M Φ => match xs with | x :: r => t x Δ M fun Δ' M' => u r Δ' M' Φ | [] => False
theorem WD : DGs X [] Su := ⟨_, OK, fun vs σ H xs Δ M Φ Q r e rv h k => by
 cases xs with
 | cons x r => exact h.elim
 | nil =>
 have h2 : Φ Δ M := h
 cases rv
 exact ⟨rfl, k σ H Δ M r Step.refl e h2⟩⟩
theorem JI {es : List Expr} {t : DTG} {u : Hi} (h1 : DG X e t) (h2 : DGs X es u)
  (hs : (assignEach (e :: es) X.env).map (·.2) = assign e X.env :: (assignEach es X.env).map (·.2) := by rfl) : DGs X (e :: es) (N7 t u) := by
 obtain ⟨t1, p1, q1⟩ := h1
 obtain ⟨t2, p2, q2⟩ := h2
 refine ⟨_, MZ p1 p2 hs, fun vs σ H xs Δ M Φ Q r e rv h k => ?_⟩
 obtain ⟨x, xr, e1, h⟩ : ∃ x xr, xs = x :: xr ∧ t x Δ M fun Δ' M' => u xr Δ' M' Φ := by
  cases xs with
  | nil => exact h.elim
  | cons x xr => exact ⟨x, xr, rfl, h⟩
 subst e1
 cases rv with
 | cons ra rr =>
  refine ⟨_, _, rfl, q1 _ σ H x Δ M _ _ r e ra h fun σ' H' Δ' M' r' st e' h' => ?_⟩
  exact q2 _ σ' H' xr Δ' M' Φ Q r' e' (Xa.step rr st) h' fun σ2 H2 Δ2 M2 r2 st2 e2 hΦ => k σ2 H2 Δ2 M2 r2 (st.trans st2) e2 hΦ
noncomputable def N4 : Nat → List PyData → (List DV → Prop) → Prop
 | 0, [], P => P []
 | n + 1, d :: r, P => N4 n r fun xs => P (.dat d :: xs)
 | 0, _ :: _, _ => False
 | _ + 1, [], _ => False
theorem Fl : ∀ {n : Nat} {ds : List PyData} {P : List DV → Prop}, N4 n ds P → ds.length = n ∧ P (ds.map DV.dat)
 | 0, [], _, h => ⟨rfl, h⟩
 | n + 1, d :: r, P, h => by
  obtain ⟨a, b⟩ := Fl (n := n) (ds := r) h
  exact ⟨by rw [List.length_cons, a], b⟩
 | 0, _ :: _, _, h => h.elim
 | _ + 1, [], _, h => h.elim
noncomputable def Zam (n : Nat) (t : Hi) : DTG := fun x Δ M Φ => onT x fun ds => N4 n ds fun xs => t xs Δ M Φ
theorem Dts.Za6 {K : PySem.W.Frag} {M : Mp} {H : Hp} : ∀ {vs : List V} {ds : List PyData}, Dts K M H vs ds → Xa K M H vs (ds.map DV.dat)
 | _, _, .nil => .nil
 | _, _, .cons h1 h2 => .cons h1 (Dts.Za6 h2)
theorem BX {es : List Expr} {k : Nat} {t : Hi} {n : Nat} (hc : X.calm = true) (h : DGs X es t) (hn : (assignEach es X.env).length = n := by rfl) (hst : (assignEach es X.env).findIdx? (·.1) = none := by rfl) : DG X (.Tuple es k pos) (Zam n t) := by
 obtain ⟨t1, p1, q1⟩ := h
 refine ⟨_, S7 hc p1 hn hst, fun v σ H x Δ M Φ Q r e rv h k => ?_⟩
 replace h := W3 h
 obtain ⟨ds, rfl, h⟩ := h
 replace h := Fl h
 obtain ⟨hl, h⟩ := h
 obtain ⟨a, xs, rfl, h1, h2⟩ := rv.tup
 exact ⟨a, xs, rfl, h1.sq, by rw [h2.length]; exact hl, q1 xs σ H _ Δ M Φ Q r e h2.Za6 h k⟩
noncomputable def ZaC (to ti : DTE) : DTG := fun x Δ M Φ => to Δ M fun o M1 => ti Δ M1 fun i M2 => onO o fun l => onI i fun k => onD x fun d => J1 (M2 l) fun ds => ∃ j, ixN ds.length k = some j ∧ Φ Δ (Z1 M2 l (.lst (ds.set j d)))
theorem ES {o i : Expr} {to ti : DTE} (ho : DE X o to) (hi : DE X i ti)
  (ha : ∀ v, assign (.Subscript o i pos) X.env v = (do
   let ov ← holding [v] (eval o X.env)
   let iv ← holding [v, ov] (eval i X.env)
   standAt pos
   holding [v, ov, iv] (setItem ov iv v)
   release [v, ov, iv] []) := by intro _; rfl) : DG X (.Subscript o i pos) (ZaC to ti) := by
 obtain ⟨t1, p1, q1⟩ := ho
 obtain ⟨t2, p2, q2⟩ := hi
 refine ⟨_, Zbc p1 p2 set_list ha, fun v σ H x Δ M Φ Q r e rv h k => ?_⟩
 refine Snd.bin q1 q2 r e h fun w1 w2 H2 o' i' M2 r2 st ro ri hs => ?_
 replace hs := Qd hs
 obtain ⟨l, rfl, hs⟩ := hs
 replace hs := ZN hs
 obtain ⟨kk, rfl, hs⟩ := hs
 replace hs := Z0 hs
 obtain ⟨d, rfl, hs⟩ := hs
 replace hs := QH hs
 obtain ⟨ds, hm, j, hj, hΦ⟩ := hs
 obtain ⟨vs, g1, g2⟩ := r2.ls l ds hm
 cases (show w1 = .ref l from ro)
 have rv2 : Dt X.K M2 H2 v d := Dt.step st rv
 have st2 : Step M2 H2 (Z1 M2 l (.lst (ds.set j d))) (upd H2 l (.lst (vs.set j v))) := Step.BR hm
 refine ⟨l, vs, kk, j, rfl, ri.int, g1, by rw [g2.length]; exact hj, ?_⟩
 exact k σ _ Δ _ (r2.XY st2 (g2.set rv2 j)) (st.trans st2) (e.step (st.trans st2)) hΦ
noncomputable def ZbQ (te : DTE) (g : DTG) : DTS := fun D Δ M => te Δ M fun x M1 => g x Δ M1 D.nx
theorem Ut {tg : Expr} {g : DTG} (he : DE X e te) (hg : DG X tg g) (hs : swapsWithSole [tg] e pos.line X.env = pure false := by rfl) (hw : swappedStores [tg] e X.env = pure none := by rfl)
  (h1 : (assignEach [tg] X.env).map (·.2) = [assign tg X.env] := by rfl) : DS X (.Assign [tg] e pos) (ZbQ te g) := by
 obtain ⟨t1, p1, q1⟩ := he
 obtain ⟨t2, p2, q2⟩ := hg
 refine ⟨_, TC p1 p2 hs hw h1, fun σ H Δ M D E r e h k => ?_⟩
 refine q1 σ H Δ M _ _ r e h fun v H1 x M1 r1 st rv hx => ?_
 exact q2 v σ H1 x Δ M1 _ _ r1 (e.step st) rv hx fun σ' H' Δ' M' r' st' e' hn => k.nx σ' H' Δ' M' r' (st.trans st') e' hn
theorem Zu (i : Nat) {x : Str} {pos' : Pos} (hN : X.N.Nodup) (he : DE X e te) (hi : X.N[i]? = some x := by rfl) (hx : Loc X.env.scope x := by first | exact Or.inl rfl | exact Or.inr rfl) (hs : swapsWith e (some (.Name x pos')) pos.line X.env = pure false := by rfl)
  (hf : X.fn x = true ∨ X.env.scope.names.lookup x = some .local := by first | exact .inl rfl | exact .inr rfl | assumption) : DS X (.Assign [.Name x pos'] e pos) (ZbQ te (U0 i)) := by
 obtain ⟨t1, p1, q1⟩ := he
 refine ⟨_, Zbg hN hi hx p1 hs hf, fun σ H Δ M D E r e h k => ?_⟩
 refine q1 σ H Δ M _ _ r e h fun v H1 x M1 r1 st rv hx => ?_
 exact k.nx _ H1 _ M1 r1 st ((e.step st).set rv) hx
noncomputable def Dk (to te : DTE) : DTE := fun Δ M Φ => to Δ M fun x M1 => onO x fun l => J1 (M1 l) fun _ => te Δ M1 fun y M2 => onD y fun d => J1 (M2 l) fun ds => ds.length < sizeLine ∧ Φ (.dat .none) (Z1 M2 l (.lst (ds ++ [d])))
theorem JV {o : Expr} {to : DTE} {apos cpos : Pos} (ho : DE X o to) (he : DE X e te) (hbase : attributeBase o "append" X.env (eval o X.env) = eval o X.env := by rfl)
  (hfew : ((backTo cpos (starEach [e] X.env)).all (fun x => !x.1) && (backToKw cpos (keywordEach [] X.env)).all (fun x => x.1.isSome)
   && decide ([e].length + ([] : List Keyword).length + (if ([] : List Keyword).isEmpty then 0 else 1) < 30)) = true := by rfl)
  (hline : (apos.endLine == cpos.line) = true := by rfl) (hs : starEach [e] X.env = (false, eval e X.env) :: starEach [] X.env := by rfl) (hplain : (backTo cpos (starEach [] X.env)).any (·.1) = false := by rfl) :
  DE X (.Call (.Attribute o "append" apos) [e] [] cpos) (Dk to te) := by
 obtain ⟨t1, p1, q1⟩ := ho
 obtain ⟨t2, p2, q2⟩ := he
 refine ⟨_, DN PySem.F.plainAttrs_list PySem.F.slot_list_append PySem.F.type_list_append EE p1 (Y7 p2 We hs) hbase hfew hline hs hplain, fun σ H Δ M Φ Q r e h k => ?_⟩
 refine q1 σ H Δ M _ _ r e h fun v H1 x M1 r1 st rv hx => ?_
 replace hx := Qd hx
 obtain ⟨l, rfl, hx⟩ := hx
 replace hx := QH hx
 obtain ⟨oo, ho, hx⟩ := hx
 cases (show v = .ref l from rv)
 have ty : tyV X.K "list" (.ref l) H1 := by
  obtain ⟨vs, g1, _⟩ := r1.ls l oo ho
  exact .inl ⟨rfl, vs, SqL.of g1⟩
 refine ⟨ty, q2 σ H1 Δ M1 _ _ r1 (e.step st) hx fun w H2 y M2 r2 st2 rw2 hy => ?_⟩
 replace hy := Z0 hy
 obtain ⟨d, rfl, hy⟩ := hy
 replace hy := QH hy
 obtain ⟨ds, hm, hz, hy⟩ := hy
 obtain ⟨vs, g1, g2⟩ := r2.ls l ds hm
 have st3 : Step M2 H2 (Z1 M2 l (.lst (ds ++ [d]))) (upd H2 l (.lst (vs ++ [w]))) := Step.BR hm
 refine ⟨l, vs, w, rfl, rfl, g1, by rw [g2.length]; exact hz, ?_⟩
 exact k.dat (r2.XY st3 (g2.append (.cons rw2 .nil))) (st.trans (st2.trans st3)) Dt.non hy
end
section
variable {X : Cx} {tg iter : Expr} {body : List Stmt} {g : DTG} {tb : DTS} {pos : Pos}
noncomputable def Ea (g : DTG) (tb : DTS) (D : Qy) (ds : List PyData) (Δ : DSt) (M : Mp) : Prop :=
 ∃ J : Nat → DSt → Mp → Prop, J 0 Δ M ∧ (∀ i d Δ M, ds[i]? = some d → J i Δ M → g (.dat d) Δ M fun Δ2 M2 => tb { D with nx := J (i + 1), ct := J (i + 1), bk := D.nx } Δ2 M2) ∧ ∀ Δ M, J ds.length Δ M → D.nx Δ M
noncomputable def Zbn (te : DTE) (g : DTG) (tb : DTS) : DTS := fun D Δ M => te Δ M fun x M1 => onL x fun ds => Ea g tb D ds Δ M1
noncomputable def Zax (te : DTE) (g : DTG) (tb : DTS) : DTS := fun D Δ M => te Δ M fun x M1 => onT x fun ds => Ea g tb D ds Δ M1
theorem Ph {te : DTE} (he : DE X iter te) (hg : DG X tg g) (hb : DSs X body tb) (hp : PassesOwn (model X.prog X.w) X.A X.env X.xe) (hc : X.calm = true) (hs : ∀ x, foldedSetIterable iter X.env x = pure x := by intro _; rfl) :
  DS X (.For tg iter body [] pos) (Zbn te g tb) := by
 obtain ⟨t1, p1, q1⟩ := he
 obtain ⟨t2, p2, q2⟩ := hg
 obtain ⟨t3, p3, q3⟩ := hb
 refine ⟨_, Dx hp hc (Ed p1) p2 p3 hs, fun σ H Δ M D E r e h k => ?_⟩
 refine q1 σ H Δ M _ _ r e h fun v H1 x M1 r1 st rv hx => ?_
 replace hx := Nm hx
 obtain ⟨ds, rfl, J, j0, jt, jd⟩ := hx
 obtain ⟨a, xs, rfl, h1, h2⟩ := rv.lst
 refine ⟨a, rfl, ⟨xs, h1.sq⟩, LZ (xs := xs) (fun i σ H => ∃ Δ M, ZW X.K M H ∧ Step M1 H1 M H ∧ JD X.K M H σ Δ ∧ J i Δ M) ⟨Δ, M1, r1, Step.refl, e.step st, j0⟩
  (fun i σ H _ ⟨Δ, M, _, st', _, _⟩ => (h1.step st').sq) (fun i y σ H hi ⟨Δ, M, r', st', e', j⟩ => ?_) (fun σ H ⟨Δ, M, r', st', e', j⟩ => ?_)⟩
 ·obtain ⟨d, hd, hy⟩ := h2.To hi
  refine q2 y σ H (.dat d) Δ M _ _ r' e' (Dt.step st' hy) (jt i d Δ M hd j) fun σ2 H2 Δ2 M2 r2 st2 e2 hb2 => ?_
  refine q3 σ2 H2 Δ2 M2 _ _ r2 e2 hb2 ?_
  have s12 : Step M1 H1 M2 H2 := st'.trans st2
  exact ⟨fun σ' H' Δ' M' a b c d => ⟨Δ', M', a, s12.trans b, c, d⟩, k.rt.step (st.trans s12), fun σ' H' Δ' M' a b c d => k.nx σ' H' Δ' M' a ((st.trans s12).trans b) c d,
   fun σ' H' Δ' M' a b c d => ⟨Δ', M', a, s12.trans b, c, d⟩⟩
 ·rw [h2.length] at j
  exact k.nx σ H Δ M r' (st.trans st') e' (jd Δ M j)
theorem O6 {te : DTE} (he : DE X iter te) (hg : DG X tg g) (hb : DSs X body tb) (hp : PassesOwn (model X.prog X.w) X.A X.env X.xe) (hc : X.calm = true) (hs : ∀ x, foldedSetIterable iter X.env x = pure x := by intro _; rfl) :
  DS X (.For tg iter body [] pos) (Zax te g tb) := by
 obtain ⟨t1, p1, q1⟩ := he
 obtain ⟨t2, p2, q2⟩ := hg
 obtain ⟨t3, p3, q3⟩ := hb
 refine ⟨_, Dx hp hc (Nr p1) p2 p3 hs, fun σ H Δ M D E r e h k => ?_⟩
 refine q1 σ H Δ M _ _ r e h fun v H1 x M1 r1 st rv hx => ?_
 replace hx := W3 hx
 obtain ⟨ds, rfl, J, j0, jt, jd⟩ := hx
 obtain ⟨a, xs, rfl, h1, h2⟩ := rv.tup
 refine ⟨a, rfl, ⟨xs, h1.sq⟩, PM (xs := xs) (fun i σ H => ∃ Δ M, ZW X.K M H ∧ Step M1 H1 M H ∧ JD X.K M H σ Δ ∧ J i Δ M) ⟨Δ, M1, r1, Step.refl, e.step st, j0⟩
  (fun i σ H _ ⟨Δ, M, _, st', _, _⟩ => (h1.step st').sq) (fun i y σ H hi ⟨Δ, M, r', st', e', j⟩ => ?_) (fun σ H ⟨Δ, M, r', st', e', j⟩ => ?_)⟩
 ·obtain ⟨d, hd, hy⟩ := h2.To hi
  refine q2 y σ H (.dat d) Δ M _ _ r' e' (Dt.step st' hy) (jt i d Δ M hd j) fun σ2 H2 Δ2 M2 r2 st2 e2 hb2 => ?_
  refine q3 σ2 H2 Δ2 M2 _ _ r2 e2 hb2 ?_
  have s12 : Step M1 H1 M2 H2 := st'.trans st2
  exact ⟨fun σ' H' Δ' M' a b c d => ⟨Δ', M', a, s12.trans b, c, d⟩, k.rt.step (st.trans s12), fun σ' H' Δ' M' a b c d => k.nx σ' H' Δ' M' a ((st.trans s12).trans b) c d,
   fun σ' H' Δ' M' a b c d => ⟨Δ', M', a, s12.trans b, c, d⟩⟩
 ·rw [h2.length] at j
  exact k.nx σ H Δ M r' (st.trans st') e' (jd Δ M j)
noncomputable def Uj (g : DTG) (tb : DTS) (D : Qy) (lo : Int) (n : Nat) (Δ : DSt) (M : Mp) : Prop :=
 ∃ J : Nat → DSt → Mp → Prop, J 0 Δ M ∧ (∀ i Δ M, i < n → J i Δ M → g (.dat (.int (lo + i))) Δ M fun Δ2 M2 => tb { D with nx := J (i + 1), ct := J (i + 1), bk := D.nx } Δ2 M2) ∧ ∀ Δ M, J n Δ M → D.nx Δ M
theorem ZaV {g' : TG} {tb' : TS} {lo : Int} {n : Nat} (q2 : ∀ v σ H x Δ M Φ (Q : L2.St → Hp → Prop), ZW X.K M H → JD X.K M H σ Δ → QB X.K M H v x → g x Δ M Φ →
  (∀ σ' H' Δ' M', ZW X.K M' H' → Step M H M' H' → JD X.K M' H' σ' Δ' → Φ Δ' M' → Q σ' H') → g' v σ H Q)
  (q3 : ∀ σ H Δ M D E, ZW X.K M H → JD X.K M H σ Δ → tb D Δ M → Kr X.K M H D E → tb' E σ H) {D : Qy} {E : Ends} {σ : L2.St} {H : Hp} {Δ : DSt} {M : Mp} (r : ZW X.K M H) (e : JD X.K M H σ Δ) (h : Uj g tb D lo n Δ M) (k : Kr X.K M H D E) :
  ∃ W : Nat → Nat → L2.St → Hp → Prop, (∃ m, W 0 m σ H) ∧ ∀ i m σ H, W i m σ H →
   ((Itr lo n).stop i H ∧ E.nx σ H) ∨ ((Itr lo n).go i H ∧ ∃ N : L2.St → Hp → Prop, (∀ σ' H', N σ' H' → ∃ m', m' < m ∧ W (i + 1) m' σ' H') ∧ ∀ x H', (Itr lo n).yld i H x H' → g' x σ H' fun σ2 H2 => tb' { E with nx := N, ct := N, bk := E.nx } σ2 H2) := by
 obtain ⟨J, j0, jt, jd⟩ := h
 refine DM (fun i σ' H' => ∃ Δ' M', ZW X.K M' H' ∧ Step M H M' H' ∧ JD X.K M' H' σ' Δ' ∧ J i Δ' M') ⟨Δ, M, r, Step.refl, e, j0⟩ (fun i σ1 H1 hi ⟨Δ1, M1, r', st', e', j⟩ => ?_) (fun σ1 H1 ⟨Δ1, M1, r', st', e', j⟩ => ?_)
 ·refine q2 _ σ1 H1 (.dat (.int (lo + i))) Δ1 M1 _ _ r' e' (Dt.int _) (jt i Δ1 M1 hi j) fun σ2 H2 Δ2 M2 r2 st2 e2 hb2 => ?_
  refine q3 σ2 H2 Δ2 M2 _ _ r2 e2 hb2 ?_
  have s12 : Step M H M2 H2 := st'.trans st2
  exact ⟨fun σ' H' Δ' M' a b c d => ⟨Δ', M', a, s12.trans b, c, d⟩, k.rt.step s12, fun σ' H' Δ' M' a b c d => k.nx σ' H' Δ' M' a (s12.trans b) c d,
   fun σ' H' Δ' M' a b c d => ⟨Δ', M', a, s12.trans b, c, d⟩⟩
 ·exact k.nx σ1 H1 Δ1 M1 r' st' e' (jd Δ1 M1 j)
noncomputable def InR (j : Int) : Prop := -(2 ^ 62) ≤ j ∧ j < 2 ^ 62
noncomputable def ND (ta : DTA) (g : DTG) (tb : DTS) : DTS := fun D Δ M => ta Δ M fun xs M1 => on1 xs fun x => onI x fun j => InR j ∧ Uj g tb D 0 j.toNat Δ M1
theorem XC {a : Expr} {ta : DTA} {p p2 : Pos} (hg0 : Gl X "range") (hm : X.mg "range" = none) (ha : DA X [a] ta) (hg : DG X tg g) (hb : DSs X body tb) (hp : PassesOwn (model X.prog X.w) X.A X.env X.xe) (hc : X.calm = true)
  (hs : starEach [a] X.env = [(false, eval a X.env)] := by rfl) (hs2 : ∀ x, foldedSetIterable (.Call (.Name "range" p) [a] [] p2) X.env x = pure x := by intro _; rfl) : DS X (.For tg (.Call (.Name "range" p) [a] [] p2) body [] pos) (ND ta g tb) := by
 obtain ⟨t1, p1, q1⟩ := ha
 obtain ⟨t2, p2, q2⟩ := hg
 obtain ⟨t3, p3, q3⟩ := hb
 refine ⟨_, Dx hp hc (Uw hg0 hm p1 hs) p2 p3 hs2, fun σ H Δ M D E r e h k => ?_⟩
 refine q1 σ H Δ M _ _ r e h fun vs H1 xs M1 r1 st rv hx => ?_
 replace hx := Zn hx
 obtain ⟨x, rfl, hx⟩ := hx
 replace hx := ZN hx
 obtain ⟨j, rfl, ⟨h1, h2⟩, hx⟩ := hx
 obtain ⟨v, rfl, hv⟩ := Paired.one rv
 exact ⟨j, by rw [QB.int hv], h1, h2, ZaV q2 q3 r1 (e.step st) hx (k.step st)⟩
noncomputable def ZaE (ta : DTA) (g : DTG) (tb : DTS) : DTS := fun D Δ M => ta Δ M fun xs M1 => on2 xs fun x y => onI x fun i => onI y fun j => (InR i ∧ InR j) ∧ Uj g tb D i (j - i).toNat Δ M1
end
noncomputable abbrev DSp := List DV → Mp → DK → Prop
noncomputable def lift (K : PySem.W.Frag) (S : DSp) : Sp := fun vs H Q _ => ∃ xs M Φ, ZW K M H ∧ Xa K M H vs xs ∧ S xs M Φ ∧ Rch K M H Φ Q
noncomputable def Zbz (S : DSp) (t : DTA) : DTE := fun Δ M Φ => t Δ M fun xs M1 => S xs M1 Φ
section
variable {X : Cx} {CX : CXT} {k : Nat} {f : Addr} {fd : FuncData} {ps : List Str} {S : DSp} {E : XK} {x : Str} {p pos : Pos} {e : Expr} {es : List Expr} {t : DTA}
theorem Zg (F : ZE X.prog X.w X.K X.mg X.base CX k f fd ps (lift X.K S)) (hr : Yr k X.A) (hg : Gl X x) (hm : X.mg x = some (.ref f)) (hk : PySem.W.keepIn X.K (.ref f) = true) (hb : Binds X.K fd ps []) (hx : Passes CX X E)
  (ha : DA X (e :: es) t) (hdb : (x == ("__debug__" : Str)) = false := by decide) (he : starEach (e :: es) X.env = (false, eval e X.env) :: starEach es X.env := by rfl) (hpl : (backTo pos (starEach es X.env)).any (·.1) = false := by rfl) :
  DE X (.Call (.Name x p) (e :: es) [] pos) (Zbz S t) := by
 obtain ⟨t1, p1, q1⟩ := ha
 refine ⟨_, Rv F hr hg hm hk hb .nil hx p1 hdb he hpl, fun σ H Δ M Φ Q r e h k => ?_⟩
 refine q1 σ H Δ M _ _ r e h fun vs H1 xs M1 r1 st rv hx => ?_
 show lift X.K S (vs ++ []) H1 Q E
 rw [List.append_nil]
 exact ⟨xs, M1, Φ, r1, rv, hx, k.step st⟩
end
section
variable {P : Program} {w : World} {K : PySem.W.Frag} {mg : Str → Option Value} {base : Heap}
theorem okD {x qual : Str} {st : Stmt} {f : Addr} {fd : FuncData} {N ps : List Str} {k : Nat} {S : DSp} (F : Fun K x qual st f fd) (Sc : Zs N ps (Ze st)) (len : ∀ xs M Φ, S xs M Φ → xs.length = ps.length)
  (hbody : ∀ (cdv : Value) (A : Around) (outer : List Env) (s : Shared) (H : Hp) (E : XK), Yr k (A.deeper (envOfC qual (Ze st) s.heap.objs.size f cdv)) →
   ∃ τ, DSs (N5 CX0 P w K mg base N qual (Ze st) f cdv A outer s H E).nox (Zr st) τ ∧ ∀ xs M Φ, S xs M Φ → τ { nx := fun _ M' => Φ (.dat .none) M', rt := Φ } (Xg N xs) M) : ZE P w K mg base CX0 (k + 1) f fd ps (lift K S) := by
 refine F.ok Sc (fun vs H Q E h => ?_) fun cdv A outer s H vs Q E hr h => ?_
 ·obtain ⟨xs, M, Φ, _, rv, hs, _⟩ := h
  rw [Paired.length rv]
  exact len xs M Φ hs
 ·obtain ⟨xs, M, Φ, r, rv, hs, kk⟩ := h
  obtain ⟨τ, ⟨t, p, q⟩, hτ⟩ := hbody cdv A outer s H E hr
  refine ⟨t, p, q (start N vs) H (Xg N xs) M _ _ r (JD.start rv) (hτ xs M Φ hs) ⟨fun σ' H' Δ' M' r' st' e' hn => ?_, kk, fun _ _ _ _ _ _ _ h => h.elim, fun _ _ _ _ _ _ _ h => h.elim⟩⟩
  exact kk.dat r' st' Dt.non hn
end
end DL
namespace DL
open PySem PySem.Spec PyProof.Rows L2
section
variable {X : Cx} {k v : Expr} {pos : Pos}
noncomputable def At (X : Cx) (e : Expr) (τ : DTE) : Prop := ∃ t, PE X e t ∧ ∀ σ H Δ M Φ, JD X.K M H σ Δ → τ Δ M Φ → ∃ v x, QB X.K M H v x ∧ Φ x M ∧ ∀ (H' : Hp) (Q : VK), Q v H' → t σ H' Q
theorem Wa (i : Nat) {x : Str} {pos : Pos} (hN : X.N[i]? = some x := by rfl) (hv : Vis X.env.scope x := by first | exact Or.inl rfl | exact Or.inr (Or.inl rfl) | exact Or.inr (Or.inr rfl)) (hd : (x == ("__debug__" : Str)) = false := by decide)
  (hcd : (x == ("__classdict__" : Str)) = false := by decide) : At X (.Name x pos) (ZcG i) := by
 refine ⟨_, NK hN hv hd hcd, fun σ H Δ M Φ e h => ?_⟩
 replace h := EO h
 obtain ⟨x, e1, h⟩ := h
 obtain ⟨v, e2, q⟩ := e.at' i x e1
 exact ⟨v, x, q, h, fun H' Q hq => ⟨v, e2, hq⟩⟩
theorem K9 {x j pos} : At X (.Constant (.str x) j pos) (dC (.str x)) := ⟨_, Ny, fun _ H _ M Φ _ h => ⟨.str x, .dat (.str x), Dt.str x, h, fun _ _ hq => hq⟩⟩
noncomputable def ZaX : DTE := fun _ M Φ => Φ (.dat (.dict [])) M
noncomputable def KH (x : DV) (P : Key → Prop) : Prop := match x with | .dat (.int i) => P (.inl i) | .dat (.str s) => P (.inr s) | _ => False
noncomputable def Nb : List PyData → Option (List Key)
 | [] => some []
 | .int i :: r => (Nb r).map (.inl i :: ·)
 | .str s :: r => (Nb r).map (.inr s :: ·)
 | _ :: _ => none
noncomputable def Zdp (ds : List PyData) (P : List Key → Prop) : Prop := match Nb ds with | some ks => P ks | none => False
noncomputable def SH (tk tv : DTE) : DTE := fun Δ M Φ => tk Δ M fun x M1 => tv Δ M1 fun y M2 => KH x fun k => onD y fun d => Φ (.dat (.dict [(kD k, d)])) M2
noncomputable def Zbt (tk tv tk' tv' : DTE) : DTE := fun Δ M Φ => tk Δ M fun x M1 => tv Δ M1 fun y M2 => tk' Δ M2 fun x' M3 => tv' Δ M3 fun y' M4 => KH x fun k => onD y fun d => KH x' fun k' => onD y' fun d' => k ≠ k' ∧ Φ (.dat (.dict [(kD k, d), (kD k', d')])) M4
noncomputable def Zg5 (a b : Addr) (v : V) (h : Heap) : Prop := ∃ o es n u, h.get? a = some o ∧ o.cls = .type "dict" ∧ o.data = .dict es n ∧ es.toList.map (·.key) = [.ref b] ∧ es.toList.map (·.val) = [u] ∧ RelV v u
noncomputable def Rk (tk tv : DTE) : DTE := fun Δ M Φ => tk Δ M fun x M1 => tv Δ M1 fun y M2 => onT x fun ds => Zdp ds fun ks => onD y fun d => Φ (.dat (.dict [(.tuple (ks.map kD), d)])) M2
theorem SqT.new {K : PySem.W.Frag} {H : Hp} {a p : Addr} {xs : List V} {o : HO} (h : SqT K H a xs) (hp : H p = none) : SqT K (upd H p o) a xs := by
 rcases h with (h | ⟨ob, h⟩) | h
 ·exact .inl (.inl (by rw [ZV (ZA h hp)]; exact h))
 ·exact .inl (.inr ⟨ob, by rw [ZV (ZA h hp)]; exact h⟩)
 ·exact .inr h
end
end DL
namespace DL
open PySem PySem.Spec PyProof.Rows L2
mutual
noncomputable def cost : PyData → Nat
 | .none => 4
 | .bool _ => 5
 | .int _ => 1921
 | .str x => (reprText x).length
 | .list xs => QF xs + 2
 | .tuple xs => QF xs + 3
 | .dict kvs => KR kvs + 2
noncomputable def QF : List PyData → Nat
 | [] => 0
 | x :: xs => cost x + 2 + QF xs
noncomputable def KR : List (PyData × PyData) → Nat
 | [] => 0
 | (k, v) :: r => cost k + 2 + cost v + 2 + KR r
end
theorem Kp : ∀ (ts : List Str) (k : Nat) (acc : Str), (textFrom k acc ts).length ≤ acc.length + piled ts
 | [], k, acc => Nat.le_add_right _ _
 | t :: r, k, acc => by
  have h := Kp r (k + 1) (acc ++ (if k > 0 then ", " else "" : String) ++ t)
  have e : (acc ++ (if k > 0 then ", " else "" : String) ++ t).length = acc.length + (if k > 0 then 2 else 0) + t.length := by
   rw [strLen_append, strLen_append]
   split <;> rfl
  have d1 : (if k > 0 then 2 else 0 : Nat) ≤ 2 := by split <;> omega
  rw [e] at h
  rw [piled_cons]
  show (textFrom (k + 1) _ r).length ≤ _
  omega
theorem Ee (ts : List Str) : (Str.join ", " ts).length ≤ piled ts := by
 by_cases h : ts = []
 ·subst h; exact Nat.le_of_eq rfl
 ·have := join_length_add ts h
  omega
mutual
theorem JZ : ∀ d : PyData, d.showable = true → d.shown.length ≤ cost d
 | .none, _ => by simp only [PyData.shown, cost]; exact Nat.le_of_eq rfl
 | .bool b, _ => by
  simp only [PyData.shown, cost]
  cases b
  ·exact Nat.le_of_eq rfl
  ·exact (by decide : 4 ≤ 5)
 | .int i, h => by
  simp only [PyData.shown, cost]
  exact int_text_len_1921 (by simpa [PyData.showable] using h)
 | .str x, _ => by simp only [PyData.shown, cost]; exact Nat.le_refl _
 | .list xs, h => by
  have h1 := Vd xs (by simpa [PyData.showable] using h)
  have h2 := Kp (PyData.shownAll xs) 0 "["
  have e1 : ((("[" : String) : Str)).length = 1 := rfl
  have e2 : ((("]" : String) : Str)).length = 1 := rfl
  simp only [PyData.shown, cost]
  unfold listText
  rw [strLen_append, e2]
  rw [e1] at h2
  omega
 | .tuple xs, h => by
  have h1 := Vd xs (by simpa [PyData.showable] using h)
  have h2 := Ee (PyData.shownAll xs)
  have e1 : ((("(" : String) : Str)).length = 1 := rfl
  have e3 : (((if (PyData.shownAll xs).length == 1 then ",)" else ")" : String) : Str)).length ≤ 2 := by split <;> decide
  simp only [PyData.shown, cost]
  unfold tupleText
  rw [strLen_append, strLen_append, e1]
  omega
 | .dict kvs, h => by
  have h1 := Xm kvs (by simpa [PyData.showable] using h)
  have h2 := Ee (PyData.shownKv kvs)
  have e : (dictText (PyData.shownKv kvs)).length = 1 + (Str.join ", " (PyData.shownKv kvs)).length + 1 := by
   unfold dictText
   rw [strLen_append, strLen_append]; rfl
  simp only [PyData.shown, cost]
  omega
theorem Vd : ∀ xs : List PyData, PyData.showableAll xs = true → piled (PyData.shownAll xs) ≤ QF xs
 | [], _ => by simp only [PyData.shownAll, QF]; exact Nat.le_of_eq rfl
 | x :: xs, h => by
  have h' : x.showable = true ∧ PyData.showableAll xs = true := by simpa [PyData.showableAll] using h
  have h1 := JZ x h'.1
  have h2 := Vd xs h'.2
  simp only [PyData.shownAll, QF]
  rw [piled_cons]
  omega
theorem Xm : ∀ kvs : List (PyData × PyData), PyData.showableKv kvs = true → piled (PyData.shownKv kvs) ≤ KR kvs
 | [], _ => by simp only [PyData.shownKv, KR]; exact Nat.le_of_eq rfl
 | (k, v) :: r, h => by
  have h' : (k.showable = true ∧ v.showable = true) ∧ PyData.showableKv r = true := by simpa [PyData.showableKv] using h
  have h1 := JZ k h'.1.1
  have h2 := JZ v h'.1.2
  have h3 := Xm r h'.2
  have e : ((k.shown ++ ": " ++ v.shown : Str)).length = k.shown.length + 2 + v.shown.length := by rw [strLen_append, strLen_append]; rfl
  simp only [PyData.shownKv, KR]
  rw [piled_cons, e]
  omega
end
theorem Shw.of {d : PyData} (s : d.showable = true) (m : (d.hasDict && Z2 d) = false) (dp : d.depth ≤ 64) (z : cost d ≤ 1000000) : Shw d :=
 ⟨s, m, dp, Nat.le_trans (JZ d s) (Nat.le_trans z (by rw [sizeLine_eq]; decide))⟩
structure Own (K : PySem.W.Frag) (mg : Str → Option Value) (x : Str) (st : Stmt) (ps : List Str) (f : Addr) (fd : FuncData) : Prop where
 F : Fun K x x st f fd
 m : mg x = some (.ref f)
 b : Binds K fd ps []
noncomputable def Ha : DSp := fun xs M Φ => ∃ ns : List Int, xs = [.dat (.list (ns.map PyData.int))] ∧ ns.length ≤ 63 ∧ ∀ M', Φ (.dat (.bool true)) M'
theorem Er {K : PySem.W.Frag} {H : Hp} {a : Addr} {ns : List Int} (hl : ns.length ≤ 63) (_ : Zb9 H) (hS : SqL K H a (ns.map V.int)) : lift K Ha [.ref a] H (fun v _ => v = .bl true) fun _ _ _ => False := by
 refine ⟨[.dat (.list (ns.map PyData.int))], fun _ => none, fun x _ => x = .dat (.bool true), (show ZW K (fun _ => none) H from ⟨fun b o e => (by cases e)⟩), Paired.cons (Dt.lst ?_ (Dts.ints ns)) Paired.nil, ⟨ns, rfl, hl, fun _ => rfl⟩, fun v H' x M' _ _ rv hx => ?_⟩
 ·rcases hS with h | h
  ·exact .inl ⟨rfl, h⟩
  ·exact .inr h
 ·subst hx
  exact rv.bool
end DL
namespace DL
open PySem PySem.Spec PyProof.Rows L2
theorem EM {α : Type} {l : List α} {i : Int} (h0 : 0 ≤ i) (h1 : i < l.length) : ∃ d, atI l i = some d ∧ d ∈ l := by
 have hl : i.toNat < l.length := by omega
 refine ⟨l[i.toNat], ?_, List.getElem_mem hl⟩
 have q : atI l ((i.toNat : Nat) : Int) = some l[i.toNat] := Yh (by simp [hl])
 rw [show ((i.toNat : Nat) : Int) = i by omega] at q
 exact q
theorem Zay : ixN 3 0 = some 0 := rfl
theorem Ss : ixN 3 1 = some 1 := rfl
theorem TZ : ixN 3 2 = some 2 := rfl
theorem OV {ns : List Int} {j : Int} (h0 : 0 ≤ j) (h1 : j < ns.length) : ∃ c : Int, atI (ns.map PyData.int) j = some (.int c) := by
 obtain ⟨d, e, hm⟩ := EM (l := ns.map PyData.int) h0 (by rw [List.length_map]; exact h1)
 obtain ⟨c, _, rfl⟩ := List.mem_map.mp hm
 exact ⟨c, e⟩
theorem Uc (x : Int) {m : Int} (h : 0 < m) : 0 ≤ x % m ∧ x % m < m := ⟨Int.emod_nonneg _ (by omega), Int.emod_lt_of_pos _ h⟩
noncomputable def sp1 (f : PyData → Bool) : DSp := fun xs M Φ => ∃ d, xs = [.dat d] ∧ Φ (.dat (.bool (f d))) M
theorem LM (k : Int) (h : 0 ≤ k ∧ k ≤ 1000000) : ZdD 10 k := ⟨h.1, h.2, by decide⟩
theorem Ys {M : Mp} {a : Addr} {o : OO} (h : M a = none) : YQ (Z1 M a o) a = M := by
 funext b
 unfold YQ Z1
 split
 ·rename_i e; rw [e, h]
 ·rfl
theorem Zm {p : Prop} [Decidable p] {A B : Prop} (h1 : p → A) (h2 : ¬ p → B) : if decide p = true then A else B := by
 by_cases h : p
 ·rw [decide_eq_true h, if_pos rfl]; exact h1 h
 ·rw [decide_eq_false h, if_neg Bool.false_ne_true]; exact h2 h
end DL
namespace DL
open PySem PySem.Spec PyProof.Rows L2
noncomputable def Fp (env : Env) : List (Str × NameKind) → List (Str × Addr) → List (Str × Addr)
 | [], cs => cs
 | (n, k) :: r, cs => Fp env r (if (k == NameKind.free) = true then (n, (env.cells.lookup n).getD 0) :: cs else cs)
theorem KP {env : Env} (f : Str × NameKind → List (Str × Addr) → Sem (ForInStep (List (Str × Addr)))) : ∀ (l : List (Str × NameKind)) (cs : List (Str × Addr)),
  (∀ y ∈ l, ∀ cs, f y cs = pure (.yield (if (y.2 == NameKind.free) = true then (y.1, (env.cells.lookup y.1).getD 0) :: cs else cs))) → forIn l cs f = pure (Fp env l cs)
 | [], cs, _ => by rw [List.forIn_nil]; rfl
 | (n, k) :: r, cs, h => by
  rw [List.forIn_cons, h _ List.mem_cons_self, pure_bind]
  exact KP f r _ fun y hy => h y (List.mem_cons_of_mem _ hy)
theorem Kq {scope : Scope} {env : Env} (h : ∀ y ∈ scope.names, y.2 = .free → ∃ c, env.cells.lookup y.1 = some c) : closureFor scope env = pure (Fp env scope.names []) := by
 simp only [closureFor]
 rw [KP (env := env) _ scope.names [] (fun y hy cs => by
  obtain ⟨n, k⟩ := y
  by_cases hk : k = .free
  ·subst hk
   obtain ⟨c, e⟩ := h _ hy rfl
   have e' : env.cells.lookup n = some c := e
   simp only [beq_self_eq_true, if_true, cellOf, e', Option.getD_some, pure_bind]
  ·have : (k == NameKind.free) = false := by simpa using hk
   simp only [this, Bool.false_eq_true, if_false])]
 rfl
theorem Cu {env : Env} : ∀ {l : List (Str × NameKind)} {cs : List (Str × Addr)} {x : Str} {c : Addr}, (x, c) ∈ Fp env l cs → (x, c) ∈ cs ∨ ((x, NameKind.free) ∈ l ∧ c = (env.cells.lookup x).getD 0)
 | [], _, _, _, h => .inl h
 | (n, k) :: r, cs, x, c, h => by
  rcases Cu (l := r) h with h | ⟨h1, h2⟩
  ·by_cases hk : k = .free
   ·subst hk
    rw [if_pos (by simp)] at h
    rcases List.mem_cons.mp h with h | h
    ·cases h
     exact .inr ⟨List.mem_cons_self, rfl⟩
    ·exact .inl h
   ·have : (k == NameKind.free) = false := by simpa using hk
    rw [if_neg (by rw [this]; exact Bool.false_ne_true)] at h
    exact .inl h
  ·exact .inr ⟨List.mem_cons_of_mem _ h1, h2⟩
theorem BN {env : Env} : ∀ {l : List (Str × NameKind)} {cs : List (Str × Addr)} {x : Str}, ((x, NameKind.free) ∈ l ∨ ∃ c, (x, c) ∈ cs) → ∃ c, (x, c) ∈ Fp env l cs
 | [], _, _, h => h.elim (fun z => nomatch z) id
 | (n, k) :: r, cs, x, h => by
  refine BN (l := r) ?_
  rcases h with h | ⟨c, h⟩
  ·rcases List.mem_cons.mp h with h | h
   ·cases h
    exact .inr ⟨_, by rw [if_pos (by simp)]; exact List.mem_cons_self⟩
   ·exact .inl h
  ·refine .inr ⟨c, ?_⟩
   split
   ·exact List.mem_cons_of_mem _ h
   ·exact h
theorem XJ {β : Type} : ∀ {l : List (Str × β)} {x : Str} {c : β}, (x, c) ∈ l → ∃ c', l.lookup x = some c'
 | [], _, _, h => nomatch h
 | (n, d) :: r, x, c, h => by
  rw [List.lookup_cons]
  cases e : x == n with
  | true => exact ⟨d, rfl⟩
  | false =>
   rcases List.mem_cons.mp h with h | h
   ·cases h
    simp at e
   ·exact XJ h
theorem QU {env : Env} {names : List (Str × NameKind)} (hf : ∀ y ∈ names, y.2 = .free → ∃ c, env.cells.lookup y.1 = some c) {x : Str} {c : Addr} (h : (Fp env names []).lookup x = some c) :
  env.cells.lookup x = some c ∧ (x, NameKind.free) ∈ names := by
 rcases Cu (PySem.mem_of_lookup h) with h | ⟨h1, h2⟩
 ·exact nomatch h
 ·obtain ⟨c', e⟩ := hf _ h1 rfl
  have e' : env.cells.lookup x = some c' := e
  rw [e', Option.getD_some] at h2
  subst h2
  exact ⟨e', h1⟩
theorem Cv {env : Env} {names : List (Str × NameKind)} (hf : ∀ y ∈ names, y.2 = .free → ∃ c, env.cells.lookup y.1 = some c) {x : Str} (h : (x, NameKind.free) ∈ names) : ∃ c, (Fp env names []).lookup x = some c ∧ env.cells.lookup x = some c := by
 obtain ⟨c, hm⟩ := BN (env := env) (cs := []) (.inl h)
 obtain ⟨c', e⟩ := XJ hm
 exact ⟨c', e, (QU hf e).1⟩
noncomputable def ZZ (X : Cx) (scope : Scope) (C : Addr) (N : List Str) (ex : List Addr) (s : Shared) (H : Hp) : Cx :=
 { X with N := N, s₀ := s, H₀ := H, env := compEnvC scope (Fp X.env scope.names []) C X.env, outer := X.stack, ex := ex, fn := fun _ => false, pn := [], xe := fun _ _ => False }
noncomputable def Vu (ix : List (Option Nat)) (σ : L2.St) : L2.St := ix.map fun o => o.bind fun i => (σ[i]?).join
noncomputable def Dc (ix : List (Option Nat)) (Δ : DSt) : DSt := ix.map fun o => o.bind fun i => (Δ[i]?).join
structure YF (X : Cx) (scope : Scope) (N : List Str) (ix : List (Option Nat)) : Prop where
 kind : scope.kind = .function
 cellF : ∀ y ∈ scope.names, y.2 ≠ .cell
 names : ∀ y ∈ scope.names, y.2 = .local → scope.names.lookup y.1 = some .local
 free : ∀ y ∈ scope.names, y.2 = .free → X.env.kindOf y.1 = some .cell
 len : N.length = ix.length
 cap : ∀ (j : Nat) (x : Str) (i : Nat), N[j]? = some x → ix[j]? = some (some i) → X.N[i]? = some x ∧ (x, NameKind.free) ∈ scope.names ∧ (relabel scope X.env).names.lookup x = some .cell
theorem He {ix : List (Option Nat)} {σ : L2.St} {j : Nat} {v : V} (h : (Vu ix σ)[j]? = some (some v)) : ∃ i, ix[j]? = some (some i) ∧ σ[i]? = some (some v) := by
 unfold Vu at h
 rw [List.getElem?_map] at h
 cases e : ix[j]? with
 | none => rw [e] at h; cases h
 | some o =>
  rw [e] at h
  cases o with
  | none => simp at h
  | some i =>
   refine ⟨i, rfl, ?_⟩
   have h' : (σ[i]?).join = some v := by simpa using h
   cases q : σ[i]? with
   | none => rw [q] at h'; cases h'
   | some o' => rw [q] at h'; exact congrArg some h'
theorem JD.cap {K : PySem.W.Frag} {M : Mp} {H : Hp} {σ : L2.St} {Δ : DSt} (h : JD K M H σ Δ) (ix : List (Option Nat)) : JD K M H (Vu ix σ) (Dc ix Δ) := by
 refine ⟨by unfold Vu Dc; rw [List.length_map, List.length_map], fun j x e => ?_⟩
 unfold Dc at e
 rw [List.getElem?_map] at e
 cases q : ix[j]? with
 | none => rw [q] at e; cases e
 | some o =>
  rw [q] at e
  cases o with
  | none => simp at e
  | some i =>
   have e' : (Δ[i]?).join = some x := by simpa using e
   have e2 : Δ[i]? = some (some x) := by
    cases q2 : Δ[i]? with
    | none => rw [q2] at e'; cases e'
    | some o' => rw [q2] at e'; exact congrArg some e'
   obtain ⟨v, hv, rv⟩ := h.at' i x e2
   refine ⟨v, ?_, rv⟩
   unfold Vu
   rw [List.getElem?_map, q]
   simp [hv]
section
variable {X : Cx} {pins : List (Addr × Obj)} {σ : L2.St} {H2 : Hp} {s2 : Shared} {scope : Scope} {N : List Str} {ix : List (Option Nat)} {C : Addr} {fp : List Addr}
theorem ZbL (ok : YF X scope N ix) (I2 : Inv X pins σ H2 s2) : ∀ y ∈ scope.names, y.2 = .free → ∃ c, X.env.cells.lookup y.1 = some c := fun y hy hk => I2.ok.has y.1 (.inl (ok.free y hy hk))
theorem CQ (ok : YF X scope N ix) (I2 : Inv X pins σ H2 s2) (f2 : ∀ b ∈ fp, D7 X pins H2 b) (ex : ∀ b ∈ fp, ∃ o, s2.heap.get? b = some o) (hC : s2.heap.objs.size ≤ C) : (ZZ X scope C N fp s2 H2).Ok := by
 have hf := ZbL ok I2
 refine ⟨I2.ok.mod, ok.kind, I2.ok.glob, I2.ok.blt, hC, fun x y c h1 h2 => I2.ok.inj x y c (QU hf h1).1 (QU hf h2).1, fun x hx => ?_, fun x c h => absurd h Bool.false_ne_true, I2.ok.hd, I2.ok.frames, .inl rfl, fun b hb => ?_, fun b o e => I2.bs b o e, Nat.le_trans I2.ok.bsz I2.sz,
  fun b o e hb => ?_, fun b hb z => ?_, I2.stack, I2.FP⟩
 ·have hx' : (relabel scope X.env).names.lookup x = some .cell ∨ (relabel scope X.env).names.lookup x = some .free := hx
  have key : (x, NameKind.free) ∈ scope.names := by
   have go : ∀ k', (relabel scope X.env).names.lookup x = some k' → (k' = .cell ∨ k' = .free) → (x, NameKind.free) ∈ scope.names := fun k' e hk => by
    have hm := PySem.mem_of_lookup e
    obtain ⟨⟨n, k⟩, hn, q⟩ := List.mem_map.mp hm
    by_cases hr : (k == NameKind.free && X.env.scope.kind == .function && X.env.kindOf n == some .cell) = true
    ·have q' : (n, NameKind.cell) = (x, k') := by rw [← q]; simp [hr]
     cases q'
     have : k = .free := by simp only [Bool.and_eq_true] at hr; simpa using hr.1.1
     subst this
     exact hn
    ·have q' : (n, k) = (x, k') := by rw [← q]; simp [hr]
     cases q'
     rcases hk with rfl | rfl
     ·exact absurd rfl (ok.cellF _ hn)
     ·exact hn
   rcases hx' with h | h
   ·exact go _ h (.inl rfl)
   ·exact go _ h (.inr rfl)
  obtain ⟨c, h1, _⟩ := Cv hf key
  exact ⟨c, h1⟩
 ·obtain ⟨o, e⟩ := ex b hb
  exact ⟨Nat.ne_of_lt (Nat.lt_of_lt_of_le (Heap.lt_size e) hC), fun x c h => (f2 b hb).2.2.2.2.1 x c (QU hf h).1⟩
 ·rcases (f2 b hb).2.2.2.1 with z | z
  ·exact I2.ok.noex b o e z
  ·exact absurd (Nat.lt_of_lt_of_le (Heap.lt_size e) (Nat.le_trans I2.ok.bsz z)) (Nat.lt_irrefl _)
 ·rcases List.mem_cons.mp (I2.Fj b z) with z | z
  ·exact (f2 b hb).2.1 z
  ·exact (f2 b hb).2.2.1 z
theorem BL (ok : YF X scope N ix) (I2 : Inv X pins σ H2 s2) (f2 : ∀ b ∈ fp, D7 X pins H2 b) {s : Shared} {H : Hp} {m : Str → Option Value} (u : Un (frs X.stack) fp H2 H s2.heap s.heap) :
  ∀ (i : Nat) (x : Str) (v : V), N[i]? = some x → (Vu ix σ)[i]? = some (some v) → ∃ w, RelV v w ∧ Look (ZZ X scope C N fp s2 H2).env s.heap m x w := fun j x v hN hv => by
 obtain ⟨i, hi, hs⟩ := He hv
 obtain ⟨hx, hm, hr⟩ := ok.cap j x i hN hi
 have hk : X.env.kindOf x = some .cell := ok.free _ hm rfl
 obtain ⟨m0, _, hl⟩ := I2.loc
 obtain ⟨w, r, l⟩ := hl i x v hx hs (.inr (.inl hk))
 refine ⟨w, r, .inr ⟨.inl hr, ?_⟩⟩
 rcases l with ⟨z, _⟩ | ⟨_, c, e, hc⟩
 ·rw [hk] at z; cases z
 ·obtain ⟨c', h1, h2⟩ := Cv (ZbL ok I2) hm
  rw [e] at h2
  cases h2
  refine ⟨c, h1, ?_⟩
  obtain ⟨o, ho, hd⟩ := hc
  obtain ⟨sl, q⟩ := u.any ho (I2.freeC x c e) fun z => (f2 c z).2.2.2.2.1 x c e rfl
  exact ⟨_, q, hd⟩
end
end DL
namespace DL
open PySem PySem.Spec PyProof.Rows L2
section
variable {prog : Program} {w : World} {A : Around} {R : Result → Shared → Prop} {s : Shared}
theorem UC {elt target iter : Expr} {ifs : List Expr} {scope : Scope} {pos : Pos} {it acc : Value} {env : Env} (I : Nat → Shared → Prop)
  (turn : ∀ n s, I n s → wpAny (model prog w) A (pyNext it) (fun r s₁ => match r with
   | none => R (.ok .next) s₁
   | some v => wpAny (model prog w) A (letOwnedTupleGo target it v) (fun _ s₁' => wpAny (model prog w) A (assign target env v) (fun _ s₂ =>
     wpAny (model prog w) A (forIn ifs true fun c r => if r = true then do let ok ← isTrue c env (eval c env); pure (ForInStep.yield ok) else pure (ForInStep.yield r)) (fun ok s₃ =>
      if ok = true then wpAny (model prog w) A (eval elt env) (fun x s₄ =>
       wpAny (model prog w) A (call (.builtin "list.append") [acc, x]) (fun _ s₅ => ∃ m, m < n ∧ I m s₅) (fun _ _ => False) s₄) (fun _ _ => False) s₃
      else ∃ m, m < n ∧ I m s₃) (fun _ _ => False) s₂) (fun _ _ => False) s₁') (fun _ _ => False) s₁) (fun _ _ => False) s)
  (n : Nat) (h : I n s) : codeAny (model prog w) A (.compLoop (.ListComp elt [⟨target, iter, ifs, 0⟩] scope pos) 0 it acc env) R s := by
 refine codeAny_loop rfl I (fun n s hI => ?_) n h
 show wpAny _ A ((compTurn (.ListComp elt [⟨target, iter, ifs, 0⟩] scope pos) 0 it acc env).onRaise (fun x => do noteFrame x env; theTreesLotGoes x)) _ _ s
 refine wpAny_noted ?_
 rw [compTurn_list]
 refine wpAny_bind (wpAny_standAt (wpAny_bind (wpAny_mono (turn n s hI) (fun r s₁ h₁ => ?_) fun _ _ h' => h'.elim)))
 cases r with
 | none => exact wpAny_pure h₁
 | some v =>
  refine wpAny_bind (wpAny_mono h₁ (fun _ s₁' h₁' => ?_) fun _ _ h' => h'.elim)
  refine wpAny_bind (wpAny_mono h₁' (fun _ s₂ h₂ => wpAny_bind (wpAny_mono h₂ (fun ok s₃ h₃ => ?_) fun _ _ h' => h'.elim)) fun _ _ h' => h'.elim)
  cases ok with
  | false => exact wpAny_pure ⟨rfl, h₃⟩
  | true =>
   exact wpAny_bind (wpAny_bind (wpAny_mono h₃ (fun x s₄ h₄ => wpAny_bind (wpAny_mono h₄ (fun _ s₅ h₅ => wpAny_pure (wpAny_pure ⟨rfl, h₅⟩)) fun _ _ h' => h'.elim)) fun _ _ h' => h'.elim))
end
noncomputable def Yl (K : PySem.W.Frag) (J : It) (ds : List PyData) (M : Mp) (H : Hp) : Prop := ∀ M2 H2, Step M H M2 H2 → ∀ i,
 (i < ds.length → J.go i H2 ∧ ∀ x H', J.yld i H2 x H' → ZW K M2 H2 → ZW K M2 H' ∧ Step M2 H2 M2 H' ∧ ∃ d, ds[i]? = some d ∧ Dt K M2 H' x d) ∧ (ds.length ≤ i → J.stop i H2)
noncomputable abbrev Xw := DSt → Mp → (List PyData → Mp → Prop) → Prop
noncomputable def DI (X : Cx) (tg iter : Expr) (src : Xw) : Prop := ∃ wi, PI X tg iter wi ∧ ∀ σ H Δ M Ψ (R : It → Hp → Prop), ZW X.K M H → JD X.K M H σ Δ → src Δ M Ψ →
 (∀ J H' M' ds, ZW X.K M' H' → Step M H M' H' → Yl X.K J ds M' H' → Ψ ds M' → R J H') → wi σ H R
section
variable {X : Cx} {tg iter : Expr}
noncomputable def Zd4 (te : DTE) : Xw := fun Δ M Ψ => te Δ M fun x M1 => onL x fun ds => Ψ ds M1
noncomputable def Zeo (te : DTE) : Xw := fun Δ M Ψ => te Δ M fun x M1 => onT x fun ds => Ψ ds M1
theorem V4 {te : DTE} (he : DE X iter te) : DI X tg iter (Zd4 te) := by
 obtain ⟨t, p, q⟩ := he
 refine ⟨_, Ed p, fun σ H Δ M Ψ R dr er h k => ?_⟩
 refine q σ H Δ M _ _ dr er h fun v H1 x M1 r1 st rv hx => ?_
 replace hx := Nm hx
 obtain ⟨ds, rfl, hΨ⟩ := hx
 obtain ⟨a, xs, rfl, h1, h2⟩ := rv.lst
 refine ⟨a, rfl, ⟨xs, h1.sq⟩, k _ H1 M1 ds r1 st (fun M2 H2 st2 i => ⟨fun hi => ?_, fun hi => ?_⟩) hΨ⟩
 ·have hx : i < xs.length := by rw [h2.length]; exact hi
  refine ⟨⟨xs, xs[i], (h1.step st2).sq, by simp [hx]⟩, fun x H' y => ?_⟩
  obtain ⟨e, y⟩ := y
  obtain ⟨d, hd, hy⟩ := (h2.step st2).To (y xs (h1.step st2).sq)
  subst e
  exact fun r => ⟨r, Step.refl, d, hd, hy⟩
 ·exact ⟨xs, (h1.step st2).sq, by rw [h2.length]; exact hi⟩
theorem U5 {te : DTE} (he : DE X iter te) : DI X tg iter (Zeo te) := by
 obtain ⟨t, p, q⟩ := he
 refine ⟨_, Nr p, fun σ H Δ M Ψ R dr er h k => ?_⟩
 refine q σ H Δ M _ _ dr er h fun v H1 x M1 r1 st rv hx => ?_
 replace hx := W3 hx
 obtain ⟨ds, rfl, hΨ⟩ := hx
 obtain ⟨a, xs, rfl, h1, h2⟩ := rv.tup
 refine ⟨a, rfl, ⟨xs, h1.sq⟩, k _ H1 M1 ds r1 st (fun M2 H2 st2 i => ⟨fun hi => ?_, fun hi => ?_⟩) hΨ⟩
 ·have hx : i < xs.length := by rw [h2.length]; exact hi
  refine ⟨⟨xs, xs[i], (h1.step st2).sq, by simp [hx]⟩, fun x H' y => ?_⟩
  obtain ⟨e, y⟩ := y
  obtain ⟨d, hd, hy⟩ := (h2.step st2).To (y xs (h1.step st2).sq)
  subst e
  exact fun r => ⟨r, Step.refl, d, hd, hy⟩
 ·exact ⟨xs, (h1.step st2).sq, by rw [h2.length]; exact hi⟩
noncomputable def WC (lo : Int) (n : Nat) : List PyData := (List.range n).map fun (i : Nat) => PyData.int (lo + (i : Int))
theorem ZT (lo : Int) (n : Nat) : (WC lo n).length = n := by unfold WC; rw [List.length_map, List.length_range]
theorem YK {lo : Int} {n i : Nat} (h : i < n) : (WC lo n)[i]? = some (.int (lo + (i : Int))) := by
 unfold WC
 rw [List.getElem?_map, List.getElem?_range h]
 rfl
theorem Co {K : PySem.W.Frag} {M : Mp} {H : Hp} (lo : Int) (n : Nat) : Yl K (Itr lo n) (WC lo n) M H := fun M2 H2 st2 i => by
 rw [ZT]
 refine ⟨fun hi => ⟨hi, fun x H' y => ?_⟩, fun hi => hi⟩
 obtain ⟨e, y⟩ := y
 subst y e
 exact fun r => ⟨r, Step.refl, _, YK hi, Dt.int _⟩
noncomputable def S8 (ta : DTA) : Xw := fun Δ M Ψ => ta Δ M fun xs M1 => on1 xs fun x => onI x fun j => InR j ∧ Ψ (WC 0 j.toNat) M1
theorem Jh {a : Expr} {ta : DTA} {p p2 : Pos} (hg0 : Gl X "range") (hm : X.mg "range" = none) (ha : DA X [a] ta) (hs : starEach [a] X.env = [(false, eval a X.env)] := by rfl) : DI X tg (.Call (.Name "range" p) [a] [] p2) (S8 ta) := by
 obtain ⟨t1, p1, q1⟩ := ha
 refine ⟨_, Uw hg0 hm p1 hs, fun σ H Δ M Ψ R dr er h k => ?_⟩
 refine q1 σ H Δ M _ _ dr er h fun vs H1 xs M1 r1 st rv hx => ?_
 replace hx := Zn hx
 obtain ⟨x, rfl, hx⟩ := hx
 replace hx := ZN hx
 obtain ⟨j, rfl, ⟨h1, h2⟩, hΨ⟩ := hx
 obtain ⟨v, rfl, hv⟩ := Paired.one rv
 exact ⟨j, by rw [QB.int hv], h1, h2, k _ H1 M1 _ r1 st (Co 0 j.toNat) hΨ⟩
noncomputable def TL (ta : DTA) : Xw := fun Δ M Ψ => ta Δ M fun xs M1 => on2 xs fun x y => onI x fun i => onI y fun j => (InR i ∧ InR j) ∧ Ψ (WC i (j - i).toNat) M1
theorem FQ {a b : Expr} {ta : DTA} {p p2 : Pos} (hg0 : Gl X "range") (hm : X.mg "range" = none) (ha : DA X [a, b] ta) (hs : starEach [a, b] X.env = [(false, eval a X.env), (false, eval b X.env)] := by rfl) (hs2 : starEach [b] X.env = [(false, eval b X.env)] := by rfl) :
  DI X tg (.Call (.Name "range" p) [a, b] [] p2) (TL ta) := by
 obtain ⟨t1, p1, q1⟩ := ha
 refine ⟨_, Eb hg0 hm p1 hs hs2, fun σ H Δ M Ψ R dr er h k => ?_⟩
 refine q1 σ H Δ M _ _ dr er h fun vs H1 xs M1 r1 st rv hx => ?_
 replace hx := QJ hx
 obtain ⟨x, y, rfl, hx⟩ := hx
 replace hx := ZN hx
 obtain ⟨i, rfl, hx⟩ := hx
 replace hx := ZN hx
 obtain ⟨j, rfl, ⟨⟨a1, a2⟩, a3, a4⟩, hΨ⟩ := hx
 have h1 : -(2 ^ 62) ≤ i ∧ i < 2 ^ 62 ∧ -(2 ^ 62) ≤ j ∧ j < 2 ^ 62 := ⟨a1, a2, a3, a4⟩
 obtain ⟨v, u, rfl, hv, hu⟩ := Paired.two rv
 exact ⟨i, j, by rw [QB.int hv, QB.int hu], h1, k _ H1 M1 _ r1 st (Co i (j - i).toNat) hΨ⟩
end
noncomputable def BG (ow : Bool) (Φ : DK) (acc : List PyData) (M : Mp) : Prop := match ow with | true => ∀ p, M p = none → Φ (.own p) (Z1 M p (.lst acc)) | false => Φ (.dat (.list acc)) M
noncomputable def LA (ow : Bool) (src : Xw) (ix : List (Option Nat)) (g : DTG) (tc : DTT) (te : DTE) : DTE := fun Δ M Φ => src Δ M fun ds M1 => ds.length ≤ sizeLine ∧ ∃ J : Nat → List PyData → Mp → Prop, J 0 [] M1 ∧
 (∀ i d acc M', ds[i]? = some d → J i acc M' → g (.dat d) (Dc ix Δ) M' fun Δ2 M2 => tc Δ2 M2 fun b M3 => if b = true then te Δ2 M3 fun y M4 => onD y fun e => J (i + 1) (acc ++ [e]) M4 else J (i + 1) acc M3) ∧
 ∀ acc M', J ds.length acc M' → BG ow Φ acc M'
noncomputable def DTs (X : Cx) (ifs : List Expr) (τ : DTT) : Prop := ∀ (pins : List (Addr × Obj)) (s : Shared) (σ : L2.St) (H : Hp) (Δ : DSt) (M : Mp) (Φ : Bool → Mp → Prop), L2.Inv X pins σ H s → ZW X.K M H → JD X.K M H σ Δ → τ Δ M Φ →
 wpAny (model X.prog X.w) X.A (forIn ifs true fun c r => if r = true then do let ok ← isTrue c X.env (eval c X.env); pure (ForInStep.yield ok) else pure (ForInStep.yield r))
  (fun b s' => ∃ H' M', L2.Inv X pins σ H' s' ∧ ZW X.K M' H' ∧ Step M H M' H' ∧ Φ b M') X.xe s
noncomputable def Ze0 : DTT := fun _ M Φ => Φ true M
theorem ZS {X : Cx} : DTs X [] Ze0 := fun pins s σ H Δ M Φ I dr er h => wpAny_tests_nil ⟨H, M, I, dr, Step.refl, h⟩
end DL
namespace DL
open PySem PySem.Spec PyProof.Rows L2
section
variable {X : Cx}
noncomputable abbrev CompSrc (ds : List PyData) (M1 : Mp) (Δ : DSt) (ix : List (Option Nat)) (g : DTG) (tc : DTT) (te : DTE) (ψ : List PyData → Mp → Prop) : Prop := ds.length ≤ sizeLine ∧ ∃ J : Nat → List PyData → Mp → Prop, J 0 [] M1 ∧
 (∀ i d acc M', ds[i]? = some d → J i acc M' → g (.dat d) (Dc ix Δ) M' fun Δ2 M2 => tc Δ2 M2 fun b M3 => if b = true then te Δ2 M3 fun y M4 => onD y fun e => J (i + 1) (acc ++ [e]) M4 else J (i + 1) acc M3) ∧ ∀ acc M', J ds.length acc M' → ψ acc M'
set_option maxHeartbeats 2000000 in
theorem W8 {elt tg iter : Expr} {ifs : List Expr} {scope : Scope} {pos ps : Pos} {src : Xw} {N : List Str} {ix : List (Option Nat)} {g : DTG} {tc : DTT} {te : DTE} {use : Option (Value → Sem Unit)} {QQ : Value → Shared → Prop} {ψ : List PyData → Mp → Prop} (ok : YF X scope N ix) (hi : DI X tg iter src)
  (hg : ∀ C ex s H, DG (ZZ X scope C N ex s H) tg g) (ht : ∀ C ex s H, DTs (ZZ X scope C N ex s H) ifs tc) (he : ∀ C ex s H, DE (ZZ X scope C N ex s H) elt te) (hc : X.calm = true)
  (hs : ∀ x, foldedSetIterable iter X.env x = pure x) {σ : L2.St} {H : Hp} {Δ : DSt} {M : Mp} {pins : List (Addr × Obj)} {s : Shared} (dr : ZW X.K M H) (er : JD X.K M H σ Δ) (h : src Δ M fun ds M1 => CompSrc ds M1 Δ ix g tc te ψ) (I : L2.Inv X pins σ H s)
  (hfin : ∀ (s4 : Shared) (C D : Addr) (H' : Hp) (M' : Mp) (vs : List V) (acc : List PyData), L2.Inv X pins σ (upd H' D (.lst vs)) s4 → H' D = none → ZW X.K M' H' → Step M H M' H' → Dts X.K M' H' vs acc → ψ acc M' → (∃ m, s4.heap.Ns C m) → D7 X pins (upd H' D (.lst vs)) C →
   compPost (model X.prog X.w) X.A X.xe use QQ (.ref D) C (.ok .next) s4) :
  wpAny (model X.prog X.w) X.A (comprehension (.ListComp elt [⟨tg, iter, ifs, 0⟩] scope pos) scope X.env ps (newList []) false (eval iter X.env) use) QQ X.xe s := by
 obtain ⟨wi, pi, qi⟩ := hi
 refine wpAny_comprehension_free (use := use) (cl := Fp X.env scope.names []) rfl hs (Kq (ZbL ok I)) ok.kind ok.names ?_
 show wpAny _ _ (eval iter X.env) _ _ s
 refine thn (pi pins s σ H (fun J H' => ∃ M' ds, ZW X.K M' H' ∧ Step M H M' H' ∧ Yl X.K J ds M' H' ∧ ds.length ≤ sizeLine ∧ ∃ W : Nat → List PyData → Mp → Prop, W 0 [] M' ∧
   (∀ i d acc M', ds[i]? = some d → W i acc M' → g (.dat d) (Dc ix Δ) M' fun Δ2 M2 => tc Δ2 M2 fun b M3 => if b = true then te Δ2 M3 fun y M4 => onD y fun e => W (i + 1) (acc ++ [e]) M4 else W (i + 1) acc M3) ∧
   ∀ acc M', W ds.length acc M' → ψ acc M') I (qi σ H Δ M _ _ dr er h fun J H' M' ds a b c d => ⟨M', ds, a, b, c, d⟩)) fun x s1 h1 => thn h1 fun itv s2 h2 => ?_
 obtain ⟨it, fp, tn, J, H2, e, I2, T, st2, f2, M1, ds, dr1, stp, yl, hz, W, w0, wt, wd⟩ := h2
 subst e
 have exo : ∀ b ∈ fp, ∃ o, s2.heap.get? b = some o := fun b hb => let ⟨o, q, _⟩ := T.obj 0 _ st2 b hb; ⟨o, q⟩
 refine wpAny_newObj_type (wpAny_newFunctionEnv ok.cellF (by intro y hy; simp at hy) (fun h₁ hns₁ hsb₁ => ?_) ok.kind)
 dsimp only at hns₁ hsb₁ ⊢
 generalize hH2 : s2.heap.push { cls := .type "list", dict := none, data := .seq ([] : List Value).toArray } = HH at hns₁ hsb₁ ⊢
 have hC : HH.objs.size = s2.heap.objs.size + 1 := by rw [← hH2, Heap.size_push]
 have hDC : s2.heap.objs.size ≠ HH.objs.size := by rw [hC]; exact Nat.ne_of_lt (Nat.lt_succ_self _)
 have hCle : s2.heap.objs.size ≤ HH.objs.size := by rw [hC]; exact Nat.le_succ _
 have below : ∀ b, b < s2.heap.objs.size → b ≠ HH.objs.size ∧ b ≠ s2.heap.objs.size := fun b hb => ⟨by rw [hC]; exact Nat.ne_of_lt (Nat.lt_succ_of_lt hb), Nat.ne_of_lt hb⟩
 have old : ∀ b o, s2.heap.get? b = some o → h₁.get? b = some o := fun b o e => hsb₁.extBut b o (below b (Heap.lt_size e)).1 (Heap.get?_push_of_some _ (hH2 ▸ Heap.get?_push_of_some _ e))
 have hacc : h₁.get? s2.heap.objs.size = some { cls := .type "list", data := .seq ([] : List Value).toArray } := hsb₁.extBut _ _ hDC (Heap.get?_push_of_some _ (hH2 ▸ Heap.get?_push_size _ rfl))
 generalize hCC : HH.objs.size = C at *
 generalize hDD : s2.heap.objs.size = D at hDC hacc below hCle
 have hDs : s2.heap.objs.size ≤ D := Nat.le_of_eq hDD
 have hCs : s2.heap.objs.size ≤ C := by rw [hDD]; exact hCle
 have fD : ∀ b ∈ fp, b ≠ D ∧ b ≠ C := fun b hb => by
  obtain ⟨o, q⟩ := exo b hb
  exact ⟨(below b (by rw [← hDD]; exact Heap.lt_size q)).2, (below b (by rw [← hDD]; exact Heap.lt_size q)).1⟩
 have okY : (ZZ X scope C N fp s2 H2).Ok := CQ ok I2 f2 exo hCs
 have fsD : ∀ b ∈ frs X.stack, b < s2.heap.objs.size := fun b hb => by
  obtain ⟨_, o, ho, _⟩ := I2.stack.mem hb
  exact Heap.lt_size ho
 have cellD : ∀ x c, (ZZ X scope C N fp s2 H2).env.cells.lookup x = some c → c < s2.heap.objs.size ∧ H2 c = none := fun x c e => by
  have e' := (QU (ZbL ok I2) e).1
  obtain ⟨v, q⟩ := I2.cell x c e'
  exact ⟨q.lt, I2.freeC x c e'⟩
 have fpY : ∀ {H' : Hp} {ps : List (Addr × Obj)}, (∀ b ∈ fp, H' b = none) → (∀ p ∈ ps, p.1 = D) → ∀ b ∈ fp, D7 (ZZ X scope C N fp s2 H2) ps H' b := fun {H' ps} hn hp b hb =>
  ⟨hn b hb, (fD b hb).2, okY.exfs b hb, .inl hb, (okY.exf b hb).2, fun p hp' z => by
   have q : p ∈ ps := hp'
   rw [hp p q] at z
   exact (fD b hb).1 z.symm⟩
 have onlyD : ∀ (o : Obj), ∀ p ∈ [(D, o)], p.1 = D := fun o p hp => by
  have q : p = (D, o) := by simpa using hp
  rw [q]
 have reloc : ∀ {ps : List (Addr × Obj)} {σ' : L2.St} {H' : Hp} {s' : Shared} {o : Obj}, L2.Inv (ZZ X scope C N fp s2 H2) ps σ' H' s' → s'.heap.get? D = some o → H' D = none → (∀ v, o.data ≠ .cell v) →
   L2.Inv (ZZ X scope C N fp s2 H2) [(D, o)] (Vu ix σ) H' s' := fun {ps σ' H' s' o} J' hD hn hd => by
  obtain ⟨m, hm, _⟩ := J'.loc
  refine ⟨J'.ok, J'.os, J'.bare, J'.base, ⟨m, hm, fun i x v a b _ => BL ok I2 f2 J'.base i x v a b⟩, J'.cell, J'.free, J'.freeC, fun p hp => ?_, J'.hok, ?_⟩
  ·have q : p = (D, o) := by
    have z : p ∈ ([] : List (Addr × Obj)) ++ [(D, o)] := hp
    simpa using z
   subst q
   exact ⟨hD, hn, hDC, fun z => absurd (fsD D z) (Nat.not_lt.mpr hDs), hd⟩
  ·show (Vu ix σ).length = N.length
   unfold Vu
   rw [List.length_map, ok.len]
 have start : L2.Inv (ZZ X scope C N fp s2 H2) [(D, { cls := .type "list", data := .seq ([] : List Value).toArray })] (Vu ix σ) H2 { s2 with heap := h₁, toks := s2.toks + ([] : List (Str × Value)).length } := by
  refine ⟨okY, rfl, I2.bare, Un.kept old, ⟨_, hns₁, fun i x v a b _ => BL ok I2 f2 (Un.kept old) i x v a b⟩, fun x c e => ?_, I2.hok.fresh hCs, fun x c e => (cellD x c e).2, fun p hp => ?_, I2.hok.kept old, ?_⟩
  ·obtain ⟨v, o, ho, hd⟩ := I2.cell x c (QU (ZbL ok I2) e).1
   exact ⟨v, o, old c o ho, hd⟩
  ·have q : p = (D, { cls := .type "list", data := .seq ([] : List Value).toArray }) := by
    have z : p ∈ ([] : List (Addr × Obj)) ++ [(D, { cls := .type "list", data := .seq ([] : List Value).toArray })] := hp
    simpa using z
   subst q
   exact ⟨hacc, I2.hok.fresh hDs, hDC, fun z => absurd (fsD D z) (Nat.not_lt.mpr hDs), fun v z => nomatch z⟩
  ·show (Vu ix σ).length = N.length
   unfold Vu
   rw [List.length_map, ok.len]
 have loop : ∀ s₃ : Shared, s₃ = { s2 with heap := h₁, toks := s2.toks + ([] : List (Str × Value)).length } →
   codeAny (model X.prog X.w) X.A (.compLoop (.ListComp elt [⟨tg, iter, ifs, 0⟩] scope pos) 0 (.ref it) (.ref D) (compEnvC scope (Fp X.env scope.names []) C X.env)) (compPost (model X.prog X.w) X.A X.xe use QQ (.ref D) C) s₃ := by
  rintro s₃ rfl
  refine UC (fun n s' => ∃ (i : Nat) (acc : List PyData) (vs : List V) (its : List Value) (nn : Nat) (H' : Hp) (M' : Mp), L2.Inv (ZZ X scope C N fp s2 H2) [(D, { cls := .type "list", data := .seq its.toArray nn })] (Vu ix σ) H' s' ∧
   tn i s'.heap ∧ (∀ b ∈ fp, H' b = none) ∧ ZW X.K M' H' ∧ Step M1 H2 M' H' ∧ Vals vs its ∧ Dts X.K M' H' vs acc ∧ W i acc M' ∧ i ≤ ds.length ∧ acc.length ≤ i ∧ n = ds.length - i) ?_ ds.length
   ⟨0, [], [], [], 0, H2, M1, start, T.keep _ _ _ st2 (fun b _ o e => old b o e), fun b hb => (f2 b hb).1, dr1, Step.refl, .nil, .nil, w0, Nat.zero_le _, Nat.le_refl _, rfl⟩
  rintro n s' ⟨i, acc, vs, its, nn, H', M', IY, ti, fr, dr', stp', rv, rd, wi', hil, hal, rfl⟩
  have pinD := IY.pin (D, { cls := .type "list", data := .seq its.toArray nn }) (by simp)
  have fok := fpY (ps := [(D, { cls := .type "list", data := .seq its.toArray nn })]) fr (onlyD _)
  obtain ⟨ygo, ystop⟩ := yl M' H' stp' i
  by_cases hlt : i < ds.length
  ·obtain ⟨jgo, jyl⟩ := ygo hlt
   refine thn (T.item (ZZ X scope C N fp s2 H2) rfl rfl rfl hc i _ s' (Vu ix σ) H' (fun _ _ => False) IY fok ti jgo) fun r s4 ⟨u, hr, h4⟩ => ?_
   subst hr
   refine thn h4 fun _ s5 ⟨x, H5, I5, r5, y5, st5, fr5⟩ => ?_
   obtain ⟨dr5, stp5, d, hd, hxd⟩ := jyl x H5 y5 dr'
   replace dr' := dr5
   replace stp' := stp'.trans stp5
   replace rd := rd.step stp5
   have I5' := I5.pinned (fpY (ps := [(D, { cls := .type "list", data := .seq its.toArray nn })]) fr5 (onlyD _)) (T.obj _ _ st5)
   obtain ⟨tg', pg, qg⟩ := hg C fp s2 H2
   refine thn (pg _ s5 (Vu ix σ) H5 x u (fun σ6 H6 => ∃ Δ6 M6, ZW X.K M6 H6 ∧ Step M' H5 M6 H6 ∧ JD X.K M6 H6 σ6 Δ6 ∧ tc Δ6 M6 fun b M3 => if b = true then te Δ6 M3 fun y M4 => onD y fun e => W (i + 1) (acc ++ [e]) M4 else W (i + 1) acc M3) I5' r5
    (qg x (Vu ix σ) H5 (.dat d) (Dc ix Δ) M' _ _ dr' ((er.step (stp.trans stp')).cap ix) hxd (wt i d acc M' hd wi') fun σ6 H6 Δ6 M6 a b c d => ⟨Δ6, M6, a, b, c, d⟩)) fun _ s6 ⟨σ6, H6, I6, Δ6, M6, dr6, stp6, er6, q6⟩ => ?_
   refine thn (ht C fp s2 H2 _ s6 σ6 H6 Δ6 M6 _ I6 dr6 er6 q6) fun b s7 ⟨H7, M7, I7, dr7, stp7, q7⟩ => ?_
   have keepD : ∀ {σz : L2.St} {Hz : Hp} {sz : Shared}, L2.Inv (ZZ X scope C N fp s2 H2) ([(D, { cls := .type "list", data := .seq its.toArray nn })] ++ UH fp s5.heap) σz Hz sz →
     sz.heap.get? D = some { cls := .type "list", data := .seq its.toArray nn } ∧ Hz D = none ∧ tn (i + 1) sz.heap ∧ ∀ b ∈ fp, Hz b = none := fun {σz Hz sz} Iz => by
    have a := Iz.pin (D, { cls := .type "list", data := .seq its.toArray nn }) (by simp)
    refine ⟨a.1, a.2.1, T.keep _ _ _ st5 fun b hb o e => (Iz.pin (b, o) (List.mem_append_right _ (List.mem_append_right _ (VM hb e)))).1, fun b hb => ?_⟩
    obtain ⟨o, e, _⟩ := T.obj _ _ st5 b hb
    exact (Iz.pin (b, o) (List.mem_append_right _ (List.mem_append_right _ (VM hb e)))).2.1
   cases b with
   | false =>
    have q7' : W (i + 1) acc M7 := by simpa using q7
    obtain ⟨a1, a2, a3, a4⟩ := keepD I7
    have st17 : Step M' H5 M7 H7 := stp6.trans stp7
    exact ⟨ds.length - (i + 1), by omega, i + 1, acc, vs, its, nn, H7, M7, reloc I7 a1 a2 (fun v z => nomatch z), a3, a4, dr7, stp'.trans st17, rv, rd.step st17, q7', hlt, by omega, rfl⟩
   | true =>
    have q7' : te Δ6 M7 fun y M4 => onD y fun e => W (i + 1) (acc ++ [e]) M4 := by simpa using q7
    obtain ⟨te', pe', qe'⟩ := he C fp s2 H2
    refine thn (pe' _ s7 σ6 H7 (fun v H8 => ∃ e M8, ZW X.K M8 H8 ∧ Step M7 H7 M8 H8 ∧ Dt X.K M8 H8 v e ∧ W (i + 1) (acc ++ [e]) M8) I7 (qe' σ6 H7 Δ6 M7 _ _ dr7 (er6.step stp7) q7' fun v H8 x8 M8 a b c d => by
     replace d := Z0 d
     obtain ⟨e, rfl, w8⟩ := d
     exact ⟨e, M8, a, b, c, w8⟩)) fun y s8 ⟨v, H8, I8, r8, e, M8, dr8, stp8, dv8, w8⟩ => ?_
    obtain ⟨a1, a2, a3, a4⟩ := keepD I8
    have st18 : Step M' H5 M8 H8 := stp6.trans (stp7.trans stp8)
    have lv := rv.length
    have ld := rd.length
    refine call_meets PySem.F.slot_list_append ⟨_, a1, rfl⟩ PySem.F.entry_list_append (PySem.F.args_list_append_2 _ _) (PySem.list_append D its.toArray nn y (by rw [List.size_toArray]; omega)) ⟨a1, ?_⟩
    have q := PySem.IsL.update a1 (·.push y)
    have I8' : L2.Inv (ZZ X scope C N fp s2 H2) [] σ6 H8 s8 := I8.XT fun p hp => nomatch hp
    have I9 := I8'.turned (it := D) (h' := s8.heap.update D (Obj.mapSeq (·.push y))) (t' := s8.toks) (fun b o hb hu => (Heap.get?_update_other s8.heap (Obj.mapSeq (·.push y)) (Ne.symm hb)).trans hu) a2 hDC (.inr hDs)
     (fun x c e z => absurd (z ▸ (cellD x c e).1) (Nat.not_lt.mpr hDs)) (fun p hp => by have z : p ∈ ([] : List (Addr × Obj)) ++ [] := hp; simp at z)
    have ea : (its.toArray.push y) = (its ++ [y]).toArray := by simp
    rw [ea] at q
    refine ⟨ds.length - (i + 1), by omega, i + 1, acc ++ [e], vs ++ [v], its ++ [y], _, H8, M8, reloc I9 q a2 (fun v z => nomatch z), T.keep _ _ _ a3 (fun b hb o e => (Heap.get?_update_other s8.heap (Obj.mapSeq (·.push y)) (Ne.symm (fD b hb).1)).trans e), a4, dr8, stp'.trans st18,
     rv.append (.cons r8 .nil), (rd.step st18).append (.cons dv8 .nil), w8, hlt, by rw [List.length_append, List.length_singleton]; omega, rfl⟩
  ·have hie : i = ds.length := by omega
   refine thn (T.done (ZZ X scope C N fp s2 H2) rfl rfl rfl hc i _ s' (Vu ix σ) H' (fun _ _ => False) IY fok ti (ystop (by omega))) fun r s4 ⟨hr, I4⟩ => ?_
   subst hr
   obtain ⟨m4, hm4, _⟩ := I4.loc
   have pD := I4.pin (D, { cls := .type "list", data := .seq its.toArray nn }) (by simp)
   have hCn : H' C = none := I4.free
   have hDn : H' D = none := pD.2.1
   have hok4 : HOk X.prog X.w (upd H' D (.lst vs)) s4.heap := fun b u e => by
    by_cases hb : b = D
    ·subst hb
     rw [JL] at e
     cases e
     exact ⟨by have := rv.length; have := rd.length; omega, its, nn, rv, pD.1⟩
    ·rw [ZV hb] at e
     refine (I4.hok b u e).Sb (fun c v hc' q => q) (fun c q => ?_) fun c xs q => ?_
     ·rw [ZV (ZA q pD.2.1)]; exact q
     ·rw [ZV (ZA q pD.2.1)]; exact q
   have bu : Un (frs X.stack) fp H2 H' s2.heap s4.heap := I4.base
   have un4 : Un (frs X.stack) fp H2 (upd H' D (.lst vs)) s2.heap s4.heap := by
    have nD : ∀ b o, s2.heap.get? b = some o → b ≠ D ∧ b ≠ C := fun b o e => ⟨fun z => absurd (z ▸ Heap.lt_size e) (Nat.not_lt.mpr hDs), fun z => absurd (z ▸ Heap.lt_size e) (Nat.not_lt.mpr hCs)⟩
    refine ⟨fun b o e n hb hx => bu.keep b o e n hb hx, fun b o e n hb hx => bu.slot b o e n hb hx, fun b o e n hx => by rw [ZV (nD b o e).1]; exact bu.free b o e n hx, fun b o e hx => bu.there b o e hx, fun b xs e => ?_, fun b o xs e => ?_, fun b ps e => ?_⟩
    ·have q := bu.tups b xs e
     rw [ZV (ZA q pD.2.1)]; exact q
    ·have q := bu.frzs b o xs e
     rw [ZV (ZA q pD.2.1)]; exact q
    ·obtain ⟨mo, q⟩ := bu.tbls b ps e
     exact ⟨mo, by rw [ZV (ZA q pD.2.1)]; exact q⟩
   have os4 : s4.os = s2.os := I4.os
   have IX : L2.Inv X pins σ (upd H' D (.lst vs)) s4 := I2.ZcV (s' := s4) os4 un4 hok4 I4.bare fun b hb => ⟨(f2 b hb).2.2.2.1, (f2 b hb).2.1, (f2 b hb).2.2.2.2.1, (f2 b hb).2.2.2.2.2⟩
   subst hie
   exact hfin s4 C D H' M' vs acc IX hDn dr' (stp.trans stp') rd (wd acc M' wi') ⟨m4, hm4⟩ (I2.Se hCs (by rw [ZV (Ne.symm hDC)]; exact hCn))
 have hst₁ : tn 0 h₁ := T.keep _ _ _ st2 fun b _ o e => old b o e
 exact codeAny_compStart_list (loop _ rfl) (T.self _ 0 _ _ _ hst₁ (loop _ rfl))
theorem SW {h h' : Heap} {C : Addr} {m : Str → Option Value} (n : h.Ns C m) (k : ∀ o, h.get? C = some o → h'.get? C = some o) : h'.Ns C m := by
 obtain ⟨o, es, ep, ho, r⟩ := n
 exact ⟨o, es, ep, k o ho, r⟩
theorem gone {pins : List (Addr × Obj)} {σ : L2.St} {H : Hp} {s : Shared} {C : Addr} {h' : Heap} (I : L2.Inv X pins σ H s) (f : D7 X pins H C) (hsb : Heap.SameBut C s.heap h') : L2.Inv X pins σ H { s with heap := h' } :=
 I.turned (t' := s.toks) (fun b o hb e => hsb.extBut b o hb e) f.1 f.2.1 f.2.2.2.1 f.2.2.2.2.1 f.2.2.2.2.2
theorem Zbk {ow : Bool} {Φ : DK} {Q : VK} {M M' : Mp} {H H' : Hp} {D : Addr} {vs : List V} {acc : List PyData} (dr' : ZW X.K M' H') (st : Step M H M' H') (rd : Dts X.K M' H' vs acc) (hDn : H' D = none) (fin : BG ow Φ acc M') (k : Rch X.K M H Φ Q) : Q (.ref D) (upd H' D (.lst vs)) := by
 cases ow with
 | true =>
  have fin' : ∀ p, M' p = none → Φ (.own p) (Z1 M' p (.lst acc)) := by simpa [BG] using fin
  exact k _ _ (.own D) _ (dr'.XY (Step.Xo hDn) rd) (st.trans (Step.Xo hDn)) rfl (fin' D (dr'.tracked hDn))
 | false =>
  have fin' : Φ (.dat (.list acc)) M' := by simpa [BG] using fin
  exact k.dat (dr'.new hDn) (st.trans (Step.new hDn)) (Dt.Ki dr' hDn rd) fin'
theorem Qf (ow : Bool) {elt tg iter : Expr} {ifs : List Expr} {scope : Scope} {pos : Pos} {src : Xw} {N : List Str} {ix : List (Option Nat)} {g : DTG} {tc : DTT} {te : DTE} (ok : YF X scope N ix) (hi : DI X tg iter src)
  (hg : ∀ C ex s H, DG (ZZ X scope C N ex s H) tg g) (ht : ∀ C ex s H, DTs (ZZ X scope C N ex s H) ifs tc) (he : ∀ C ex s H, DE (ZZ X scope C N ex s H) elt te) (hc : X.calm = true)
  (hs : ∀ x, foldedSetIterable iter X.env x = pure x := by intro _; rfl) : DE X (.ListComp elt [⟨tg, iter, ifs, 0⟩] scope pos) (LA ow src ix g tc te) := by
 refine ⟨fun σ H Q => ∀ pins s, L2.Inv X pins σ H s → wpAny (model X.prog X.w) X.A (eval (.ListComp elt [⟨tg, iter, ifs, 0⟩] scope pos) X.env) (EP X pins σ Q) X.xe s, fun pins s σ H Q I h => h pins s I, fun σ H Δ M Φ Q dr er h k pins s I => ?_⟩
 rw [eval_ListComp]
 refine W8 (ψ := BG ow Φ) ok hi hg ht he hc hs dr er h I fun s4 C D H' M' vs acc IX hDn dr' st rd fin hm f => ?_
 obtain ⟨m, hm⟩ := hm
 exact ⟨m, hm, fun h' hsb => ⟨.ref D, _, gone IX f hsb, rfl, Zbk dr' st rd hDn fin k⟩⟩
theorem Bi (i : Nat) (ow : Bool) {x : Str} {pos' spos : Pos} (hN : X.N.Nodup) {elt tg iter : Expr} {ifs : List Expr} {scope : Scope} {pos : Pos} {src : Xw} {N : List Str} {ix : List (Option Nat)} {g : DTG} {tc : DTT} {te : DTE} (ok : YF X scope N ix) (hi : DI X tg iter src)
  (hg : ∀ C ex s H, DG (ZZ X scope C N ex s H) tg g) (ht : ∀ C ex s H, DTs (ZZ X scope C N ex s H) ifs tc) (he : ∀ C ex s H, DE (ZZ X scope C N ex s H) elt te) (hc : X.calm = true)
  (hs : ∀ x, foldedSetIterable iter X.env x = pure x := by intro _; rfl) (hin : X.N[i]? = some x := by rfl) (hx : Loc X.env.scope x := by first | exact Or.inl rfl | exact Or.inr rfl)
  (hsw : swapsWith (.ListComp elt [⟨tg, iter, ifs, 0⟩] scope pos) (some (.Name x pos')) spos.line X.env = pure true := by rfl)
  (hf : X.fn x = true ∨ X.env.scope.names.lookup x = some .local := by first | exact .inl rfl | exact .inr rfl | assumption) :
  DS X (.Assign [.Name x pos'] (.ListComp elt [⟨tg, iter, ifs, 0⟩] scope pos) spos) (ZbQ (LA ow src ix g tc te) (U0 i)) := by
 refine ⟨fun E σ H => ∀ pins s, L2.Inv X pins σ H s → wpAny (model X.prog X.w) X.A (exec (.Assign [.Name x pos'] (.ListComp elt [⟨tg, iter, ifs, 0⟩] scope pos) spos) X.env) (SP X pins E) X.xe s, fun pins s σ H E I h => h pins s I, fun σ H Δ M D E dr er h k pins s I => ?_⟩
 rw [exec_Assign_Name_used _ _ _ _ hsw]
 refine wpAny_bind (wpAny_standAt (wpAny_bind ?_))
 show wpAny _ _ (do let _ ← comprehension (.ListComp elt [⟨tg, iter, ifs, 0⟩] scope pos) scope X.env _ (newList []) false (eval iter X.env) (some (assign (.Name x pos') X.env))) _ _ s
 refine wpAny_bind (wpAny_mono (W8 (QQ := fun _ s' => SP X pins E .next s') (use := some (assign (.Name x pos') X.env)) (ψ := BG ow fun y M1 => D.nx (Δ.set i (some y)) M1) ok hi hg ht he hc hs dr er h I fun s4 C DD H' M' vs acc IX hDn dr' st rd fin hm f => ?_)
  (fun _ s' hq => wpAny_pure (wpAny_pure hq)) fun _ _ e => e)
 obtain ⟨m, hm⟩ := hm
 have hm0 := hm
 obtain ⟨oC, es, ep, hoC, hr1, hr2⟩ := hm0
 have IP : L2.Inv X (pins ++ [(C, oC)]) σ (upd H' DD (.lst vs)) s4 := IX.XT fun p hp => by
  rcases List.mem_append.mp hp with hp | hp
  ·exact IX.pin p (List.mem_append_right _ hp)
  ·rw [List.mem_singleton.mp hp]
   exact ⟨hoC, f.1, f.2.1, f.2.2.1, fun v z => nomatch (hr1.symm.trans z)⟩
 have nxt : ∀ Q' : L2.St → Hp → Prop, (Q' (σ.set i (some (.ref DD))) (upd H' DD (.lst vs))) → wpAny (model X.prog X.w) X.A (assign (.Name x pos') X.env (.ref DD)) (fun _ s' => ∃ σ' H', L2.Inv X (pins ++ [(C, oC)]) σ' H' s' ∧ Q' σ' H') X.xe s4 := fun Q' hq =>
  FD (pos := pos') hN hin hx hf _ s4 σ _ (.ref DD) (.ref DD) Q' IP rfl hq
 have kq : E.nx (σ.set i (some (.ref DD))) (upd H' DD (.lst vs)) := by
  cases ow with
  | true =>
   have fin' : ∀ p, M' p = none → D.nx (Δ.set i (some (.own p))) (Z1 M' p (.lst acc)) := by simpa [BG] using fin
   have st2 : Step M H (Z1 M' DD (.lst acc)) (upd H' DD (.lst vs)) := st.trans (Step.Xo hDn)
   exact k.nx _ _ _ _ (dr'.XY (Step.Xo hDn) rd) st2 ((er.step st2).set (v := .ref DD) (x := .own DD) rfl) (fin' DD (dr'.tracked hDn))
  | false =>
   have fin' : D.nx (Δ.set i (some (.dat (.list acc)))) M' := by simpa [BG] using fin
   have st2 : Step M H M' (upd H' DD (.lst vs)) := st.trans (Step.new hDn)
   exact k.nx _ _ _ _ (dr'.new hDn) st2 ((er.step st2).set (v := .ref DD) (x := .dat (.list acc)) (Dt.Ki dr' hDn rd)) fin'
 show wpAny _ _ (assign (.Name x pos') X.env (.ref DD)) _ _ s4
 refine thn (nxt (fun σ' H' => σ' = σ.set i (some (.ref DD)) ∧ E.nx σ' H') ⟨rfl, kq⟩) fun _ s5 ⟨σ5, H5, I5, _, q5⟩ => ?_
 have p5 := I5.pin (C, oC) (by simp)
 refine ⟨m, SW hm fun o ho => ?_, fun h' hsb => ⟨σ5, H5, ?_, q5⟩⟩
 ·rw [hoC] at ho
  cases ho
  exact p5.1
 ·have I6 : L2.Inv X pins σ5 H5 s5 := I5.XT fun p hp => I5.pin p (List.mem_append_right _ (List.mem_append_left _ hp))
  exact gone I6 ⟨p5.2.1, f.2⟩ hsb
end
end DL
namespace DL
open PySem PySem.Spec PyProof.Rows L2
section
variable {X : Cx}
noncomputable def Yw (xs : List DV) (M : Mp) (ns : List Int) : Prop := xs = [.dat (.list (ns.map PyData.int))] ∨ ∃ l, xs = [.own l] ∧ M l = some (.lst (ns.map PyData.int))
noncomputable def Px : D1 := fun xs M Φ => ∃ ns : List Int, Yw xs M ns ∧ ns.length < 64 ∧ ∀ ns' : List Int, ns'.Perm ns → ns'.Pairwise (· ≤ ·) → Φ (.dat (.list (ns'.map PyData.int))) M
noncomputable def Sz : D1 := fun xs M Φ => ∃ ns : List Int, Yw xs M ns ∧ 0 < ns.length ∧ ∀ m ∈ ns, (∀ a ∈ ns, m ≤ a) → Φ (.dat (.int m)) M
noncomputable def ZaK : D1 := fun xs M Φ => ∃ ns : List Int, Yw xs M ns ∧ 0 < ns.length ∧ ∀ m ∈ ns, (∀ a ∈ ns, a ≤ m) → Φ (.dat (.int m)) M
theorem Paired.three {α β : Type} {F : α → β → Prop} {l : List α} {b c d : β} (h : Paired F l [b, c, d]) : ∃ a a' a'', l = [a, a', a''] ∧ F a b ∧ F a' c ∧ F a'' d := by
 cases h with
 | cons h1 h2 =>
  obtain ⟨a, a', rfl, h3, h4⟩ := Paired.two h2
  exact ⟨_, a, a', rfl, h1, h3, h4⟩
noncomputable def δ3I (g : Int → Int → Int → Int) : D1 := fun xs M Φ => on3 xs fun x y z => onI x fun i => onI y fun j => onI z fun l => Φ (.dat (.int (g i j l))) M
theorem EB (hc : X.calm = true) : J9 X (.builtin "max") (fun xs H Q => ∃ i j l, xs = [.int i, .int j, .int l] ∧ Q (.int (max i (max j l))) H) := by
 intro pins s σ H xs us Q I r h
 obtain ⟨i, j, l, rfl, q⟩ := h
 obtain ⟨u, hu⟩ : ∃ u, us = u := ⟨us, rfl⟩
 cases r with
 | cons r1 r2 =>
  obtain ⟨u2, u3, rfl, r3, r4⟩ := vals2 r2
  obtain ⟨t1, rfl⟩ := r1
  obtain ⟨t2, rfl⟩ := r3
  obtain ⟨t3, rfl⟩ := r4
  refine max_three_ints (I.ok.hd hc) fun h' tk k => ⟨.int (max i (max j l)), H, I.kept k, ?_, q⟩
  by_cases c1 : j > i
  ·rw [if_pos c1]
   by_cases c2 : l > j
   ·rw [if_pos c2]; exact ⟨t3, by rw [show max i (max j l) = l by omega]⟩
   ·rw [if_neg c2]; exact ⟨t2, by rw [show max i (max j l) = j by omega]⟩
  ·rw [if_neg c1]
   by_cases c2 : l > i
   ·rw [if_pos c2]; exact ⟨t3, by rw [show max i (max j l) = l by omega]⟩
   ·rw [if_neg c2]; exact ⟨t1, by rw [show max i (max j l) = i by omega]⟩
theorem PJ (hc : X.calm = true) : Yi X (.builtin "max") (δ3I fun i j l => max i (max j l)) := by
 refine ⟨_, EB hc, fun vs H xs M Φ Q r rv h k => ?_⟩
 replace h := Yv h
 obtain ⟨x, y, z, rfl, h⟩ := h
 replace h := ZN h
 obtain ⟨i, rfl, h⟩ := h
 replace h := ZN h
 obtain ⟨j, rfl, h⟩ := h
 replace h := ZN h
 obtain ⟨l, rfl, q⟩ := h
 obtain ⟨v, u, w', rfl, h1, h2, h3⟩ := Paired.three rv
 exact ⟨i, j, l, by rw [QB.int h1, QB.int h2, QB.int h3], k.dat r Step.refl (Dt.int _) q⟩
noncomputable def Fu : D1 := fun xs M Φ => on1 xs fun x => onQ x M fun ds => Φ (.dat (.tuple ds)) M
theorem QO : Yi X (.type "tuple") Fu := by
 refine ⟨_, WK, fun vs H xs M Φ Q r rv h k => ?_⟩
 replace h := Zn h
 obtain ⟨x, rfl, h⟩ := h
 replace h := Dr h
 obtain ⟨ds, hx, q⟩ := h
 have hx' : x = .dat (.list ds) ∨ x = .dat (.tuple ds) ∨ ∃ l, x = .own l ∧ M l = some (.lst ds) := by
  rcases hx with a | a | a
  ·exact .inr (.inl a)
  ·exact .inl a
  ·exact .inr (.inr a)
 rcases hx' with rfl | rfl | ⟨l, rfl, hm⟩
 ·obtain ⟨v, rfl, h1⟩ := Paired.one rv
  obtain ⟨p, ys, rfl, g1, g2⟩ := QB.lst h1
  exact ⟨p, ys, rfl, .inl ⟨g1.sq, fun l hl => k.dat (r.new hl) (Step.new hl) (Dt.BU r hl g2) q⟩⟩
 ·obtain ⟨v, rfl, h1⟩ := Paired.one rv
  obtain ⟨p, ys, rfl, g1, g2⟩ := QB.tup h1
  exact ⟨p, ys, rfl, .inr ⟨g1.sq, k.dat r Step.refl (Dt.tup g1 g2) q⟩⟩
 ·obtain ⟨v, rfl, h1⟩ := Paired.one rv
  cases (show v = .ref l from h1)
  obtain ⟨ws, g1, g2⟩ := r.ls l _ hm
  exact ⟨l, ws, rfl, .inl ⟨SqL.of g1, fun l hl => k.dat (r.new hl) (Step.new hl) (Dt.BU r hl g2) q⟩⟩
theorem Zan (hu : X.A.units + 66 < cLine) : OpR X (compareOp .In) (fun x y H Q => ∃ M d ds, Dt X.K M H x d ∧ (Dt X.K M H y (.list ds) ∨ Dt X.K M H y (.tuple ds)) ∧ d.canLay0 = true ∧ PyData.canLayAll0 ds = true ∧ d.depth ≤ 64 ∧ Q (.bl (ds.any fun e => PyData.eqv e d)) H) := by
 intro pins s σ H x y v u Q I rx ry h
 obtain ⟨M, d, ds, h1, h2, c1, c2, hdp, q⟩ := h
 obtain ⟨as, ra, _⟩ := h1.reads I rx
 rcases h2 with h2 | h2
 ·obtain ⟨bs, rb, _⟩ := h2.reads I ry
  exact PySem.SeqAt.in_list_reads rb ra c2 c1 (by have := Nat.min_le_right (PyData.depthAll ds) d.depth; omega) ⟨.bl _, H, I, rfl, q⟩
 ·obtain ⟨bs, rb, _⟩ := h2.reads I ry
  exact PySem.SeqAt.in_tuple_reads rb ra c2 c1 (by have := Nat.min_le_right (PyData.depthAll ds) d.depth; omega) ⟨.bl _, H, I, rfl, q⟩
noncomputable def onW (x : DV) (P : List PyData → Prop) : Prop := match x with | .dat (.tuple ds) => P ds | .dat (.list ds) => P ds | _ => False
noncomputable def okIn (d : PyData) (ds : List PyData) : Bool := d.canLay0 && PyData.canLayAll0 ds && Nat.ble d.depth 64
theorem PX {d : PyData} {ds : List PyData} (h : okIn d ds = true) : d.canLay0 = true ∧ PyData.canLayAll0 ds = true ∧ d.depth ≤ 64 := by
 unfold okIn at h
 simp only [Bool.and_eq_true] at h
 exact ⟨h.1.1, h.1.2, Nat.le_of_ble_eq_true h.2⟩
noncomputable def δIn : D2 := fun x y M Φ => onD x fun d => onW y fun ds => okIn d ds = true ∧ Φ (.dat (.bool (ds.any fun e => PyData.eqv e d))) M
noncomputable def Eu (to te : DTE) : DTE := fun Δ M Φ => to Δ M fun x M1 => onO x fun l => J1 (M1 l) fun _ => te Δ M1 fun y M2 => onO y fun b => J1 (M2 l) fun ds => J1 (M2 b) fun es => b ≠ l ∧ ds.length + es.length ≤ sizeLine ∧ Φ (.dat .none) (YQ (Z1 M2 l (.lst (ds ++ es))) b)
theorem Ek {o e : Expr} {to te : DTE} {apos cpos : Pos} (ho : DE X o to) (he : DE X e te) (hbase : attributeBase o "extend" X.env (eval o X.env) = eval o X.env := by rfl)
  (hfew : ((backTo cpos (starEach [e] X.env)).all (fun x => !x.1) && (backToKw cpos (keywordEach [] X.env)).all (fun x => x.1.isSome)
   && decide ([e].length + ([] : List Keyword).length + (if ([] : List Keyword).isEmpty then 0 else 1) < 30)) = true := by rfl)
  (hline : (apos.endLine == cpos.line) = true := by rfl) (hs : starEach [e] X.env = (false, eval e X.env) :: starEach [] X.env := by rfl) (hplain : (backTo cpos (starEach [] X.env)).any (·.1) = false := by rfl) :
  DE X (.Call (.Attribute o "extend" apos) [e] [] cpos) (Eu to te) := by
 obtain ⟨t1, p1, q1⟩ := ho
 obtain ⟨t2, p2, q2⟩ := he
 refine ⟨_, DN PySem.F.plainAttrs_list PySem.F.slot_list_extend PySem.F.type_list_extend FA p1 (Y7 p2 We hs) hbase hfew hline hs hplain, fun σ H Δ M Φ Q r e h k => ?_⟩
 refine q1 σ H Δ M _ _ r e h fun v H1 x M1 r1 st rv hx => ?_
 replace hx := Qd hx
 obtain ⟨l, rfl, hx⟩ := hx
 replace hx := QH hx
 obtain ⟨oo, ho, hx⟩ := hx
 cases (show v = .ref l from rv)
 have ty : tyV X.K "list" (.ref l) H1 := by
  obtain ⟨vs, g1, _⟩ := r1.ls l oo ho
  exact .inl ⟨rfl, vs, SqL.of g1⟩
 refine ⟨ty, q2 σ H1 Δ M1 _ _ r1 (e.step st) hx fun w H2 y M2 r2 st2 rw2 hy => ?_⟩
 replace hy := Qd hy
 obtain ⟨b, rfl, hy⟩ := hy
 replace hy := QH hy
 obtain ⟨ds, hm, hy⟩ := hy
 replace hy := QH hy
 obtain ⟨es, hb, hne, hz, hy⟩ := hy
 cases (show w = .ref b from rw2)
 obtain ⟨vs, g1, g2⟩ := r2.ls l ds hm
 obtain ⟨ws, g3, g4⟩ := r2.ls b es hb
 have st3 : Step M2 H2 (Z1 M2 l (.lst (ds ++ es))) (upd H2 l (.lst (vs ++ ws))) := Step.BR hm
 refine ⟨l, b, vs, ws, rfl, rfl, g1, g3, by rw [g2.length, g4.length]; exact hz, ?_⟩
 exact k.dat (r2.XY st3 (g2.append g4)).frz (st.trans (st2.trans (st3.trans Step.frz))) Dt.non hy
noncomputable def Zgd (te : DTE) (tl th : DTO) : DTE := fun Δ M Φ => te Δ M fun x M1 => tl Δ M1 fun l M2 => th Δ M2 fun u M3 => onL x fun ds => Φ (.dat (.list (cutD ds l u))) M3
noncomputable def Ln (scope sc : Scope) : List (Str × NameKind) := scope.names.map fun (n, k) => if (k == .free && sc.kind == .function && sc.names.lookup n == some .cell) then (n, .cell) else (n, k)
noncomputable def Sk (sc : Scope) (XN : List Str) (scope : Scope) (N : List Str) (ix : List (Option Nat)) (j : Nat) : Bool :=
 match N[j]?, ix[j]? with
 | some x, some (some i) => decide (XN[i]? = some x) && (decide ((x, NameKind.free) ∈ scope.names) && decide ((Ln scope sc).lookup x = some .cell))
 | _, _ => true
theorem Zw {sc : Scope} {XN : List Str} {scope : Scope} {N : List Str} {ix : List (Option Nat)} (hsc : X.env.scope = sc) (hN : X.N = XN)
  (h : scope.kind = .function ∧ (∀ y ∈ scope.names, y.2 ≠ .cell) ∧ (∀ y ∈ scope.names, y.2 = .local → scope.names.lookup y.1 = some .local) ∧ (∀ y ∈ scope.names, y.2 = .free → sc.names.lookup y.1 = some .cell) ∧ N.length = ix.length ∧
   ∀ j ∈ List.range N.length, Sk sc XN scope N ix j = true) : YF X scope N ix := by
 obtain ⟨h1, h2, h3, h4, h5, h6⟩ := h
 subst hsc hN
 refine ⟨h1, h2, h3, h4, h5, fun j x i hx hi => ?_⟩
 have hj : j < N.length := (List.getElem?_eq_some_iff.mp hx).1
 have q := h6 j (List.mem_range.mpr hj)
 unfold Sk at q
 rw [hx, hi] at q
 simp only [Bool.and_eq_true, decide_eq_true_eq] at q
 exact ⟨q.1, q.2.1, q.2.2⟩
end
end DL
namespace DL
open PySem PySem.Spec PyProof.Rows L2
theorem P1 {M : Mp} {p b : Addr} {o o2 o3 : OO} (h : Z1 M p o b = none) : YQ (Z1 (Z1 (Z1 M p o) b o2) p o3) b = Z1 M p o3 := by
 have hne : b ≠ p := fun e => by rw [e, Z7] at h; cases h
 rw [Jl hne] at h
 funext c
 unfold YQ Z1
 by_cases h1 : c = b
 ·rw [if_pos h1, if_neg (by rw [h1]; exact hne), h1, h]
 ·rw [if_neg h1]
  by_cases h2 : c = p
  ·rw [if_pos h2, if_pos h2]
  ·rw [if_neg h2, if_neg h1, if_neg h2, if_neg h2]
theorem fresh_ne {M : Mp} {p b : Addr} {o : OO} (h : Z1 M p o b = none) : b ≠ p := fun e => by rw [e, Z7] at h; cases h
theorem take_snoc {α β : Type} {l : List α} {i : Nat} {a : α} (f : α → β) (h : l[i]? = some a) : (l.take i).map f ++ [f a] = (l.take (i + 1)).map f := by
 rw [List.take_add_one, h, List.map_append]
 rfl
theorem QT {α β : Type} {l : List α} {f : α → β} {i : Nat} {b : β} (h : (l.map f)[i]? = some b) : ∃ a, l[i]? = some a ∧ f a = b := by
 rw [List.getElem?_map] at h
 cases q : l[i]? with
 | none => rw [q] at h; cases h
 | some a => rw [q] at h; exact ⟨a, rfl, by simpa using h⟩
noncomputable def gc (Φ : DK) : DK := fun x M => ∃ ps : List Addr, Φ x (ps.foldl YQ M)
theorem Td {K : PySem.W.Frag} {M : Mp} {H : Hp} {Φ : DK} {Q : VK} (k : Rch K M H Φ Q) {v : V} {H' : Hp} {x : DV} : ∀ (ps : List Addr) (M' : Mp), ZW K M' H' → Step M H M' H' → QB K M' H' v x → Φ x (ps.foldl YQ M') → Q v H'
 | [], M', r, st, rv, f => k v H' x M' r st rv f
 | p :: ps, M', r, st, rv, f => Td k ps (YQ M' p) r.frz (st.trans Step.frz) (rv.step Step.frz) f
theorem Nw {K : PySem.W.Frag} {M : Mp} {H : Hp} {Φ : DK} {Q : VK} (k : Rch K M H Φ Q) : Rch K M H (gc Φ) Q := fun _ _ _ M' r st rv ⟨ps, f⟩ => Td k ps M' r st rv f
theorem okG {P : Program} {w : World} {K : PySem.W.Frag} {mg : Str → Option Value} {base : Heap} {x qual : Str} {st : Stmt} {f : Addr} {fd : FuncData} {N ps : List Str} {k : Nat} {S : DSp} (F : Fun K x qual st f fd) (Sc : Zs N ps (Ze st)) (len : ∀ xs M Φ, S xs M Φ → xs.length = ps.length)
  (hbody : ∀ (cdv : Value) (A : Around) (outer : List Env) (s : Shared) (H : Hp) (E : XK), Yr k (A.deeper (envOfC qual (Ze st) s.heap.objs.size f cdv)) →
   ∃ τ, DSs (N5 CX0 P w K mg base N qual (Ze st) f cdv A outer s H E).nox (Zr st) τ ∧ ∀ xs M Φ, S xs M Φ → τ { nx := fun _ M' => gc Φ (.dat .none) M', rt := gc Φ } (Xg N xs) M) : ZE P w K mg base CX0 (k + 1) f fd ps (lift K S) := by
 refine F.ok Sc (fun vs H Q E h => ?_) fun cdv A outer s H vs Q E hr h => ?_
 ·obtain ⟨xs, M, Φ, _, rv, hs, _⟩ := h
  rw [Paired.length rv]
  exact len xs M Φ hs
 ·obtain ⟨xs, M, Φ, r, rv, hs, kk⟩ := h
  obtain ⟨τ, ⟨t, p, q⟩, hτ⟩ := hbody cdv A outer s H E hr
  refine ⟨t, p, q (start N vs) H (Xg N xs) M _ _ r (JD.start rv) (hτ xs M Φ hs) ⟨fun σ' H' Δ' M' r' st' e' hn => ?_, Nw kk, fun _ _ _ _ _ _ _ h => h.elim, fun _ _ _ _ _ _ _ h => h.elim⟩⟩
  exact (Nw kk).dat r' st' Dt.non hn
theorem SR {Φ : DK} {x : DV} {M : Mp} {p : Addr} {o : OO} (hp : M p = none) (h : Φ x M) : gc Φ x (Z1 M p o) := ⟨[p], by
 show Φ x (YQ (Z1 M p o) p)
 rw [Ys hp]; exact h⟩
theorem Du {Φ : DK} {x : DV} {M : Mp} (h : Φ x M) : gc Φ x M := ⟨[], h⟩
theorem XD {n k : Nat} (h : n < 2 ^ k) (hk : 0 < k) : n.log2 < k := by
 by_cases h0 : n = 0
 ·subst h0; simpa using hk
 ·exact (Nat.log2_lt h0).mpr h
noncomputable def Mid (i : Int) : Prop := -(10 ^ 70) ≤ i ∧ i ≤ 10 ^ 70
theorem Mid.show {i : Int} (h : Mid i) : (PyData.int i).showable = true := by
 have h1 : i.natAbs.log2 < 240 := XD (by unfold Mid at h; omega) (by decide)
 simp only [PyData.showable, decide_eq_true_eq]
 omega
end DL
namespace DL
open PySem PySem.Spec PyProof.Rows L2
section
variable {X : Cx}
noncomputable def Si : D1 := fun xs M Φ => ∃ ns : List Int, Yw xs M ns ∧ Φ (.dat (.int ns.sum)) M
theorem UP : ∀ {bs : List Bool} {us : List Value}, Vals (bs.map V.bl) us → ∀ (i : Nat) (v : Value), us[i]? = some v → ∃ b, bs[i]? = some b ∧ v = .bool b
 | [], _, r, i, v, e => by rw [List.map_nil] at r; cases r; simp at e
 | b :: bs, _, r, i, v, e => by
  rw [List.map_cons] at r
  cases r with
  | cons r1 r2 =>
   cases i with
   | zero =>
    simp at e
    subst e
    exact ⟨b, rfl, r1⟩
   | succ i => simpa using UP r2 i v (by simpa using e)
theorem CS (bs : List Bool) : ((List.range bs.length).all fun i => (bs[i]?).getD true) = bs.all id := by
 rw [Bool.eq_iff_iff, List.all_eq_true, List.all_eq_true]
 constructor
 ·intro h b hb
  obtain ⟨i, hi, e⟩ := List.getElem_of_mem hb
  have q := h i (List.mem_range.mpr hi)
  rw [List.getElem?_eq_getElem hi, Option.getD_some, e] at q
  exact q
 ·intro h i hi
  have hi' := List.mem_range.mp hi
  rw [List.getElem?_eq_getElem hi', Option.getD_some]
  exact h _ (List.getElem_mem hi')
theorem D8 {s : Shared} {h' : Heap} {o : Obj} (hk : ∀ b x, b ∉ [s.heap.objs.size] → (s.heap.push o).get? b = some x → h'.get? b = some x) : ∀ b x, s.heap.get? b = some x → h'.get? b = some x :=
 fun b x e => hk b x (fun hm => absurd (Heap.lt_size e) (by rw [List.mem_singleton.mp hm]; exact Nat.lt_irrefl _)) (Heap.get?_push_of_some _ e)
theorem DH (hc : X.calm = true) : J9 X (.builtin "all") (fun xs H Q => ∃ (p : Addr) (bs : List Bool), xs = [.ref p] ∧ SqL X.K H p (bs.map V.bl) ∧ Q (.bl (bs.all id)) H) := by
 intro pins s σ H xs us Q I r h
 obtain ⟨p, bs, rfl, hq, q⟩ := h
 obtain ⟨u, rfl, rx⟩ := vals1 r
 cases rx
 obtain ⟨its, rv, pl, hz⟩ := I.list hq
 have hl := pl.isList
 have hlt : p < s.heap.objs.size := by obtain ⟨_, e, _⟩ := hl; exact Heap.lt_size e
 refine call_all_walk (wpAny_pyIter_list hl ?_)
 refine ⟨s.heap.objs.size, [s.heap.objs.size, p], [s.heap.objs.size], its.toArray.size, _, _, fun i => (bs[i]?).getD true, rfl, Walks.list (A := X.A.in1) (I.ok.hd hc) _ p (Nat.ne_of_lt hlt) its.toArray,
  ⟨⟨_, Heap.get?_push_size _ rfl, rfl, rfl⟩, hl.push _⟩, fun i v s' Q' E' hP hQ => ?_, fun h' tk hk => ?_⟩
 ·obtain ⟨b, e, rfl⟩ := UP rv i v (by simpa using hP)
  simp only [e, Option.getD_some] at hQ
  exact wpAny_truthy_bool hQ
 ·have e : ((List.range its.toArray.size).all fun i => (bs[i]?).getD true) = bs.all id := by
   have hln := rv.length
   rw [List.length_map] at hln
   rw [List.size_toArray, ← hln]; exact CS bs
  rw [e]
  exact ⟨.bl _, H, I.kept (D8 hk), rfl, q⟩
theorem X0 {K : PySem.W.Frag} {M : Mp} {H : Hp} : ∀ {vs : List V} {bs : List Bool}, Dts K M H vs (bs.map PyData.bool) → vs = bs.map V.bl
 | vs, [], h => by
  rw [List.map_nil] at h
  cases h
  rfl
 | vs, n :: ns, h => by
  rw [List.map_cons] at h
  cases h with
  | cons h1 h2 =>
   cases h1
   rw [X0 h2, List.map_cons]
noncomputable def NT : D1 := fun xs M Φ => ∃ bs : List Bool, xs = [.dat (.list (bs.map PyData.bool))] ∧ Φ (.dat (.bool (bs.all id))) M
noncomputable def ZbG : D1 := fun xs M Φ => ∃ bs : List Bool, xs = [.dat (.list (bs.map PyData.bool))] ∧ Φ (.dat (.bool (bs.any id))) M
theorem Cd (hc : X.calm = true) : Yi X (.builtin "all") NT := by
 refine ⟨_, DH hc, fun vs H xs M Φ Q r rv h k => ?_⟩
 obtain ⟨bs, rfl, q⟩ := h
 obtain ⟨v, rfl, h1⟩ := Paired.one rv
 obtain ⟨p, ys, rfl, g1, g2⟩ := QB.lst h1
 rw [X0 g2] at g1
 exact ⟨p, bs, rfl, g1.sq, k.dat r Step.refl (Dt.bl _) q⟩
noncomputable def N0 : D1 := fun xs M Φ => on1 xs fun x => onB x fun b => Φ (.dat (.int (if b = true then 1 else 0))) M
theorem TV : Yi X (.type "int") N0 := by
 refine ⟨_, ED, fun vs H xs M Φ Q r rv h k => ?_⟩
 replace h := Zn h
 obtain ⟨x, rfl, h⟩ := h
 replace h := KY h
 obtain ⟨b, rfl, q⟩ := h
 obtain ⟨v, rfl, h1⟩ := Paired.one rv
 cases (show v = .bl b from QB.bool h1)
 exact .inr ⟨b, rfl, k.dat r Step.refl (Dt.int _) q⟩
noncomputable def Zfl (i j : Nat) (ta : DTA) : DTS := fun D Δ M => ta Δ M fun xs M1 => on2 xs fun x y => D.nx ((Δ.set i (some x)).set j (some y)) M1
noncomputable def N6 (x : DV) (M : Mp) (ds : List PyData) : Prop := x = .dat (.list ds) ∨ ∃ l, x = .own l ∧ M l = some (.lst ds)
theorem N6.sq {x : DV} {M : Mp} {H : Hp} {v : V} {ds : List PyData} (h : N6 x M ds) (r : ZW X.K M H) (rv : QB X.K M H v x) : ∃ p ys, v = .ref p ∧ SqL X.K H p ys ∧ Dts X.K M H ys ds := by
 rcases h with rfl | ⟨l, rfl, hm⟩
 ·obtain ⟨p, ys, rfl, g1, g2⟩ := QB.lst rv
  exact ⟨p, ys, rfl, g1.sq, g2⟩
 ·cases (show v = .ref l from rv)
  obtain ⟨ws, g1, g2⟩ := r.ls l _ hm
  exact ⟨l, ws, rfl, SqL.of g1, g2⟩
noncomputable def N9 : D2 := fun x y M Φ => onK x M fun ds => onK y M fun es => ds.length + es.length ≤ sizeLine ∧ Φ (.dat (.list (ds ++ es))) M
theorem GX : OpD X (binaryOp .Add) N9 := by
 refine ⟨_, Mo, fun v u H x y M Φ Q r rv ru h k => ?_⟩
 replace h := Wc h
 obtain ⟨ds, hx, h⟩ := h
 replace h := Wc h
 obtain ⟨es, hy, hz, q⟩ := h
 replace hx : N6 x M ds := hx
 replace hy : N6 y M es := hy
 obtain ⟨a, xs, rfl, h1, h2⟩ := hx.sq r rv
 obtain ⟨b, ys, rfl, h3, h4⟩ := hy.sq r ru
 exact ⟨a, b, xs, ys, rfl, rfl, h1, h3, by rw [h2.length, h4.length]; exact hz, fun p hp => k.dat (r.new hp) (Step.new hp) (Dt.Ki r hp (h2.append h4)) q⟩
noncomputable def ZeL (te : DTE) (tl th : DTO) : DTE := fun Δ M Φ => te Δ M fun x M1 => tl Δ M1 fun l M2 => th Δ M2 fun u M3 => onK x M3 fun ds => Φ (.dat (.list (cutD ds l u))) M3
theorem Et {e : Expr} {te : DTE} {lo hi : Option Expr} {tl th : DTO} {p2 pos : Pos} (he : DE X e te) (hl : DO X lo tl) (hu : DO X hi th) : DE X (.Subscript e (.Slice lo hi none p2) pos) (ZeL te tl th) := by
 obtain ⟨t1, p1, q1⟩ := he
 obtain ⟨t2, p2, q2⟩ := hl
 obtain ⟨t3, p3, q3⟩ := hu
 refine ⟨_, Wl Rt p1 p2 p3, fun σ H Δ M Φ Q r e h k => ?_⟩
 refine q1 σ H Δ M _ _ r e h fun v H1 x M1 r1 st rv hx => ?_
 refine q2 σ H1 Δ M1 _ _ r1 (e.step st) hx fun l H2 M2 r2 st2 hl => ?_
 refine q3 σ H2 Δ M2 _ _ r2 (e.step (st.trans st2)) hl fun u H3 M3 r3 st3 hu => ?_
 replace hu := Wc hu
 obtain ⟨ds, hd, hu⟩ := hu
 replace hd : N6 x M3 ds := hd
 obtain ⟨a, xs, rfl, h1, h2⟩ := hd.sq r3 (rv.step (st2.trans st3))
 refine ⟨a, xs, rfl, h1, fun p hp => ?_⟩
 exact k.dat (r3.new hp) ((st.trans (st2.trans st3)).trans (Step.new hp)) (Dt.Ki r3 hp (h2.cut l u)) hu
noncomputable def ZgI (lo : Int) (n : Nat) : List V := (List.range n).map fun (i : Nat) => V.int (lo + (i : Int))
noncomputable def Ra (ta : DTA) : DTE := fun Δ M Φ => ta Δ M fun xs M1 => on2 xs fun x y => onI x fun i => onI y fun j => (InR i ∧ InR j) ∧ (j - i).toNat ≤ 16777216 ∧ Φ (.dat (.list (WC i (j - i).toNat))) M1
noncomputable def Zf0 (i : Nat) (te : DTE) (f : Int → Int → Int) : DTS := fun D Δ M => onV Δ[i]? fun z => onI z fun a => te Δ M fun x M1 => onI x fun b => D.nx (Δ.set i (some (.dat (.int (f a b))))) M1
end
end DL
namespace DL
open PySem PySem.Spec PyProof.Rows L2
noncomputable def Zgt (h : Heap) (v : Value) (q : Int × Int) : Prop := ∃ a o n t u, v = .ref a ∧ h.get? a = some o ∧ o.cls = .type "tuple" ∧ o.data = .seq #[.int q.1 t, .int q.2 u] n
noncomputable def ltP (p q : Int × Int) : Bool := if p.1 = q.1 then decide (p.2 < q.2) else decide (p.1 < q.1)
section
variable {prog : Program} {w : World} {A : Around} {E : Value → Shared → Prop} {s : Shared}
end
section
variable {prog : Program} {w : World} {A : Around} {R : Result → Shared → Prop} {I : Addr} {fp wr : List Addr} {n : Nat} {P : Nat → Value → Prop} {St : Nat → Heap → Prop}
noncomputable def Zfd (prog : Program) (w : World) (A : Around) (h0 : Heap) (P : Nat → Value → Prop) (bt : Nat → Nat → Bool) : Prop :=
 ∀ i j x y (s : Shared) (Q : Value → Shared → Prop) (E : Value → Shared → Prop), (∀ b o, h0.get? b = some o → s.heap.get? b = some o) → P i x → P j y → Q (.bool (bt i j)) s → wpAny (model prog w) A (richCompare .Lt x y) Q E s
end
section
variable {prog : Program} {w : World} {A : Around} {E : Value → Shared → Prop} {s : Shared}
end
section
variable {X : Cx}
noncomputable def Tq (i j : Int) : Prop := 0 < j ∧ j.natAbs.log2 < 9000
theorem M0 : OpR X (binaryOp .FloorDiv) (rI Tq fun i j => .int (i / j)) := opI fun i j _ _ _ _ _ hc q => by
 have h1 : (0 : Int) < j := hc.1
 exact floordiv_int (by omega) (by rw [Int.fdiv_eq_ediv_of_nonneg i (by omega)]; exact q) (.inl (PyProof.noPylong_of_log2 hc.2))
theorem Cm : OpD X (binaryOp .FloorDiv) (δI Tq fun i j => .int (i / j)) := Sr M0
noncomputable def prD (q : Int × Int) : PyData := .tuple [.int q.1, .int q.2]
noncomputable def Zas : D1 := fun xs M Φ => ∃ qs : List (Int × Int), xs = [.dat (.list (qs.map prD))] ∧ 0 < qs.length ∧ ∀ q ∈ qs, (∀ r ∈ qs, ltP r q = false) → Φ (.dat (prD q)) M
end
end DL
namespace DL
open PySem PySem.Spec PyProof.Rows L2
noncomputable def Zcj {α : Type} [DecidableEq α] (ks : List α) (k : α) : Bool := decide (k ∈ ks)
noncomputable def ZeI {α : Type} [DecidableEq α] (ks : List α) (k : α) : List α := if k ∈ ks then ks else ks ++ [k]
section
variable {X : Cx}
noncomputable def RR : DTE := fun _ M Φ => ∀ p, M p = none → Φ (.own p) (Z1 M p (.dct []))
noncomputable def kP (i j : Int) : List Key := [.inl i, .inl j]
noncomputable def ZcC (td : DTE) (ta : DTA) (tv : DTE) : DTS := fun D Δ M => tv Δ M fun x M1 => td Δ M1 fun y M2 => ta Δ M2 fun zs M3 => onD x fun _ => onO y fun l => on2 zs fun p q => onI p fun i => onI q fun j => Pc (M3 l) fun ks => ks.length < sizeLine ∧ D.nx Δ (Z1 M3 l (.dct (ZeI ks (kP i j))))
noncomputable def onP (x : DV) (P : Int → Int → Prop) : Prop := match x with | .dat (.tuple [.int i, .int j]) => P i j | _ => False
theorem EX {x : DV} {P : Int → Int → Prop} (h : onP x P) : ∃ i j, x = .dat (.tuple [.int i, .int j]) ∧ P i j := by
 unfold onP at h
 split at h
 ·exact ⟨_, _, rfl, h⟩
 ·exact h.elim
noncomputable def Zdc : D2 := fun x y M Φ => onP x fun i j => onO y fun l => Pc (M l) fun ks => Φ (.dat (.bool (Zcj ks (kP i j)))) M
end
section
variable {prog : Program} {w : World} {A : Around} {E : Value → Shared → Prop} {s : Shared}
end
section
variable {X : Cx}
noncomputable def Zco (te ts : DTE) : DTE := fun Δ M Φ => te Δ M fun x M1 => ts Δ M1 fun y M2 => onT x fun ds => onI y fun i => i = -1 ∧ Φ (.dat (.tuple ds.reverse)) M2
end
section
variable {prog : Program} {w : World} {A : Around} {E : Value → Shared → Prop} {s : Shared}
end
section
variable {X : Cx}
noncomputable def ZfQ (K : PySem.W.Frag) : V → Option Int → Option Int → Hp → VK → Prop := fun x lo hi H Q => ∃ a xs, x = .ref a ∧ SqT K H a xs ∧ (HT.sIx xs.length 0 lo = 0 ∧ HT.sIx xs.length xs.length hi = xs.length) ∧ Q (.ref a) H
noncomputable def Zcp (te : DTE) (tl th : DTO) : DTE := fun Δ M Φ => te Δ M fun x M1 => tl Δ M1 fun l M2 => th Δ M2 fun u M3 => onT x fun ds => Φ (.dat (.tuple (cutD ds l u))) M3
end
section
variable {X : Cx}
noncomputable def Zb2 (x : DV) (M : Mp) (Φ : DK) : Prop := match x with | .dat (.list ds) => Φ (.dat (.list ds)) M | .own l => J1 (M l) fun ds => Φ (.dat (.list ds)) (YQ M l) | _ => False
noncomputable def Zcq (t : DTE) : DTE := fun Δ M Φ => t Δ M fun x M1 => Zb2 x M1 Φ
end
end DL
namespace DL
open PySem PySem.Spec PyProof.Rows L2
theorem O1 {X : Cx} {e : Expr} {τ τ' : DTE} (h : DE X e τ) (k : ∀ Δ M Φ, τ' Δ M Φ → τ Δ M Φ) : DE X e τ' := by
 obtain ⟨t, p, q⟩ := h
 exact ⟨t, p, fun σ H Δ M Φ Q a b c d => q σ H Δ M Φ Q a b (k _ _ _ c) d⟩
theorem RX {X : Cx} {s : Stmt} {τ τ' : DTS} (h : DS X s τ) (k : ∀ D Δ M, τ' D Δ M → τ D Δ M) : DS X s τ' := by
 obtain ⟨t, p, q⟩ := h
 exact ⟨t, p, fun σ H Δ M D E a b c d => q σ H Δ M D E a b (k _ _ _ c) d⟩
noncomputable def Zc3 (src : Xw) : Xw := fun Δ M Ψ => ∃ Ψ', src Δ M Ψ' ∧ ∀ ds M1, Ψ' ds M1 → Ψ ds M1
theorem DI.mono {X : Cx} {tg iter : Expr} {src : Xw} (h : DI X tg iter src) : DI X tg iter (Zc3 src) := by
 obtain ⟨wi, p, q⟩ := h
 exact ⟨wi, p, fun σ H Δ M Ψ R dr er ⟨Ψ', h1, h2⟩ k => q σ H Δ M Ψ' R dr er h1 fun J H' M' ds a b c d => k J H' M' ds a b c (h2 _ _ d)⟩
noncomputable def Q4 (g : DTG) (tc : DTT) (te : DTE) (Δc : DSt) (fin : List PyData → Mp → Prop) : List PyData → List PyData → Mp → Prop
 | [], acc, M => fin acc M
 | d :: ds, acc, M => g (.dat d) Δc M fun Δ2 M2 => tc Δ2 M2 fun b M3 => if b = true then te Δ2 M3 fun y M4 => onD y fun e => Q4 g tc te Δc fin ds (acc ++ [e]) M4 else Q4 g tc te Δc fin ds acc M3
theorem Hd (g : DTG) (tc : DTT) (te : DTE) (Δc : DSt) (fin : List PyData → Mp → Prop) (acc : List PyData) (M : Mp) : Q4 g tc te Δc fin [] acc M = fin acc M := by rw [Q4]
theorem Fn (g : DTG) (tc : DTT) (te : DTE) (Δc : DSt) (fin : List PyData → Mp → Prop) (d : PyData) (ds acc : List PyData) (M : Mp) : Q4 g tc te Δc fin (d :: ds) acc M =
  g (.dat d) Δc M fun Δ2 M2 => tc Δ2 M2 fun b M3 => if b = true then te Δ2 M3 fun y M4 => onD y fun e => Q4 g tc te Δc fin ds (acc ++ [e]) M4 else Q4 g tc te Δc fin ds acc M3 := by rw [Q4]
theorem Hs {g : DTG} {tc : DTT} {te : DTE} {Δc : DSt} {fin : List PyData → Mp → Prop} {ds : List PyData} {M : Mp} (h : Q4 g tc te Δc fin ds [] M) : ∃ J : Nat → List PyData → Mp → Prop, J 0 [] M ∧
 (∀ i d acc M', ds[i]? = some d → J i acc M' → g (.dat d) Δc M' fun Δ2 M2 => tc Δ2 M2 fun b M3 => if b = true then te Δ2 M3 fun y M4 => onD y fun e => J (i + 1) (acc ++ [e]) M4 else J (i + 1) acc M3) ∧
 ∀ acc M', J ds.length acc M' → fin acc M' := by
 refine ⟨fun i acc M' => Q4 g tc te Δc fin (ds.drop i) acc M', by simpa using h, fun i d acc M' e k => ?_, fun acc M' k => ?_⟩
 ·have ed : ds.drop i = d :: ds.drop (i + 1) := by
   obtain ⟨hi, e'⟩ := List.getElem?_eq_some_iff.mp e
   rw [← e', List.drop_eq_getElem_cons hi]
  dsimp only at k
  rw [ed] at k
  exact k
 ·dsimp only at k
  rw [List.drop_length] at k
  exact k
noncomputable def BP (ow : Bool) (src : Xw) (ix : List (Option Nat)) (g : DTG) (tc : DTT) (te : DTE) : DTE := fun Δ M Φ => src Δ M fun ds M1 => ds.length ≤ sizeLine ∧ Q4 g tc te (Dc ix Δ) (BG ow Φ) ds [] M1
theorem BF {ow : Bool} {src : Xw} {ix : List (Option Nat)} {g : DTG} {tc : DTT} {te : DTE} (Δ : DSt) (M : Mp) (Φ : DK) (h : BP ow src ix g tc te Δ M Φ) : LA ow (Zc3 src) ix g tc te Δ M Φ :=
 ⟨_, h, fun _ _ ⟨a, b⟩ => ⟨a, Hs b⟩⟩
section
variable {X : Cx}
theorem XG (ow : Bool) {elt tg iter : Expr} {ifs : List Expr} {scope : Scope} {pos : Pos} {src : Xw} {N : List Str} {ix : List (Option Nat)} {g : DTG} {tc : DTT} {te : DTE} (ok : YF X scope N ix) (hi : DI X tg iter src)
  (hg : ∀ C ex s H, DG (ZZ X scope C N ex s H) tg g) (ht : ∀ C ex s H, DTs (ZZ X scope C N ex s H) ifs tc) (he : ∀ C ex s H, DE (ZZ X scope C N ex s H) elt te) (hc : X.calm = true)
  (hs : ∀ x, foldedSetIterable iter X.env x = pure x := by intro _; rfl) : DE X (.ListComp elt [⟨tg, iter, ifs, 0⟩] scope pos) (BP ow src ix g tc te) :=
 O1 (Qf ow ok hi.mono hg ht he hc hs) BF
theorem L0 (i : Nat) (ow : Bool) {x : Str} {pos' spos : Pos} (hN : X.N.Nodup) {elt tg iter : Expr} {ifs : List Expr} {scope : Scope} {pos : Pos} {src : Xw} {N : List Str} {ix : List (Option Nat)} {g : DTG} {tc : DTT} {te : DTE} (ok : YF X scope N ix) (hi : DI X tg iter src)
  (hg : ∀ C ex s H, DG (ZZ X scope C N ex s H) tg g) (ht : ∀ C ex s H, DTs (ZZ X scope C N ex s H) ifs tc) (he : ∀ C ex s H, DE (ZZ X scope C N ex s H) elt te) (hc : X.calm = true)
  (hs : ∀ x, foldedSetIterable iter X.env x = pure x := by intro _; rfl) (hin : X.N[i]? = some x := by rfl) (hx : Loc X.env.scope x := by first | exact Or.inl rfl | exact Or.inr rfl)
  (hsw : swapsWith (.ListComp elt [⟨tg, iter, ifs, 0⟩] scope pos) (some (.Name x pos')) spos.line X.env = pure true := by rfl)
  (hf : X.fn x = true ∨ X.env.scope.names.lookup x = some .local := by first | exact .inl rfl | exact .inr rfl | assumption) :
  DS X (.Assign [.Name x pos'] (.ListComp elt [⟨tg, iter, ifs, 0⟩] scope pos) spos) (ZbQ (BP ow src ix g tc te) (U0 i)) :=
 RX (Bi i ow hN ok hi.mono hg ht he hc hs hin hx hsw hf) fun D Δ M h => BF Δ M _ h
end
noncomputable def Xk (g : DTG) (tb : DTS) (D : Qy) : List PyData → DSt → Mp → Prop
 | [], Δ, M => D.nx Δ M
 | d :: ds, Δ, M => g (.dat d) Δ M fun Δ2 M2 => tb { D with nx := Xk g tb D ds, ct := Xk g tb D ds, bk := D.nx } Δ2 M2
theorem Hx (g : DTG) (tb : DTS) (D : Qy) (Δ : DSt) (M : Mp) : Xk g tb D [] Δ M = D.nx Δ M := by rw [Xk]
theorem Hn (g : DTG) (tb : DTS) (D : Qy) (d : PyData) (ds : List PyData) (Δ : DSt) (M : Mp) : Xk g tb D (d :: ds) Δ M = g (.dat d) Δ M fun Δ2 M2 => tb { D with nx := Xk g tb D ds, ct := Xk g tb D ds, bk := D.nx } Δ2 M2 := by rw [Xk]
theorem Ce (lo : Int) (n : Nat) : WC lo (n + 1) = .int lo :: WC (lo + 1) n := by
 unfold WC
 rw [List.range_succ_eq_map, List.map_cons, List.map_map]
 congr 1
 ·simp
 ·refine List.map_congr_left fun i _ => ?_
  show PyData.int _ = PyData.int _
  congr 1
  simp
  omega
theorem S9 (lo : Int) : WC lo 0 = [] := rfl
theorem NH (lo : Int) : WC lo 1 = [.int lo] := by rw [Ce]; rfl
theorem Oe (lo : Int) : WC lo 2 = [.int lo, .int (lo + 1)] := by rw [Ce, NH]
theorem NC (lo : Int) : WC lo 3 = [.int lo, .int (lo + 1), .int (lo + 1 + 1)] := by rw [Ce, Oe]
theorem SF (lo : Int) : WC lo 4 = [.int lo, .int (lo + 1), .int (lo + 1 + 1), .int (lo + 1 + 1 + 1)] := by rw [Ce, NC]
theorem HP {A B : DTS} {D : Qy} {Δ : DSt} {M : Mp} (h : ∀ R, R = B → Zb6 A R D Δ M) : Zb6 A B D Δ M := h B rfl
theorem Pt {l : List Int} {r : Int} (h0 : 0 ≤ r) (h1 : r < l.length) : ∃ w ∈ l, atI (l.map PyData.int) r = some (.int w) := by
 obtain ⟨d, e, hm⟩ := EM (l := l.map PyData.int) h0 (by rw [List.length_map]; exact h1)
 obtain ⟨w, hw, rfl⟩ := List.mem_map.mp hm
 exact ⟨w, hw, e⟩
end DL
namespace DL
open PySem PySem.Spec PyProof.Rows L2
theorem GN  : ZG "int" .none = false := rfl
theorem Ba (b : Bool) : ZG "int" (.bool b) = true := rfl
theorem C9 (i : Int) : ZG "int" (.int i) = true := rfl
theorem CM (z : Str) : ZG "int" (.str z) = false := rfl
theorem GV (l : List PyData) : ZG "int" (.list l) = false := rfl
theorem W5 (l : List PyData) : ZG "int" (.tuple l) = false := rfl
theorem Bq (l : List (PyData × PyData)) : ZG "int" (.dict l) = false := rfl
theorem Ud  : ZG "bool" .none = false := rfl
theorem U9 (b : Bool) : ZG "bool" (.bool b) = true := rfl
theorem BD (i : Int) : ZG "bool" (.int i) = false := rfl
theorem GH (z : Str) : ZG "bool" (.str z) = false := rfl
theorem Ga (l : List PyData) : ZG "bool" (.list l) = false := rfl
theorem Wn (l : List PyData) : ZG "bool" (.tuple l) = false := rfl
theorem Uu (l : List (PyData × PyData)) : ZG "bool" (.dict l) = false := rfl
theorem Wo  : ZG "tuple" .none = false := rfl
theorem WQ (b : Bool) : ZG "tuple" (.bool b) = false := rfl
theorem W9 (i : Int) : ZG "tuple" (.int i) = false := rfl
theorem UM (z : Str) : ZG "tuple" (.str z) = false := rfl
theorem Ww (l : List PyData) : ZG "tuple" (.list l) = false := rfl
theorem KA (l : List PyData) : ZG "tuple" (.tuple l) = true := rfl
theorem Wi (l : List (PyData × PyData)) : ZG "tuple" (.dict l) = false := rfl
theorem US  : ZG "list" .none = false := rfl
theorem Ug (b : Bool) : ZG "list" (.bool b) = false := rfl
theorem G7 (i : Int) : ZG "list" (.int i) = false := rfl
theorem Gk (z : Str) : ZG "list" (.str z) = false := rfl
theorem UX (l : List PyData) : ZG "list" (.list l) = true := rfl
theorem WS (l : List PyData) : ZG "list" (.tuple l) = false := rfl
theorem W2 (l : List (PyData × PyData)) : ZG "list" (.dict l) = false := rfl
theorem Bz  : ZG "str" .none = false := rfl
theorem Gy (b : Bool) : ZG "str" (.bool b) = false := rfl
theorem CW (i : Int) : ZG "str" (.int i) = false := rfl
theorem C7 (z : Str) : ZG "str" (.str z) = true := rfl
theorem Bo (l : List PyData) : ZG "str" (.list l) = false := rfl
theorem Uz (l : List PyData) : ZG "str" (.tuple l) = false := rfl
theorem GW (l : List (PyData × PyData)) : ZG "str" (.dict l) = false := rfl
theorem U2  : ZG "dict" .none = false := rfl
theorem Uq (b : Bool) : ZG "dict" (.bool b) = false := rfl
theorem GK (i : Int) : ZG "dict" (.int i) = false := rfl
theorem G6 (z : Str) : ZG "dict" (.str z) = false := rfl
theorem UT (l : List PyData) : ZG "dict" (.list l) = false := rfl
theorem WI (l : List PyData) : ZG "dict" (.tuple l) = false := rfl
theorem Uy (l : List (PyData × PyData)) : ZG "dict" (.dict l) = true := rfl
theorem Zdx (i j : Int) : (PyData.int i).eqv (.int j) = decide (i = j) := by
 simp only [PyData.eqv]
 first | rfl | exact Bool.beq_eq_decide_eq _ _ | (rw [Bool.eq_iff_iff]; simp)
theorem Zcz (x y : Str) : (PyData.str x).eqv (.str y) = decide (x = y) := by
 simp only [PyData.eqv]
 first | rfl | (rw [Bool.eq_iff_iff]; simp)
theorem ZdQ (x y : Bool) : (PyData.bool x).eqv (.bool y) = (x == y) := by
 simp only [PyData.eqv]
theorem ZcR : PyData.none.eqv .none = true := by simp only [PyData.eqv]
theorem ZdB (x y : List PyData) : (PyData.tuple x).eqv (.tuple y) = PyData.eqvAll x y := by simp only [PyData.eqv]
theorem Zcw (x y : List PyData) : (PyData.list x).eqv (.list y) = PyData.eqvAll x y := by simp only [PyData.eqv]
theorem Rj : PyData.eqvAll [] [] = true := by simp only [PyData.eqvAll]
theorem Li (x y : PyData) (xs ys : List PyData) : PyData.eqvAll (x :: xs) (y :: ys) = (x.eqv y && PyData.eqvAll xs ys) := by simp only [PyData.eqvAll]
theorem Za2 (x : PyData) (xs : List PyData) : PyData.eqvAll (x :: xs) [] = false := by simp only [PyData.eqvAll]
theorem Zbx (x : PyData) (xs : List PyData) : PyData.eqvAll [] (x :: xs) = false := by simp only [PyData.eqvAll]
end DL
namespace DL
open PySem PySem.Spec PyProof.Rows L2
section
variable {X : Cx} {pos : Pos}
noncomputable def T4 (tc : DTT) (tb : DTS) : DTS := fun D Δ M => ∃ J : Nat → DSt → Mp → Prop, (∃ m, J m Δ M) ∧ ∀ n Δ M, J n Δ M → tc Δ M fun b M1 =>
 if b = true then tb { D with nx := fun Δ' M' => ∃ m, m < n ∧ J m Δ' M', ct := fun Δ' M' => ∃ m, m < n ∧ J m Δ' M', bk := D.nx } Δ M1 else D.nx Δ M1
noncomputable def ZfG (to : DTE) : DTE := fun Δ M Φ => to Δ M fun x M1 => onO x fun l => ∃ ds d, M1 l = some (.lst (ds ++ [d])) ∧ Φ (.dat d) (Z1 M1 l (.lst ds))
noncomputable def isNone : PyData → Bool
 | .none => true
 | _ => false
noncomputable def onN (x : DV) (P : Prop) : Prop := match x with | .dat .none => P | _ => False
noncomputable def Zc8 (b : Bool) : D2 := fun x y M Φ => onD x fun d => onN y <| Φ (.dat (.bool (isNone d != b))) M
theorem isNone_none : isNone .none = true := rfl
theorem GI (b : Bool) : isNone (.bool b) = false := rfl
theorem C8 (b : Int) : isNone (.int b) = false := rfl
theorem C0 (b : Str) : isNone (.str b) = false := rfl
theorem G3 (b : List PyData) : isNone (.list b) = false := rfl
theorem UL (b : List PyData) : isNone (.tuple b) = false := rfl
theorem Bd (b : List (PyData × PyData)) : isNone (.dict b) = false := rfl
noncomputable def Zgy (c : Bool) : PyData → Bool
 | .bool b => b == c
 | _ => false
noncomputable def Pd : D2 := fun x y M Φ => onD x fun d => onW y fun ds => okIn d ds = true ∧ Φ (.dat (.bool (!(ds.any fun e => PyData.eqv e d)))) M
noncomputable def Lv : D2 := fun x y M Φ => onP x fun i j => onO y fun l => Pc (M l) fun ks => Φ (.dat (.bool (!Zcj ks (kP i j)))) M
end
section
variable {prog : Program} {w : World} {A : Around} {E : Value → Shared → Prop} {s : Shared}
end
end DL
namespace DL
open PySem PySem.Spec PyProof.Rows L2
theorem MS (x : DV) (P : DV → Prop) : onV (some (some x)) P = P x := propext Iff.rfl
theorem HJ (i : Int) (P : Int → Prop) : onI (.dat (.int i)) P = P i := propext Iff.rfl
theorem Mv (i : Bool) (P : Bool → Prop) : onB (.dat (.bool i)) P = P i := propext Iff.rfl
theorem LN (i : Str) (P : Str → Prop) : onS (.dat (.str i)) P = P i := propext Iff.rfl
theorem LR (i : List PyData) (P : List PyData → Prop) : onT (.dat (.tuple i)) P = P i := propext Iff.rfl
theorem Lz (i : List PyData) (P : List PyData → Prop) : onL (.dat (.list i)) P = P i := propext Iff.rfl
theorem Lm (i : PyData) (P : PyData → Prop) : onD (.dat i) P = P i := propext Iff.rfl
theorem Mj (i : Addr) (P : Addr → Prop) : onO (.own i) P = P i := propext Iff.rfl
theorem Ew (ds : List PyData) (P : List PyData → Prop) : J1 (some (.lst ds)) P = P ds := propext Iff.rfl
theorem DP (ks : List (List Key)) (P : List (List Key) → Prop) : Pc (some (.dct ks)) P = P ks := propext Iff.rfl
theorem Pp (ds : List PyData) (M : Mp) (P : List PyData → Prop) : onQ (.dat (.tuple ds)) M P = P ds := propext Iff.rfl
theorem OL (ds : List PyData) (M : Mp) (P : List PyData → Prop) : onQ (.dat (.list ds)) M P = P ds := propext Iff.rfl
theorem Ot (l : Addr) (M : Mp) (P : List PyData → Prop) : onQ (.own l) M P = J1 (M l) P := propext Iff.rfl
theorem OF (ds : List PyData) (M : Mp) (P : List PyData → Prop) : onK (.dat (.list ds)) M P = P ds := propext Iff.rfl
theorem Rw (l : Addr) (M : Mp) (P : List PyData → Prop) : onK (.own l) M P = J1 (M l) P := propext Iff.rfl
theorem Hq (x : DV) (P : DV → Prop) : on1 [x] P = P x := propext Iff.rfl
theorem MQ (x y : DV) (P : DV → DV → Prop) : on2 [x, y] P = P x y := propext Iff.rfl
theorem MA (x y z : DV) (P : DV → DV → DV → Prop) : on3 [x, y, z] P = P x y z := propext Iff.rfl
theorem Hm (x0 x1 x2 x3 : DV) (P : DV → DV → DV → DV → Prop) : on4 [x0, x1, x2, x3] P = P x0 x1 x2 x3 := propext Iff.rfl
theorem Ml (x0 x1 x2 x3 x4 : DV) (P : DV → DV → DV → DV → DV → Prop) : on5 [x0, x1, x2, x3, x4] P = P x0 x1 x2 x3 x4 := propext Iff.rfl
theorem HB (x0 x1 x2 x3 x4 x5 : DV) (P : DV → DV → DV → DV → DV → DV → Prop) : on6 [x0, x1, x2, x3, x4, x5] P = P x0 x1 x2 x3 x4 x5 := propext Iff.rfl
theorem MM (P : List PyData → Prop) : XZ [] P = P [] := propext Iff.rfl
theorem Mx (a0 : PyData) (P : List PyData → Prop) : XZ [.dat a0] P = P [a0] := propext Iff.rfl
theorem Mq (a0 a1 : PyData) (P : List PyData → Prop) : XZ [.dat a0, .dat a1] P = P [a0, a1] := propext Iff.rfl
theorem Nd (a0 a1 a2 : PyData) (P : List PyData → Prop) : XZ [.dat a0, .dat a1, .dat a2] P = P [a0, a1, a2] := propext Iff.rfl
theorem Mh (a0 a1 a2 a3 : PyData) (P : List PyData → Prop) : XZ [.dat a0, .dat a1, .dat a2, .dat a3] P = P [a0, a1, a2, a3] := propext Iff.rfl
theorem Hy (a0 a1 a2 a3 a4 : PyData) (P : List PyData → Prop) : XZ [.dat a0, .dat a1, .dat a2, .dat a3, .dat a4] P = P [a0, a1, a2, a3, a4] := propext Iff.rfl
theorem MK (a0 a1 a2 a3 a4 a5 : PyData) (P : List PyData → Prop) : XZ [.dat a0, .dat a1, .dat a2, .dat a3, .dat a4, .dat a5] P = P [a0, a1, a2, a3, a4, a5] := propext Iff.rfl
theorem LH (a0 a1 a2 a3 a4 a5 a6 : PyData) (P : List PyData → Prop) : XZ [.dat a0, .dat a1, .dat a2, .dat a3, .dat a4, .dat a5, .dat a6] P = P [a0, a1, a2, a3, a4, a5, a6] := propext Iff.rfl
theorem Lx (a0 a1 a2 a3 a4 a5 a6 a7 : PyData) (P : List PyData → Prop) : XZ [.dat a0, .dat a1, .dat a2, .dat a3, .dat a4, .dat a5, .dat a6, .dat a7] P = P [a0, a1, a2, a3, a4, a5, a6, a7] := propext Iff.rfl
theorem H9 (a0 a1 a2 a3 a4 a5 a6 a7 a8 : PyData) (P : List PyData → Prop) : XZ [.dat a0, .dat a1, .dat a2, .dat a3, .dat a4, .dat a5, .dat a6, .dat a7, .dat a8] P = P [a0, a1, a2, a3, a4, a5, a6, a7, a8] := propext Iff.rfl
theorem Eh (a0 a1 a2 a3 a4 a5 a6 a7 a8 a9 : PyData) (P : List PyData → Prop) : XZ [.dat a0, .dat a1, .dat a2, .dat a3, .dat a4, .dat a5, .dat a6, .dat a7, .dat a8, .dat a9] P = P [a0, a1, a2, a3, a4, a5, a6, a7, a8, a9] := propext Iff.rfl
theorem Eg (a0 a1 a2 a3 a4 a5 a6 a7 a8 a9 a10 : PyData) (P : List PyData → Prop) : XZ [.dat a0, .dat a1, .dat a2, .dat a3, .dat a4, .dat a5, .dat a6, .dat a7, .dat a8, .dat a9, .dat a10] P = P [a0, a1, a2, a3, a4, a5, a6, a7, a8, a9, a10] := propext Iff.rfl
theorem EA (a0 a1 a2 a3 a4 a5 a6 a7 a8 a9 a10 a11 : PyData) (P : List PyData → Prop) : XZ [.dat a0, .dat a1, .dat a2, .dat a3, .dat a4, .dat a5, .dat a6, .dat a7, .dat a8, .dat a9, .dat a10, .dat a11] P = P [a0, a1, a2, a3, a4, a5, a6, a7, a8, a9, a10, a11] := propext Iff.rfl
theorem FF (a0 a1 a2 a3 a4 a5 a6 a7 a8 a9 a10 a11 a12 : PyData) (P : List PyData → Prop) : XZ [.dat a0, .dat a1, .dat a2, .dat a3, .dat a4, .dat a5, .dat a6, .dat a7, .dat a8, .dat a9, .dat a10, .dat a11, .dat a12] P = P [a0, a1, a2, a3, a4, a5, a6, a7, a8, a9, a10, a11, a12] := propext Iff.rfl
theorem Fe (a0 a1 a2 a3 a4 a5 a6 a7 a8 a9 a10 a11 a12 a13 : PyData) (P : List PyData → Prop) : XZ [.dat a0, .dat a1, .dat a2, .dat a3, .dat a4, .dat a5, .dat a6, .dat a7, .dat a8, .dat a9, .dat a10, .dat a11, .dat a12, .dat a13] P = P [a0, a1, a2, a3, a4, a5, a6, a7, a8, a9, a10, a11, a12, a13] := propext Iff.rfl
theorem TR (i : Nat) (Δ : DSt) (M : Mp) (Φ : DK) : ZcG i Δ M Φ = (onV Δ[i]? fun x => Φ x M) := propext Iff.rfl
theorem ZfU (d : PyData) (z0 : DSt) (M : Mp) (Φ : DK) : dC d z0 M Φ = (Φ (.dat d) M) := propext Iff.rfl
theorem Zd1 (n : String) (z0 : DSt) (M : Mp) (Φ : DK) : dTy n z0 M Φ = (Φ (.ty n) M) := propext Iff.rfl
theorem ZcH (δ : D2) (ta tb : DTE) (Δ : DSt) (M : Mp) (Φ : DK) : dOp δ ta tb Δ M Φ = (ta Δ M fun x M1 => tb Δ M1 fun y M2 => δ x y M2 Φ) := propext Iff.rfl
theorem ZfF (t : DTE) (Δ : DSt) (M : Mp) (Φ : Bool → Mp → Prop) : dB t Δ M Φ = (t Δ M fun x M1 => onB x fun c => Φ c M1) := propext Iff.rfl
theorem LF (δ δ' : D2) (ta tb tc : DTE) (Δ : DSt) (M : Mp) (Φ : DK) : Ci δ δ' ta tb tc Δ M Φ = (ta Δ M fun x M1 => tb Δ M1 fun y M2 => δ x y M2 fun z M3 => onB z fun k => (if k = true then tc Δ M3 fun w' M4 => δ' y w' M4 Φ else Φ (.dat (.bool false)) M3)) := propext Iff.rfl
theorem T6 (t u : DTT) (Δ : DSt) (M : Mp) (Φ : Bool → Mp → Prop) : ZeG t u Δ M Φ = (t Δ M fun c M1 => if c = true then u Δ M1 Φ else Φ false M1) := propext Iff.rfl
theorem Zdv (t u : DTT) (Δ : DSt) (M : Mp) (Φ : Bool → Mp → Prop) : dOr t u Δ M Φ = (t Δ M fun c M1 => if c = true then Φ true M1 else u Δ M1 Φ) := propext Iff.rfl
theorem Za9 (t : DTT) (Δ : DSt) (M : Mp) (Φ : Bool → Mp → Prop) : Ze6 t Δ M Φ = (t Δ M fun c M1 => Φ (!c) M1) := propext Iff.rfl
theorem PB (ta tb : DTE) (Δ : DSt) (M : Mp) (Φ : DK) : Zaj ta tb Δ M Φ = (ta Δ M fun x M1 => onB x fun c => if c = true then tb Δ M1 Φ else Φ (.dat (.bool false)) M1) := propext Iff.rfl
theorem ZaF (ta tb : DTE) (Δ : DSt) (M : Mp) (Φ : DK) : ZeU ta tb Δ M Φ = (ta Δ M fun x M1 => onB x fun c => if c = true then Φ (.dat (.bool true)) M1 else tb Δ M1 Φ) := propext Iff.rfl
theorem Ry (ta : DTE) (Δ : DSt) (M : Mp) (Φ : DK) : TB ta Δ M Φ = (ta Δ M fun x M1 => onB x fun c => Φ (.dat (.bool (!c))) M1) := propext Iff.rfl
theorem Zcu (t : DTT) (ta tb : DTE) (Δ : DSt) (M : Mp) (Φ : DK) : dIf t ta tb Δ M Φ = (t Δ M fun c M1 => if c = true then ta Δ M1 Φ else tb Δ M1 Φ) := propext Iff.rfl
theorem Sn (g : Int → Int) (ta : DTE) (Δ : DSt) (M : Mp) (Φ : DK) : Zd8 g ta Δ M Φ = (ta Δ M fun x M1 => onI x fun i => Φ (.dat (.int (g i))) M1) := propext Iff.rfl
theorem ZcP (C : Int → Int → Prop) (g : Int → Int → PyData) (x : DV) (y : DV) (M : Mp) (Φ : DK) : δI C g x y M Φ = (onI x fun i => onI y fun j => C i j ∧ Φ (.dat (g i j)) M) := propext Iff.rfl
theorem S5 (g : Int → Int → PyData) (x : DV) (y : DV) (M : Mp) (Φ : DK) : δI0 g x y M Φ = (onI x fun i => onI y fun j => Φ (.dat (g i j)) M) := propext Iff.rfl
theorem ZdJ (g : Bool → Bool → Bool) (x : DV) (y : DV) (M : Mp) (Φ : DK) : δB g x y M Φ = (onB x fun c => onB y fun d => Φ (.dat (.bool (g c d))) M) := propext Iff.rfl
theorem La  (x : DV) (y : DV) (M : Mp) (Φ : DK) : ZbE x y M Φ = (onT x fun ds => onT y fun es => ds ≠ [] ∧ ds.length + es.length ≤ sizeLine ∧ Φ (.dat (.tuple (ds ++ es))) M) := propext Iff.rfl
theorem MP  (x : DV) (y : DV) (M : Mp) (Φ : DK) : ZbO x y M Φ = (onL x fun ds => onL y fun es => ds.length + es.length ≤ sizeLine ∧ Φ (.dat (.list (ds ++ es))) M) := propext Iff.rfl
theorem E8  (x : DV) (y : DV) (M : Mp) (Φ : DK) : OT x y M Φ = (onL x fun ds => onL y fun es => ds.length + es.length ≤ sizeLine ∧ ∀ p, M p = none → Φ (.own p) (Z1 M p (.lst (ds ++ es)))) := propext Iff.rfl
theorem Tg  (z0 : DSt) (M : Mp) (Φ : List DV → Mp → Prop) : Zej z0 M Φ = (Φ [] M) := propext Iff.rfl
theorem O8 (ta : DTE) (tr : DTA) (Δ : DSt) (M : Mp) (Φ : List DV → Mp → Prop) : ZbF ta tr Δ M Φ = (ta Δ M fun x M1 => tr Δ M1 fun xs M2 => Φ (x :: xs) M2) := propext Iff.rfl
theorem ZbH (t : DTA) (Δ : DSt) (M : Mp) (Φ : DK) : Ze2 t Δ M Φ = (t Δ M fun xs M1 => XZ xs fun ds => Φ (.dat (.tuple ds)) M1) := propext Iff.rfl
theorem Za1 (t : DTA) (Δ : DSt) (M : Mp) (Φ : DK) : ZeD t Δ M Φ = (t Δ M fun xs M1 => XZ xs fun ds => Φ (.dat (.list ds)) M1) := propext Iff.rfl
theorem Pu (t : DTA) (Δ : DSt) (M : Mp) (Φ : DK) : Sq t Δ M Φ = (t Δ M fun xs M1 => XZ xs fun ds => ∀ p, M1 p = none → Φ (.own p) (Z1 M1 p (.lst ds))) := propext Iff.rfl
theorem Zbp (t : DTE) (Δ : DSt) (M : Mp) (Φ : DK) : Zer t Δ M Φ = (t Δ M fun x M1 => onO x fun l => J1 (M1 l) fun ds => Φ (.dat (.list ds)) (YQ M1 l)) := propext Iff.rfl
theorem MJ (a : PyData) (l : List PyData) (P : PyData → Prop) : K7 (a :: l) 0 P = P a := propext Iff.rfl
theorem LX (a b : PyData) (l : List PyData) (P : PyData → Prop) : K7 (a :: b :: l) 1 P = P b := propext Iff.rfl
theorem LS (a b c : PyData) (l : List PyData) (P : PyData → Prop) : K7 (a :: b :: c :: l) 2 P = P c := propext Iff.rfl
theorem MB (a b c d : PyData) (l : List PyData) (P : PyData → Prop) : K7 (a :: b :: c :: d :: l) 3 P = P d := propext Iff.rfl
theorem L7 (a b c d e : PyData) (l : List PyData) (P : PyData → Prop) : K7 (a :: b :: c :: d :: e :: l) 4 P = P e := propext Iff.rfl
theorem Lw (a b c d e f : PyData) (l : List PyData) (P : PyData → Prop) : K7 (a :: b :: c :: d :: e :: f :: l) 5 P = P f := propext Iff.rfl
theorem Lf (a b c d e f g : PyData) (l : List PyData) (P : PyData → Prop) : K7 (a :: b :: c :: d :: e :: f :: g :: l) 6 P = P g := propext Iff.rfl
theorem Ni (a b c d e f g h : PyData) (l : List PyData) (P : PyData → Prop) : K7 (a :: b :: c :: d :: e :: f :: g :: h :: l) 7 P = P h := propext Iff.rfl
theorem Za0  (x : DV) (y : DV) (M : Mp) (Φ : DK) : δIx x y M Φ = (onQ x M fun ds => onI y fun i => K7 ds i fun d => Φ (.dat d) M) := propext Iff.rfl
theorem ZcU (δ : D1) (t : DTA) (Δ : DSt) (M : Mp) (Φ : DK) : dCB δ t Δ M Φ = (t Δ M fun xs M1 => δ xs M1 Φ) := propext Iff.rfl
theorem RW  (xs : List DV) (M : Mp) (Φ : DK) : ZaO xs M Φ = (on1 xs fun x => onQ x M fun ds => Φ (.dat (.int ds.length)) M) := propext Iff.rfl
theorem HY  (xs : List DV) (M : Mp) (Φ : DK) : NI xs M Φ = (on1 xs fun x => onS x fun z => z.length ≤ sizeLine ∧ Φ (.dat (.int z.length)) M) := propext Iff.rfl
theorem HV  (xs : List DV) (M : Mp) (Φ : DK) : NL xs M Φ = (on1 xs fun x => onI x fun i => i.natAbs.log2 < 1920 ∧ Φ (.dat (.str (toString i))) M) := propext Iff.rfl
theorem Rm  (xs : List DV) (M : Mp) (Φ : DK) : ZaY xs M Φ = (on1 xs fun x => onI x fun i => Φ (.dat (.int (if i < 0 then -i else i))) M) := propext Iff.rfl
theorem SO (g : Int → Int → Int) (xs : List DV) (M : Mp) (Φ : DK) : δ2I g xs M Φ = (on2 xs fun x y => onI x fun i => onI y fun j => Φ (.dat (.int (g i j))) M) := propext Iff.rfl
theorem CH  (xs : List DV) (M : Mp) (Φ : DK) : Nh xs M Φ = (on1 xs fun x => onQ x M fun ds => Φ (.dat (.list ds)) M) := propext Iff.rfl
theorem HM  (xs : List DV) (M : Mp) (Φ : DK) : NQ xs M Φ = (on1 xs fun x => onD x fun d => Shw d ∧ Φ (.dat (.str d.shown)) M) := propext Iff.rfl
theorem CL (T : String) (d : PyData) (t : String) (M : Mp) (Φ : DK) : Oj T [.dat d, .ty t] M Φ = (t = T ∧ Φ (.dat (.bool (ZG T d))) M) := propext Iff.rfl
theorem LC (i j : Int) (P : Bool → Prop) : eqD (.int i) (.int j) P = P (decide (i = j)) := propext Iff.rfl
theorem Mz (i j : Str) (P : Bool → Prop) : eqD (.str i) (.str j) P = P (decide (i = j)) := propext Iff.rfl
theorem Mg (i j : Bool) (P : Bool → Prop) : eqD (.bool i) (.bool j) P = P (i == j) := propext Iff.rfl
theorem Za8  (x : DV) (y : DV) (M : Mp) (Φ : DK) : δEq x y M Φ = (onD x fun d => onD y fun e => eqD d e fun b => Φ (.dat (.bool b)) M) := propext Iff.rfl
theorem TX  (x : DV) (y : DV) (M : Mp) (Φ : DK) : δNe x y M Φ = (onD x fun d => onD y fun e => eqD d e fun b => Φ (.dat (.bool (!b))) M) := propext Iff.rfl
theorem R6  (x : DV) (y : DV) (M : Mp) (Φ : DK) : Zae x y M Φ = (onS x fun s => onS y fun t => Φ (.dat (.bool (!decide (s = t)))) M) := propext Iff.rfl
theorem Ri  (x : DV) (y : DV) (M : Mp) (Φ : DK) : ZcB x y M Φ = (onS x fun s => onS y fun t => Φ (.dat (.bool (decide (s = t)))) M) := propext Iff.rfl
theorem Hc  (z0 : DSt) (M : Mp) (Φ : Option Int → Mp → Prop) : FL z0 M Φ = (Φ none M) := propext Iff.rfl
theorem Ov (t : DTE) (Δ : DSt) (M : Mp) (Φ : Option Int → Mp → Prop) : TJ t Δ M Φ = (t Δ M fun x M1 => onI x fun i => Φ (some i) M1) := propext Iff.rfl
theorem Zbw (te : DTE) (tl th : DTO) (Δ : DSt) (M : Mp) (Φ : DK) : ZeJ te tl th Δ M Φ = (te Δ M fun x M1 => tl Δ M1 fun l M2 => th Δ M2 fun u M3 => onT x fun ds => ¬ (HT.sIx ds.length 0 l = 0 ∧ HT.sIx ds.length ds.length u = ds.length) ∧ Φ (.dat (.tuple (cutD ds l u))) M3) := propext Iff.rfl
theorem RZ  (D : Qy) (Δ : DSt) (M : Mp) : SS D Δ M = (D.nx Δ M) := propext Iff.rfl
theorem ZaH (t u : DTS) (D : Qy) (Δ : DSt) (M : Mp) : Zb6 t u D Δ M = (t { D with nx := u D } Δ M) := propext Iff.rfl
theorem Nc  (D : Qy) (Δ : DSt) (M : Mp) : T2 D Δ M = (D.bk Δ M) := propext Iff.rfl
theorem P0  (D : Qy) (Δ : DSt) (M : Mp) : Zda D Δ M = (D.ct Δ M) := propext Iff.rfl
theorem OJ (te : DTE) (D : Qy) (Δ : DSt) (M : Mp) : Tf te D Δ M = (te Δ M fun _ M1 => D.nx Δ M1) := propext Iff.rfl
theorem SN (te : DTE) (D : Qy) (Δ : DSt) (M : Mp) : ZeS te D Δ M = (te Δ M D.rt) := propext Iff.rfl
theorem PZ  (D : Qy) (z1 : DSt) (M : Mp) : Zdl D z1 M = (D.rt (.dat .none) M) := propext Iff.rfl
theorem Zbi (c : DTT) (t u : DTS) (D : Qy) (Δ : DSt) (M : Mp) : Zd9 c t u D Δ M = (c Δ M fun b M1 => if b = true then t D Δ M1 else u D Δ M1) := propext Iff.rfl
theorem XH (i : Nat) (x : DV) (Δ : DSt) (M : Mp) (Φ : DSt → Mp → Prop) : U0 i x Δ M Φ = (Φ (Δ.set i (some x)) M) := propext Iff.rfl
theorem De (Δ : DSt) (M : Mp) (Φ : DSt → Mp → Prop) : Su [] Δ M Φ = Φ Δ M := propext Iff.rfl
theorem GR (t : DTG) (u : Hi) (x : DV) (r : List DV) (Δ : DSt) (M : Mp) (Φ : DSt → Mp → Prop) : N7 t u (x :: r) Δ M Φ = t x Δ M fun Δ' M' => u r Δ' M' Φ := propext Iff.rfl
theorem LO (P : List DV → Prop) : N4 0 [] P = P [] := propext Iff.rfl
theorem Lg (n : Nat) (d : PyData) (r : List PyData) (P : List DV → Prop) : N4 (n + 1) (d :: r) P = N4 n r fun xs => P (.dat d :: xs) := propext Iff.rfl
theorem RA (n : Nat) (t : Hi) (x : DV) (Δ : DSt) (M : Mp) (Φ : DSt → Mp → Prop) : Zam n t x Δ M Φ = (onT x fun ds => N4 n ds fun xs => t xs Δ M Φ) := propext Iff.rfl
theorem OZ (to ti : DTE) (x : DV) (Δ : DSt) (M : Mp) (Φ : DSt → Mp → Prop) : ZaC to ti x Δ M Φ = (to Δ M fun o M1 => ti Δ M1 fun i M2 => onO o fun l => onI i fun k => onD x fun d => J1 (M2 l) fun ds => ∃ j, ixN ds.length k = some j ∧ Φ Δ (Z1 M2 l (.lst (ds.set j d)))) := propext Iff.rfl
theorem Th (te : DTE) (g : DTG) (D : Qy) (Δ : DSt) (M : Mp) : ZbQ te g D Δ M = (te Δ M fun x M1 => g x Δ M1 D.nx) := propext Iff.rfl
theorem FX (to te : DTE) (Δ : DSt) (M : Mp) (Φ : DK) : Dk to te Δ M Φ = (to Δ M fun x M1 => onO x fun l => J1 (M1 l) fun _ => te Δ M1 fun y M2 => onD y fun d => J1 (M2 l) fun ds => ds.length < sizeLine ∧ Φ (.dat .none) (Z1 M2 l (.lst (ds ++ [d])))) := propext Iff.rfl
theorem Oh (te : DTE) (g : DTG) (tb : DTS) (D : Qy) (Δ : DSt) (M : Mp) : Zbn te g tb D Δ M = (te Δ M fun x M1 => onL x fun ds => Ea g tb D ds Δ M1) := propext Iff.rfl
theorem RH (te : DTE) (g : DTG) (tb : DTS) (D : Qy) (Δ : DSt) (M : Mp) : Zax te g tb D Δ M = (te Δ M fun x M1 => onT x fun ds => Ea g tb D ds Δ M1) := propext Iff.rfl
theorem HI (ta : DTA) (g : DTG) (tb : DTS) (D : Qy) (Δ : DSt) (M : Mp) : ND ta g tb D Δ M = (ta Δ M fun xs M1 => on1 xs fun x => onI x fun j => InR j ∧ Uj g tb D 0 j.toNat Δ M1) := propext Iff.rfl
theorem HA (ta : DTA) (g : DTG) (tb : DTS) (D : Qy) (Δ : DSt) (M : Mp) : ZaE ta g tb D Δ M = (ta Δ M fun xs M1 => on2 xs fun x y => onI x fun i => onI y fun j => (InR i ∧ InR j) ∧ Uj g tb D i (j - i).toNat Δ M1) := propext Iff.rfl
theorem O0 (S : DSp) (t : DTA) (Δ : DSt) (M : Mp) (Φ : DK) : Zbz S t Δ M Φ = (t Δ M fun xs M1 => S xs M1 Φ) := propext Iff.rfl
theorem Ly  (z0 : DSt) (M : Mp) (Φ : DK) : ZaX z0 M Φ = (Φ (.dat (.dict [])) M) := propext Iff.rfl
theorem EC (i : Int) (P : Key → Prop) : KH (.dat (.int i)) P = P (.inl i) := propext Iff.rfl
theorem Fg (i : Str) (P : Key → Prop) : KH (.dat (.str i)) P = P (.inr i) := propext Iff.rfl
theorem Ng (tk tv : DTE) (Δ : DSt) (M : Mp) (Φ : DK) : SH tk tv Δ M Φ = (tk Δ M fun x M1 => tv Δ M1 fun y M2 => KH x fun k => onD y fun d => Φ (.dat (.dict [(kD k, d)])) M2) := propext Iff.rfl
theorem Ms (tk tv tk' tv' : DTE) (Δ : DSt) (M : Mp) (Φ : DK) : Zbt tk tv tk' tv' Δ M Φ = (tk Δ M fun x M1 => tv Δ M1 fun y M2 => tk' Δ M2 fun x' M3 => tv' Δ M3 fun y' M4 => KH x fun k => onD y fun d => KH x' fun k' => onD y' fun d' => k ≠ k' ∧ Φ (.dat (.dict [(kD k, d), (kD k', d')])) M4) := propext Iff.rfl
theorem EI (tk tv : DTE) (Δ : DSt) (M : Mp) (Φ : DK) : Rk tk tv Δ M Φ = (tk Δ M fun x M1 => tv Δ M1 fun y M2 => onT x fun ds => Zdp ds fun ks => onD y fun d => Φ (.dat (.dict [(.tuple (ks.map kD), d)])) M2) := propext Iff.rfl
theorem Zc5 (f : PyData → Bool) (xs : List DV) (M : Mp) (Φ : DK) : sp1 f xs M Φ = (∃ d, xs = [.dat d] ∧ Φ (.dat (.bool (f d))) M) := propext Iff.rfl
theorem TH (te : DTE) (Δ : DSt) (M : Mp) (Ψ : List PyData → Mp → Prop) : Zd4 te Δ M Ψ = (te Δ M fun x M1 => onL x fun ds => Ψ ds M1) := propext Iff.rfl
theorem S4 (te : DTE) (Δ : DSt) (M : Mp) (Ψ : List PyData → Mp → Prop) : Zeo te Δ M Ψ = (te Δ M fun x M1 => onT x fun ds => Ψ ds M1) := propext Iff.rfl
theorem PD (ta : DTA) (Δ : DSt) (M : Mp) (Ψ : List PyData → Mp → Prop) : S8 ta Δ M Ψ = (ta Δ M fun xs M1 => on1 xs fun x => onI x fun j => InR j ∧ Ψ (WC 0 j.toNat) M1) := propext Iff.rfl
theorem OS (ta : DTA) (Δ : DSt) (M : Mp) (Ψ : List PyData → Mp → Prop) : TL ta Δ M Ψ = (ta Δ M fun xs M1 => on2 xs fun x y => onI x fun i => onI y fun j => (InR i ∧ InR j) ∧ Ψ (WC i (j - i).toNat) M1) := propext Iff.rfl
theorem Lq (Φ : DK) (acc : List PyData) (M : Mp) : BG true Φ acc M = ∀ p, M p = none → Φ (.own p) (Z1 M p (.lst acc)) := propext Iff.rfl
theorem MC (Φ : DK) (acc : List PyData) (M : Mp) : BG false Φ acc M = Φ (.dat (.list acc)) M := propext Iff.rfl
theorem Po (ow : Bool) (src : Xw) (ix : List (Option Nat)) (g : DTG) (tc : DTT) (te : DTE) (Δ : DSt) (M : Mp) (Φ : DK) : LA ow src ix g tc te Δ M Φ = (src Δ M fun ds M1 => ds.length ≤ sizeLine ∧ ∃ J : Nat → List PyData → Mp → Prop, J 0 [] M1 ∧ (∀ i d acc M', ds[i]? = some d → J i acc M' → g (.dat d) (Dc ix Δ) M' fun Δ2 M2 => tc Δ2 M2 fun b M3 => if b = true then te Δ2 M3 fun y M4 => onD y fun e => J (i + 1) (acc ++ [e]) M4 else J (i + 1) acc M3) ∧ ∀ acc M', J ds.length acc M' → BG ow Φ acc M') := propext Iff.rfl
theorem S6  (z0 : DSt) (M : Mp) (Φ : Bool → Mp → Prop) : Ze0 z0 M Φ = (Φ true M) := propext Iff.rfl
theorem E5  (xs : List DV) (M : Mp) (Φ : DK) : Px xs M Φ = (∃ ns : List Int, Yw xs M ns ∧ ns.length < 64 ∧ ∀ ns' : List Int, ns'.Perm ns → ns'.Pairwise (· ≤ ·) → Φ (.dat (.list (ns'.map PyData.int))) M) := propext Iff.rfl
theorem Lb  (xs : List DV) (M : Mp) (Φ : DK) : Sz xs M Φ = (∃ ns : List Int, Yw xs M ns ∧ 0 < ns.length ∧ ∀ m ∈ ns, (∀ a ∈ ns, m ≤ a) → Φ (.dat (.int m)) M) := propext Iff.rfl
theorem Mb  (xs : List DV) (M : Mp) (Φ : DK) : ZaK xs M Φ = (∃ ns : List Int, Yw xs M ns ∧ 0 < ns.length ∧ ∀ m ∈ ns, (∀ a ∈ ns, a ≤ m) → Φ (.dat (.int m)) M) := propext Iff.rfl
theorem ZaG (g : Int → Int → Int → Int) (xs : List DV) (M : Mp) (Φ : DK) : δ3I g xs M Φ = (on3 xs fun x y z => onI x fun i => onI y fun j => onI z fun l => Φ (.dat (.int (g i j l))) M) := propext Iff.rfl
theorem DB  (xs : List DV) (M : Mp) (Φ : DK) : Fu xs M Φ = (on1 xs fun x => onQ x M fun ds => Φ (.dat (.tuple ds)) M) := propext Iff.rfl
theorem RV (ds : List PyData) (P : List PyData → Prop) : onW (.dat (.tuple ds)) P = P ds := propext Iff.rfl
theorem PQ (ds : List PyData) (P : List PyData → Prop) : onW (.dat (.list ds)) P = P ds := propext Iff.rfl
theorem Sg  (x : DV) (y : DV) (M : Mp) (Φ : DK) : δIn x y M Φ = (onD x fun d => onW y fun ds => okIn d ds = true ∧ Φ (.dat (.bool (ds.any fun e => PyData.eqv e d))) M) := propext Iff.rfl
theorem FK (to te : DTE) (Δ : DSt) (M : Mp) (Φ : DK) : Eu to te Δ M Φ = (to Δ M fun x M1 => onO x fun l => J1 (M1 l) fun _ => te Δ M1 fun y M2 => onO y fun b => J1 (M2 l) fun ds => J1 (M2 b) fun es => b ≠ l ∧ ds.length + es.length ≤ sizeLine ∧ Φ (.dat .none) (YQ (Z1 M2 l (.lst (ds ++ es))) b)) := propext Iff.rfl
theorem Ta (te : DTE) (tl th : DTO) (Δ : DSt) (M : Mp) (Φ : DK) : Zgd te tl th Δ M Φ = (te Δ M fun x M1 => tl Δ M1 fun l M2 => th Δ M2 fun u M3 => onL x fun ds => Φ (.dat (.list (cutD ds l u))) M3) := propext Iff.rfl
theorem Lh  (xs : List DV) (M : Mp) (Φ : DK) : Si xs M Φ = (∃ ns : List Int, Yw xs M ns ∧ Φ (.dat (.int ns.sum)) M) := propext Iff.rfl
theorem HS  (xs : List DV) (M : Mp) (Φ : DK) : NT xs M Φ = (∃ bs : List Bool, xs = [.dat (.list (bs.map PyData.bool))] ∧ Φ (.dat (.bool (bs.all id))) M) := propext Iff.rfl
theorem HK  (xs : List DV) (M : Mp) (Φ : DK) : ZbG xs M Φ = (∃ bs : List Bool, xs = [.dat (.list (bs.map PyData.bool))] ∧ Φ (.dat (.bool (bs.any id))) M) := propext Iff.rfl
theorem HZ  (xs : List DV) (M : Mp) (Φ : DK) : N0 xs M Φ = (on1 xs fun x => onB x fun b => Φ (.dat (.int (if b = true then 1 else 0))) M) := propext Iff.rfl
theorem Zbo (i j : Nat) (ta : DTA) (D : Qy) (Δ : DSt) (M : Mp) : Zfl i j ta D Δ M = (ta Δ M fun xs M1 => on2 xs fun x y => D.nx ((Δ.set i (some x)).set j (some y)) M1) := propext Iff.rfl
theorem L5  (x : DV) (y : DV) (M : Mp) (Φ : DK) : N9 x y M Φ = (onK x M fun ds => onK y M fun es => ds.length + es.length ≤ sizeLine ∧ Φ (.dat (.list (ds ++ es))) M) := propext Iff.rfl
theorem Zar (te : DTE) (tl th : DTO) (Δ : DSt) (M : Mp) (Φ : DK) : ZeL te tl th Δ M Φ = (te Δ M fun x M1 => tl Δ M1 fun l M2 => th Δ M2 fun u M3 => onK x M3 fun ds => Φ (.dat (.list (cutD ds l u))) M3) := propext Iff.rfl
theorem DR (ta : DTA) (Δ : DSt) (M : Mp) (Φ : DK) : Ra ta Δ M Φ = (ta Δ M fun xs M1 => on2 xs fun x y => onI x fun i => onI y fun j => (InR i ∧ InR j) ∧ (j - i).toNat ≤ 16777216 ∧ Φ (.dat (.list (WC i (j - i).toNat))) M1) := propext Iff.rfl
theorem TF (i : Nat) (te : DTE) (f : Int → Int → Int) (D : Qy) (Δ : DSt) (M : Mp) : Zf0 i te f D Δ M = (onV Δ[i]? fun z => onI z fun a => te Δ M fun x M1 => onI x fun b => D.nx (Δ.set i (some (.dat (.int (f a b))))) M1) := propext Iff.rfl
theorem L3  (xs : List DV) (M : Mp) (Φ : DK) : Zas xs M Φ = (∃ qs : List (Int × Int), xs = [.dat (.list (qs.map prD))] ∧ 0 < qs.length ∧ ∀ q ∈ qs, (∀ r ∈ qs, ltP r q = false) → Φ (.dat (prD q)) M) := propext Iff.rfl
theorem Fm  (z0 : DSt) (M : Mp) (Φ : DK) : RR z0 M Φ = (∀ p, M p = none → Φ (.own p) (Z1 M p (.dct []))) := propext Iff.rfl
theorem RS (td : DTE) (ta : DTA) (tv : DTE) (D : Qy) (Δ : DSt) (M : Mp) : ZcC td ta tv D Δ M = (tv Δ M fun x M1 => td Δ M1 fun y M2 => ta Δ M2 fun zs M3 => onD x fun _ => onO y fun l => on2 zs fun p q => onI p fun i => onI q fun j => Pc (M3 l) fun ks => ks.length < sizeLine ∧ D.nx Δ (Z1 M3 l (.dct (ZeI ks (kP i j))))) := propext Iff.rfl
theorem LD (i j : Int) (P : Int → Int → Prop) : onP (.dat (.tuple [.int i, .int j])) P = P i j := propext Iff.rfl
theorem ON  (x : DV) (y : DV) (M : Mp) (Φ : DK) : Zdc x y M Φ = (onP x fun i j => onO y fun l => Pc (M l) fun ks => Φ (.dat (.bool (Zcj ks (kP i j)))) M) := propext Iff.rfl
theorem Pj (te ts : DTE) (Δ : DSt) (M : Mp) (Φ : DK) : Zco te ts Δ M Φ = (te Δ M fun x M1 => ts Δ M1 fun y M2 => onT x fun ds => onI y fun i => i = -1 ∧ Φ (.dat (.tuple ds.reverse)) M2) := propext Iff.rfl
theorem O3 (te : DTE) (tl th : DTO) (Δ : DSt) (M : Mp) (Φ : DK) : Zcp te tl th Δ M Φ = (te Δ M fun x M1 => tl Δ M1 fun l M2 => th Δ M2 fun u M3 => onT x fun ds => Φ (.dat (.tuple (cutD ds l u))) M3) := propext Iff.rfl
theorem LU (ds : List PyData) (M : Mp) (Φ : DK) : Zb2 (.dat (.list ds)) M Φ = Φ (.dat (.list ds)) M := propext Iff.rfl
theorem HR (l : Addr) (M : Mp) (Φ : DK) : Zb2 (.own l) M Φ = J1 (M l) fun ds => Φ (.dat (.list ds)) (YQ M l) := propext Iff.rfl
theorem Ru (t : DTE) (Δ : DSt) (M : Mp) (Φ : DK) : Zcq t Δ M Φ = (t Δ M fun x M1 => Zb2 x M1 Φ) := propext Iff.rfl
theorem ZaJ (src : Xw) (Δ : DSt) (M : Mp) (Ψ : List PyData → Mp → Prop) : Zc3 src Δ M Ψ = (∃ Ψ', src Δ M Ψ' ∧ ∀ ds M1, Ψ' ds M1 → Ψ ds M1) := propext Iff.rfl
theorem LB (ow : Bool) (src : Xw) (ix : List (Option Nat)) (g : DTG) (tc : DTT) (te : DTE) (Δ : DSt) (M : Mp) (Φ : DK) : BP ow src ix g tc te Δ M Φ = (src Δ M fun ds M1 => ds.length ≤ sizeLine ∧ Q4 g tc te (Dc ix Δ) (BG ow Φ) ds [] M1) := propext Iff.rfl
theorem Mi (tc : DTT) (tb : DTS) (D : Qy) (Δ : DSt) (M : Mp) : T4 tc tb D Δ M = (∃ J : Nat → DSt → Mp → Prop, (∃ m, J m Δ M) ∧ ∀ n Δ M, J n Δ M → tc Δ M fun b M1 => if b = true then tb { D with nx := fun Δ' M' => ∃ m, m < n ∧ J m Δ' M', ct := fun Δ' M' => ∃ m, m < n ∧ J m Δ' M', bk := D.nx } Δ M1 else D.nx Δ M1) := propext Iff.rfl
theorem Za5 (to : DTE) (Δ : DSt) (M : Mp) (Φ : DK) : ZfG to Δ M Φ = (to Δ M fun x M1 => onO x fun l => ∃ ds d, M1 l = some (.lst (ds ++ [d])) ∧ Φ (.dat d) (Z1 M1 l (.lst ds))) := propext Iff.rfl
theorem LV (P : Prop) : onN (.dat .none) P = P := propext Iff.rfl
theorem RD (b : Bool) (x : DV) (y : DV) (M : Mp) (Φ : DK) : Zc8 b x y M Φ = (onD x fun d => onN y <| Φ (.dat (.bool (isNone d != b))) M) := propext Iff.rfl
theorem DX  (x : DV) (y : DV) (M : Mp) (Φ : DK) : Pd x y M Φ = (onD x fun d => onW y fun ds => okIn d ds = true ∧ Φ (.dat (.bool (!(ds.any fun e => PyData.eqv e d)))) M) := propext Iff.rfl
theorem CO  (x : DV) (y : DV) (M : Mp) (Φ : DK) : Lv x y M Φ = (onP x fun i j => onO y fun l => Pc (M l) fun ks => Φ (.dat (.bool (!Zcj ks (kP i j)))) M) := propext Iff.rfl
end DL
namespace DL
open PySem PySem.Spec PyProof.Rows L2
noncomputable def Dh (x : Str) (lo hi : Option Int) : Str := ⟨((x.cps.toList.drop (HT.sIx x.length 0 lo)).take (HT.sIx x.length x.length hi - HT.sIx x.length 0 lo)).toArray⟩
theorem WM (v : Int) (n d : Nat) : max 0 (min (if v < 0 then v + (n : Int) else v) (n : Int)) = ((HT.sIx n d (some v) : Nat) : Int) := by
 rw [← HT.Gs v n d]
 split <;> omega
theorem idx_eq (lo hi : Option Int) (n : Nat) : Builtin.Str.strSliceIndices lo hi 1 n = Builtin.Str.strSliceIndices (some ((HT.sIx n 0 lo : Nat) : Int)) (some ((HT.sIx n n hi : Nat) : Int)) 1 n := by
 have l1 := HT.K3 n 0 (Nat.zero_le n) lo
 have l2 := HT.K3 n n (Nat.le_refl n) hi
 have e : ∀ a : Nat, a ≤ n → max 0 (min (if (a : Int) < 0 then (a : Int) + (n : Int) else (a : Int)) (n : Int)) = (a : Int) := fun a ha => by
  rw [if_neg (by omega)]
  omega
 unfold Builtin.Str.strSliceIndices
 simp only [show ((1 : Int) > 0) = True from by simp, if_true]
 rw [e _ l1, e _ l2]
 cases lo with
 | none =>
  cases hi with
  | none => rfl
  | some v => simp only [WM v n n]; rfl
 | some u =>
  cases hi with
  | none => simp only [WM u n 0]; rfl
  | some v => simp only [WM u n 0, WM v n n]
theorem R7 {a b n : Nat} (h : b < a) (ha : a ≤ n) : Builtin.Str.strSliceIndices (some (a : Int)) (some (b : Int)) 1 n = [] := by
 unfold Builtin.Str.strSliceIndices sliceRange
 simp only [show ((1 : Int) > 0) = True from by simp, if_true]
 rw [if_neg (show ¬ ((a : Int) < 0) by omega), if_neg (show ¬ ((b : Int) < 0) by omega), if_neg (by omega)]
 rfl
theorem Ez (x : Str) (lo hi : Option Int) : Txt.slice x lo hi = Dh x lo hi := by
 have l1 := HT.K3 x.length 0 (Nat.zero_le _) lo
 have l2 := HT.K3 x.length x.length (Nat.le_refl _) hi
 have hl : x.cps.toList.length = x.length := by simp [Str.length]
 unfold Txt.slice
 rw [idx_eq]
 unfold Dh
 generalize HT.sIx x.length 0 lo = a at *
 generalize HT.sIx x.length x.length hi = b at *
 by_cases h : a ≤ b
 ·rw [StrLaws.sliced_plain x h l2, StrLaws.strSliceIndices_plain h l2]
  split
  ·rename_i q
   have q' : b - a = x.length := by simpa using q
   have a0 : a = 0 := by omega
   subst a0
   apply Str.ext'
   rw [List.drop_zero, List.take_of_length_le (by omega)]
  ·rfl
 ·rw [R7 (by omega) l1, show b - a = 0 by omega]
  split
  ·rename_i q
   have q' : x.length = 0 := by
    have : 0 = x.length := by simpa using q
    omega
   apply Str.ext'
   have : x.cps.toList = [] := List.length_eq_zero_iff.mp (by omega)
   rw [List.take_zero]
   exact Array.toList_inj.mp this
  ·simp
section
variable {X : Cx} {a b : Expr} {ta tb : DTE} {pos : Pos}
noncomputable def Zf9 : V → Option Int → Option Int → Hp → VK → Prop := fun x lo hi H Q => ∃ z, x = .str z ∧ z.length ≤ sizeLine ∧ Q (.str (Dh z lo hi)) H
theorem SM : SlR X Zf9 := by
 intro pins s σ H x v vl vu lo hi sl Q I rx hs pl pu h
 obtain ⟨z, rfl, hz, q⟩ := h
 obtain ⟨t, rfl⟩ := rx
 have hlen : (Txt.slice z lo hi).length ≤ sizeLine := Nat.le_trans (Txt.slice_le z lo hi) hz
 have fin : ∀ t' k, EP X pins σ Q (.str (Txt.slice z lo hi) t') { s with toks := k } := fun t' k => by
  rw [Ez]
  exact ⟨.str (Dh z lo hi), H, I.tok _, ⟨_, rfl⟩, q⟩
 refine ⟨"str", _, PySem.F.slot_str_getitem.lookup, typeIs_str s z t, ?_⟩
 cases pl with
 | none => cases pu with
  | none => exact wpAny_getItem_str_slice (l := none) (u := none) (st := none) hs rfl (post_val_or_str ⟨hlen, fin⟩)
  | int j uj => exact wpAny_getItem_str_slice (l := none) (u := some (j, uj)) (st := none) hs rfl (post_val_or_str ⟨hlen, fin⟩)
 | int i ui => cases pu with
  | none => exact wpAny_getItem_str_slice (l := some (i, ui)) (u := none) (st := none) hs rfl (post_val_or_str ⟨hlen, fin⟩)
  | int j uj => exact wpAny_getItem_str_slice (l := some (i, ui)) (u := some (j, uj)) (st := none) hs rfl (post_val_or_str ⟨hlen, fin⟩)
noncomputable def Ze8 (te : DTE) (tl th : DTO) : DTE := fun Δ M Φ => te Δ M fun x M1 => tl Δ M1 fun l M2 => th Δ M2 fun u M3 => onS x fun s => s.length ≤ sizeLine ∧ Φ (.dat (.str (Dh s l u))) M3
theorem YC {e : Expr} {te : DTE} {lo hi : Option Expr} {tl th : DTO} {p2 pos : Pos} (he : DE X e te) (hl : DO X lo tl) (hu : DO X hi th) : DE X (.Subscript e (.Slice lo hi none p2) pos) (Ze8 te tl th) := by
 obtain ⟨t1, p1, q1⟩ := he
 obtain ⟨t2, p2, q2⟩ := hl
 obtain ⟨t3, p3, q3⟩ := hu
 refine ⟨_, Wl SM p1 p2 p3, fun σ H Δ M Φ Q r e h k => ?_⟩
 refine q1 σ H Δ M _ _ r e h fun v H1 x M1 r1 st rv hx => ?_
 refine q2 σ H1 Δ M1 _ _ r1 (e.step st) hx fun l H2 M2 r2 st2 hl => ?_
 refine q3 σ H2 Δ M2 _ _ r2 (e.step (st.trans st2)) hl fun u H3 M3 r3 st3 hu => ?_
 replace hu := Z4 hu
 obtain ⟨s, rfl, hz, hu⟩ := hu
 exact ⟨s, rv.str, hz, k.dat r3 (st.trans (st2.trans st3)) (Dt.str _) hu⟩
noncomputable def Tc : D2 := fun x y M Φ => onS x fun s => onI y fun i => s.length ≤ sizeLine ∧ ∃ c, L2.atI s.cps.toList i = some c ∧ Φ (.dat (.str ⟨#[c]⟩)) M
theorem N8 (ha : DE X a ta) (hb : DE X b tb) (hs : Be b := by intro _ _; rfl) : DE X (.Subscript a b pos) (dOp Tc ta tb) := by
 obtain ⟨ta', pa, qa⟩ := ha
 obtain ⟨tb', pb, qb⟩ := hb
 refine ⟨_, ZaB NX pa pb hs, Snd.opn qa qb fun v u H x y M Φ Q r rv ru h k => ?_⟩
 replace h := Z4 h
 obtain ⟨s, rfl, h⟩ := h
 replace h := ZN h
 obtain ⟨i, rfl, hz, c, hc, q⟩ := h
 exact ⟨s, i, c, rv.str, ru.int, hz, hc, k.dat r Step.refl (Dt.str _) q⟩
noncomputable def NW : D2 := fun x y M Φ => onS x fun s => onS y fun t => s.length + t.length ≤ sizeLine ∧ Φ (.dat (.str (s ++ t))) M
theorem Xc : OpD X (binaryOp .Add) NW :=
 ⟨_, C2, fun v u H x y M Φ Q r rv ru h k => by
  replace h := Z4 h
  obtain ⟨s, rfl, h⟩ := h
  replace h := Z4 h
  obtain ⟨t, rfl, hz, q⟩ := h
  exact ⟨s, t, rv.str, ru.str, hz, k.dat r Step.refl (Dt.str _) q⟩⟩
noncomputable def Zd5 (s : Str) (n : Nat) : Str := ⟨((List.replicate n s.cps.toList).flatten).toArray⟩
noncomputable def Te : D2 := fun x y M Φ => onS x fun s => onI y fun i => (1 ≤ i ∧ i ≤ 1000 ∧ s.length ≤ 1000) ∧ Φ (.dat (.str (Zd5 s i.toNat))) M
theorem DY : OpR X (compareOp .LtE) (fun x y H Q => ∃ i j, x = .str i ∧ y = .str j ∧ Q (.bl (!decide (j.cps.toList < i.cps.toList))) H) := by
 intro pins s σ H x y v u Q I rx ry h
 obtain ⟨i, j, rfl, rfl, q⟩ := h
 obtain ⟨t, rfl⟩ := rx
 obtain ⟨t', rfl⟩ := ry
 exact PySem.P.le_str (ZL I q rfl)
noncomputable def Zaz : D2 := fun x y M Φ => onS x fun s => onS y fun t => Φ (.dat (.bool (!decide (t.cps.toList < s.cps.toList)))) M
theorem B6 : OpD X (compareOp .LtE) Zaz :=
 ⟨_, DY, fun v u H x y M Φ Q r rv ru h k => by
  replace h := Z4 h
  obtain ⟨s, rfl, h⟩ := h
  replace h := Z4 h
  obtain ⟨t, rfl, q⟩ := h
  exact ⟨s, t, rv.str, ru.str, k.dat r Step.refl (Dt.bl _) q⟩⟩
noncomputable def Its (x : Str) : It := ⟨fun i _ => i < x.length, fun i H y H' => H' = H ∧ ∃ c, x.cps[i]? = some c ∧ y = .str ⟨#[c]⟩, fun i _ => x.length ≤ i⟩
theorem EN {P : Program} {w : World} {K : PySem.W.Frag} {tg : Expr} (x : Str) (t : Tok) (it : Addr) : Turn P w K tg (Its x) [it] it (fun i h => h.IsStrIter it "str_ascii_iterator" x t i) where
 mem := by simp
 obj := fun i h st b hb => by
  have e : b = it := by simpa using hb
  subst e
  obtain ⟨o, e, c, d⟩ := st
  exact ⟨o, e, fun v z => by rw [d] at z; cases z⟩
 keep := fun i h h' st k => let ⟨o, ho, r⟩ := st; ⟨o, k it (by simp) o ho, r⟩
 item := by
  intro X hP hw hK hc i pins s σ H E I hf st hg
  subst hP hw hK
  have hi : i < x.cps.size := hg
  obtain ⟨f0, f1, f2, f3, f4, f5⟩ := hf it (by simp)
  refine wpAny_pyNext_ascii_item st (c := x.cps[i]) (by simp [hi]) fun h' st' sb => ?_
  have I1 : Inv X pins σ H { s with heap := h', toks := s.toks + 1 } := I.turned (t' := s.toks + 1) (fun b o hb e => (sb.2 b hb).trans e) f0 f1 f3 f4 f5
  obtain ⟨o, e, c, d⟩ := id st'
  exact ⟨_, rfl, DQ (s := { s with heap := h', toks := s.toks + 1 }) e c d (by decide) ⟨.str ⟨#[x.cps[i]]⟩, H, I1, ⟨_, rfl⟩, ⟨rfl, _, by simp [hi], rfl⟩, st', fun b hb => (hf b hb).1⟩⟩
 done := by
  intro X hP hw hK hc i pins s σ H E I hf st hg
  subst hP hw hK
  obtain ⟨f0, f1, f2, f3, f4, f5⟩ := hf it (by simp)
  have hi : x.cps.size ≤ i := hg
  exact wpAny_pyNext_ascii_end (I.ok.hd hc) st (by simp [hi]) fun h' eb => ⟨rfl, I.turned (t' := s.toks) (fun b o hb e => eb b o hb e) f0 f1 f3 f4 f5⟩
 self := fun _ _ _ _ _ st h => wpAny_pyIter_striter_ascii st h
theorem Dv {P : Program} {w : World} {K : PySem.W.Frag} {tg : Expr} (x : Str) (t : Tok) (it : Addr) : Turn P w K tg (Its x) [it] it (fun i h => h.IsStrIter it "str_iterator" x t i) where
 mem := by simp
 obj := fun i h st b hb => by
  have e : b = it := by simpa using hb
  subst e
  obtain ⟨o, e, c, d⟩ := st
  exact ⟨o, e, fun v z => by rw [d] at z; cases z⟩
 keep := fun i h h' st k => let ⟨o, ho, r⟩ := st; ⟨o, k it (by simp) o ho, r⟩
 item := by
  intro X hP hw hK hc i pins s σ H E I hf st hg
  subst hP hw hK
  have hi : i < x.cps.size := hg
  obtain ⟨f0, f1, f2, f3, f4, f5⟩ := hf it (by simp)
  refine wpAny_pyNext_wide_item st (c := x.cps[i]) (by simp [hi]) fun h' st' sb => ?_
  have I1 : Inv X pins σ H { s with heap := h', toks := s.toks + 1 } := I.turned (t' := s.toks + 1) (fun b o hb e => (sb.2 b hb).trans e) f0 f1 f3 f4 f5
  obtain ⟨o, e, c, d⟩ := id st'
  exact ⟨_, rfl, DQ (s := { s with heap := h', toks := s.toks + 1 }) e c d (by decide) ⟨.str ⟨#[x.cps[i]]⟩, H, I1, ⟨_, rfl⟩, ⟨rfl, _, by simp [hi], rfl⟩, st', fun b hb => (hf b hb).1⟩⟩
 done := by
  intro X hP hw hK hc i pins s σ H E I hf st hg
  subst hP hw hK
  obtain ⟨f0, f1, f2, f3, f4, f5⟩ := hf it (by simp)
  have hi : x.cps.size ≤ i := hg
  exact wpAny_pyNext_wide_end (I.ok.hd hc) st (by simp [hi]) fun h' eb => ⟨rfl, I.turned (t' := s.toks) (fun b o hb e => eb b o hb e) f0 f1 f3 f4 f5⟩
 self := fun _ _ _ _ _ st h => wpAny_pyIter_striter_wide st h
noncomputable def Zgs (tl : TE) : TI := fun σ H R => tl σ H fun x H1 => ∃ z, x = .str z ∧ R (Its z) H1
theorem Zak {tg l : Expr} {tl : TE} (hl : PE X l tl) : PI X tg l (Zgs tl) := by
 intro pins s σ H R I h
 refine thn (hl pins s σ H _ I h) fun v s1 ⟨x, H1, I1, r1, q1⟩ => ?_
 obtain ⟨z, e, q⟩ := q1
 subst e
 obtain ⟨t, rfl⟩ := r1
 cases ha : z.cps.all (· < 128)
 ·refine wpAny_pyIter_wide ha ?_
  refine ⟨s1.heap.objs.size, [s1.heap.objs.size], _, _, H1, rfl, I1.kept (t' := s1.toks) fun b o e => Heap.get?_push_of_some _ e, Dv z t _, ⟨_, Heap.get?_push_size _ rfl, rfl, rfl⟩, fun b hb => ?_, q⟩
  have e : b = s1.heap.objs.size := by simpa using hb
  subst e
  exact I1.Se (Nat.le_refl _) (I1.hok.fresh (Nat.le_refl _))
 ·refine wpAny_pyIter_ascii ha ?_
  refine ⟨s1.heap.objs.size, [s1.heap.objs.size], _, _, H1, rfl, I1.kept (t' := s1.toks) fun b o e => Heap.get?_push_of_some _ e, EN z t _, ⟨_, Heap.get?_push_size _ rfl, rfl, rfl⟩, fun b hb => ?_, q⟩
  have e : b = s1.heap.objs.size := by simpa using hb
  subst e
  exact I1.Se (Nat.le_refl _) (I1.hok.fresh (Nat.le_refl _))
noncomputable def Hj (c : Nat) : PyData := .str ⟨#[c]⟩
noncomputable def ZeM (te : DTE) : Xw := fun Δ M Ψ => te Δ M fun x M1 => onS x fun s => Ψ (s.cps.toList.map Hj) M1
theorem Nl {tg iter : Expr} {te : DTE} (he : DE X iter te) : DI X tg iter (ZeM te) := by
 obtain ⟨t, p, q⟩ := he
 refine ⟨_, Zak p, fun σ H Δ M Ψ R dr er h k => ?_⟩
 refine q σ H Δ M _ _ dr er h fun v H1 x M1 r1 st rv hx => ?_
 replace hx := Z4 hx
 obtain ⟨s, rfl, hΨ⟩ := hx
 have hl : (s.cps.toList.map Hj).length = s.length := by simp [Str.length]
 refine ⟨s, rv.str, k _ H1 M1 _ r1 st (fun M2 H2 st2 i => ⟨fun hi => ⟨by rw [hl] at hi; exact hi, fun x H' y => ?_⟩, fun hi => by rw [hl] at hi; exact hi⟩) hΨ⟩
 obtain ⟨e, c, hc, rfl⟩ := y
 subst e
 refine fun r => ⟨r, Step.refl, Hj c, ?_, Dt.str _⟩
 rw [List.getElem?_map, Array.getElem?_toList, hc]
 rfl
noncomputable def Oi : D1 := fun xs M Φ => on1 xs fun x => onS x fun s => s.length ≤ sizeLine ∧ Φ (.dat (.list (s.cps.toList.map Hj))) M
noncomputable def Ti : D1 := fun xs M Φ => on1 xs fun x => onS x fun s => s.length ≤ sizeLine ∧ Φ (.dat (.tuple (s.cps.toList.map Hj))) M
noncomputable def rJoin (K : PySem.W.Frag) : V → List V → Hp → VK → Prop := fun x xs H Q => ∃ z p ss, x = .str z ∧ xs = [.ref p] ∧ SqL K H p (ss.map V.str) ∧ JoinOk z ss = true ∧ Q (.str (Txt.join z ss)) H
theorem FG : ∀ {ss : List Str} {us : List Value}, Vals (ss.map V.str) us → ∃ l : List (Str × Tok), us = strValues l ∧ l.map (·.1) = ss
 | [], _, r => by rw [List.map_nil] at r; cases r; exact ⟨[], rfl, rfl⟩
 | s :: ss, _, r => by
  rw [List.map_cons] at r
  cases r with
  | cons r1 r2 =>
   obtain ⟨t, rfl⟩ := r1
   obtain ⟨l, rfl, e⟩ := FG r2
   exact ⟨(s, t) :: l, rfl, by rw [List.map_cons, e]⟩
theorem P7 : MtR X "str.join" (rJoin X.K) := by
 intro pins s σ H x xs v us Q I rx rs h
 obtain ⟨z, p, ss, rfl, rfl, hq, hj, q⟩ := h
 obtain ⟨t, rfl⟩ := rx
 obtain ⟨u, rfl, ru⟩ := vals1 rs
 cases ru
 obtain ⟨its, rv, pl, hz⟩ := I.list hq
 obtain ⟨l, rfl, hl⟩ := FG rv
 exact SC.join pl.isList hl hj fun t' k => ⟨.str _, H, I.tok _, ⟨_, rfl⟩, q⟩
noncomputable def Zee (ds : List PyData) (P : List Str → Prop) : Prop := ∃ ss, ds = ss.map PyData.str ∧ P ss
noncomputable def T8 (to te : DTE) : DTE := fun Δ M Φ => to Δ M fun x M1 => onS x fun z => te Δ M1 fun y M2 => onK y M2 fun ds => Zee ds fun ss => JoinOk z ss = true ∧ Φ (.dat (.str (Txt.join z ss))) M2
theorem Y9 {K : PySem.W.Frag} {M : Mp} {H : Hp} : ∀ {vs : List V} {ss : List Str}, Dts K M H vs (ss.map PyData.str) → vs = ss.map V.str
 | vs, [], h => by
  rw [List.map_nil] at h
  cases h
  rfl
 | vs, n :: ns, h => by
  rw [List.map_cons] at h
  cases h with
  | cons h1 h2 =>
   cases h1
   rw [Y9 h2, List.map_cons]
theorem Vv {o e : Expr} {to te : DTE} {apos cpos : Pos} (ho : DE X o to) (he : DE X e te) (hbase : attributeBase o "join" X.env (eval o X.env) = eval o X.env := by rfl)
  (hfew : ((backTo cpos (starEach [e] X.env)).all (fun x => !x.1) && (backToKw cpos (keywordEach [] X.env)).all (fun x => x.1.isSome)
   && decide ([e].length + ([] : List Keyword).length + (if ([] : List Keyword).isEmpty then 0 else 1) < 30)) = true := by rfl)
  (hline : (apos.endLine == cpos.line) = true := by rfl) (hs : starEach [e] X.env = (false, eval e X.env) :: starEach [] X.env := by rfl) (hplain : (backTo cpos (starEach [] X.env)).any (·.1) = false := by rfl) :
  DE X (.Call (.Attribute o "join" apos) [e] [] cpos) (T8 to te) := by
 obtain ⟨t1, p1, q1⟩ := ho
 obtain ⟨t2, p2, q2⟩ := he
 refine ⟨_, DN PySem.F.plainAttrs_str PySem.F.slot_str_join PySem.F.type_str_join P7 p1 (Y7 p2 We hs) hbase hfew hline hs hplain, fun σ H Δ M Φ Q r e h k => ?_⟩
 refine q1 σ H Δ M _ _ r e h fun v H1 x M1 r1 st rv hx => ?_
 replace hx := Z4 hx
 obtain ⟨z, rfl, hx⟩ := hx
 cases rv.str
 refine ⟨rfl, q2 σ H1 Δ M1 _ _ r1 (e.step st) hx fun w H2 y M2 r2 st2 rw2 hy => ?_⟩
 replace hy := Wc hy
 obtain ⟨ds, hd, ss, rfl, hj, hy⟩ := hy
 replace hd : N6 y M2 (ss.map PyData.str) := hd
 obtain ⟨a, xs, rfl, h1, h2⟩ := hd.sq r2 rw2
 cases Y9 h2
 exact ⟨z, a, ss, rfl, rfl, h1, hj, k.dat r2 (st.trans st2) (Dt.str _) hy⟩
noncomputable def rUp : V → List V → Hp → VK → Prop := fun x xs H Q => ∃ z, x = .str z ∧ xs = [] ∧ z.length ≤ 1000 ∧ Q (.str (Txt.upper z)) H
noncomputable def SA (to : DTE) : DTE := fun Δ M Φ => to Δ M fun x M1 => onS x fun z => z.length ≤ 1000 ∧ Φ (.dat (.str (Txt.upper z))) M1
end
theorem SU (te : DTE) (tl th : DTO) (Δ : DSt) (M : Mp) (Φ : DK) : Ze8 te tl th Δ M Φ = (te Δ M fun x M1 => tl Δ M1 fun l M2 => th Δ M2 fun u M3 => onS x fun s => s.length ≤ sizeLine ∧ Φ (.dat (.str (Dh s l u))) M3) := propext Iff.rfl
theorem RK (x y : DV) (M : Mp) (Φ : DK) : Tc x y M Φ = (onS x fun s => onI y fun i => s.length ≤ sizeLine ∧ ∃ c, L2.atI s.cps.toList i = some c ∧ Φ (.dat (.str ⟨#[c]⟩)) M) := propext Iff.rfl
theorem L8 (x y : DV) (M : Mp) (Φ : DK) : NW x y M Φ = (onS x fun s => onS y fun t => s.length + t.length ≤ sizeLine ∧ Φ (.dat (.str (s ++ t))) M) := propext Iff.rfl
theorem LL (x y : DV) (M : Mp) (Φ : DK) : Te x y M Φ = (onS x fun s => onI y fun i => (1 ≤ i ∧ i ≤ 1000 ∧ s.length ≤ 1000) ∧ Φ (.dat (.str (Zd5 s i.toNat))) M) := propext Iff.rfl
theorem RG (x y : DV) (M : Mp) (Φ : DK) : Zaz x y M Φ = (onS x fun s => onS y fun t => Φ (.dat (.bool (!decide (t.cps.toList < s.cps.toList)))) M) := propext Iff.rfl
theorem Zbe (te : DTE) (Δ : DSt) (M : Mp) (Ψ : List PyData → Mp → Prop) : ZeM te Δ M Ψ = (te Δ M fun x M1 => onS x fun s => Ψ (s.cps.toList.map Hj) M1) := propext Iff.rfl
theorem Ds (xs : List DV) (M : Mp) (Φ : DK) : Oi xs M Φ = (on1 xs fun x => onS x fun s => s.length ≤ sizeLine ∧ Φ (.dat (.list (s.cps.toList.map Hj))) M) := propext Iff.rfl
theorem MT (xs : List DV) (M : Mp) (Φ : DK) : Ti xs M Φ = (on1 xs fun x => onS x fun s => s.length ≤ sizeLine ∧ Φ (.dat (.tuple (s.cps.toList.map Hj))) M) := propext Iff.rfl
theorem PF (to te : DTE) (Δ : DSt) (M : Mp) (Φ : DK) : T8 to te Δ M Φ = (to Δ M fun x M1 => onS x fun z => te Δ M1 fun y M2 => onK y M2 fun ds => Zee ds fun ss => JoinOk z ss = true ∧ Φ (.dat (.str (Txt.join z ss))) M2) := propext Iff.rfl
theorem MO (to : DTE) (Δ : DSt) (M : Mp) (Φ : DK) : SA to Δ M Φ = (to Δ M fun x M1 => onS x fun z => z.length ≤ 1000 ∧ Φ (.dat (.str (Txt.upper z))) M1) := propext Iff.rfl
theorem str_len (s : Str) : s.cps.toList.length = s.length := by simp [Str.length]
theorem add_list (s t : Str) : (s ++ t).cps.toList = s.cps.toList ++ t.cps.toList := by rw [Str.cps_append, Array.toList_append]
theorem Bh (s t : Str) : (s ++ t).length = s.length + t.length := Str.length_append s t
theorem XF (c : Nat) : (⟨#[c]⟩ : Str).cps.toList = [c] := rfl
theorem GS (c : Nat) : (⟨#[c]⟩ : Str).length = 1 := rfl
theorem B7 (s : Str) (lo hi : Option Int) : (Dh s lo hi).cps.toList = (s.cps.toList.drop (HT.sIx s.length 0 lo)).take (HT.sIx s.length s.length hi - HT.sIx s.length 0 lo) := rfl
theorem Gr {s : Str} {lo hi : Option Int} {c : Nat} (h : c ∈ (Dh s lo hi).cps.toList) : c ∈ s.cps.toList := by
 rw [B7] at h
 exact List.mem_of_mem_drop (List.mem_of_mem_take h)
theorem Bc (s : Str) (lo hi : Option Int) : (Dh s lo hi).length = HT.sIx s.length s.length hi - HT.sIx s.length 0 lo := by
 have l1 := HT.K3 s.length s.length (Nat.le_refl _) hi
 rw [← str_len, B7, List.length_take, List.length_drop, str_len]
 omega
theorem BW {n d : Nat} {i : Int} (h0 : 0 ≤ i) : HT.sIx n d (some i) = min i.toNat n := by
 obtain ⟨k, rfl⟩ := Int.eq_ofNat_of_zero_le h0
 rw [HT.PU]
 rfl
theorem join_list : ∀ ss : List Str, (Txt.join (Str.ofString "") ss).cps.toList = (ss.map (·.cps.toList)).flatten := by
 have e0 : (Str.ofString "").cps.toList = [] := by decide +kernel
 have go : ∀ ss : List Str, (Str.join (Str.ofString "") ss).cps.toList = (ss.map (·.cps.toList)).flatten := fun ss => by
  induction ss with
  | nil => rfl
  | cons s ss ih =>
   cases ss with
   | nil => simp [Str.join]
   | cons t ss =>
    rw [Str.join, add_list, add_list, e0, ih]
    ·simp
    ·simp
 intro ss
 have : Txt.join (Str.ofString "") ss = Str.join (Str.ofString "") ss := by
  exact StrLaws.glued_eq_join _ _
 rw [this, go]
theorem Fb {sep : Str} {ss : List Str} {B : Nat} (hB : ∀ y ∈ ss, y.length ≤ B) (h : ss.length * B + ss.length * sep.length ≤ 16777216) : JoinOk sep ss = true := by
 unfold JoinOk
 rw [StrLaws.joinFits hB h]
 rfl
end DL
namespace DL
open PySem PySem.Spec PyProof.Rows L2 PySem.W
section
variable {n : Nat} {lt : Nat → Nat → Bool}
noncomputable def KOk (n : Nat) (lt : Nat → Nat → Bool) {α : Type} : KasT α → (α → Prop) → Prop
 | .ret a, Q => Q a
 | .ask i j k, Q => i < n ∧ j < n ∧ i ≠ j ∧ KOk n lt (k (lt i j)) Q
theorem KOk.wp {cmp : Nat → Nat → (Bool → Shared → Prop) → Shared → Prop} {S : Shared → Prop} (hc : ∀ i j, i < n → j < n → i ≠ j → ∀ s, S s → ∀ C : Bool → Shared → Prop, (∀ s', S s' → C (lt i j) s') → cmp i j C s) {α : Type} {Q : α → Prop} {R : α → Shared → Prop}
  (hq : ∀ a s, Q a → S s → R a s) : ∀ {t : KasT α} {s : Shared}, KOk n lt t Q → S s → t.kasWp cmp R s
 | .ret _, _, h, hs => hq _ _ h hs
 | .ask i j k, s, h, hs => hc i j h.1 h.2.1 h.2.2.1 s hs _ fun s' hs' => KOk.wp hc hq (t := k (lt i j)) h.2.2.2 hs'
noncomputable def Le (lt : Nat → Nat → Bool) (a b : Nat) : Prop := lt b a = false
structure Ord (lt : Nat → Nat → Bool) : Prop where
 asym : ∀ a b, lt a b = true → lt b a = false
 tran : ∀ a b c, Le lt a b → Le lt b c → Le lt a c
theorem Ord.refl (o : Ord lt) (a : Nat) : Le lt a a := by
 unfold Le
 cases h : lt a a with
 | false => rfl
 | true => have := o.asym a a h; rw [h] at this; cases this
noncomputable abbrev at' (p : Array Nat) (k : Nat) : Nat := p.getD k 0
noncomputable def Up (lt : Nat → Nat → Bool) (p : Array Nat) (m : Nat) : Prop := ∀ i j, i ≤ j → j < m → Le lt (at' p i) (at' p j)
noncomputable def Dn (lt : Nat → Nat → Bool) (p : Array Nat) (m : Nat) : Prop := ∀ i j, i ≤ j → j < m → Le lt (at' p j) (at' p i)
noncomputable def Pm (n : Nat) (p : Array Nat) : Prop := p.Perm (List.range n).toArray
theorem Pm.size {p : Array Nat} (h : Pm n p) : p.size = n := by
 have := h.size_eq
 simpa using this
theorem Ec {α : Type} {l : List α} (nd : l.Nodup) {a b : Nat} (ha : a < l.length) (hb : b < l.length) (z : l[a] = l[b]) : a = b := by
 have pw := List.pairwise_iff_getElem.mp nd
 by_cases h1 : a < b
 ·exact absurd z (pw a b ha hb h1)
 ·by_cases h2 : b < a
  ·exact absurd z.symm (pw b a hb ha h2)
  ·omega
theorem Pm.inj {p : Array Nat} (h : Pm n p) {a b : Nat} (ha : a < n) (hb : b < n) (hn : a ≠ b) : at' p a ≠ at' p b := by
 have hs := h.size
 have e : ∀ k, (hk : k < n) → at' p k = p.toList[k]'(by simpa [hs] using hk) := fun k hk => by simp [at', hs, hk]
 have nd : p.toList.Nodup := by
  have := Array.perm_iff_toList_perm.mp h
  exact this.nodup_iff.mpr List.nodup_range
 rw [e a ha, e b hb]
 exact fun z => hn (Ec nd _ _ z)
noncomputable def Blk (lt : Nat → Nat → Bool) (p : Array Nat) (m q : Nat) : Prop := ∀ i j, m - (q + 1) ≤ i → i < m → m - (q + 1) ≤ j → j < m → Le lt (at' p i) (at' p j)
noncomputable def Cnt (n : Nat) (lt : Nat → Nat → Bool) (r : Nat × Array Nat) : Prop := Pm n r.2 ∧ r.1 ≤ n ∧ Up lt r.2 r.1
end
end DL
namespace DL
open PySem PySem.Spec PyProof.Rows L2 PySem.W
section
variable {prog : Program} {w : World} {A : Around} {E : Value → Shared → Prop} {s : Shared} {lt : Nat → Nat → Bool}
noncomputable abbrev Zf1 (vs : List Value) (q : Array Nat) : Array Value := List.toArray (q.toList.map fun i => vs.getD i Value.none)
end
noncomputable def Zci : PyData → Option Str
 | .tuple (.str s :: _) => some s
 | _ => none
noncomputable def ltK (ks : List Str) (i j : Nat) : Bool := decide ((ks.getD i Str.empty).cps.toList < (ks.getD j Str.empty).cps.toList)
section
variable {X : Cx}
noncomputable def ZeW (K : PySem.W.Frag) : List V → Hp → VK → Prop := fun xs H Q => ∃ (p : Addr) (M : Mp) (vs : List V) (ds : List PyData) (ks : List Str), xs = [.ref p] ∧ SqL K H p vs ∧ Dts K M H vs ds ∧ ds.map Zci = ks.map some ∧ ks.Nodup ∧ ds.length < 64 ∧
 ∀ q, Pm ds.length q → Up (ltK ks) q ds.length → ∀ l, H l = none → Q (.ref l) (upd H l (.lst (q.toList.map fun i => vs.getD i .non)))
noncomputable def leK (a b : PyData) : Prop := ∀ s t, Zci a = some s → Zci b = some t → ¬ t.cps.toList < s.cps.toList
noncomputable def Zcs : D1 := fun xs M Φ => on1 xs fun x => onK x M fun ds => ∃ ks : List Str, ds.map Zci = ks.map some ∧ ks.Nodup ∧ ds.length < 64 ∧ ∀ ds' : List PyData, ds'.Perm ds → ds'.Pairwise leK → Φ (.dat (.list ds')) M
end
end DL
namespace DL
open PySem PySem.Spec PyProof.Rows L2 PySem.W
section
variable {prog : Program} {w : World} {A : Around} {E : Value → Shared → Prop} {s : Shared}
noncomputable def LAt (a : Addr) (h : Heap) : Prop := ∃ xs n sl, h.get? a = some { cls := .type "list", data := .seq xs n, slots := sl }
variable {K : Type} [DecidableEq K] {knd : KeyKind prog w K}
noncomputable def Zfs (h : Heap) (v key val : Value) : Prop := ∃ a o c, v = .ref a ∧ h.get? a = some o ∧ o.cls = .type "tuple" ∧ o.data = .seq #[key, val] c
end
section
variable {X : Cx}
noncomputable def V2 (K : PySem.W.Frag) (H : Hp) (v : V) (p : Key × V) : Prop := ∃ a, v = .ref a ∧ SqT K H a [kV p.1, p.2]
noncomputable def Zey (K : PySem.W.Frag) : List V → Hp → VK → Prop := fun xs H Q => ∃ (a : Addr) (vs : List V) (ps : List (Key × V)), xs = [.ref a] ∧ SqL K H a vs ∧ vs.length = ps.length ∧ (∀ (j : Nat) (p : Key × V), ps[j]? = some p → ∃ v, vs[j]? = some v ∧ V2 K H v p) ∧
 ∀ l, H l = none → Q (.ref l) (upd H l (.dK (ps.foldl (fun m p => putK m p.1 p.2) [])))
end
end DL
namespace DL
open PySem PySem.Spec PyProof.Rows L2
noncomputable def WZ (o : Option OO) (P : List (Key × PyData) → Prop) : Prop := match o with | some (.dkv ps) => P ps | _ => False
theorem Pq {o : Option OO} {P : List (Key × PyData) → Prop} (h : WZ o P) : ∃ ps, o = some (.dkv ps) ∧ P ps := by
 unfold WZ at h
 split at h
 ·exact ⟨_, rfl, h⟩
 ·exact h.elim
noncomputable def Js (ps : List (Key × PyData)) (k : Key) : Option PyData := (ps.find? fun kv => decide (kv.1 = k)).map (·.2)
noncomputable def Mr (ps : List (Key × PyData)) (k : Key) (d : PyData) : List (Key × PyData) := if (ps.any fun kv => decide (kv.1 = k)) = true then ps.map (fun kv => if kv.1 = k then (kv.1, d) else kv) else ps ++ [(k, d)]
section
variable {K : PySem.W.Frag} {M : Mp} {H : Hp}
inductive KD (K : PySem.W.Frag) (M : Mp) (H : Hp) : List (Key × V) → List (Key × PyData) → Prop
 | nil : KD K M H [] []
 | cons {k : Key} {v : V} {d : PyData} {kvs : List (Key × V)} {ps : List (Key × PyData)} : Dt K M H v d → KD K M H kvs ps → KD K M H ((k, v) :: kvs) ((k, d) :: ps)
theorem KD.of : ∀ {kvs : List (Key × V)} {ps : List (Key × PyData)}, kvs.map (·.1) = ps.map (·.1) → Dts K M H (kvs.map (·.2)) (ps.map (·.2)) → KD K M H kvs ps
 | [], [], _, _ => .nil
 | [], _ :: _, h, _ => by simp at h
 | _ :: _, [], h, _ => by simp at h
 | (k, v) :: kvs, (k', d) :: ps, h, hd => by
  rw [List.map_cons, List.map_cons, List.cons.injEq] at h
  cases (show k = k' from h.1)
  cases hd with
  | cons h1 h2 => exact .cons h1 (KD.of h.2 h2)
theorem KD.keys : ∀ {kvs : List (Key × V)} {ps : List (Key × PyData)}, KD K M H kvs ps → kvs.map (·.1) = ps.map (·.1)
 | _, _, .nil => rfl
 | _, _, .cons _ h => by rw [List.map_cons, List.map_cons, h.keys]
theorem KD.vals : ∀ {kvs : List (Key × V)} {ps : List (Key × PyData)}, KD K M H kvs ps → Dts K M H (kvs.map (·.2)) (ps.map (·.2))
 | _, _, .nil => .nil
 | _, _, .cons h1 h => .cons h1 h.vals
theorem KD.any (k : Key) : ∀ {kvs : List (Key × V)} {ps : List (Key × PyData)}, KD K M H kvs ps → (kvs.any fun kv => decide (kv.1 = k)) = ps.any fun kv => decide (kv.1 = k)
 | _, _, .nil => rfl
 | _, _, .cons _ h => by rw [List.any_cons, List.any_cons, h.any k]
theorem KD.snoc {k : Key} {v : V} {d : PyData} (hd : Dt K M H v d) : ∀ {kvs : List (Key × V)} {ps : List (Key × PyData)}, KD K M H kvs ps → KD K M H (kvs ++ [(k, v)]) (ps ++ [(k, d)])
 | _, _, .nil => .cons hd .nil
 | _, _, .cons h1 h => .cons h1 (h.snoc hd)
theorem KD.O2 (k : Key) {v : V} {d : PyData} (hd : Dt K M H v d) : ∀ {kvs : List (Key × V)} {ps : List (Key × PyData)}, KD K M H kvs ps → KD K M H (kvs.map fun kv => if kv.1 = k then (kv.1, v) else kv) (ps.map fun kv => if kv.1 = k then (kv.1, d) else kv)
 | _, _, .nil => .nil
 | _, _, .cons (k := k') h1 h => by
  rw [List.map_cons, List.map_cons]
  by_cases e : k' = k
  ·rw [if_pos e, if_pos e]
   exact .cons hd (h.O2 k hd)
  ·rw [if_neg e, if_neg e]
   exact .cons h1 (h.O2 k hd)
theorem KD.put (k : Key) {v : V} {d : PyData} (hd : Dt K M H v d) {kvs : List (Key × V)} {ps : List (Key × PyData)} (h : KD K M H kvs ps) : KD K M H (putK kvs k v) (Mr ps k d) := by
 unfold putK Mr
 rw [h.any k]
 split
 ·exact h.O2 k hd
 ·exact h.snoc hd
theorem KD.val (k : Key) : ∀ {kvs : List (Key × V)} {ps : List (Key × PyData)}, KD K M H kvs ps → (Wb kvs k = none ∧ Js ps k = none) ∨ ∃ v d, Wb kvs k = some v ∧ Js ps k = some d ∧ Dt K M H v d
 | _, _, .nil => .inl ⟨rfl, rfl⟩
 | _, _, .cons (k := k') (v := v) (d := d) h1 h => by
  unfold Wb Js
  by_cases e : k' = k
  ·rw [List.find?_cons_of_pos (by simpa using e), List.find?_cons_of_pos (by simpa using e)]
   exact .inr ⟨v, d, rfl, rfl, h1⟩
  ·rw [List.find?_cons_of_neg (by simpa using e), List.find?_cons_of_neg (by simpa using e)]
   exact h.val k
theorem KD.length {kvs : List (Key × V)} {ps : List (Key × PyData)} (h : KD K M H kvs ps) : kvs.length = ps.length := by
 have := congrArg List.length h.keys
 simpa using this
theorem ZW.dk (r : ZW K M H) {a : Addr} {ps : List (Key × PyData)} (h : M a = some (.dkv ps)) : ∃ kvs, H a = some (.dK kvs) ∧ KD K M H kvs ps := by
 obtain ⟨kvs, e1, e2, e3⟩ := r.ok a _ h
 exact ⟨kvs, e1, .of e2 e3⟩
theorem ZW.ZdF (r : ZW K M H) {p : Addr} {kvs : List (Key × V)} {ps : List (Key × PyData)} (st : Step M H (Z1 M p (.dkv ps)) (upd H p (.dK kvs))) (h : KD K M H kvs ps) : ZW K (Z1 M p (.dkv ps)) (upd H p (.dK kvs)) :=
 r.Nv st ⟨kvs, JL, h.keys, h.vals.step st⟩
end
section
variable {X : Cx} {o i e value : Expr} {td ti te tv : DTE} {pos pos' : Pos}
noncomputable def Zc6 : DTE := fun _ M Φ => ∀ p, M p = none → Φ (.own p) (Z1 M p (.dkv []))
noncomputable def Zfn (td ti tv : DTE) : DTS := fun D Δ M => tv Δ M fun x M1 => td Δ M1 fun y M2 => ti Δ M2 fun z M3 => onD x fun d => onO y fun l => onS z fun s => WZ (M3 l) fun ps => ps.length < sizeLine ∧ D.nx Δ (Z1 M3 l (.dkv (Mr ps (.inr s) d)))
theorem KD.some {K : PySem.W.Frag} {M : Mp} {H : Hp} {kvs : List (Key × V)} {ps : List (Key × PyData)} (h : KD K M H kvs ps) (k : Key) : (Wb kvs k).isSome = (Js ps k).isSome := by
 rcases h.val k with ⟨a, b⟩ | ⟨v, d, a, b, _⟩
 ·rw [a, b]; rfl
 ·rw [a, b]; rfl
noncomputable def Zfh (neg : Bool) : D2 := fun x y M Φ => onS x fun s => onO y fun l => WZ (M l) fun ps => Φ (.dat (.bool ((Js ps (.inr s)).isSome != neg))) M
noncomputable def Sw (td ti : DTE) : DTE := fun Δ M Φ => td Δ M fun x M1 => ti Δ M1 fun y M2 => onO x fun l => onS y fun s => WZ (M2 l) fun ps => ∃ d, Js ps (.inr s) = some d ∧ Φ (.dat d) M2
theorem Jw {k : Nat} (hr : Yr k X.A) (ho : DE X o td) (hi : DE X i ti) (hs : Zdt i := by intro _ _; rfl) : DE X (.Subscript o i pos) (Sw td ti) := by
 obtain ⟨t1, p1, q1⟩ := ho
 obtain ⟨t2, p2, q2⟩ := hi
 refine ⟨_, Ro (by have := hr.un; omega) p1 p2 hs, fun σ H Δ M Φ Q r e h k => ?_⟩
 refine q1 σ H Δ M _ _ r e h fun v H1 x M1 r1 st1 rv hx => ?_
 refine q2 σ H1 Δ M1 _ _ r1 (e.step st1) hx fun w H2 y M2 r2 st2 rw2 hy => ?_
 replace hy := Qd hy
 obtain ⟨l, rfl, hy⟩ := hy
 replace hy := Z4 hy
 obtain ⟨s, rfl, hy⟩ := hy
 replace hy := Pq hy
 obtain ⟨ps, hm, d, hd, q⟩ := hy
 cases (show v = .ref l from rv)
 cases rw2.str
 obtain ⟨kvs, g1, g2⟩ := r2.dk hm
 rcases g2.val (.inr s) with ⟨_, b⟩ | ⟨u, d', a, b, du⟩
 ·rw [hd] at b
  cases b
 ·rw [hd] at b
  cases b
  exact ⟨l, u, rfl, by rw [← a]; exact CU.k (k := .inr s) g1, k.dat r2 (st1.trans st2) du q⟩
noncomputable def Zfu (td ti : DTE) : DTE := fun Δ M Φ => td Δ M fun x M1 => onO x fun l => WZ (M1 l) fun _ => ti Δ M1 fun y M2 => onS y fun s => WZ (M2 l) fun ps => Φ (.dat ((Js ps (.inr s)).getD .none)) M2
noncomputable def ZeK : D1 := fun xs M Φ => on1 xs fun x => onO x fun l => WZ (M l) fun ps => Φ (.dat (.int ps.length)) M
noncomputable def pairD (p : Str × PyData) : PyData := .tuple [.str p.1, p.2]
noncomputable def ZdA (l : List (Str × PyData)) : List (Key × PyData) := l.foldl (fun m p => Mr m (.inr p.1) p.2) []
noncomputable def ZdN : D1 := fun xs M Φ => on1 xs fun x => onK x M fun ds => ∃ l : List (Str × PyData), ds = l.map pairD ∧ ∀ p, M p = none → Φ (.own p) (Z1 M p (.dkv (ZdA l)))
end
theorem PN (td ti : DTE) (Δ : DSt) (M : Mp) (Φ : DK) : Sw td ti Δ M Φ = (td Δ M fun x M1 => ti Δ M1 fun y M2 => onO x fun l => onS y fun s => WZ (M2 l) fun ps => ∃ d, Js ps (.inr s) = some d ∧ Φ (.dat d) M2) := propext Iff.rfl
end DL
namespace DL
open PySem PySem.Spec PyProof.Rows L2 PySem.W
section
variable {X : Cx}
noncomputable def Zfe (te ts : DTE) : DTE := fun Δ M Φ => te Δ M fun x M1 => ts Δ M1 fun y M2 => onK x M2 fun ds => onI y fun i => i = -1 ∧ Φ (.dat (.list ds.reverse)) M2
end
end DL
namespace DL
open PySem PySem.Spec PyProof.Rows L2 PySem.W
section
variable {prog : Program} {w : World} {A : Around} {E : Value → Shared → Prop} {s : Shared}
end
section
variable {prog : Program} {w : World} {A : Around} {E : Value → Shared → Prop} {s : Shared}
end
section
variable {X : Cx} {pins : List (Addr × Obj)} {σ : L2.St} {H : Hp} {s : Shared} {h' : Heap}
end
noncomputable def Ite (K : PySem.W.Frag) (a : Addr) : It :=
 ⟨fun i H => ∃ xs x, SqT K H a xs ∧ xs[i]? = some x, fun i H y H' => ∃ T x, (∀ xs, SqT K H a xs → xs[i]? = some x) ∧ H T = none ∧ y = .ref T ∧ H' = upd H T (.tup [.int i, x]), fun i H => ∃ xs, SqT K H a xs ∧ xs.length ≤ i⟩
section
variable {X : Cx}
noncomputable def Zfm (K : PySem.W.Frag) (ta : TA) : TI := fun σ H R => ta σ H fun vs H1 => ∃ a, vs = [.ref a] ∧ (∃ xs, SqT K H1 a xs) ∧ R (Ite K a) H1
noncomputable def Zc7 (ds : List PyData) : List PyData := ds.mapIdx fun i d => .tuple [.int i, d]
noncomputable def ZgJ (ta : DTA) : Xw := fun Δ M Ψ => ta Δ M fun xs M1 => on1 xs fun x => onT x fun ds => Ψ (Zc7 ds) M1
end
end DL
namespace DL
open PySem PySem.Spec PyProof.Rows L2 PySem.W
section
variable {prog : Program} {w : World} {A : Around} {E : Value → Shared → Prop} {s : Shared}
end
section
variable {X : Cx} {pos : Pos}
noncomputable def ZfZ (n : Nat) (t : Hi) : DTG := fun x Δ M Φ => onL x fun ds => N4 n ds fun xs => t xs Δ M Φ
end
end DL
namespace DL
open PySem PySem.Spec PyProof.Rows L2 PySem.W
section
variable {X : Cx}
theorem Ls (hu : X.A.units < cLine) : OpR X (compareOp .NotEq) (fun x y H Q => ∃ a b xs, x = .ref a ∧ y = .ref b ∧ SqL X.K H a xs ∧ SqL X.K H b [] ∧ Q (.bl (!xs.isEmpty)) H) := by
 intro pins s σ H x y v u Q I rx ry h
 obtain ⟨a, b, xs, rfl, rfl, h1, h2, q⟩ := h
 cases rx
 cases ry
 obtain ⟨its, r, p, _⟩ := I.list h1
 obtain ⟨jts, r2, p2, _⟩ := I.list h2
 cases r2
 have hl := r.length
 cases xs with
 | nil =>
  have e : its.toArray.size = ([] : List Value).toArray.size := by rw [List.size_toArray, List.size_toArray]; exact hl.symm
  refine PySem.SeqAt.RcNeAt.lists (e := fun _ => true) p.isList p2.isList e hu (fun j h1 h2 => absurd h2 (Nat.not_lt_zero _)) _ _ _ _ ⟨.bl _, H, I, ?_, q⟩
  show Value.bool (!(List.range its.toArray.size).all fun _ => true) = _
  rw [e]
  rfl
 | cons x xs =>
  refine PySem.SeqAt.RcNeAt.lists_lengths p.isList p2.isList ?_ hu _ _ _ _ ⟨.bl _, H, I, rfl, q⟩
  rw [List.size_toArray, ← hl]
  rfl
noncomputable def DU : D2 := fun x y M Φ => onK x M fun ds => onK y M fun es => es = [] ∧ Φ (.dat (.bool (!ds.isEmpty))) M
theorem MH {k : Nat} (hr : Yr k X.A) : OpD X (compareOp .NotEq) DU := by
 refine ⟨_, Ls (by have := hr.un; omega), fun v u H x y M Φ Q r rv ru h k => ?_⟩
 replace h := Wc h
 obtain ⟨ds, hx, h⟩ := h
 replace h := Wc h
 obtain ⟨es, hy, rfl, q⟩ := h
 replace hx : N6 x M ds := hx
 replace hy : N6 y M [] := hy
 obtain ⟨a, xs, rfl, h1, h2⟩ := hx.sq r rv
 obtain ⟨b, ys, rfl, h3, h4⟩ := hy.sq r ru
 cases h4
 refine ⟨a, b, xs, rfl, rfl, h1, h3, ?_⟩
 have e : xs.isEmpty = ds.isEmpty := by cases h2 <;> rfl
 rw [e]
 exact k.dat r Step.refl (Dt.bl _) q
noncomputable def ZdT : D2 := fun x y M Φ => onK x M fun ds => onK y M fun es => ds.length + es.length ≤ sizeLine ∧ ∀ p, M p = none → Φ (.own p) (Z1 M p (.lst (ds ++ es)))
noncomputable def ZcA : D1 := fun xs M Φ => on1 xs fun x => onI x fun i => Φ (.dat (.bool (i != 0))) M
theorem EH (x y : DV) (M : Mp) (Φ : DK) : DU x y M Φ = (onK x M fun ds => onK y M fun es => es = [] ∧ Φ (.dat (.bool (!ds.isEmpty))) M) := propext Iff.rfl
end
noncomputable def isS (h : PyData) (s : Str) : Bool := match h with | .str t => decide (t = s) | _ => false
end DL
namespace DL
open PySem PySem.Spec PyProof.Rows L2 PySem.W PySem.SeqAt PySem.MeetsSeq
theorem Q7 (l : Addr) (es : Array DictEntry) (n : Nat) (dd : Option Addr) (sl : Array (Option Value)) (b : Str) (u : Tok) :
  Meets (Builtin.«dict.__eq__» ⟨[.ref l, .str b u], []⟩) (fun _ R s => s.heap.get? l = some { cls := .type "dict", dict := dd, data := .dict es n, slots := sl } ∧ R (.ok (.ret .notImplemented)) s) :=
 .of_wp fun prog w A R s h => by
  obtain ⟨hp, g, d, tk, os⟩ := s; obtain ⟨hl, h⟩ := h
  have f1 := F.sub_str_dict
  wp_walk using wpAny_loadPart' hl
  exact ⟨_, rfl, h⟩
theorem Q8 (b : Str) (u : Tok) (l : Addr) (c : Value) (es : Array DictEntry) (n : Nat) (dd : Option Addr) (sl : Array (Option Value)) :
  Meets (Builtin.«str.__eq__» ⟨[.str b u, .ref l], []⟩) (fun _ R s => s.heap.get? l = some { cls := c, dict := dd, data := .dict es n, slots := sl } ∧ R (.ok (.ret .notImplemented)) s) :=
 .of_wp fun prog w A R s h => by obtain ⟨hp, g, d, tk, os⟩ := s; obtain ⟨hl, h⟩ := h; wp_walk using wpAny_loadPart' hl, wpAny_load hl; exact ⟨_, rfl, h⟩
section
variable {A : Around} {s : Shared}
noncomputable def Zcd (h : Heap) (l : Addr) : Prop := ∃ (o : Obj) (es : Array DictEntry) (n : Nat), h.get? l = some o ∧ o.cls = .type "dict" ∧ o.data = .dict es n
theorem G1 {l : Addr} (b : Str) (u : Tok) (hl : Zcd s.heap l) (hu : A.units < cLine) : RcAt A s (.ref l) (.str b u) false := fun prog w E Q h => by
 obtain ⟨⟨cls, dd, data, sl⟩, es, n, ho, hc, hd⟩ := hl
 simp only at hc hd
 subst hc hd
 exact rc_eq_decline_or (k := false) ⟨_, ho, rfl⟩ (typeIs_str s b u) (by decide) F.sub_str_dict F.slot_dict_eq F.slot_str_eq_refl
  (fun _ hq => call_meets F.slot_dict_eq ⟨_, ho, rfl⟩ F.entry_dict_eq (F.args_dict_eq_2 _ _) (Q7 l es n dd sl b u) ⟨ho, hq⟩)
  (fun _ hq => call_meets F.slot_str_eq_refl (typeIs_str s b u) F.entry_str_eq (F.args_str_eq_2 _ _) (Q8 b u l (.type "dict") es n dd sl) ⟨ho, hq⟩)
  (fun _ hq => wpAny_of_eq (rfl : isSame (.ref l) (.str b u) = pure false) hq) (.inr hu) h
theorem Gg {l : Addr} (b : Str) (u : Tok) (hl : Zcd s.heap l) (hu : A.units < cLine) : RcAt A s (.str b u) (.ref l) false := fun prog w E Q h => by
 obtain ⟨⟨cls, dd, data, sl⟩, es, n, ho, hc, hd⟩ := hl
 simp only at hc hd
 subst hc hd
 exact rc_eq_decline_or (k := false) (typeIs_str s b u) ⟨_, ho, rfl⟩ (by decide) F.sub_dict_str F.slot_str_eq F.slot_dict_eq_refl
  (fun _ hq => call_meets F.slot_str_eq (typeIs_str s b u) F.entry_str_eq (F.args_str_eq_2 _ _) (Q8 b u l (.type "dict") es n dd sl) ⟨ho, hq⟩)
  (fun _ hq => call_meets F.slot_dict_eq_refl ⟨_, ho, rfl⟩ F.entry_dict_eq (F.args_dict_eq_2 _ _) (Q7 l es n dd sl b u) ⟨ho, hq⟩)
  (fun _ hq => wpAny_of_eq (rfl : isSame (.str b u) (.ref l) = pure false) hq) (.inr hu) h
theorem GQ {l : Addr} (b : Str) (u : Tok) (hl : Zcd s.heap l) (hu : A.units < cLine) : EqAt A s (.str b u) (.ref l) false := fun prog w E Q h => by
 unfold eqBool
 refine wpAny_holding ?_
 refine wpAny_ite_split (fun hab => absurd (eq_of_beq hab) nofun) (fun _ => ?_)
 exact wpAny_bind (Gg b u hl hu prog w E _ (wpAny_truthy_bool h))
end
section
variable {X : Cx}
inductive Bs (h : Heap) (b : Bool) (t : Str) : Value → Prop
 | non : b = false → Bs h b t .none
 | bl (k : Bool) : b = false → Bs h b t (.bool k)
 | int (i : Int) (u : Tok) : b = false → Bs h b t (.int i u)
 | str (x : Str) (u : Tok) : b = decide (x = t) → Bs h b t (.str x u)
 | tup {a : Addr} {items : Array Value} : h.IsTuple a items → b = false → Bs h b t (.ref a)
 | lst {a : Addr} {items : Array Value} : h.IsList a items → b = false → Bs h b t (.ref a)
 | dic {a : Addr} : Zcd h a → b = false → Bs h b t (.ref a)
theorem Zat {pins : List (Addr × Obj)} {σ : L2.St} {H : Hp} {s : Shared} {M : Mp} {x : V} {v : Value} {d : PyData} (t : Str) (I : L2.Inv X pins σ H s) (r : RelV x v) (h : Dt X.K M H x d) : Bs s.heap (isS d t) t v := by
 cases h with
 | non => cases r; exact .non rfl
 | bl b => cases r; exact .bl b rfl
 | int i => obtain ⟨u, rfl⟩ := r; exact .int i u rfl
 | str z => obtain ⟨u, rfl⟩ := r; exact .str z u rfl
 | tup h1 h2 =>
  cases r
  obtain ⟨its, rv, p, _⟩ := I.tuple h1.sq
  exact .tup (show s.heap.IsTuple _ its.toArray from p) rfl
 | lst h1 h2 =>
  cases r
  obtain ⟨its, rv, p, _⟩ := I.list h1.sq
  exact .lst p.isList rfl
 | dK h0 h1 h2 =>
  cases r
  obtain ⟨_, _, _, _, o, es, n, e, c, d, _⟩ := I.hok _ _ h1
  exact .dic ⟨o, es, n, e, c.1, d⟩ rfl
 | dT h0 h1 h2 =>
  cases r
  obtain ⟨_, _, _, _, o, es, n, e, c, d, _⟩ := I.hok _ _ h1
  exact .dic ⟨o, es, n, e, c.1, d⟩ rfl
 | dX h0 h1 h2 h3 h4 h5 =>
  cases r
  obtain ⟨φ, _⟩ := I.hok _ _ h1
  obtain ⟨o, es, n, u, e, c, d, _⟩ := h3 _ φ
  exact .dic ⟨o, es, n, e, c, d⟩ rfl
theorem Bs.rc {A : Around} {s : Shared} {b : Bool} {t : Str} {v : Value} (u : Tok) (h : Bs s.heap b t v) (hu : A.units < cLine) : RcAt A s v (.str t u) b := by
 cases h with
 | non e => rw [e]; exact RcAt.none_str t u
 | bl k e => rw [e]; exact RcAt.bool_str k t u
 | int i w e => rw [e]; exact RcAt.int_str i w t u
 | str x w e => rw [e, ← Bool.beq_eq_decide_eq]; exact RcAt.str_str x w t u
 | tup p e => rw [e]; exact RcAt.tuple_str t u p hu
 | lst p e => rw [e]; exact RcAt.list_str t u p hu
 | dic p e => rw [e]; exact G1 t u p hu
theorem Bs.eq {A : Around} {s : Shared} {b : Bool} {t : Str} {v : Value} (u : Tok) (h : Bs s.heap b t v) (hu : A.units < cLine) : EqAt A s (.str t u) v b := by
 cases h with
 | non e => rw [e]; exact EqAt.str_none t u
 | bl k e => rw [e]; exact EqAt.str_bool t u k
 | int i w e => rw [e]; exact EqAt.str_int t u i w
 | str x w e =>
  have e2 : b = (t == x) := by rw [e, Bool.beq_eq_decide_eq, decide_eq_decide]; exact eq_comm
  rw [e2]
  exact EqAt.str_str t u x w
 | tup p e => rw [e]; exact EqAt.str_tuple t u p hu
 | lst p e => rw [e]; exact EqAt.str_list t u p hu
 | dic p e => rw [e]; exact GQ t u p hu
theorem ZbK (hu : X.A.units < cLine) : OpR X (compareOp .Eq) (fun x y H Q => ∃ M d t, Dt X.K M H x d ∧ y = .str t ∧ Q (.bl (isS d t)) H) := by
 intro pins s σ H x y v u Q I rx ry h
 obtain ⟨M, d, t, h1, rfl, q⟩ := h
 obtain ⟨w, rfl⟩ := ry
 exact (Zat t I rx h1).rc w hu _ _ _ _ ⟨.bl _, H, I, rfl, q⟩
noncomputable def ZaA : D2 := fun x y M Φ => onD x fun d => onS y fun t => Φ (.dat (.bool (isS d t))) M
theorem VW {k : Nat} (hr : Yr k X.A) : OpD X (compareOp .Eq) ZaA :=
 ⟨_, ZbK (by have := hr.un; omega), fun v u H x y M Φ Q r rv ru h k => by
  obtain ⟨d, e1, h⟩ := Z0 h
  obtain ⟨t, e2, q⟩ := Z4 h
  subst e1 e2
  exact ⟨M, d, t, rv, ru.str, k.dat r Step.refl (Dt.bl _) q⟩⟩
theorem SQ (hu : X.A.in1.units < cLine) : OpR X (compareOp .In) (fun x y H Q => ∃ (M : Mp) (d : PyData) (b : Addr) (ts : List Str), Dt X.K M H x d ∧ y = .ref b ∧ SqT X.K H b (ts.map V.str) ∧ Q (.bl (ts.any (isS d))) H) := by
 intro pins s σ H x y v u Q I rx ry h
 obtain ⟨M, d, b, ts, h1, rfl, h2, q⟩ := h
 cases ry
 obtain ⟨its, r, p, _⟩ := I.tuple h2
 have key : ∀ (ts : List Str) (its : List Value), Vals (ts.map V.str) its → (∀ y ∈ its, EqAt X.A.in1 s y v (match y with | .str t _ => isS d t | _ => false)) ∧ (its.any fun y => match y with | .str t _ => isS d t | _ => false) = ts.any (isS d) := by
  intro ts
  induction ts with
  | nil => intro its r; cases r; exact ⟨fun y hy => (nomatch hy), rfl⟩
  | cons t ts ih =>
   intro its r
   rw [List.map_cons] at r
   cases r with
   | cons r1 r2 =>
    obtain ⟨w, rfl⟩ := r1
    obtain ⟨i1, i2⟩ := ih _ r2
    refine ⟨fun y hy => ?_, by rw [List.any_cons, List.any_cons, i2]⟩
    rcases List.mem_cons.mp hy with rfl | hy
    ·exact (Zat t I rx h1).eq w hu
    ·exact i1 y hy
 obtain ⟨k1, k2⟩ := key ts its r
 refine in_tupleAt (fun y => match y with | .str t _ => isS d t | _ => false) (show s.heap.IsTuple b its.toArray from p) (fun y hy => k1 y (by simpa using hy)) ⟨.bl _, H, I, ?_, q⟩
 rw [← k2]
 simp only [List.any_toArray]
 rfl
noncomputable def Tu : D2 := fun x y M Φ => onD x fun d => onT y fun ds => ∃ ts : List Str, ds = ts.map PyData.str ∧ Φ (.dat (.bool (ts.any (isS d)))) M
theorem NZ {k : Nat} (hr : Yr k X.A) : OpD X (compareOp .In) Tu :=
 ⟨_, SQ (by have := hr.un; show X.A.units + 1 < _; omega), fun v u H x y M Φ Q r rv ru h k => by
  obtain ⟨d, e1, h⟩ := Z0 h
  obtain ⟨ds, e2, ts, rfl, q⟩ := W3 h
  subst e1 e2
  obtain ⟨b, xs, rfl, g1, g2⟩ := ru.tup
  rw [Y9 g2] at g1
  exact ⟨M, d, b, ts, rv, rfl, g1.sq, k.dat r Step.refl (Dt.bl _) q⟩⟩
theorem RJ (x y : DV) (M : Mp) (Φ : DK) : ZaA x y M Φ = (onD x fun d => onS y fun t => Φ (.dat (.bool (isS d t))) M) := propext Iff.rfl
theorem P8 (x y : DV) (M : Mp) (Φ : DK) : Tu x y M Φ = (onD x fun d => onT y fun ds => ∃ ts : List Str, ds = ts.map PyData.str ∧ Φ (.dat (.bool (ts.any (isS d)))) M) := propext Iff.rfl
end
end DL
namespace DL
open PySem PySem.Spec PyProof.Rows L2 PySem.W
theorem Uo : ∀ (l acc : List (Key × V)), (l.map (·.1)).Nodup → (∀ p ∈ l, ∀ q ∈ acc, q.1 ≠ p.1) → l.foldl (fun acc kv => putK acc kv.1 kv.2) acc = acc ++ l
 | [], acc, _, _ => by simp
 | p :: l, acc, hn, hd => by
  rw [List.map_cons, List.nodup_cons] at hn
  have e : putK acc p.1 p.2 = acc ++ [p] := by
   unfold putK
   rw [if_neg]
   intro z
   obtain ⟨q, hq, e⟩ := List.any_eq_true.mp z
   exact hd p List.mem_cons_self q hq (of_decide_eq_true e)
  rw [List.foldl_cons, e, Uo l _ hn.2 fun p' hp' q hq => ?_]
  ·simp
  ·rcases List.mem_append.mp hq with hq | hq
   ·exact hd p' (List.mem_cons_of_mem _ hp') q hq
   ·rw [List.mem_singleton.mp hq]
    intro z
    exact hn.1 (List.mem_map.mpr ⟨p', hp', z.symm⟩)
theorem CD (l : List (Key × V)) (h : (l.map (·.1)).Nodup) : Xi [] l = l := by
 unfold Xi
 rw [Uo l [] h fun p _ q hq => (nomatch hq)]
 rfl
section
variable {X : Cx} {pos : Pos}
noncomputable def NJ (tk0 tk1 tk2 tk3 tk4 tk5 tv0 tv1 tv2 tv3 tv4 tv5 : DTE) : DTE := fun Δ M Φ => tk0 Δ M fun x0 M1 => tv0 Δ M1 fun y0 M2 => tk1 Δ M2 fun x1 M3 => tv1 Δ M3 fun y1 M4 => tk2 Δ M4 fun x2 M5 => tv2 Δ M5 fun y2 M6 => tk3 Δ M6 fun x3 M7 => tv3 Δ M7 fun y3 M8 => tk4 Δ M8 fun x4 M9 => tv4 Δ M9 fun y4 M10 => tk5 Δ M10 fun x5 M11 => tv5 Δ M11 fun y5 M12 => onS x0 fun s0 => onD y0 fun d0 => onS x1 fun s1 => onD y1 fun d1 => onS x2 fun s2 => onD y2 fun d2 => onS x3 fun s3 => onD y3 fun d3 => onS x4 fun s4 => onD y4 fun d4 => onS x5 fun s5 => onD y5 fun d5 => ([s0, s1, s2, s3, s4, s5] : List Str).Nodup ∧ ∀ p, M12 p = none → Φ (.own p) (Z1 M12 p (.dkv [(Sum.inr s0, d0), (Sum.inr s1, d1), (Sum.inr s2, d2), (Sum.inr s3, d3), (Sum.inr s4, d4), (Sum.inr s5, d5)]))
theorem Lj {k0 k1 k2 k3 k4 k5 v0 v1 v2 v3 v4 v5 : Expr} {tk0 tk1 tk2 tk3 tk4 tk5 tv0 tv1 tv2 tv3 tv4 tv5 : DTE} (hk0 : At X k0 tk0) (hv0 : At X v0 tv0) (hk1 : At X k1 tk1) (hv1 : At X v1 tv1) (hk2 : At X k2 tk2) (hv2 : At X v2 tv2) (hk3 : At X k3 tk3) (hv3 : At X v3 tv3) (hk4 : At X k4 tk4) (hv4 : At X v4 tv4) (hk5 : At X k5 tk5) (hv5 : At X v5 tv5) : DE X (.Dict [some k0, some k1, some k2, some k3, some k4, some k5] [v0, v1, v2, v3, v4, v5] pos) (NJ tk0 tk1 tk2 tk3 tk4 tk5 tv0 tv1 tv2 tv3 tv4 tv5) := by
 obtain ⟨a0, pk0, qk0⟩ := hk0
 obtain ⟨b0, pv0, qv0⟩ := hv0
 obtain ⟨a1, pk1, qk1⟩ := hk1
 obtain ⟨b1, pv1, qv1⟩ := hv1
 obtain ⟨a2, pk2, qk2⟩ := hk2
 obtain ⟨b2, pv2, qv2⟩ := hv2
 obtain ⟨a3, pk3, qk3⟩ := hk3
 obtain ⟨b3, pv3, qv3⟩ := hv3
 obtain ⟨a4, pk4, qk4⟩ := hk4
 obtain ⟨b4, pv4, qv4⟩ := hv4
 obtain ⟨a5, pk5, qk5⟩ := hk5
 obtain ⟨b5, pv5, qv5⟩ := hv5
 refine ⟨_, Pk (VP pk0 pv0 (VP pk1 pv1 (VP pk2 pv2 (VP pk3 pv3 (VP pk4 pv4 (VP pk5 pv5 Pg)))))) rfl rfl (by simp) (by simp), fun σ H Δ M Φ Q r e h kk p hp => ?_⟩
 obtain ⟨u0, x0, ru0, i0, f0⟩ := qk0 σ H Δ M _ e h
 clear h
 obtain ⟨w0, y0, rw0, j0, g0⟩ := qv0 σ H Δ M _ e i0
 clear i0
 obtain ⟨u1, x1, ru1, i1, f1⟩ := qk1 σ H Δ M _ e j0
 clear j0
 obtain ⟨w1, y1, rw1, j1, g1⟩ := qv1 σ H Δ M _ e i1
 clear i1
 obtain ⟨u2, x2, ru2, i2, f2⟩ := qk2 σ H Δ M _ e j1
 clear j1
 obtain ⟨w2, y2, rw2, j2, g2⟩ := qv2 σ H Δ M _ e i2
 clear i2
 obtain ⟨u3, x3, ru3, i3, f3⟩ := qk3 σ H Δ M _ e j2
 clear j2
 obtain ⟨w3, y3, rw3, j3, g3⟩ := qv3 σ H Δ M _ e i3
 clear i3
 obtain ⟨u4, x4, ru4, i4, f4⟩ := qk4 σ H Δ M _ e j3
 clear j3
 obtain ⟨w4, y4, rw4, j4, g4⟩ := qv4 σ H Δ M _ e i4
 clear i4
 obtain ⟨u5, x5, ru5, i5, f5⟩ := qk5 σ H Δ M _ e j4
 clear j4
 obtain ⟨w5, y5, rw5, j5, g5⟩ := qv5 σ H Δ M _ e i5
 clear i5
 replace j5 := Z4 j5
 obtain ⟨s0, rfl, z0⟩ := j5
 replace z0 := Z0 z0
 obtain ⟨d0, rfl, y0⟩ := z0
 replace y0 := Z4 y0
 obtain ⟨s1, rfl, z1⟩ := y0
 replace z1 := Z0 z1
 obtain ⟨d1, rfl, y1⟩ := z1
 replace y1 := Z4 y1
 obtain ⟨s2, rfl, z2⟩ := y1
 replace z2 := Z0 z2
 obtain ⟨d2, rfl, y2⟩ := z2
 replace y2 := Z4 y2
 obtain ⟨s3, rfl, z3⟩ := y2
 replace z3 := Z0 z3
 obtain ⟨d3, rfl, y3⟩ := z3
 replace y3 := Z4 y3
 obtain ⟨s4, rfl, z4⟩ := y3
 replace z4 := Z0 z4
 obtain ⟨d4, rfl, y4⟩ := z4
 replace y4 := Z4 y4
 obtain ⟨s5, rfl, z5⟩ := y4
 replace z5 := Z0 z5
 obtain ⟨d5, rfl, y5⟩ := z5
 have h := y5
 refine f0 _ _ (g0 _ _ (f1 _ _ (g1 _ _ (f2 _ _ (g2 _ _ (f3 _ _ (g3 _ _ (f4 _ _ (g4 _ _ (f5 _ _ (g5 _ _ ⟨JL, [((Sum.inr s0 : Key), w0), ((Sum.inr s1 : Key), w1), ((Sum.inr s2 : Key), w2), ((Sum.inr s3 : Key), w3), ((Sum.inr s4 : Key), w4), ((Sum.inr s5 : Key), w5)], ?_, by simp, ?_⟩)))))))))))
 ·rw [ru0.str, ru1.str, ru2.str, ru3.str, ru4.str, ru5.str]; rfl
 ·have e1 : Xi [] [((Sum.inr s0 : Key), w0), ((Sum.inr s1 : Key), w1), ((Sum.inr s2 : Key), w2), ((Sum.inr s3 : Key), w3), ((Sum.inr s4 : Key), w4), ((Sum.inr s5 : Key), w5)] = [((Sum.inr s0 : Key), w0), ((Sum.inr s1 : Key), w1), ((Sum.inr s2 : Key), w2), ((Sum.inr s3 : Key), w3), ((Sum.inr s4 : Key), w4), ((Sum.inr s5 : Key), w5)] := CD _ (by simpa using h.1)
  rw [e1, R0]
  exact kk _ _ (.own p) _ (r.ZdF (ps := [(Sum.inr s0, d0), (Sum.inr s1, d1), (Sum.inr s2, d2), (Sum.inr s3, d3), (Sum.inr s4, d4), (Sum.inr s5, d5)]) (Step.Xo hp) (.cons rw0 (.cons rw1 (.cons rw2 (.cons rw3 (.cons rw4 (.cons rw5 .nil))))))) (Step.Xo hp) rfl (h.2 p (r.tracked hp))
theorem Mu (tk0 tk1 tk2 tk3 tk4 tk5 tv0 tv1 tv2 tv3 tv4 tv5 : DTE) (Δ : DSt) (M : Mp) (Φ : DK) : NJ tk0 tk1 tk2 tk3 tk4 tk5 tv0 tv1 tv2 tv3 tv4 tv5 Δ M Φ = (tk0 Δ M fun x0 M1 => tv0 Δ M1 fun y0 M2 => tk1 Δ M2 fun x1 M3 => tv1 Δ M3 fun y1 M4 => tk2 Δ M4 fun x2 M5 => tv2 Δ M5 fun y2 M6 => tk3 Δ M6 fun x3 M7 => tv3 Δ M7 fun y3 M8 => tk4 Δ M8 fun x4 M9 => tv4 Δ M9 fun y4 M10 => tk5 Δ M10 fun x5 M11 => tv5 Δ M11 fun y5 M12 => onS x0 fun s0 => onD y0 fun d0 => onS x1 fun s1 => onD y1 fun d1 => onS x2 fun s2 => onD y2 fun d2 => onS x3 fun s3 => onD y3 fun d3 => onS x4 fun s4 => onD y4 fun d4 => onS x5 fun s5 => onD y5 fun d5 => ([s0, s1, s2, s3, s4, s5] : List Str).Nodup ∧ ∀ p, M12 p = none → Φ (.own p) (Z1 M12 p (.dkv [(Sum.inr s0, d0), (Sum.inr s1, d1), (Sum.inr s2, d2), (Sum.inr s3, d3), (Sum.inr s4, d4), (Sum.inr s5, d5)]))) := propext Iff.rfl
theorem Dts.rep {K : PySem.W.Frag} {M : Mp} {H : Hp} {vs : List V} {ds : List PyData} (h : Dts K M H vs ds) : ∀ n : Nat, Dts K M H (List.replicate n vs).flatten (List.replicate n ds).flatten
 | 0 => .nil
 | n + 1 => by rw [List.replicate_succ, List.replicate_succ, List.flatten_cons, List.flatten_cons]; exact h.append (h.rep n)
noncomputable def Tj : D2 := fun x y M Φ => onO x fun l => onI y fun i => J1 (M l) fun ds => (0 ≤ i ∧ i < 2 ^ 63 ∧ ds.length * i.toNat ≤ sizeLine) ∧ Φ (.dat (.list (List.replicate i.toNat ds).flatten)) M
theorem TU : OpD X (binaryOp .Mult) Tj := by
 refine ⟨_, T7, fun v u H x y M Φ Q r rv ru h k => ?_⟩
 replace h := Qd h
 obtain ⟨l, rfl, h⟩ := h
 replace h := ZN h
 obtain ⟨i, rfl, h⟩ := h
 replace h := QH h
 obtain ⟨ds, hl, ⟨h1, h2, h3⟩, q⟩ := h
 cases (show v = .ref l from rv)
 obtain ⟨ws, g1, g2⟩ := r.ls l _ hl
 exact ⟨l, i, ws, rfl, ru.int, g1, by omega, h2, by rw [g2.length]; exact h3, fun p hp => k.dat (r.new hp) (Step.new hp) (Dt.Ki r hp (g2.rep _)) q⟩
theorem Pn (x y : DV) (M : Mp) (Φ : DK) : Tj x y M Φ = (onO x fun l => onI y fun i => J1 (M l) fun ds => (0 ≤ i ∧ i < 2 ^ 63 ∧ ds.length * i.toNat ≤ sizeLine) ∧ Φ (.dat (.list (List.replicate i.toNat ds).flatten)) M) := propext Iff.rfl
end
end DL
namespace DL
open PySem PySem.Spec PyProof.Rows L2 PySem.W PySem.SeqAt PySem.MeetsSeq
section
variable {X : Cx}
noncomputable def Zai : D2 := fun x y M Φ => onT x fun ds => onI y fun k => (2 ≤ k ∧ k ≤ 1000 ∧ 1 ≤ ds.length ∧ ds.length ≤ 1000) ∧ Φ (.dat (.tuple (List.replicate k.toNat ds).flatten)) M
theorem Lk (x y : DV) (M : Mp) (Φ : DK) : Zai x y M Φ = (onT x fun ds => onI y fun k => (2 ≤ k ∧ k ≤ 1000 ∧ 1 ≤ ds.length ∧ ds.length ≤ 1000) ∧ Φ (.dat (.tuple (List.replicate k.toNat ds).flatten)) M) := propext Iff.rfl
noncomputable def OA : D2 := fun x y M Φ => onT x fun ds => onT y fun es => ds.length + es.length ≤ sizeLine ∧ Φ (.dat (.tuple (ds ++ es))) M
theorem FT (x y : DV) (M : Mp) (Φ : DK) : OA x y M Φ = (onT x fun ds => onT y fun es => ds.length + es.length ≤ sizeLine ∧ Φ (.dat (.tuple (ds ++ es))) M) := propext Iff.rfl
end
end DL
namespace DL
open PySem PySem.Spec PyProof.Rows L2 PySem.W
noncomputable def Itz (K : PySem.W.Frag) (a b : Addr) : It :=
  ⟨fun i H => ∃ xs ys x y, SqL K H a xs ∧ xs[i]? = some x ∧ SqL K H b ys ∧ ys[i]? = some y,
   fun i H v H' => ∃ T x y, (∀ xs, SqL K H a xs → xs[i]? = some x) ∧ (∀ ys, SqL K H b ys → ys[i]? = some y) ∧ H T = none ∧ v = .ref T ∧ H' = upd H T (.tup [x, y]),
   fun i H => ∃ xs ys, SqL K H a xs ∧ SqL K H b ys ∧ (xs.length ≤ i ∨ ys.length ≤ i)⟩
noncomputable def SV (a b : Addr) (n : Nat) (i : Nat) (h : Heap) : Prop :=
 IsZip h (n + 4) (n + 2) (n + 3) .none ∧ IsPair h (n + 2) (.ref n) (.ref (n + 1)) ∧ (∃ u v, IsPair h (n + 3) u v) ∧ h.IsListIter n a i ∧ h.IsListIter (n + 1) b i
theorem zn {n p q : Nat} (h : p ≠ q) : n + p ≠ n + q := fun e => h (Nat.add_left_cancel e)
theorem zn0 {n p : Nat} (h : p ≠ 0) : n + p ≠ n := fun e => h (by omega)
theorem SV.apart {a b : Addr} {n : Nat} {i : Nat} {h : Heap} {xs ys : Array Value} (st : SV a b n i h) (ha : h.IsList a xs) (hb : h.IsList b ys) : ZipApart (n + 4) (n + 2) (n + 3) n (n + 1) a b := by
 obtain ⟨hz, h2, ⟨u, v, h3⟩, h0, h1⟩ := st
 have nz : ∀ {l : Addr} {zs : Array Value} (_ : h.IsList l zs), l ≠ n + 4 ∧ l ≠ n + 3 ∧ l ≠ n ∧ l ≠ n + 1 := by
  intro l zs hl
  obtain ⟨o, ho, hc, _⟩ := hl
  refine ⟨fun e => ?_, fun e => ?_, fun e => ?_, fun e => ?_⟩
  ·rw [e, hz] at ho; cases ho; exact absurd (Value.type.inj hc) (by decide)
  ·rw [e, h3] at ho; cases ho; exact absurd (Value.type.inj hc) (by decide)
  ·obtain ⟨o', ho', hc', _⟩ := h0
   rw [e, ho'] at ho; cases ho; rw [hc'] at hc; exact absurd (Value.type.inj hc) (by decide)
  ·obtain ⟨o', ho', hc', _⟩ := h1
   rw [e, ho'] at ho; cases ho; rw [hc'] at hc; exact absurd (Value.type.inj hc) (by decide)
 have A := nz ha
 have B := nz hb
 exact ⟨zn (by decide), zn (by decide), (zn0 (by decide)).symm, zn (by decide), zn (by decide), zn0 (by decide), zn (by decide), zn0 (by decide), zn (by decide), (zn0 (by decide)).symm, A.1, A.2.1, A.2.2.1, A.2.2.2, B.1, B.2.1, B.2.2.1, B.2.2.2⟩
section
variable {X : Cx}
noncomputable def Zgv (K : PySem.W.Frag) (ta : TA) : TI := fun σ H R => ta σ H fun vs H1 => ∃ a b, vs = [.ref a, .ref b] ∧ (∃ xs, SqL K H1 a xs) ∧ (∃ ys, SqL K H1 b ys) ∧ R (Itz K a b) H1
noncomputable def ZcE (as bs : List PyData) : List PyData := List.zipWith (fun a b => .tuple [a, b]) as bs
noncomputable def ZgM (ta : DTA) : Xw := fun Δ M Ψ => ta Δ M fun xs M1 => on2 xs fun x y => onL x fun as => onL y fun bs => Ψ (ZcE as bs) M1
end
end DL
namespace DL
open PySem PySem.Spec PyProof.Rows L2 PySem.W
section
variable {X : Cx} {pos : Pos}
noncomputable abbrev DTP := DSt → Mp → (List (DV × DV) → Mp → Prop) → Prop
noncomputable def DPs (X : Cx) (pos : Pos) (keys : List (Option Expr)) (values : List Expr) (τ : DTP) : Prop :=
 ∃ trs, PPs X pos keys values trs ∧ trs.length = keys.length ∧ ∀ σ H Δ M Φ (Q : List (V × V) → Hp → Prop), ZW X.K M H → JD X.K M H σ Δ → τ Δ M Φ →
  (∀ ps H' qs M', ZW X.K M' H' → Step M H M' H' → Paired (fun (p : V × V) (q : DV × DV) => QB X.K M' H' p.1 q.1 ∧ QB X.K M' H' p.2 q.2) ps qs → Φ qs M' → Q ps H') → Cq trs σ H Q
noncomputable def Zgq : DTP := fun _ M Φ => Φ [] M
noncomputable def Zem (tk tv : DTE) (t : DTP) : DTP := fun Δ M Φ => tk Δ M fun x M1 => tv Δ M1 fun y M2 => t Δ M2 fun qs M3 => Φ ((x, y) :: qs) M3
noncomputable def Zbf : List (DV × DV) → (List (Key × PyData) → Prop) → Prop
 | [], P => P []
 | (x, y) :: r, P => KH x fun k => onD y fun d => Zbf r fun l => P ((k, d) :: l)
noncomputable def Zfp (t : DTP) : DTE := fun Δ M Φ => ∀ p, M p = none → t Δ (Z1 M p (.dkv [])) fun qs M2 => Zbf qs fun l => M2 p = some (.dkv []) ∧ ((l.map (·.1)).Nodup ∧ l.length ≤ 15) ∧ Φ (.own p) (Z1 M2 p (.dkv l))
noncomputable def Zfx (td ti tx : DTE) : DTE := fun Δ M Φ => td Δ M fun x M1 => onO x fun l => WZ (M1 l) fun _ => ti Δ M1 fun y M2 => tx Δ M2 fun z M3 => onS y fun s => onD z fun d => WZ (M3 l) fun ps => Φ (.dat ((Js ps (.inr s)).getD d)) M3
end
end DL
namespace DL
open PySem PySem.Spec PyProof.Rows L2 PySem.W
section
variable {X : Cx} {pins : List (Addr × Obj)} {σ : L2.St} {H : Hp} {s : Shared} {M : Mp}
end
section
variable {X : Cx}
noncomputable def ZcL : D1 := fun xs M Φ => on1 xs fun x => onT x fun ds => ((∀ d ∈ ds, Shw d) ∧ (PyData.tuple ds).depth ≤ 64 ∧ (PyData.tuple ds).shown.length ≤ sizeLine) ∧ Φ (.dat (.str (PyData.tuple ds).shown)) M
end
end DL
namespace DL
open PySem PySem.Spec PyProof.Rows L2 PySem.W
noncomputable def Rsg (l : List Nat) : Prop := l.Pairwise (· < ·)
theorem Rsg.lt {l : List Nat} (h : Rsg l) {i j u v : Nat} (hi : l[i]? = some u) (hj : l[j]? = some v) (hij : i < j) : u < v := by
 obtain ⟨h1, rfl⟩ := List.getElem?_eq_some_iff.mp hi
 obtain ⟨h2, rfl⟩ := List.getElem?_eq_some_iff.mp hj
 exact (List.pairwise_iff_getElem.mp h) i j h1 h2 hij
noncomputable def Spl (l : List Nat) (j r : Nat) : Prop := (∀ k v, k < r → l[k]? = some v → v < j) ∧ (∀ k v, r ≤ k → l[k]? = some v → j ≤ v) ∧ r ≤ l.length
theorem WB {xs : Array Nat} (h : Rsg xs.toList) (j : Nat) : ∀ fuel lo hi, hi - lo ≤ fuel → lo ≤ hi → hi ≤ xs.size → (∀ k v, k < lo → xs.toList[k]? = some v → v < j) → (∀ k v, hi ≤ k → xs.toList[k]? = some v → j ≤ v) → Spl xs.toList j (SetTable.below.go xs j fuel lo hi)
 | 0, lo, hi, hf, hl, hs, h1, h2 => by
  have e : hi = lo := by omega
  subst e
  exact ⟨h1, h2, by rw [Array.length_toList]; exact hs⟩
 | fuel + 1, lo, hi, hf, hl, hs, h1, h2 => by
  unfold SetTable.below.go
  by_cases hlt : lo < hi
  ·rw [if_pos hlt]
   dsimp only
   have hm : (lo + hi) / 2 < xs.size := by omega
   have hg : xs.toList[(lo + hi) / 2]? = some (xs.getD ((lo + hi) / 2) j) := by
    rw [Array.getElem?_toList, Array.getElem?_eq_getElem hm]
    simp [Array.getD, hm]
   by_cases hc : xs.getD ((lo + hi) / 2) j < j
   ·rw [if_pos hc]
    refine WB h j fuel _ _ (by omega) (by omega) hs (fun k v hk hv => ?_) h2
    by_cases e : k = (lo + hi) / 2
    ·rw [e, hg] at hv
     cases hv
     exact hc
    ·exact Nat.lt_trans (h.lt hv hg (by omega)) hc
   ·rw [if_neg hc]
    refine WB h j fuel _ _ (by omega) (by omega) (by omega) h1 (fun k v hk hv => ?_)
    by_cases e : k = (lo + hi) / 2
    ·rw [e, hg] at hv
     cases hv
     omega
    ·have := h.lt hg hv (by omega)
     omega
  ·rw [if_neg hlt]
   have e : hi = lo := by omega
   subst e
   exact ⟨h1, h2, by rw [Array.length_toList]; exact hs⟩
theorem Hb {xs : Array Nat} (h : Rsg xs.toList) (j : Nat) : Spl xs.toList j (SetTable.below xs j) := by
 unfold SetTable.below
 exact WB h j _ _ _ (by omega) (by omega) (Nat.le_refl _) (fun k v hk => absurd hk (by omega)) fun k v hk hv => by
  have := (List.getElem?_eq_some_iff.mp hv).1
  rw [Array.length_toList] at this
  omega
theorem Dd {xs : Array Nat} (h : Rsg xs.toList) {j : Nat} (hn : xs[SetTable.below xs j]? ≠ some j) : Rsg (SetTable.insertAt xs (SetTable.below xs j) j).toList := by
 obtain ⟨h1, h2, h3⟩ := Hb h j
 rw [SetTable.toList_insertAt]
 have hd : ∀ v ∈ xs.toList.drop (SetTable.below xs j), j < v := fun v hv => by
  obtain ⟨k, hk⟩ := List.mem_iff_getElem?.mp hv
  rw [List.getElem?_drop] at hk
  have l1 := h2 _ v (Nat.le_add_right _ k) hk
  by_cases e : k = 0
  ·rw [e, Nat.add_zero, Array.getElem?_toList] at hk
   rcases Nat.lt_or_eq_of_le l1 with z | z
   ·exact z
   ·rw [← z] at hk
    exact absurd hk hn
  ·have hb := (List.getElem?_eq_some_iff.mp hk).1
   have := h.lt (List.getElem?_eq_getElem (show SetTable.below xs j < xs.toList.length by omega)) hk (by omega)
   have := h2 _ _ (Nat.le_refl _) (List.getElem?_eq_getElem (show SetTable.below xs j < xs.toList.length by omega))
   omega
 have ht : ∀ u ∈ xs.toList.take (SetTable.below xs j), u < j := fun u hu => by
  obtain ⟨k, hk⟩ := List.mem_iff_getElem?.mp hu
  rw [List.getElem?_take] at hk
  split at hk
  ·exact h1 k u (by assumption) hk
  ·cases hk
 refine List.pairwise_append.mpr ⟨h.sublist (List.take_sublist _ _), List.pairwise_cons.mpr ⟨hd, h.sublist (List.drop_sublist _ _)⟩, fun u hu v hv => ?_⟩
 rcases List.mem_cons.mp hv with rfl | hv
 ·exact ht u hu
 ·exact Nat.lt_trans (ht u hu) (hd v hv)
structure TOk (bt : Bool) (t : SetTable) : Prop where
 led : t.led = !bt
 dm : t.dummies = #[]
 up : t.plain = true → Rsg t.place.toList
theorem OQ {t : SetTable} (h : t.dummies = #[]) (j : Nat) : t.slot j ≠ .dummy := by
 unfold SetTable.slot SetTable.has
 rw [h]
 dsimp only
 split
 ·exact fun e => nomatch e
 ·simp
theorem XW {t : SetTable} {f : Nat → Int} {h : Int} (hd : t.dummies = #[]) : ∀ (fuel : Nat) (p : SetTable.Probe), p.dummy = none → ∀ j d, SetTable.probe.go t f h fuel p = some (.empty j d) → d = none ∧ t.slot j = .empty
 | 0, p, _, j, d, e => by unfold SetTable.probe.go at e; cases e
 | fuel + 1, p, hp, j, d, e => by
  unfold SetTable.probe.go at e
  cases q : t.slot p.j with
  | empty =>
   rw [q] at e
   cases e
   exact ⟨hp, q⟩
  | dummy => exact absurd q (OQ hd _)
  | live i =>
   rw [q] at e
   dsimp only at e
   split at e
   ·cases e
   ·refine XW hd fuel _ ?_ j d e
    unfold SetTable.advance
    split
    ·exact hp
    ·exact hp
theorem Nf {t : SetTable} {h : Int} {j : Nat} {b : Bool} (hd : t.dummies = #[]) (e : t.freeSlot h = some (j, b)) : t.place[SetTable.below t.place j]? ≠ some j := by
 unfold SetTable.freeSlot at e
 split at e
 ·rename_i j' d' q
  unfold SetTable.probe at q
  obtain ⟨rfl, hs⟩ := XW hd _ _ rfl _ _ q
  simp only [Option.getD_none, Option.isSome_none, Option.some.injEq, Prod.mk.injEq] at e
  obtain ⟨rfl, _⟩ := e
  unfold SetTable.slot at hs
  dsimp only at hs
  intro z
  rw [if_pos (by rw [z]; simp)] at hs
  cases hs
 ·cases e
theorem TOk.Tr {bt : Bool} {t : SetTable} (h : TOk bt t) (n : Nat) : TOk bt (t.standIn n) := ⟨h.led, rfl, fun e => by simp [SetTable.standIn] at e⟩
theorem TOk.new {bt : Bool} {t : SetTable} (h : TOk bt t) (es : Array (Int × Value)) (k : Int) (x : Value) : TOk bt (layNew t es k x).2.1 := by
 unfold layNew
 split
 ·rename_i sl wd e
  have hn := Nf h.dm e
  have hp : TOk bt (t.put sl).1 := by
   unfold SetTable.put
   refine ⟨h.led, ?_, fun e => Dd (h.up e) hn⟩
   show (if SetTable.has t.dummies sl = true then _ else t.dummies) = #[]
   rw [h.dm]
   split
   ·simp [SetTable.eraseAt]
   ·rfl
  dsimp only
  unfold SetTable.orStandIn
  split
  ·exact hp
  ·exact hp.Tr _
 ·exact h.Tr _
end DL
namespace DL
open PySem PySem.Spec PyProof.Rows L2 PySem.W
noncomputable def Zgh : Value → Int
 | .int i _ => i
 | _ => 0
noncomputable abbrev Sa := Array (Int × Value)
noncomputable def Ze4 (es : Sa) : List Int := es.toList.map fun e => Zgh e.2
structure ZfH (P : Program) (w : World) (o : Obj) (es : Sa) (t : SetTable) : Prop where
 ex : o.ExactSet
 dt : ∃ ep, o.data = .set es ep t
 el : ElemsOf (intKind P w) es.toList
 bd : es.size < scanBound
 ft : t.fits es.size = true
 ok : TOk (w.params.followText "set-order") t
 nd : (Ze4 es).Nodup
noncomputable def SI (P : Program) (w : World) (h : Heap) (a : Addr) (ks : List Int) : Prop := ∃ o es t, h.get? a = some o ∧ ZfH P w o es t ∧ ks = Ze4 es
section
variable {P : Program} {w : World} {A : Around} {E : Value → Shared → Prop} {s : Shared}
theorem SI.same {h h' : Heap} {a : Addr} {ks : List Int} (hS : SI P w h a ks) (k : ∀ o, h.get? a = some o → h'.get? a = some o) : SI P w h' a ks := by
 obtain ⟨o, es, t, g, r⟩ := hS
 exact ⟨o, es, t, k o g, r⟩
end
end DL
namespace DL
open PySem PySem.Spec PyProof.Rows L2 PySem.W
section
variable {P : Program} {w : World} {A : Around} {R : Result → Shared → Prop} {I : Addr} {fp wr : List Addr} {G : Array GenState → Array GenState → Prop} {n : Nat} {Pv : Nat → Value → Prop} {St : Nat → Shared → Prop}
end
section
variable {P : Program} {w : World} {A : Around} {E : Value → Shared → Prop} {s : Shared}
noncomputable def Zel (w : World) : Obj := { cls := .type "set", dict := none, data := .set #[] 0 (.fresh 0 0 (!w.params.followText "set-order")) }
set_option maxHeartbeats 4000000 in
end
end DL
namespace DL
open PySem PySem.Spec PyProof.Rows L2 PySem.W
section
variable {P : Program} {w : World} {A : Around} {E : Value → Shared → Prop} {s : Shared}
noncomputable abbrev PR (h : Heap) (it : Addr) (first : Value) (i : Nat) (S : Addr) (n ep : Nat) : Prop :=
 h.get? it = some { cls := .type "set_iterator", dict := none, data := .fields #[first, rawInt i, .ref S, rawInt n, rawInt ep], slots := #[] }
noncomputable def Md (w : World) (h : Heap) (first : Value) (i : Nat) (S : Addr) (es : Sa) (ep : Nat) (t : SetTable) (L : List Value) : Prop :=
 (w.params.followText "set-order" = true ∧ first = rawInt 0 ∧ L = (pickOrder (w.params.setOrder S ep) es).toList.map (·.2)) ∨
 (w.params.followText "set-order" = false ∧ ∃ (T : Addr) (ps : List Nat), first = .ref T ∧ IsTup h T (ps.map fun p : Nat => rawInt (p : Int)).toArray ∧ ps.Perm (List.range es.size) ∧ L = ps.map fun p => (es.getD p (0, .none)).2) ∨
 (w.params.followText "set-order" = false ∧ first = rawInt (if i = 0 then 0 else t.place.getD (i - 1) 0 + 1) ∧ Rsg t.place.toList ∧ t.led = true ∧ (t.plain = true ∨ es.size ≤ 1) ∧ L = es.toList.map (·.2))
end
end DL
namespace DL
open PySem PySem.Spec PyProof.Rows L2 PySem.W
section
variable {P : Program} {w : World} {A : Around} {E : Value → Shared → Prop} {s : Shared}
noncomputable def ZfL (w : World) (it S T : Addr) (es : Sa) (ep : Nat) (t : SetTable) (L : List Value) (i : Nat) (h : Heap) : Prop :=
 ∃ first o, PR h it first i S es.size ep ∧ h.get? S = some o ∧ o.data = .set es ep t ∧ t.fits es.size = true ∧ Md w h first i S es ep t L ∧ ∀ T', first = .ref T' → T' = T
end
end DL
namespace DL
open PySem PySem.Spec PyProof.Rows L2 PySem.W
section
variable {P : Program} {w : World} {A : Around} {E : Value → Shared → Prop} {s : Shared}
end
section
variable {P : Program} {w : World} {A : Around} {E : Value → Shared → Prop} {s : Shared}
end
section
variable {X : Cx} {e : Expr} {t : TA} {p pos p2 pos2 : Pos}
noncomputable def tSS (X : Cx) (t : TA) : TE := fun σ H Q => t σ H fun xs H1 => ∃ (l : Addr) (ns : List Int), xs = [.ref l] ∧ SqL X.K H1 l (ns.map V.int) ∧ ns.length < 64 ∧ ∀ ks : List Int, ks.Pairwise (· ≤ ·) → ks.Nodup → (∀ z, z ∈ ks ↔ z ∈ ns) → ∀ l, H1 l = none → Q (.ref l) (upd H1 l (.lst (ks.map V.int)))
noncomputable def dSS (t : DTA) : DTE := fun Δ M Φ => t Δ M fun xs M1 => ∃ ns : List Int, Yw xs M1 ns ∧ ns.length < 64 ∧ ∀ ks : List Int, ks.Pairwise (· ≤ ·) → ks.Nodup → (∀ z, z ∈ ks ↔ z ∈ ns) → Φ (.dat (.list (ks.map PyData.int))) M1
end
end DL
namespace DL
open PySem PySem.Spec PyProof.Rows L2
section
variable {X : Cx}
noncomputable def ZgG (τ : DTE) : DTT := fun Δ M Φ => τ Δ M fun x M1 => onQ x M1 fun ds => Φ (!ds.isEmpty) M1
end
end DL
namespace DL
open PySem PySem.Spec PyProof.Rows L2 PySem.W
structure Gives (it l : Addr) (xs : Array Value) (st : Nat → Heap → Prop) : Prop where
 frame : ∀ {i : Nat} {h h' : Heap}, st i h → (∀ b, b = it ∨ b = l → ∀ o, h.get? b = some o → h'.get? b = some o) → st i h'
 live : ∀ {i : Nat} {h : Heap}, st i h → ∃ o, h.get? it = some o
 item : ∀ {prog : Program} {w : World} {A : Around} {E : Value → Shared → Prop} {s : Shared} {Q : Value → Shared → Prop} {i : Nat} {x : Value}, st i s.heap → xs[i]? = some x →
  (∀ h', st (i + 1) h' → Heap.SameBut it s.heap h' → Q x { s with heap := h' }) → wpAny (model prog w) A (Builtin.SmallTypes.nextOf (.ref it)) Q E s
 done : ∀ {prog : Program} {w : World} {A : Around} {E : Value → Shared → Prop} {s : Shared} {Q : Value → Shared → Prop} {i : Nat}, A.handled = none → st i s.heap → xs[i]? = none →
  (∀ h' e, Heap.ExtBut it s.heap h' → (∃ o, h'.get? e = some o ∧ o.cls = .type "StopIteration") → E (.ref e) { s with heap := h' }) → wpAny (model prog w) A (Builtin.SmallTypes.nextOf (.ref it)) Q E s
noncomputable def ZgY (a b c d : Addr) (h h' : Heap) : Prop := ∀ x o, x ≠ a → x ≠ b → x ≠ c → x ≠ d → h.get? x = some o → h'.get? x = some o
section
variable {prog : Program} {w : World} {A : Around} {E : Value → Shared → Prop} {s : Shared} {z TI TO p q l m : Addr} {xs ys : Array Value} {f g : Nat → Heap → Prop} {i j : Nat}
end
noncomputable abbrev zt1 (h : Heap) (l : Addr) : Heap := h.push { cls := .type "tuple_iterator", data := .fields #[.ref l, .int 0 0] }
noncomputable abbrev zt2 (h : Heap) (l m : Addr) : Heap := (zt1 h l).push { cls := .type "list_iterator", data := .fields #[.ref m, .int 0 0] }
noncomputable abbrev zt3 (h : Heap) (l m : Addr) : Heap := (zt2 h l m).push { cls := .type "tuple", data := .seq #[.ref h.objs.size, .ref (zt1 h l).objs.size] }
noncomputable abbrev zt4 (h : Heap) (l m : Addr) : Heap := (zt3 h l m).push { cls := .type "tuple", data := .seq #[.none, .none] }
noncomputable abbrev zt5 (h : Heap) (l m : Addr) : Heap := (zt4 h l m).push { cls := .type "zip", data := .fields #[.none, .bool false, .bool false, .ref (zt2 h l m).objs.size, .ref (zt3 h l m).objs.size] }
section
variable {prog : Program} {w : World} {A : Around} {E : Value → Shared → Prop} {s : Shared}
end
noncomputable def ZfC (K : PySem.W.Frag) (a b : Addr) : It :=
  ⟨fun i H => ∃ xs ys x y, SqT K H a xs ∧ xs[i]? = some x ∧ SqL K H b ys ∧ ys[i]? = some y,
   fun i H v H' => ∃ T x y, (∀ xs, SqT K H a xs → xs[i]? = some x) ∧ (∀ ys, SqL K H b ys → ys[i]? = some y) ∧ H T = none ∧ v = .ref T ∧ H' = upd H T (.tup [x, y]),
   fun i H => ∃ xs ys, SqT K H a xs ∧ SqL K H b ys ∧ (xs.length ≤ i ∨ ys.length ≤ i)⟩
noncomputable def ZgH (a b : Addr) (n : Nat) (i : Nat) (h : Heap) : Prop :=
 IsZip h (n + 4) (n + 2) (n + 3) .none ∧ IsPair h (n + 2) (.ref n) (.ref (n + 1)) ∧ (∃ u v, IsPair h (n + 3) u v) ∧ h.IsTupleIter n a i ∧ h.IsListIter (n + 1) b i
section
variable {X : Cx}
noncomputable def Zfr (K : PySem.W.Frag) (ta : TA) : TI := fun σ H R => ta σ H fun vs H1 => ∃ a b, vs = [.ref a, .ref b] ∧ (∃ xs, SqT K H1 a xs) ∧ (∃ ys, SqL K H1 b ys) ∧ R (ZfC K a b) H1
noncomputable def Zgl (ta : DTA) : Xw := fun Δ M Ψ => ta Δ M fun xs M1 => on2 xs fun x y => onT x fun as => onL y fun bs => Ψ (ZcE as bs) M1
end
end DL
namespace DL
open PySem PySem.Spec PyProof.Rows L2 PySem.W
section
variable {X : Cx} {tg iter : Expr} {g : DTG} {tb : DTS} {body : List Stmt} {pos : Pos}
noncomputable def ZfS (src : Xw) (g : DTG) (tb : DTS) : DTS := fun D Δ M => src Δ M fun ds M1 => Ea g tb D ds Δ M1
noncomputable def Ze9 (K : PySem.W.Frag) : V → List V → Hp → VK → Prop := fun x vs H Q => ∃ (l : Addr) (ss : List Str) (t : Str), x = .ref l ∧ vs = [V.str t] ∧ SqL K H l (List.map V.str ss) ∧ t ∈ ss ∧ Q (.int (ss.idxOf t : Nat)) H
noncomputable def BJ (ds : List PyData) (P : List Str → Prop) : Prop := ∃ ss, ds = ss.map PyData.str ∧ P ss
noncomputable def ZgC (to te : DTE) : DTE := fun Δ M Φ => to Δ M fun x M1 => onL x fun ds => te Δ M1 fun y M2 => onS y fun t => BJ ds fun ss => t ∈ ss ∧ Φ (.dat (.int (ss.idxOf t : Nat))) M2
noncomputable def ZfO (x : DV) (P : List PyData → Prop) : Prop := match x with | .dat (.tuple ds) => P ds | .dat (.list ds) => P ds | _ => False
noncomputable def iTL (K : PySem.W.Frag) (tl : TE) : TI := fun σ H R => tl σ H fun x H1 => ∃ a, x = .ref a ∧ (((∃ xs, SqL K H1 a xs) ∧ R (Itl K a) H1) ∨ (∃ xs, SqT K H1 a xs) ∧ R (Itt K a) H1)
noncomputable def Zfg (te : DTE) : Xw := fun Δ M Ψ => te Δ M fun x M1 => ZfO x fun ds => Ψ ds M1
end
end DL
namespace DL
open PySem PySem.Spec PyProof.Rows L2
noncomputable def Zdi (X : Cx) (scope : Scope) (k : Str) (C : Addr) (N : List Str) (ex : List Addr) (s : Shared) (H : Hp) : Cx :=
 { X with N := N, s₀ := s, H₀ := H, env := compEnvC scope ((k, C + 1) :: Fp X.env scope.names []) C X.env, outer := X.stack, ex := ex, fn := fun x => x == k, pn := [], xe := fun _ _ => False }
structure Zct (X : Cx) (scope : Scope) (k : Str) (N : List Str) (ix : List (Option Nat)) : Prop where
 kind : scope.kind = .function
 cf : ∀ n cl, cellsFrom n scope.names cl = (k, n) :: cl
 pc : ∀ h, pushCells h scope.names = h.push { cls := .type "cell", data := .cell none }
 cellK : ∀ y ∈ scope.names, y.2 = .cell → y.1 = k
 nk : ∀ y ∈ scope.names, y.2 = .free → y.1 ≠ k
 names : ∀ y ∈ scope.names, y.2 = .local → scope.names.lookup y.1 = some .local
 free : ∀ y ∈ scope.names, y.2 = .free → X.env.kindOf y.1 = some .cell
 len : N.length = ix.length
 cap : ∀ (j : Nat) (x : Str) (i : Nat), N[j]? = some x → ix[j]? = some (some i) → X.N[i]? = some x ∧ (x, NameKind.free) ∈ scope.names ∧ (relabel scope X.env).names.lookup x = some .cell
section
variable {X : Cx} {pins : List (Addr × Obj)} {σ : L2.St} {H2 : Hp} {s2 : Shared} {scope : Scope} {k : Str} {N : List Str} {ix : List (Option Nat)} {C : Addr} {fp : List Addr}
end
section
variable {X : Cx}
set_option maxHeartbeats 2000000 in
end
end DL
namespace DL
open PySem PySem.Spec PyProof.Rows L2 PySem.W
noncomputable def Zet (o : Option OO) (P : List (Key × DV) → Prop) : Prop := match o with | some (.dko ps) => P ps | _ => False
noncomputable def Zc0 (ps : List (Key × DV)) (k : Key) : Option DV := (ps.find? fun p => decide (p.1 = k)).map (·.2)
noncomputable def ZdG (ps : List (Key × DV)) (k : Key) (x : DV) : List (Key × DV) := if (ps.any fun p => decide (p.1 = k)) = true then ps.map (fun p => if p.1 = k then (p.1, x) else p) else ps ++ [(k, x)]
section
variable {K : PySem.W.Frag} {M : Mp} {H : Hp}
noncomputable abbrev KO (K : PySem.W.Frag) (M : Mp) (H : Hp) : List (Key × V) → List (Key × DV) → Prop := Paired fun (p : Key × V) (q : Key × DV) => p.1 = q.1 ∧ VR0 K M H p.2 q.2
theorem QB.zero {v : V} {x : DV} (h : QB K M H v x) (n : ∀ t, x ≠ .ty t) : VR0 K M H v x := by
 cases x with
 | dat d => exact h
 | own b => exact h
 | ty t => exact absurd rfl (n t)
end
section
variable {X : Cx} {o i value : Expr} {td ti tv : DTE} {pos pos' : Pos}
noncomputable def Ze3 (x : DV) (P : Prop) : Prop := match x with | .ty _ => False | _ => P
noncomputable def Zf7 (td ti tv : DTE) : DTS := fun D Δ M => tv Δ M fun x M1 => td Δ M1 fun y M2 => ti Δ M2 fun z M3 => Ze3 x (onO y fun l => onS z fun s => Zet (M3 l) fun ps => ps.length < sizeLine ∧ D.nx Δ (Z1 M3 l (.dko (ZdG ps (.inr s) x))))
noncomputable def Zfo (td ti : DTE) : DTE := fun Δ M Φ => td Δ M fun x M1 => ti Δ M1 fun y M2 => onO x fun l => onS y fun s => Zet (M2 l) fun ps => ∃ z, Zc0 ps (.inr s) = some z ∧ Φ z M2
noncomputable def Zbd : List (DV × DV) → (List (Key × DV) → Prop) → Prop
 | [], P => P []
 | (x, y) :: r, P => KH x fun k => Ze3 y (Zbd r fun l => P ((k, y) :: l))
noncomputable def Zez (t : DTP) : DTE := fun Δ M Φ => ∀ p, M p = none → t Δ (Z1 M p (.dko [])) fun qs M2 => Zbd qs fun l => M2 p = some (.dko []) ∧ ((l.map (·.1)).Nodup ∧ l.length ≤ 15) ∧ Φ (.own p) (Z1 M2 p (.dko l))
end
end DL
namespace DL
open PySem PySem.Spec PyProof.Rows L2 PySem.W
section
open PySem.SeqAt
open PySem.AutoSeq1 (wpAny_loadPart')
open PySem.MeetsSeq PySem.MeetsSeq2 PySem.MeetsSeq3
variable {prog : Program} {w : World} {A : Around} {E : Value → Shared → Prop} {s : Shared}
end
noncomputable def Zcl : PyData → Option (Int × Str)
 | .tuple [.int i, .tuple (.str s :: _)] => some (i, s)
 | _ => none
noncomputable def ZeZ (ks : List (Int × Str)) (i j : Nat) : Bool := decide ((ks.getD i (0, Str.empty)).1 < (ks.getD j (0, Str.empty)).1 ∨ (ks.getD i (0, Str.empty)).1 = (ks.getD j (0, Str.empty)).1 ∧ (ks.getD i (0, Str.empty)).2.cps.toList < (ks.getD j (0, Str.empty)).2.cps.toList)
section
variable {X : Cx}
noncomputable def ZeV (K : PySem.W.Frag) : List V → Hp → VK → Prop := fun xs H Q => ∃ (p : Addr) (M : Mp) (vs : List V) (ds : List PyData) (ks : List (Int × Str)), xs = [.ref p] ∧ SqL K H p vs ∧ Dts K M H vs ds ∧ ds.map Zcl = ks.map some ∧ ks.Nodup ∧ ds.length < 64 ∧
 ∀ q, Pm ds.length q → Up (ZeZ ks) q ds.length → ∀ l, H l = none → Q (.ref l) (upd H l (.lst (q.toList.map fun i => vs.getD i .non)))
noncomputable def Zfz (a b : PyData) : Prop := ∀ s t, Zcl a = some s → Zcl b = some t → ¬ (t.1 < s.1 ∨ t.1 = s.1 ∧ t.2.cps.toList < s.2.cps.toList)
noncomputable def Zdg : D1 := fun xs M Φ => on1 xs fun x => onK x M fun ds => ∃ ks : List (Int × Str), ds.map Zcl = ks.map some ∧ ks.Nodup ∧ ds.length < 64 ∧ ∀ ds' : List PyData, ds'.Perm ds → ds'.Pairwise Zfz → Φ (.dat (.list ds')) M
theorem U7 : ∀ {us : List Value} {ss : List Str}, StrsAre us ss → Vals (ss.map V.str) us
 | _, _, .nil => .nil
 | _, _, .cons n t h => .cons ⟨t, rfl⟩ (U7 h)
theorem Kk {K : PySem.W.Frag} {M : Mp} {H : Hp} : ∀ ss : List Str, Dts K M H (ss.map V.str) (ss.map PyData.str)
 | [] => .nil
 | s :: ss => .cons (.str s) (Kk ss)
noncomputable def ZdH : D1 := fun xs M Φ => on1 xs fun x => onK x M fun ds => BJ ds fun ss => ss.length < 64 ∧ ∀ ss' : List Str, ss'.Perm ss → sortedS ss' = true → Φ (.dat (.list (ss'.map PyData.str))) M
end
end DL
namespace DL
open PySem PySem.Spec PyProof.Rows L2 PySem.W
theorem Step.all {M : Mp} {H : Hp} : Step M H (fun _ => none) H := ⟨fun _ _ _ h => h, fun _ _ _ _ => rfl⟩
noncomputable def By (x : DV) (M : Mp) (P : PyData → Prop) : Prop := match x with | .dat d => P d | .own q => J1 (M q) (fun ds => P (.list ds)) | _ => False
theorem ML (d : PyData) (M : Mp) (P : PyData → Prop) : By (.dat d) M P = P d := propext Iff.rfl
theorem Hu (q : Addr) (M : Mp) (P : PyData → Prop) : By (.own q) M P = J1 (M q) (fun ds => P (.list ds)) := propext Iff.rfl
section
variable {X : Cx}
theorem GY {M : Mp} {H : Hp} {v : V} {x : DV} {P : PyData → Prop} (h : By x M P) (r : ZW X.K M H) (rv : QB X.K M H v x) : ∃ d, Dt X.K (fun _ => none) H v d ∧ P d := by
 cases x with
 | dat d => exact ⟨d, Dt.step Step.all rv, h⟩
 | own q =>
  have h : J1 (M q) (fun ds => P (.list ds)) := h
  replace h := QH h
  obtain ⟨ds, hm, h⟩ := h
  cases (show v = .ref q from rv)
  obtain ⟨vs, g1, g2⟩ := r.ls q ds hm
  exact ⟨.list ds, .lst (.inl ⟨rfl, .inl g1⟩) (g2.step Step.all), h⟩
 | ty t => exact h.elim
noncomputable def ZbP : D2 := fun x y M Φ => By x M fun d => By y M fun e => BM d e = true ∧ Φ (.dat (.bool (PyData.eqv d e))) M
theorem Rx (x y : DV) (M : Mp) (Φ : DK) : ZbP x y M Φ = (By x M fun d => By y M fun e => BM d e = true ∧ Φ (.dat (.bool (PyData.eqv d e))) M) := propext Iff.rfl
noncomputable def Zdq : D2 := fun x y M Φ => By x M fun d => By y M fun e => BM d e = true ∧ Φ (.dat (.bool (!PyData.eqv d e))) M
theorem PY (x y : DV) (M : Mp) (Φ : DK) : Zdq x y M Φ = (By x M fun d => By y M fun e => BM d e = true ∧ Φ (.dat (.bool (!PyData.eqv d e))) M) := propext Iff.rfl
theorem OW {d e : PyData} (h : BM d e = true) : d.canLay0 = true ∧ e.canLay0 = true ∧ min d.depth e.depth ≤ 64 := by
 unfold BM at h
 simp only [Bool.and_eq_true] at h
 exact ⟨h.1.1, h.1.2, Nat.le_of_ble_eq_true h.2⟩
theorem SE {k : Nat} (hr : Yr k X.A) : OpD X (compareOp .Eq) ZbP :=
 ⟨_, NU hr.units, fun v u H x y M Φ Q r rv ru h k => by
  obtain ⟨d, hd, h⟩ := GY h r rv
  obtain ⟨e, he, ok, q⟩ := GY h r ru
  obtain ⟨c1, c2, hdp⟩ := OW ok
  exact ⟨_, d, e, hd, he, c1, c2, hdp, k.dat r Step.refl (Dt.bl _) q⟩⟩
noncomputable def EV : D1 := fun xs M Φ => on1 xs fun x => By x M fun d => Shw d ∧ Φ (.dat (.str d.shown)) M
theorem ER (xs : List DV) (M : Mp) (Φ : DK) : EV xs M Φ = (on1 xs fun x => By x M fun d => Shw d ∧ Φ (.dat (.str d.shown)) M) := propext Iff.rfl
theorem LG {k : Nat} (hr : Yr k X.A) : Yi X (.builtin "repr") EV := by
 refine ⟨_, K6 hr.gd (by have := hr.un; omega), fun vs H xs M Φ Q r rv h k => ?_⟩
 replace h := Zn h
 obtain ⟨x, rfl, h⟩ := h
 obtain ⟨v, rfl, h1⟩ := Paired.one rv
 obtain ⟨d, hd, hs, q⟩ := GY h r h1
 exact ⟨v, d, _, rfl, hd, hs.s, hs.m, hs.dp, hs.z, k.dat r Step.refl (Dt.str _) q⟩
noncomputable def Ze5 (T : String) : D1 := fun xs M Φ => match xs with | [x, .ty t] => t = T ∧ By x M fun d => Φ (.dat (.bool (ZG T d))) M | _ => False
noncomputable def Zfj (te : DTE) : DTE := fun Δ M Φ => te Δ M fun x M1 => By x M1 fun d => Φ (.dat (.bool (ZG "list" d || ZG "tuple" d))) M1
end
end DL
namespace DL
open PySem PySem.Spec PyProof.Rows L2
noncomputable def YlG (K : PySem.W.Frag) (J : It) (ds : List PyData) (G : Mp → Prop) (M : Mp) (H : Hp) : Prop := ∀ M2 H2, Step M H M2 H2 → ZW K M2 H2 → G M2 → ∀ i,
 (i < ds.length → J.go i H2 ∧ ∀ x H', J.yld i H2 x H' → ZW K M2 H2 → ZW K M2 H' ∧ Step M2 H2 M2 H' ∧ ∃ d, ds[i]? = some d ∧ Dt K M2 H' x d) ∧ (ds.length ≤ i → J.stop i H2)
noncomputable abbrev Fd := DSt → Mp → (List PyData → (Mp → Prop) → Mp → Prop) → Prop
noncomputable def DIG (X : Cx) (tg iter : Expr) (src : Fd) : Prop := ∃ wi, PI X tg iter wi ∧ ∀ σ H Δ M Ψ (R : It → Hp → Prop), ZW X.K M H → JD X.K M H σ Δ → src Δ M Ψ →
 (∀ J H' M' ds G, ZW X.K M' H' → Step M H M' H' → YlG X.K J ds G M' H' → Ψ ds G M' → R J H') → wi σ H R
section
variable {X : Cx}
noncomputable abbrev Zb5 (ds : List PyData) (G : Mp → Prop) (M1 : Mp) (Δ : DSt) (ix : List (Option Nat)) (g : DTG) (tc : DTT) (te : DTE) (ψ : List PyData → Mp → Prop) : Prop := ds.length ≤ sizeLine ∧ ∃ J : Nat → List PyData → Mp → Prop, (∀ i acc M', J i acc M' → G M') ∧ J 0 [] M1 ∧
 (∀ i d acc M', ds[i]? = some d → J i acc M' → g (.dat d) (Dc ix Δ) M' fun Δ2 M2 => tc Δ2 M2 fun b M3 => if b = true then te Δ2 M3 fun y M4 => onD y fun e => J (i + 1) (acc ++ [e]) M4 else J (i + 1) acc M3) ∧ ∀ acc M', J ds.length acc M' → ψ acc M'
set_option maxHeartbeats 2000000 in
noncomputable def Zef (ow : Bool) (src : Fd) (ix : List (Option Nat)) (g : DTG) (tc : DTT) (te : DTE) : DTE := fun Δ M Φ => src Δ M fun ds G M1 => ds.length ≤ sizeLine ∧ ∃ J : Nat → List PyData → Mp → Prop, (∀ i acc M', J i acc M' → G M') ∧ J 0 [] M1 ∧
 (∀ i d acc M', ds[i]? = some d → J i acc M' → g (.dat d) (Dc ix Δ) M' fun Δ2 M2 => tc Δ2 M2 fun b M3 => if b = true then te Δ2 M3 fun y M4 => onD y fun e => J (i + 1) (acc ++ [e]) M4 else J (i + 1) acc M3) ∧ ∀ acc M', J ds.length acc M' → BG ow Φ acc M'
noncomputable def Zft (ta : DTA) : Fd := fun Δ M Ψ => ta Δ M fun xs M1 => on2 xs fun x y => onK x M1 fun as => onL y fun bs => Ψ (ZcE as bs) (fun M2 => onK x M2 fun cs => cs = as) M1
end
end DL
namespace DL
open PySem PySem.Spec PyProof.Rows L2
section
variable {X : Cx}
noncomputable def ZbV : D1 := fun xs M Φ => on1 xs fun x => onK x M fun ds => BJ ds fun ss => ss.length < 64 ∧ ∀ ss' : List Str, ss'.Perm ss → sortedS ss' = true → ∀ p, M p = none → Φ (.own p) (Z1 M p (.lst (ss'.map PyData.str)))
end
end DL
namespace DL
open PySem PySem.Spec PyProof.Rows L2 PySem.W
noncomputable def Ow (x : DV) (M : Mp) (P : List PyData → Prop) : Prop := match x with | .dat (.list ds) => P ds | .own q => J1 (M q) P | _ => False
theorem L1 (ds : List PyData) (M : Mp) (P : List PyData → Prop) : Ow (.dat (.list ds)) M P = P ds := propext Iff.rfl
theorem LQ (q : Addr) (M : Mp) (P : List PyData → Prop) : Ow (.own q) M P = J1 (M q) P := propext Iff.rfl
section
variable {X : Cx}
theorem Pe {M : Mp} {H : Hp} {v : V} {x : DV} {P : List PyData → Prop} (h : Ow x M P) (r : ZW X.K M H) (rv : QB X.K M H v x) : ∃ ds, Dt X.K (fun _ => none) H v (.list ds) ∧ P ds := by
 unfold Ow at h
 split at h
 ·exact ⟨_, Dt.step Step.all rv, h⟩
 ·rename_i q
  replace h := QH h
  obtain ⟨ds, hm, h⟩ := h
  cases (show v = .ref q from rv)
  obtain ⟨vs, g1, g2⟩ := r.ls q ds hm
  exact ⟨ds, .lst (.inl ⟨rfl, .inl g1⟩) (g2.step Step.all), h⟩
 ·exact h.elim
noncomputable def ZbI : D2 := fun x y M Φ => onD x fun d => Ow y M fun ds => okIn d ds = true ∧ Φ (.dat (.bool (ds.any fun e => PyData.eqv e d))) M
theorem Oz (x y : DV) (M : Mp) (Φ : DK) : ZbI x y M Φ = (onD x fun d => Ow y M fun ds => okIn d ds = true ∧ Φ (.dat (.bool (ds.any fun e => PyData.eqv e d))) M) := propext Iff.rfl
noncomputable def ZbT : D2 := fun x y M Φ => onD x fun d => Ow y M fun ds => okIn d ds = true ∧ Φ (.dat (.bool (!(ds.any fun e => PyData.eqv e d)))) M
theorem SX {k : Nat} (hr : Yr k X.A) : OpD X (compareOp .In) ZbI :=
 ⟨_, Zan (by have := hr.un; omega), fun v u H x y M Φ Q r rv ru h k => by
  obtain ⟨d, e1, h⟩ := Z0 h
  subst e1
  obtain ⟨ds, he, ho, q⟩ := Pe h r ru
  obtain ⟨c1, c2, hdp⟩ := PX ho
  exact ⟨_, d, ds, Dt.step Step.all rv, .inl he, c1, c2, hdp, k.dat r Step.refl (Dt.bl _) q⟩⟩
noncomputable def Tn (i : Nat) (t : DTS) : DTS := fun D Δ M => onV Δ[i]? fun x => onO x fun l => J1 (M l) fun ds => t D (Δ.set i (some (.dat (.list ds)))) (YQ M l)
theorem PH (i : Nat) (t : DTS) (D : Qy) (Δ : DSt) (M : Mp) : Tn i t D Δ M = (onV Δ[i]? fun x => onO x fun l => J1 (M l) fun ds => t D (Δ.set i (some (.dat (.list ds)))) (YQ M l)) := propext Iff.rfl
theorem Rl (i : Nat) {s : Stmt} {t : DTS} (h : DS X s t) : DS X s (Tn i t) := by
 obtain ⟨u, p, k⟩ := h
 refine ⟨u, p, fun σ H Δ M D E r er h e => ?_⟩
 obtain ⟨x, hx, h⟩ := EO h
 obtain ⟨l, rfl, h⟩ := Qd h
 obtain ⟨ds, hm, h⟩ := QH h
 obtain ⟨vs, e1, e2⟩ := r.ls l ds hm
 obtain ⟨v, hv, rv⟩ := er.at' i _ hx
 cases (show v = .ref l from rv)
 have er2 := (er.step Step.frz).set (i := i) (v := .ref l) (x := .dat (.list ds)) (Dt.lst (.inl ⟨Kd, .inl e1⟩) (e2.step Step.frz))
 have es : σ.set i (some (.ref l)) = σ := by
  obtain ⟨hi, e⟩ := List.getElem?_eq_some_iff.mp hv
  rw [← e]
  exact List.set_getElem_self hi
 rw [es] at er2
 exact k σ H _ _ D E r.frz er2 h (e.step Step.frz)
end
end DL
namespace DL
open PySem PySem.Spec PyProof.Rows L2 PySem.W
noncomputable def Itd (o : Obj) (a : Addr) (ks : List Key) : It :=
 ⟨fun i H => i < ks.length ∧ ∃ kvs, H a = some (.frz o (.dK kvs)) ∧ kvs.map (·.1) = ks, fun i H x H' => H' = H ∧ ∃ k, ks[i]? = some k ∧ x = kV k,
  fun i H => ks.length ≤ i ∧ ∃ kvs, H a = some (.frz o (.dK kvs)) ∧ kvs.map (·.1) = ks⟩
noncomputable def Zfi (o : Obj) (a it : Addr) (n : Nat) (i : Nat) (h : Heap) : Prop := ∃ es ep, o.data = .dict es ep ∧ h.IsKeyIter it a i n ep
section
variable {X : Cx} {tg l : Expr} {tl : TE}
noncomputable def Zgb (tl : TE) : TI := fun σ H R => tl σ H fun x H1 => ∃ a kvs, x = .ref a ∧ ((H1 a = some (.dK kvs) ∧ ∀ o, R (Itd o a (kvs.map (·.1))) (upd H1 a (.frz o (.dK kvs)))) ∨ ∃ o, H1 a = some (.frz o (.dK kvs)) ∧ R (Itd o a (kvs.map (·.1))) H1)
end
noncomputable def ZfN (o : Option OO) (P : List (Key × PyData) → Prop) (Q : Obj → List (Key × PyData) → Prop) : Prop := match o with | some (.dkv ps) => P ps | some (.fdk o ps) => Q o ps | _ => False
section
variable {X : Cx} {tg iter : Expr} {te : DTE} {g : DTG} {tb : DTS} {body : List Stmt} {pos : Pos}
noncomputable def Zgr (te : DTE) : Fd := fun Δ M Ψ => te Δ M fun x M1 => onO x fun l => ZfN (M1 l) (fun ps => ∀ o, Ψ (ps.map fun p => kD p.1) (fun M2 => M2 l = some (.fdk o ps)) (Z1 M1 l (.fdk o ps))) fun o ps => Ψ (ps.map fun p => kD p.1) (fun M2 => M2 l = some (.fdk o ps)) M1
noncomputable def TY (G : Mp → Prop) (g : DTG) (tb : DTS) (D : Qy) (ds : List PyData) (Δ : DSt) (M : Mp) : Prop :=
 ∃ J : Nat → DSt → Mp → Prop, (∀ i Δ M, J i Δ M → G M) ∧ J 0 Δ M ∧ (∀ i d Δ M, ds[i]? = some d → J i Δ M → g (.dat d) Δ M fun Δ2 M2 => tb { D with nx := J (i + 1), ct := J (i + 1), bk := D.nx } Δ2 M2) ∧ ∀ Δ M, J ds.length Δ M → D.nx Δ M
noncomputable def Zf2 (src : Fd) (g : DTG) (tb : DTS) : DTS := fun D Δ M => src Δ M fun ds G M1 => TY G g tb D ds Δ M1
end
noncomputable def ZeF (o : Option OO) (P : List (Key × PyData) → Prop) : Prop := match o with | some (.dkv ps) => P ps | some (.fdk _ ps) => P ps | _ => False
section
variable {X : Cx} {o i : Expr} {td ti : DTE} {pos : Pos}
noncomputable def Zge (td ti : DTE) : DTE := fun Δ M Φ => td Δ M fun x M1 => ti Δ M1 fun y M2 => onO x fun l => onS y fun s => ZeF (M2 l) fun ps => ∃ d, Js ps (.inr s) = some d ∧ Φ (.dat d) M2
noncomputable def Zei : D1 := fun xs M Φ => on1 xs fun x => onO x fun l => ZeF (M l) fun ps => Φ (.dat (.int ps.length)) M
end
end DL
namespace DL
open PySem PySem.Spec PyProof.Rows L2 PySem.W
noncomputable def ZbU : PyData → Option (Int × Str)
 | .tuple [.int i, .str s] => some (i, s)
 | _ => none
section
variable {X : Cx}
noncomputable def ZeQ (K : PySem.W.Frag) : List V → Hp → VK → Prop := fun xs H Q => ∃ (p : Addr) (M : Mp) (vs : List V) (ds : List PyData) (ks : List (Int × Str)), xs = [.ref p] ∧ SqL K H p vs ∧ Dts K M H vs ds ∧ ds.map ZbU = ks.map some ∧ ks.Nodup ∧ ds.length < 64 ∧
 ∀ q, Pm ds.length q → Up (ZeZ ks) q ds.length → ∀ l, H l = none → Q (.ref l) (upd H l (.lst (q.toList.map fun i => vs.getD i .non)))
noncomputable def Zfv (a b : PyData) : Prop := ∀ s t, ZbU a = some s → ZbU b = some t → ¬ (t.1 < s.1 ∨ t.1 = s.1 ∧ t.2.cps.toList < s.2.cps.toList)
noncomputable def ZdP : D1 := fun xs M Φ => on1 xs fun x => onK x M fun ds => ∃ ks : List (Int × Str), ds.map ZbU = ks.map some ∧ ks.Nodup ∧ ds.length < 64 ∧ ∀ ds' : List PyData, ds'.Perm ds → ds'.Pairwise Zfv → Φ (.dat (.list ds')) M
noncomputable def ZeY (to : DTE) : DTE := fun Δ M Φ => to Δ M fun x M1 => onO x fun l => J1 (M1 l) fun _ => Φ (.dat .none) (Z1 M1 l (.lst []))
end
end DL
namespace DL
open PySem PySem.Spec PyProof.Rows L2 PySem.W
noncomputable def ZfT : Value → Str
 | .str i _ => i
 | _ => Str.empty
noncomputable def S0 (es : Sa) : List Str := es.toList.map fun e => ZfT e.2
structure ZdK (P : Program) (w : World) (o : Obj) (es : Sa) (t : SetTable) : Prop where
 ex : o.ExactSet
 dt : ∃ ep, o.data = .set es ep t
 el : ElemsOf (PySem.strKind P w) es.toList
 bd : es.size < scanBound
 ft : t.fits es.size = true
 ok : TOk (w.params.followText "set-order") t
 nd : (S0 es).Nodup
noncomputable def SIS (P : Program) (w : World) (h : Heap) (a : Addr) (ks : List Str) : Prop := ∃ o es t, h.get? a = some o ∧ ZdK P w o es t ∧ ks = S0 es
section
variable {P : Program} {w : World} {A : Around} {E : Value → Shared → Prop} {s : Shared}
theorem SIS.same {h h' : Heap} {a : Addr} {ks : List Str} (hS : SIS P w h a ks) (k : ∀ o, h.get? a = some o → h'.get? a = some o) : SIS P w h' a ks := by
 obtain ⟨o, es, t, g, r⟩ := hS
 exact ⟨o, es, t, k o g, r⟩
end
section
variable {P : Program} {w : World} {A : Around} {R : Result → Shared → Prop} {I : Addr} {fp wr : List Addr} {G : Array GenState → Array GenState → Prop} {n : Nat} {Pv : Nat → Value → Prop} {St : Nat → Shared → Prop}
end
section
variable {P : Program} {w : World} {A : Around} {E : Value → Shared → Prop} {s : Shared}
set_option maxHeartbeats 4000000 in
end
section
variable {P : Program} {w : World} {A : Around} {E : Value → Shared → Prop} {s : Shared}
end
section
variable {P : Program} {w : World} {A : Around} {E : Value → Shared → Prop} {s : Shared}
end
section
variable {P : Program} {w : World} {A : Around} {E : Value → Shared → Prop} {s : Shared}
end
section
variable {X : Cx} {e : Expr} {t : TA} {p pos p2 pos2 : Pos}
noncomputable def ZgW (X : Cx) (t : TA) : TE := fun σ H Q => t σ H fun xs H1 => ∃ (l : Addr) (ns : List Str), xs = [.ref l] ∧ SqL X.K H1 l (ns.map V.str) ∧ ns.length < 64 ∧ ∀ ks : List Str, sortedS ks = true → ks.Nodup → (∀ z, z ∈ ks ↔ z ∈ ns) → ∀ l, H1 l = none → Q (.ref l) (upd H1 l (.lst (ks.map V.str)))
noncomputable def ZgS (t : DTA) : DTE := fun Δ M Φ => t Δ M fun xs M1 => on1 xs fun x => onK x M1 fun ds => BJ ds fun ns => ns.length < 64 ∧ ∀ ks : List Str, sortedS ks = true → ks.Nodup → (∀ z, z ∈ ks ↔ z ∈ ns) → Φ (.dat (.list (ks.map PyData.str))) M1
end
end DL
namespace DL
open PySem PySem.Spec PyProof.Rows L2 PySem.W Builtin Builtin.Str
section
variable {X : Cx}
noncomputable def SJ : V → List V → Hp → VK → Prop := fun x xs H Q => ∃ z y, x = .str z ∧ xs = [.str y] ∧ (y.length == 0) = false ∧ z.length ≤ 10000000 ∧ ∀ l, H l = none → Q (.ref l) (upd H l (.lst ((Txt.split z y).map V.str)))
theorem Lp : MtR X "str.split" SJ := by
 intro pins s σ H x xs v us Q I rx rs h
 obtain ⟨z, y, rfl, rfl, hy, hz, q⟩ := h
 obtain ⟨t, rfl⟩ := rx
 obtain ⟨u, rfl, ru⟩ := vals1 rs
 obtain ⟨u', rfl⟩ := ru
 have hn : (partsBetween z (occurrences z y 0 z.length (z.length + 1)) y.length).length ≤ sizeLine := by
  have e1 := StrLaws.occ_length_le z y 0 z.length (z.length + 1)
  rw [length_partsBetween, sizeLine_eq]; omega
 have hs : (Txt.split z y).length ≤ sizeLine := by
  unfold Txt.split
  split
  ·exact Nat.le_trans (Nat.le_refl 1) (by rw [sizeLine_eq]; decide)
  ·split
   ·exact Nat.le_trans (Nat.le_refl 1) (by rw [sizeLine_eq]; decide)
   ·exact hn
 have hf : H s.heap.objs.size = none := I.hok.fresh (Nat.le_refl _)
 have fin : ∀ (l : List (Str × Tok)) (k : Nat), l.map (·.1) = Txt.split z y → s.toks ≤ k → ∃ x H', L2.Inv X pins σ H' { s with toks := k, heap := s.heap.push { cls := .type "list", data := .seq (strValues l).toArray } } ∧ RelV x (.ref s.heap.objs.size) ∧ Q x H' := fun l k hl hk =>
  ⟨.ref s.heap.objs.size, _, I.laid (t' := k) (a := s.heap.objs.size) (o := .lst ((Txt.split z y).map V.str)) (fun _ _ e => Heap.get?_push_of_some _ e) (Nat.le_refl _) ⟨by rw [List.length_map]; exact hs, strValues l, 0, by rw [← hl]; exact U7 (strsAre_of_values l), Heap.get?_push_size _ rfl⟩, rfl, q _ hf⟩
 cases h1 : (decide (z.length < y.length) || decide (strKind z < strKind y))
 ·cases hf : (occurrences z y 0 z.length (z.length + 1)).isEmpty
  ·refine call_meets F.slot_str_split (typeIs_str _ _ _) F.entry_str_split (F.args_str_split_2 _ _) (meets_str_split_sep z y t u' h1 hy hf (by rw [sizeLine_eq]; omega) hn) ?_
   show wants _ _ _ { s with toks := _, heap := s.heap.push { cls := .type "list", data := .seq (strsFrom s.toks (partsBetween z (occurrences z y 0 z.length (z.length + 1)) y.length)).toArray } }
   rw [strsFrom_eq]
   exact fin (numbered s.toks _) _ ((numbered_texts _ _).trans ((if_neg (ne_true_of_eq_false h1)).trans (if_neg (ne_true_of_eq_false hf))).symm) (Nat.le_add_right _ _)
  ·exact call_meets F.slot_str_split (typeIs_str _ _ _) F.entry_str_split (F.args_str_split_2 _ _) (meets_str_split_not_found z y t u' h1 hy hf)
    (fin [(z, t)] s.toks ((if_neg (ne_true_of_eq_false h1)).trans (if_pos hf)).symm (Nat.le_refl _))
 ·exact call_meets F.slot_str_split (typeIs_str _ _ _) F.entry_str_split (F.args_str_split_2 _ _) (meets_str_split_cannot_occur z y t u' h1)
   (fin [(z, t)] s.toks (if_pos h1).symm (Nat.le_refl _))
noncomputable def NM (to te : DTE) : DTE := fun Δ M Φ => to Δ M fun x M1 => onS x fun z => te Δ M1 fun y M2 => onS y fun w => ((w.length == 0) = false ∧ z.length ≤ 10000000) ∧ Φ (.dat (.list ((Txt.split z w).map PyData.str))) M2
theorem HF (to te : DTE) (Δ : DSt) (M : Mp) (Φ : DK) : NM to te Δ M Φ = (to Δ M fun x M1 => onS x fun z => te Δ M1 fun y M2 => onS y fun w => ((w.length == 0) = false ∧ z.length ≤ 10000000) ∧ Φ (.dat (.list ((Txt.split z w).map PyData.str))) M2) := propext Iff.rfl
theorem Xy {o e : Expr} {to te : DTE} {apos cpos : Pos} (ho : DE X o to) (he : DE X e te) (hbase : attributeBase o "split" X.env (eval o X.env) = eval o X.env := by rfl)
  (hfew : ((backTo cpos (starEach [e] X.env)).all (fun x => !x.1) && (backToKw cpos (keywordEach [] X.env)).all (fun x => x.1.isSome)
   && decide ([e].length + ([] : List Keyword).length + (if ([] : List Keyword).isEmpty then 0 else 1) < 30)) = true := by rfl)
  (hline : (apos.endLine == cpos.line) = true := by rfl) (hs : starEach [e] X.env = (false, eval e X.env) :: starEach [] X.env := by rfl) (hplain : (backTo cpos (starEach [] X.env)).any (·.1) = false := by rfl) :
  DE X (.Call (.Attribute o "split" apos) [e] [] cpos) (NM to te) := by
 obtain ⟨t1, p1, q1⟩ := ho
 obtain ⟨t2, p2, q2⟩ := he
 refine ⟨_, DN PySem.F.plainAttrs_str PySem.F.slot_str_split PySem.F.type_str_split Lp p1 (Y7 p2 We hs) hbase hfew hline hs hplain, fun σ H Δ M Φ Q r e h k => ?_⟩
 refine q1 σ H Δ M _ _ r e h fun v H1 x M1 r1 st rv hx => ?_
 replace hx := Z4 hx
 obtain ⟨z, rfl, hx⟩ := hx
 cases rv.str
 refine ⟨rfl, q2 σ H1 Δ M1 _ _ r1 (e.step st) hx fun w H2 y M2 r2 st2 rw2 hy => ?_⟩
 replace hy := Z4 hy
 obtain ⟨w', rfl, ⟨h1, h2⟩, hy⟩ := hy
 cases rw2.str
 exact ⟨z, w', rfl, rfl, h1, h2, fun l hl => k.dat (r2.new hl) ((st.trans st2).trans (Step.new hl)) (Dt.Ki r2 hl (Kk _)) hy⟩
noncomputable def P5 : V → List V → Hp → VK → Prop := fun x xs H Q => ∃ z y, x = .str z ∧ xs = [.str y] ∧ Q (.bl (Txt.startswith z y)) H
theorem EK : MtR X "str.startswith" P5 := by
 intro pins s σ H x xs v us Q I rx rs h
 obtain ⟨z, y, rfl, rfl, q⟩ := h
 obtain ⟨t, rfl⟩ := rx
 obtain ⟨u, rfl, ru⟩ := vals1 rs
 obtain ⟨u', rfl⟩ := ru
 exact SC.startswith ⟨.bl _, H, I, rfl, q⟩
noncomputable def D5 (to te : DTE) : DTE := fun Δ M Φ => to Δ M fun x M1 => onS x fun z => te Δ M1 fun y M2 => onS y fun w => Φ (.dat (.bool (Txt.startswith z w))) M2
theorem D3 (to te : DTE) (Δ : DSt) (M : Mp) (Φ : DK) : D5 to te Δ M Φ = (to Δ M fun x M1 => onS x fun z => te Δ M1 fun y M2 => onS y fun w => Φ (.dat (.bool (Txt.startswith z w))) M2) := propext Iff.rfl
theorem Ge {o e : Expr} {to te : DTE} {apos cpos : Pos} (ho : DE X o to) (he : DE X e te) (hbase : attributeBase o "startswith" X.env (eval o X.env) = eval o X.env := by rfl)
  (hfew : ((backTo cpos (starEach [e] X.env)).all (fun x => !x.1) && (backToKw cpos (keywordEach [] X.env)).all (fun x => x.1.isSome)
   && decide ([e].length + ([] : List Keyword).length + (if ([] : List Keyword).isEmpty then 0 else 1) < 30)) = true := by rfl)
  (hline : (apos.endLine == cpos.line) = true := by rfl) (hs : starEach [e] X.env = (false, eval e X.env) :: starEach [] X.env := by rfl) (hplain : (backTo cpos (starEach [] X.env)).any (·.1) = false := by rfl) :
  DE X (.Call (.Attribute o "startswith" apos) [e] [] cpos) (D5 to te) := by
 obtain ⟨t1, p1, q1⟩ := ho
 obtain ⟨t2, p2, q2⟩ := he
 refine ⟨_, DN PySem.F.plainAttrs_str PySem.F.slot_str_startswith PySem.F.type_str_startswith EK p1 (Y7 p2 We hs) hbase hfew hline hs hplain, fun σ H Δ M Φ Q r e h k => ?_⟩
 refine q1 σ H Δ M _ _ r e h fun v H1 x M1 r1 st rv hx => ?_
 replace hx := Z4 hx
 obtain ⟨z, rfl, hx⟩ := hx
 cases rv.str
 refine ⟨rfl, q2 σ H1 Δ M1 _ _ r1 (e.step st) hx fun w H2 y M2 r2 st2 rw2 hy => ?_⟩
 replace hy := Z4 hy
 obtain ⟨w', rfl, hy⟩ := hy
 cases rw2.str
 exact ⟨z, w', rfl, rfl, k.dat r2 (st.trans st2) (Dt.bl _) hy⟩
theorem E3 : J9 X (.type "int") (fun xs H Q => ∃ z n, xs = [.str z] ∧ PySem.intText? z = some n ∧ z.length ≤ 640 ∧ Q (.int n) H) := by
 intro pins s σ H xs us Q I r h
 obtain ⟨z, n, rfl, hn, hl, q⟩ := h
 obtain ⟨u, rfl, rx⟩ := vals1 r
 obtain ⟨t, rfl⟩ := rx
 exact KIN.call_text hn hl ⟨.int n, H, I.tok _, ⟨_, rfl⟩, q⟩
noncomputable def Np : D1 := fun xs M Φ => on1 xs fun x => onS x fun z => ∃ n, PySem.intText? z = some n ∧ z.length ≤ 640 ∧ Φ (.dat (.int n)) M
theorem Lu (xs : List DV) (M : Mp) (Φ : DK) : Np xs M Φ = (on1 xs fun x => onS x fun z => ∃ n, PySem.intText? z = some n ∧ z.length ≤ 640 ∧ Φ (.dat (.int n)) M) := propext Iff.rfl
theorem Rr : Yi X (.type "int") Np := by
 refine ⟨_, E3, fun vs H xs M Φ Q r rv h k => ?_⟩
 replace h := Zn h
 obtain ⟨x, rfl, h⟩ := h
 replace h := Z4 h
 obtain ⟨z, rfl, n, hn, hl, q⟩ := h
 obtain ⟨v, rfl, h1⟩ := Paired.one rv
 exact ⟨z, n, by rw [QB.str h1], hn, hl, k.dat r Step.refl (Dt.int _) q⟩
section
variable {a b : Expr} {rest : List Expr} {ta tb : DTE} {pos : Pos}
theorem Zbv {ua ub : TE} (ha : PE X a ua) (hb : PE X (.BoolOp .Or (b :: rest) pos) ub) : PE X (.BoolOp .Or (a :: b :: rest) pos) (fun σ H Q => ua σ H fun x H1 => ∃ z, x = .str z ∧ z.length ≤ 1000 ∧ if z.length = 0 then ub σ H1 Q else Q (.str z) H1) := by
 intro pins s σ H Q I h
 refine BoolOp_or (thn (ha pins s σ H _ I h) fun v s1 ⟨x, H1, I1, r1, q1⟩ => ?_)
 obtain ⟨z, rfl, hz, q1⟩ := q1
 obtain ⟨t, rfl⟩ := r1
 refine PySem.P.truthy_str (by omega) ?_
 by_cases e : z.length = 0
 ·rw [if_pos e] at q1
  rw [if_neg (by simpa using e)]
  exact hb pins _ σ H1 Q (I1.tok _) q1
 ·rw [if_neg e] at q1
  rw [if_pos (by simpa using e)]
  exact ⟨.str z, H1, I1.tok _, ⟨_, rfl⟩, q1⟩
noncomputable def Zd3 (ta tb : DTE) : DTE := fun Δ M Φ => ta Δ M fun x M1 => onS x fun z => z.length ≤ 1000 ∧ if z.length = 0 then tb Δ M1 Φ else Φ (.dat (.str z)) M1
theorem Tz (ta tb : DTE) (Δ : DSt) (M : Mp) (Φ : DK) : Zd3 ta tb Δ M Φ = (ta Δ M fun x M1 => onS x fun z => z.length ≤ 1000 ∧ if z.length = 0 then tb Δ M1 Φ else Φ (.dat (.str z)) M1) := propext Iff.rfl
theorem Zav (ha : DE X a ta) (hb : DE X (.BoolOp .Or (b :: rest) pos) tb) : DE X (.BoolOp .Or (a :: b :: rest) pos) (Zd3 ta tb) := by
 obtain ⟨t, p, q⟩ := ha
 obtain ⟨u, p2, q2⟩ := hb
 refine ⟨_, Zbv p p2, fun σ H Δ M Φ Q r e h k => ?_⟩
 refine q σ H Δ M _ _ r e h fun v H1 x M1 r1 st rv hx => ?_
 replace hx := Z4 hx
 obtain ⟨z, rfl, hz, hx⟩ := hx
 refine ⟨z, rv.str, hz, ?_⟩
 by_cases e0 : z.length = 0
 ·rw [if_pos e0] at hx ⊢
  exact q2 σ H1 Δ M1 _ _ r1 (e.step st) hx (k.step st)
 ·rw [if_neg e0] at hx ⊢
  exact k.dat r1 st (Dt.str _) hx
end
noncomputable def B9 (to : DTE) : DTE := fun Δ M Φ => to Δ M fun x M1 => onO x fun l => J1 (M1 l) fun ds => Φ (.dat .none) (Z1 M1 l (.lst ds.reverse))
theorem CA (to : DTE) (Δ : DSt) (M : Mp) (Φ : DK) : B9 to Δ M Φ = (to Δ M fun x M1 => onO x fun l => J1 (M1 l) fun ds => Φ (.dat .none) (Z1 M1 l (.lst ds.reverse))) := propext Iff.rfl
theorem Dts.rev {K : PySem.W.Frag} {M : Mp} {H : Hp} : ∀ {vs : List V} {ds : List PyData}, Dts K M H vs ds → Dts K M H vs.reverse ds.reverse
 | _, _, .nil => .nil
 | _, _, .cons h1 h2 => by
  rw [List.reverse_cons, List.reverse_cons]
  exact (Dts.rev h2).append (.cons h1 .nil)
theorem CP {o : Expr} {to : DTE} {apos cpos : Pos} (ho : DE X o to) (hbase : attributeBase o "reverse" X.env (eval o X.env) = eval o X.env := by rfl) (hline : (apos.endLine == cpos.line) = true := by rfl) :
  DE X (.Call (.Attribute o "reverse" apos) [] [] cpos) (B9 to) := by
 obtain ⟨t1, p1, q1⟩ := ho
 refine ⟨_, Zaa PySem.F.plainAttrs_list PySem.F.slot_list_reverse PySem.F.type_list_reverse Dg p1 hbase hline, fun σ H Δ M Φ Q r e h k => ?_⟩
 refine q1 σ H Δ M _ _ r e h fun v H1 x M1 r1 st rv hx => ?_
 replace hx := Qd hx
 obtain ⟨l, rfl, hx⟩ := hx
 replace hx := QH hx
 obtain ⟨ds, hm, hx⟩ := hx
 cases (show v = .ref l from rv)
 obtain ⟨vs, g1, g2⟩ := r1.ls l _ hm
 refine ⟨.inl ⟨rfl, _, SqL.of g1⟩, l, _, rfl, rfl, g1, ?_⟩
 have st2 : Step M1 H1 (Z1 M1 l (.lst ds.reverse)) (upd H1 l (.lst vs.reverse)) := Step.BR hm
 exact k.dat (r1.XY st2 g2.rev) (st.trans st2) Dt.non hx
noncomputable def NP : DTS := fun _ _ _ => False
theorem ME (D : Qy) (Δ : DSt) (M : Mp) : NP D Δ M = False := rfl
theorem Cp {st : Stmt} : DS X st NP := ⟨_, MI, fun _ _ _ _ _ _ _ _ h => h.elim⟩
end
end DL
namespace My
open PySem PySem.Spec PyProof.Rows L2 DL
set_option maxHeartbeats 8000000
noncomputable def top (i : Nat) : Stmt := PySem.Challenge.pw_landsentered_k44_tellings_as_texts.main.body.getD i (.Pass ⟨0, 0, 0, 0⟩)
noncomputable abbrev Jf : Stmt := top 5
noncomputable abbrev Jg : Stmt := top 6
noncomputable abbrev Qe : Stmt := top 8
noncomputable abbrev JY : Stmt := top 9
noncomputable abbrev VH : Stmt := top 10
noncomputable abbrev QV : Stmt := top 11
noncomputable abbrev Z3 : Stmt := top 12
noncomputable abbrev Cy : Stmt := top 13
noncomputable abbrev QK : Stmt := top 16
noncomputable abbrev QL : Stmt := top 17
noncomputable abbrev Jq : Stmt := top 21
noncomputable abbrev JT : Stmt := top 22
noncomputable abbrev Qv : Stmt := top 23
noncomputable abbrev ZH : Stmt := top 24
noncomputable abbrev QR : Stmt := top 25
noncomputable abbrev ZO : Stmt := top 28
noncomputable abbrev ZQ : Stmt := top 29
noncomputable abbrev QY : Stmt := top 30
noncomputable abbrev QM : Stmt := top 31
noncomputable abbrev Qp : Stmt := top 32
noncomputable abbrev Qr : Stmt := top 33
noncomputable abbrev Qb : Stmt := top 34
noncomputable abbrev Qt : Stmt := top 35
noncomputable abbrev QW : Stmt := top 36
noncomputable abbrev Qq : Stmt := top 37
noncomputable abbrev QS : Stmt := top 38
noncomputable abbrev Z6 : Stmt := top 39
noncomputable abbrev KZ : Stmt := top 41
noncomputable abbrev KL : Stmt := top 42
noncomputable abbrev s_same : Stmt := top 43
noncomputable abbrev V1 : Stmt := top 44
noncomputable abbrev QP : Stmt := top 45
noncomputable abbrev JX : Stmt := top 46
noncomputable abbrev Jj : Stmt := top 47
noncomputable abbrev Y2 : Stmt := top 48
noncomputable abbrev Kh : Stmt := top 49
noncomputable abbrev K5 : Stmt := top 50
noncomputable abbrev J0 : Stmt := top 51
noncomputable abbrev XR : Stmt := top 52
noncomputable abbrev QN : Stmt := top 53
noncomputable abbrev K0 : Stmt := top 54
noncomputable abbrev Bp : Stmt := top 55
theorem Gi : Zs ["thing"] ["thing"] (Ze Jf) := ⟨rfl, rfl, rfl, by decide +kernel, rfl, by decide +kernel, by decide +kernel⟩
theorem GO : Zs ["thing"] ["thing"] (Ze Jg) := ⟨rfl, rfl, rfl, by decide +kernel, rfl, by decide +kernel, by decide +kernel⟩
theorem Ky : Zs ["thing"] ["thing"] (Ze Qe) := ⟨rfl, rfl, rfl, by decide +kernel, rfl, by decide +kernel, by decide +kernel⟩
theorem CJ : Zs ["thing"] ["thing"] (Ze JY) := ⟨rfl, rfl, rfl, by decide +kernel, rfl, by decide +kernel, by decide +kernel⟩
theorem Dq : Zs ["thing"] ["thing"] (Ze VH) := ⟨rfl, rfl, rfl, by decide +kernel, rfl, by decide +kernel, by decide +kernel⟩
theorem Ue : Zs ["box"] ["box"] (Ze QV) := ⟨rfl, rfl, rfl, by decide +kernel, rfl, by decide +kernel, by decide +kernel⟩
theorem Xs : Zs ["one", "other"] ["one", "other"] (Ze Z3) := ⟨rfl, rfl, rfl, by decide +kernel, rfl, by decide +kernel, by decide +kernel⟩
theorem Tp : Zs ["one", "other", "way"] ["one", "other", "way"] (Ze Cy) := ⟨rfl, rfl, rfl, by decide +kernel, rfl, by decide +kernel, by decide +kernel⟩
theorem Gf : Zs ["thing"] ["thing"] (Ze QK) := ⟨rfl, rfl, rfl, by decide +kernel, rfl, by decide +kernel, by decide +kernel⟩
theorem Bb : Zs ["boxes"] ["boxes"] (Ze QL) := ⟨rfl, rfl, rfl, by decide +kernel, rfl, by decide +kernel, by decide +kernel⟩
theorem C5 : Zs ["thing"] ["thing"] (Ze Jq) := ⟨rfl, rfl, rfl, by decide +kernel, rfl, by decide +kernel, by decide +kernel⟩
theorem CB : Zs ["thing"] ["thing"] (Ze JT) := ⟨rfl, rfl, rfl, by decide +kernel, rfl, by decide +kernel, by decide +kernel⟩
theorem WT : Zs ["thing"] ["thing"] (Ze Qv) := ⟨rfl, rfl, rfl, by decide +kernel, rfl, by decide +kernel, by decide +kernel⟩
theorem V9 : Zs ["thing"] ["thing"] (Ze ZH) := ⟨rfl, rfl, rfl, by decide +kernel, rfl, by decide +kernel, by decide +kernel⟩
theorem UY : Zs ["thing"] ["thing"] (Ze QR) := ⟨rfl, rfl, rfl, by decide +kernel, rfl, by decide +kernel, by decide +kernel⟩
theorem Xv : Zs ["tellings"] ["tellings"] (Ze ZO) := ⟨rfl, rfl, rfl, by decide +kernel, rfl, by decide +kernel, by decide +kernel⟩
theorem Q3 : Zs ["text", "lines", "told"] ["text"] (Ze ZQ) := ⟨rfl, rfl, rfl, by decide +kernel, rfl, by decide +kernel, by decide +kernel⟩
theorem Y1 : Zs ["telling", "words"] ["telling"] (Ze QY) := ⟨rfl, rfl, rfl, by decide +kernel, rfl, by decide +kernel, by decide +kernel⟩
theorem GG : Zs ["box"] ["box"] (Ze QM) := ⟨rfl, rfl, rfl, by decide +kernel, rfl, by decide +kernel, by decide +kernel⟩
theorem U4 : Zs ["spot"] ["spot"] (Ze Qp) := ⟨rfl, rfl, rfl, by decide +kernel, rfl, by decide +kernel, by decide +kernel⟩
theorem YJ : Zs ["line", "found"] ["line"] (Ze Qr) := ⟨rfl, rfl, rfl, by decide +kernel, rfl, by decide +kernel, by decide +kernel⟩
theorem YI : Zs ["words", "shape"] ["words"] (Ze Qb) := ⟨rfl, rfl, rfl, by decide +kernel, rfl, by decide +kernel, by decide +kernel⟩
theorem Wg : Zs ["word"] ["word"] (Ze Qt) := ⟨rfl, rfl, rfl, by decide +kernel, rfl, by decide +kernel, by decide +kernel⟩
theorem G2 : Zs ["word"] ["word"] (Ze QW) := ⟨rfl, rfl, rfl, by decide +kernel, rfl, by decide +kernel, by decide +kernel⟩
theorem Us : Zs ["word"] ["word"] (Ze Qq) := ⟨rfl, rfl, rfl, by decide +kernel, rfl, by decide +kernel, by decide +kernel⟩
theorem Xp : Zs ["word", "figures"] ["word"] (Ze QS) := ⟨rfl, rfl, rfl, by decide +kernel, rfl, by decide +kernel, by decide +kernel⟩
theorem Ku : Zs ["text"] ["text"] (Ze Z6) := ⟨rfl, rfl, rfl, by decide +kernel, rfl, by decide +kernel, by decide +kernel⟩
theorem Yo : Zs ["_law_pen", "_law_many", "_law_at", "_law_cell", "_law_one", "_law_two", "_law_digit"] ["_law_pen", "_law_many"] (Ze KZ) := ⟨rfl, rfl, rfl, by decide +kernel, rfl, by decide +kernel, by decide +kernel⟩
theorem WV : Zs ["_law_pen", "_law_many", "_law_found", "_law_k"] ["_law_pen", "_law_many"] (Ze KL) := ⟨rfl, rfl, rfl, by decide +kernel, rfl, by decide +kernel, by decide +kernel⟩
theorem Pb : Zs ["_law_found", "_law_due"] ["_law_found", "_law_due"] (Ze s_same) := ⟨rfl, rfl, rfl, by decide +kernel, rfl, by decide +kernel, by decide +kernel⟩
theorem JJ : Zs ["_law_pen", "_law_most", "_law_low", "_law_found", "_law_k", "_law_wide_here", "_law_first", "_law_last"] ["_law_pen", "_law_most"] (Ze V1) := ⟨rfl, rfl, rfl, by decide +kernel, rfl, by decide +kernel, by decide +kernel⟩
theorem Q0 : Zs ["_law_boxes_here", "_law_by", "_law_off", "_law_found", "_law_low", "_law_high", "_law_first"] ["_law_boxes_here", "_law_by", "_law_off"] (Ze QP) := ⟨rfl, rfl, rfl, by decide +kernel, rfl, by decide +kernel, by decide +kernel⟩
theorem VQ : Zs ["_law_pen", "_law_by", "_law_off"] ["_law_pen"] (Ze JX) := ⟨rfl, rfl, rfl, by decide +kernel, rfl, by decide +kernel, by decide +kernel⟩
theorem Q9 : Zs ["_law_pen", "_law_many", "_law_letters", "_law_words", "_law_base", "_law_start", "_law_manner", "_law_long", "_law_at", "_law_signs"] ["_law_pen", "_law_many"] (Ze Jj) := ⟨rfl, rfl, rfl, by decide +kernel, rfl, by decide +kernel, by decide +kernel⟩
theorem JA : Zs ["_law_pen", "_law_far", "_law_begin", "_law_span", "_law_things", "_law_lands", "_law_by", "_law_off"] ["_law_pen"] (Ze Y2) := ⟨rfl, rfl, rfl, by decide +kernel, rfl, by decide +kernel, by decide +kernel⟩
theorem Ft : Zs ["_law_pen", "_law_world_here", "_law_by"] ["_law_pen", "_law_world_here"] (Ze Kh) := ⟨rfl, rfl, rfl, by decide +kernel, rfl, by decide +kernel, by decide +kernel⟩
theorem VZ : Zs ["_law_pen", "_law_world_here", "_law_time", "_law_lands", "_law_by", "_law_outer", "_law_boxes_here", "_law_wobble", "_law_name"] ["_law_pen", "_law_world_here", "_law_time"] (Ze K5) := ⟨rfl, rfl, rfl, by decide +kernel, rfl, by decide +kernel, by decide +kernel⟩
theorem VR : Zs ["_law_pen", "_law_world_here", "_law_kind", "_law_time", "_law_thing"] ["_law_pen", "_law_world_here"] (Ze J0) := ⟨rfl, rfl, rfl, by decide +kernel, rfl, by decide +kernel, by decide +kernel⟩
theorem Ou : Zs ["_law_pen", "_law_world_here", "_law_most"] ["_law_pen", "_law_world_here", "_law_most"] (Ze XR) := ⟨rfl, rfl, rfl, by decide +kernel, rfl, by decide +kernel, by decide +kernel⟩
theorem UK : Zs ["_law_spot_here"] ["_law_spot_here"] (Ze QN) := ⟨rfl, rfl, rfl, by decide +kernel, rfl, by decide +kernel, by decide +kernel⟩
theorem Wu : Zs ["_law_one", "_law_words", "_law_low", "_law_high"] ["_law_one"] (Ze K0) := ⟨rfl, rfl, rfl, by decide +kernel, rfl, by decide +kernel, by decide +kernel⟩
theorem YB : Zs ["_law_script", "_law_pen", "_law_k", "_law_world_here", "_law_tellings", "_law_due", "_law_kept", "_law_again", "_law_found"] ["_law_script"] (Ze Bp) := ⟨rfl, rfl, rfl, by decide +kernel, rfl, by decide +kernel, by decide +kernel⟩
theorem Ep : bootBuiltins "abs" = some (.builtin "abs") := by decide +kernel
theorem Cj : bootBuiltins "all" = some (.builtin "all") := by decide +kernel
theorem Ox : bootBuiltins "bool" = some (.type "bool") := by decide +kernel
theorem Dz : bootBuiltins "int" = some (.type "int") := by decide +kernel
theorem ZU : bootBuiltins "isinstance" = some (.builtin "isinstance") := by decide +kernel
theorem Qc : bootBuiltins "len" = some (.builtin "len") := by decide +kernel
theorem N1 : bootBuiltins "max" = some (.builtin "max") := by decide +kernel
theorem Zb1 : bootBuiltins "range" = some (.type "range") := by decide +kernel
theorem WL : bootBuiltins "repr" = some (.builtin "repr") := by decide +kernel
theorem Vo : bootBuiltins "str" = some (.type "str") := by decide +kernel
theorem QI : bootBuiltins "tuple" = some (.type "tuple") := by decide +kernel
set_option genInjectivity false in
structure Tx (K : PySem.W.Frag) (mg : Str → Option Value) where
 JW : Addr
 JR : FuncData
 ZK : Own K mg "is_whole" Jf ["thing"] JW JR
 VG : Addr
 VO : FuncData
 Z8 : Own K mg "is_short" Jg ["thing"] VG VO
 Va : Addr
 Vb : FuncData
 Je : Own K mg "is_any_spot" Qe ["thing"] Va Vb
 YH : Addr
 Yt : FuncData
 Qj : Own K mg "is_spot" JY ["thing"] YH Yt
 WU : Addr
 Wj : FuncData
 XE : Own K mg "is_box" VH ["thing"] WU Wj
 V3 : Addr
 Yk : FuncData
 Ve : Own K mg "has_spots" QV ["box"] V3 Yk
 Jk : Addr
 Jx : FuncData
 QD : Own K mg "steps_between" Z3 ["one", "other"] Jk Jx
 R4 : Addr
 PL : FuncData
 Gn : Own K mg "gap" Cy ["one", "other", "way"] R4 PL
 YR : Addr
 YT : FuncData
 VE : Own K mg "is_shape" QK ["thing"] YR YT
 YX : Addr
 YY : FuncData
 VN : Own K mg "is_chain" QL ["boxes"] YX YY
 YA : Addr
 YM : FuncData
 Jo : Own K mg "is_name" Jq ["thing"] YA YM
 Ke : Addr
 Kc : FuncData
 Yy : Own K mg "is_time" JT ["thing"] Ke Kc
 Vr : Addr
 Vq : FuncData
 JB : Own K mg "is_telling" Qv ["thing"] Vr Vq
 Qz : Addr
 QA : FuncData
 Qa : Own K mg "is_name_or_empty" ZH ["thing"] Qz QA
 V6 : Addr
 Yp : FuncData
 J5 : Own K mg "is_wobble" QR ["thing"] V6 Yp
 Jp : Addr
 Jn : FuncData
 ZP : Own K mg "show_tellings" ZO ["tellings"] Jp Jn
 Ji : Addr
 Jr : FuncData
 ZM : Own K mg "read_tellings" ZQ ["text"] Ji Jr
 XX : Addr
 X8 : FuncData
 Yx : Own K mg "line_of" QY ["telling"] XX X8
 Xf : Addr
 YW : FuncData
 VJ : Own K mg "show_box" QM ["box"] Xf YW
 Vf : Addr
 J7 : FuncData
 Qn : Own K mg "show_spot" Qp ["spot"] Vf J7
 Vz : Addr
 Vp : FuncData
 Jz : Own K mg "telling_of" Qr ["line"] Vz Vp
 VD : Addr
 Vx : FuncData
 JK : Own K mg "read_words" Qb ["words"] VD Vx
 Vt : Addr
 Vw : FuncData
 JF : Own K mg "read_outer" Qt ["word"] Vt Vw
 Xb : Addr
 YV : FuncData
 VI : Own K mg "read_box" QW ["word"] Xb YV
 J4 : Addr
 Vg : FuncData
 Qo : Own K mg "read_spot" Qq ["word"] J4 Vg
 Vi : Addr
 Vh : FuncData
 Zx : Own K mg "number_of" QS ["word"] Vi Vh
 J3 : Addr
 J2 : FuncData
 Ja : Own K mg "are_figures" Z6 ["text"] J3 J2
 Vn : Addr
 Vj : FuncData
 Zh : Own K mg "_law_take" KZ ["_law_pen", "_law_many"] Vn Vj
 UW : Addr
 U1 : FuncData
 JP : Own K mg "_law_wide" KL ["_law_pen", "_law_many"] UW U1
 El : Addr
 Ei : FuncData
 VX : Own K mg "_law_same" s_same ["_law_found", "_law_due"] El Ei
 BA : Addr
 Bj : FuncData
 Wy : Own K mg "_law_boxes" V1 ["_law_pen", "_law_most"] BA Bj
 Yq : Addr
 Ye : FuncData
 J6 : Own K mg "_law_stretched" QP ["_law_boxes_here", "_law_by", "_law_off"] Yq Ye
 Kl : Addr
 X2 : FuncData
 Yu : Own K mg "_law_stretch" JX ["_law_pen"] Kl X2
 Bm : Addr
 Bt : FuncData
 Yg : Own K mg "_law_names" Jj ["_law_pen", "_law_many"] Bm Bt
 G9 : Addr
 Bn : FuncData
 Ws : Own K mg "_law_world" Y2 ["_law_pen"] G9 Bn
 FC : Addr
 Dl : FuncData
 Cb : Own K mg "_law_spot" Kh ["_law_pen", "_law_world_here"] FC Dl
 Fx : Addr
 Fc : FuncData
 BY : Own K mg "_law_land" K5 ["_law_pen", "_law_world_here", "_law_time"] Fx Fc
 Kb : Addr
 Kj : FuncData
 Yz : Own K mg "_law_telling" J0 ["_law_pen", "_law_world_here"] Kb Kj
 Dp : Addr
 FW : FuncData
 B2 : Own K mg "_law_some" XR ["_law_pen", "_law_world_here", "_law_most"] Dp FW
 Ya : Addr
 V8 : FuncData
 ZX : Own K mg "_law_spot_text" QN ["_law_spot_here"] Ya V8
 E7 : Addr
 EY : FuncData
 Cn : Own K mg "_law_line" K0 ["_law_one"] E7 EY
 ZbB : Addr
 ZaN : FuncData
 o_law : Own K mg "law" Bp ["_law_script"] ZbB ZaN
 OG : mg "abs" = none
 Lc : mg "all" = none
 S1 : mg "bool" = none
 P4 : mg "int" = none
 Z5 : mg "isinstance" = none
 Ju : mg "len" = none
 Zbl : mg "max" = none
 Q5 : mg "range" = none
 BH : mg "repr" = none
 Ka : mg "str" = none
 Jt : mg "tuple" = none
 Sy : Tok
 NB : mg "MOST" = some (.int 999999999999 Sy)
 Uh : Tok
 UA : mg "MOST_BOXES" = some (.int 6 Uh)
 KC : Tok
 Kx : mg "MOST_LETTERS" = some (.int 8 KC)
 Gh : Tok
 Gx : mg "LAST_TIME" = some (.int 1000000000000 Gh)
 KJ : Tok
 Kz : mg "MOST_FIGURES" = some (.int 60 KJ)
local macro_rules | `(tactic| walk_at "hd") => `(tactic| (subst_vars; (try dsimp only); refine DL.HP fun R hR => ?_))
noncomputable def gp (a b a' b' : Int) : Int := max 0 (max (a' - b) (a - b'))
noncomputable def btw (x y X Y x' y' X' Y' : Int) : Int := max (gp x X x' X') (gp y Y y' Y')
structure B4 where
 x : Int
 y : Int
 X : Int
 Y : Int
noncomputable def bD (b : B4) : PyData := .tuple [.tuple [.int b.x, .int b.y], .tuple [.int b.X, .int b.Y]]
noncomputable def QC (a b : B4) : Int := btw a.x a.y a.X a.Y b.x b.y b.X b.Y
noncomputable def okB (b : B4) : Bool := decide (b.x ≤ b.X) && decide (b.y ≤ b.Y)
noncomputable def BQ (f ox oy : Int) (b : B4) : B4 := ⟨b.x * f + ox, b.y * f + oy, b.X * f + f - 1 + ox, b.Y * f + f - 1 + oy⟩
noncomputable def toB : PyData → B4
 | .tuple [.tuple [.int x, .int y], .tuple [.int X, .int Y]] => ⟨x, y, X, Y⟩
 | _ => ⟨0, 0, 0, 0⟩
noncomputable def onX (x : DV) (P : B4 → Prop) : Prop := ∃ b, x = .dat (bD b) ∧ P b
theorem Cc (b : B4) (P : B4 → Prop) : onX (.dat (bD b)) P = P b := propext ⟨fun ⟨c, e, h⟩ => by
 rw [DV.dat.injEq] at e
 rw [show b = c from congrArg toB e]
 exact h, fun h => ⟨b, rfl, h⟩⟩
theorem HU (x y X Y : Int) (P : B4 → Prop) : onX (.dat (.tuple [.tuple [.int x, .int y], .tuple [.int X, .int Y]])) P = P ⟨x, y, X, Y⟩ := Cc ⟨x, y, X, Y⟩ P
theorem KW {x : DV} {P : B4 → Prop} (h : onX x P) : ∃ b, x = .dat (bD b) ∧ P b := h
theorem Zev (b : B4) (M : Mp) (P : List PyData → Prop) : onQ (.dat (bD b)) M P = P [.tuple [.int b.x, .int b.y], .tuple [.int b.X, .int b.Y]] := rfl
theorem Mf (b : B4) (M : Mp) (P : List PyData → Prop) : onQ (.dat (bD b)) M P = P [.tuple [.int b.x, .int b.y], .tuple [.int b.X, .int b.Y]] := propext Iff.rfl
theorem ZeN (b : B4) (P : List PyData → Prop) : onT (.dat (bD b)) P = P [.tuple [.int b.x, .int b.y], .tuple [.int b.X, .int b.Y]] := rfl
theorem L9 (b : B4) (P : List PyData → Prop) : onT (.dat (bD b)) P = P [.tuple [.int b.x, .int b.y], .tuple [.int b.X, .int b.Y]] := propext Iff.rfl
theorem XQ : ∀ bs : List B4, (bs.map bD).map toB = bs
 | [] => rfl
 | b :: bs => by rw [List.map_cons, List.map_cons, XQ bs]; rfl
noncomputable def Zcc (x : DV) (P : List B4 → Prop) : Prop := ∃ bs, x = .dat (.tuple (bs.map bD)) ∧ P bs
noncomputable def Zcm (x : DV) (P : List B4 → Prop) : Prop := ∃ bs, x = .dat (.list (bs.map bD)) ∧ P bs
theorem OU {x : DV} {P : List B4 → Prop} (h : Zcc x P) : ∃ bs, x = .dat (.tuple (bs.map bD)) ∧ P bs := h
theorem P9 {x : DV} {P : List B4 → Prop} (h : Zcm x P) : ∃ bs, x = .dat (.list (bs.map bD)) ∧ P bs := h
theorem KQ {as bs : List B4} (h : as.map bD = bs.map bD) : as = bs := by
 rw [← XQ as, h, XQ]
theorem PV (bs : List B4) (P : List B4 → Prop) : Zcc (.dat (.tuple (bs.map bD))) P = P bs := propext ⟨fun ⟨cs, e, h⟩ => by
 rw [DV.dat.injEq, PyData.tuple.injEq] at e
 rw [KQ e]
 exact h, fun h => ⟨bs, rfl, h⟩⟩
theorem Py (bs : List B4) (P : List B4 → Prop) : Zcm (.dat (.list (bs.map bD))) P = P bs := propext ⟨fun ⟨cs, e, h⟩ => by
 rw [DV.dat.injEq, PyData.list.injEq] at e
 rw [KQ e]
 exact h, fun h => ⟨bs, rfl, h⟩⟩
noncomputable def ZR : PyData → Bool
 | .int _ => true
 | _ => false
noncomputable def ZC : PyData → Bool
 | .int i => decide (-999999999999 ≤ i) && decide (i ≤ 999999999999)
 | _ => false
noncomputable def VY : PyData → Bool
 | .tuple [a, b] => ZR a && ZR b
 | _ => false
noncomputable def QE : PyData → Bool
 | .tuple [a, b] => ZC a && ZC b
 | _ => false
noncomputable def Vl : PyData → Bool
 | .tuple [a, b] => QE a && (QE b && okB (toB (.tuple [a, b])))
 | _ => false
noncomputable def chB : List B4 → Bool
 | a :: b :: l => decide (QC a b ≤ 1) && chB (b :: l)
 | _ => true
noncomputable def Jc : PyData → Bool
 | .tuple ds => (decide (1 ≤ ds.length) && decide (ds.length ≤ 6)) && (ds.all Vl && chB (ds.map toB))
 | _ => false
noncomputable def L6 (c : Nat) : Bool := decide (97 ≤ c) && decide (c ≤ 122)
noncomputable def Z9 : PyData → Bool
 | .str s => (decide (1 ≤ s.length) && decide (s.length ≤ 8)) && s.cps.toList.all L6
 | _ => false
noncomputable def Kt : PyData → Bool
 | .str s => decide (s.length ≤ 1000)
 | _ => true
noncomputable def JM : PyData → Bool
 | .int i => decide (0 ≤ i) && decide (i ≤ 1000000000000)
 | _ => false
noncomputable def B3 : PyData → Bool
 | .int i => decide (0 ≤ i) && decide (i ≤ 999999999999)
 | _ => false
noncomputable def OI : List PyData → Bool
 | [o, s, v] => (isS o (Str.ofString "") || Z9 o) && (Jc s && B3 v)
 | _ => false
noncomputable def RN : List PyData → Bool
 | [s] => QE s
 | _ => false
noncomputable def V7 (k : PyData) (l : List PyData) : Bool :=
 if isS k (Str.ofString "land") = true then OI l else if isS k (Str.ofString "spot") = true then RN l else l.isEmpty && (isS k (Str.ofString "drop") || isS k (Str.ofString "free"))
noncomputable def Qs : PyData → Bool
 | .tuple (k :: t :: n :: l) => JM t && (Z9 n && V7 k l)
 | _ => false
noncomputable def Zdo : PyData → Bool
 | .tuple ds => ds.all Kt
 | _ => true
noncomputable def spW : DSp := fun xs M Φ => on1 xs fun x => onD x fun d => Φ (.dat (.bool (ZR d))) M
theorem Zdb (xs : List DV) (M : Mp) (Φ : DK) : spW xs M Φ = (on1 xs fun x => onD x fun d => Φ (.dat (.bool (ZR d))) M) := propext Iff.rfl
noncomputable def ZbZ : DSp := fun xs M Φ => on1 xs fun x => onD x fun d => Φ (.dat (.bool (ZC d))) M
theorem TM (xs : List DV) (M : Mp) (Φ : DK) : ZbZ xs M Φ = (on1 xs fun x => onD x fun d => Φ (.dat (.bool (ZC d))) M) := propext Iff.rfl
noncomputable def Zdf : DSp := fun xs M Φ => on1 xs fun x => onD x fun d => Φ (.dat (.bool (VY d))) M
theorem Zbu (xs : List DV) (M : Mp) (Φ : DK) : Zdf xs M Φ = (on1 xs fun x => onD x fun d => Φ (.dat (.bool (VY d))) M) := propext Iff.rfl
noncomputable def ZbW : DSp := fun xs M Φ => on1 xs fun x => onD x fun d => Φ (.dat (.bool (QE d))) M
theorem T1 (xs : List DV) (M : Mp) (Φ : DK) : ZbW xs M Φ = (on1 xs fun x => onD x fun d => Φ (.dat (.bool (QE d))) M) := propext Iff.rfl
noncomputable def Zd0 : DSp := fun xs M Φ => on1 xs fun x => onD x fun d => Φ (.dat (.bool (Vl d))) M
theorem Zbr (xs : List DV) (M : Mp) (Φ : DK) : Zd0 xs M Φ = (on1 xs fun x => onD x fun d => Φ (.dat (.bool (Vl d))) M) := propext Iff.rfl
noncomputable def Bk : DSp := fun xs M Φ => on1 xs fun x => onD x fun d => Φ (.dat (.bool (Jc d))) M
theorem Fs (xs : List DV) (M : Mp) (Φ : DK) : Bk xs M Φ = (on1 xs fun x => onD x fun d => Φ (.dat (.bool (Jc d))) M) := propext Iff.rfl
noncomputable def spT : DSp := fun xs M Φ => on1 xs fun x => onD x fun d => Φ (.dat (.bool (JM d))) M
theorem Zdy (xs : List DV) (M : Mp) (Φ : DK) : spT xs M Φ = (on1 xs fun x => onD x fun d => Φ (.dat (.bool (JM d))) M) := propext Iff.rfl
noncomputable def OC : DSp := fun xs M Φ => on1 xs fun x => onD x fun d => Φ (.dat (.bool (B3 d))) M
theorem Rg (xs : List DV) (M : Mp) (Φ : DK) : OC xs M Φ = (on1 xs fun x => onD x fun d => Φ (.dat (.bool (B3 d))) M) := propext Iff.rfl
noncomputable def spN : DSp := fun xs M Φ => on1 xs fun x => onD x fun d => Kt d = true ∧ Φ (.dat (.bool (Z9 d))) M
theorem Zdm (xs : List DV) (M : Mp) (Φ : DK) : spN xs M Φ = (on1 xs fun x => onD x fun d => Kt d = true ∧ Φ (.dat (.bool (Z9 d))) M) := propext Iff.rfl
noncomputable def ZcJ : DSp := fun xs M Φ => on1 xs fun x => onD x fun d => Kt d = true ∧ Φ (.dat (.bool (isS d (Str.ofString "") || Z9 d))) M
theorem ZaT (xs : List DV) (M : Mp) (Φ : DK) : ZcJ xs M Φ = (on1 xs fun x => onD x fun d => Kt d = true ∧ Φ (.dat (.bool (isS d (Str.ofString "") || Z9 d))) M) := propext Iff.rfl
noncomputable def EU : DSp := fun xs M Φ => on1 xs fun x => onD x fun d => Zdo d = true ∧ Φ (.dat (.bool (Qs d))) M
theorem HD (xs : List DV) (M : Mp) (Φ : DK) : EU xs M Φ = (on1 xs fun x => onD x fun d => Zdo d = true ∧ Φ (.dat (.bool (Qs d))) M) := propext Iff.rfl
noncomputable def Oy : DSp := fun xs M Φ => on1 xs fun x => onX x fun b => Φ (.dat (.bool (okB b))) M
theorem OM (xs : List DV) (M : Mp) (Φ : DK) : Oy xs M Φ = (on1 xs fun x => onX x fun b => Φ (.dat (.bool (okB b))) M) := propext Iff.rfl
noncomputable def RB : DSp := fun xs M Φ => on3 xs fun x y z => onX x fun a => onX y fun b => onI z fun i => (i = 0 ∨ i = 1) ∧ Φ (.dat (.int (if i = 0 then gp a.x a.X b.x b.X else gp a.y a.Y b.y b.Y))) M
theorem RM (xs : List DV) (M : Mp) (Φ : DK) : RB xs M Φ = (on3 xs fun x y z => onX x fun a => onX y fun b => onI z fun i => (i = 0 ∨ i = 1) ∧ Φ (.dat (.int (if i = 0 then gp a.x a.X b.x b.X else gp a.y a.Y b.y b.Y))) M) := propext Iff.rfl
noncomputable def Ks : DSp := fun xs M Φ => on2 xs fun x y => onX x fun a => onX y fun b => Φ (.dat (.int (QC a b))) M
theorem G4 (xs : List DV) (M : Mp) (Φ : DK) : Ks xs M Φ = (on2 xs fun x y => onX x fun a => onX y fun b => Φ (.dat (.int (QC a b))) M) := propext Iff.rfl
noncomputable def Gv : DSp := fun xs M Φ => on1 xs fun x => Zcc x fun bs => bs.length ≤ 6 ∧ Φ (.dat (.bool (chB bs))) M
theorem Eo (xs : List DV) (M : Mp) (Φ : DK) : Gv xs M Φ = (on1 xs fun x => Zcc x fun bs => bs.length ≤ 6 ∧ Φ (.dat (.bool (chB bs))) M) := propext Iff.rfl
section
variable {P : Program} {w : World} {K : PySem.W.Frag} {mg : Str → Option Value} {base : Heap}
theorem UN {α : Type} {ds : List α} (h : ds.length = 2) : ∃ a b, ds = [a, b] := by
 match ds, h with
 | [a, b], _ => exact ⟨a, b, rfl⟩
theorem UE {ds : List PyData} (h : ds.length ≠ 2) : VY (.tuple ds) = false ∧ QE (.tuple ds) = false ∧ Vl (.tuple ds) = false := by
 match ds, h with
 | [], _ => exact ⟨rfl, rfl, rfl⟩
 | [_], _ => exact ⟨rfl, rfl, rfl⟩
 | [_, _], h => exact absurd rfl h
 | _ :: _ :: _ :: _, _ => exact ⟨rfl, rfl, rfl⟩
theorem Ct {d : PyData} (h : ZR d = true) : ∃ i, d = .int i := by
 cases d <;> first | exact ⟨_, rfl⟩ | cases h
theorem Km {d : PyData} (h : ZR d = false) : ZC d = false := by
 cases d <;> first | rfl | cases h
theorem Zek (n : Nat) : decide ((n : Int) = 2) = decide (n = 2) := decide_eq_decide.mpr (by omega)
theorem Nt {d : PyData} (h : VY d = true) : ∃ x y, d = .tuple [.int x, .int y] := by
 cases d with
 | tuple ds =>
  by_cases hl : ds.length = 2
  ·obtain ⟨a, b, rfl⟩ := UN hl
   have h' : ZR a = true ∧ ZR b = true := by simpa [VY] using h
   obtain ⟨x, rfl⟩ := Ct h'.1
   obtain ⟨y, rfl⟩ := Ct h'.2
   exact ⟨x, y, rfl⟩
  ·rw [(UE hl).1] at h
   cases h
 | _ => cases h
theorem BI {d : PyData} (h : VY d = false) : QE d = false := by
 cases d with
 | tuple ds =>
  by_cases hl : ds.length = 2
  ·obtain ⟨a, b, rfl⟩ := UN hl
   have h' : ZR a = false ∨ ZR b = false := by
    have : (ZR a && ZR b) = false := h
    exact Bool.and_eq_false_iff.mp this
   show (ZC a && ZC b) = false
   rcases h' with h' | h'
   ·rw [Km h']
    rfl
   ·rw [Km h', Bool.and_false]
  ·exact (UE hl).2.1
 | _ => rfl
theorem WE {d : PyData} (h : QE d = true) : ∃ x y : Int, d = .tuple [.int x, .int y] ∧ ZC (.int x) = true ∧ ZC (.int y) = true := by
 cases q : VY d with
 | false => rw [BI q] at h; cases h
 | true =>
  obtain ⟨x, y, rfl⟩ := Nt q
  exact ⟨x, y, rfl, Bool.and_eq_true_iff.mp h⟩
theorem Sl {d : PyData} (h : Vl d = true) : ∃ b, d = bD b ∧ okB b = true := by
 cases d with
 | tuple ds =>
  by_cases hl : ds.length = 2
  ·obtain ⟨a, b, rfl⟩ := UN hl
   have h' : QE a = true ∧ QE b = true ∧ okB (toB (.tuple [a, b])) = true := by simpa [Vl] using h
   obtain ⟨x, y, rfl, _⟩ := WE h'.1
   obtain ⟨x', y', rfl, _⟩ := WE h'.2.1
   exact ⟨⟨x, y, x', y'⟩, rfl, h'.2.2⟩
  ·rw [(UE hl).2.2] at h
   cases h
 | _ => cases h
noncomputable def stB (bs : List B4) (j : Nat) : Bool := match bs[j]?, bs[j + 1]? with
 | some a, some b => decide (QC a b ≤ 1)
 | _, _ => true
theorem Dy : ∀ bs : List B4, chB bs = (List.range (bs.length - 1)).all (stB bs)
 | [] => rfl
 | [_] => rfl
 | a :: b :: l => by
  have ih := Dy (b :: l)
  show (decide (QC a b ≤ 1) && chB (b :: l)) = (List.range (l.length + 1)).all (stB (a :: b :: l))
  rw [ih, List.range_succ_eq_map, List.all_cons, List.all_map]
  rfl
theorem Uk {p : Prop} [Decidable p] {A B : Prop} (h1 : ¬ p → A) (h2 : p → B) : if (!decide p) = true then A else B := by
 by_cases h : p
 ·rw [decide_eq_true h, if_neg (by decide)]
  exact h2 h
 ·rw [decide_eq_false h, if_pos (by decide)]
  exact h1 h
theorem Cw : ∀ {ds : List PyData}, ds.all Vl = true → ∃ bs : List B4, ds = bs.map bD
 | [], _ => ⟨[], rfl⟩
 | d :: ds, h => by
  rw [List.all_cons, Bool.and_eq_true] at h
  obtain ⟨b, rfl, _⟩ := Sl h.1
  obtain ⟨bs, rfl⟩ := Cw h.2
  exact ⟨b :: bs, rfl⟩
theorem Gb {ds : List PyData} (h : ¬ 1 ≤ (ds.length : Int) ∨ ¬ (ds.length : Int) ≤ 6) : Jc (.tuple ds) = false := by
 show ((decide (1 ≤ ds.length) && decide (ds.length ≤ 6)) && _) = false
 rcases h with h | h
 ·rw [decide_eq_false (show ¬ 1 ≤ ds.length by omega)]
  rfl
 ·rw [decide_eq_false (show ¬ ds.length ≤ 6 by omega), Bool.and_false]
  rfl
theorem Zdk (c : Nat) : (!decide ((⟨#[c]⟩ : Str).cps.toList < (Str.ofString "a").cps.toList)) = decide (97 ≤ c) := by
 rw [XF, show (Str.ofString "a").cps.toList = [97] by decide +kernel]
 by_cases h : 97 ≤ c
 ·rw [decide_eq_true h, decide_eq_false (fun z => by simp [List.cons_lt_cons_iff] at z; omega)]
  rfl
 ·rw [decide_eq_false h, decide_eq_true (by simp [List.cons_lt_cons_iff]; omega)]
  rfl
theorem ZcF (c : Nat) : (!decide ((Str.ofString "z").cps.toList < (⟨#[c]⟩ : Str).cps.toList)) = decide (c ≤ 122) := by
 rw [XF, show (Str.ofString "z").cps.toList = [122] by decide +kernel]
 by_cases h : c ≤ 122
 ·rw [decide_eq_true h, decide_eq_false (fun z => by simp [List.cons_lt_cons_iff] at z; omega)]
  rfl
 ·rw [decide_eq_false h, decide_eq_true (by simp [List.cons_lt_cons_iff]; omega)]
  rfl
theorem UG {s : Str} (h : ¬ 1 ≤ (s.length : Int) ∨ ¬ (s.length : Int) ≤ 8) : Z9 (.str s) = false := by
 show ((decide (1 ≤ s.length) && decide (s.length ≤ 8)) && s.cps.toList.all L6) = false
 rcases h with h | h
 ·rw [decide_eq_false (show ¬ 1 ≤ s.length by omega)]
  rfl
 ·rw [decide_eq_false (show ¬ s.length ≤ 8 by omega), Bool.and_false]
  rfl
theorem EL {ds : List PyData} (h : ds.length < 3) : Qs (.tuple ds) = false := by
 match ds, h with
 | [], _ => rfl
 | [_], _ => rfl
 | [_, _], _ => rfl
theorem LJ {α : Type} {ds : List α} (h : ¬ ds.length < 3) : ∃ a b c l, ds = a :: b :: c :: l := by
 match ds, h with
 | [], h => exact absurd (by simp) h
 | [_], h => exact absurd (by simp) h
 | [_, _], h => exact absurd (by simp) h
 | a :: b :: c :: l, _ => exact ⟨a, b, c, l, rfl⟩
theorem LW {α : Type} {ds : List α} (h : ds.length = 3) : ∃ a b c, ds = [a, b, c] := by
 match ds, h with
 | [a, b, c], _ => exact ⟨a, b, c, rfl⟩
theorem Zby {α : Type} {ds : List α} (h : ds.length = 1) : ∃ a, ds = [a] := by
 match ds, h with
 | [a], _ => exact ⟨a, rfl⟩
theorem Rc {l : List PyData} (h : l.length ≠ 3) : OI l = false := by
 match l, h with
 | [], _ => rfl
 | [_], _ => rfl
 | [_, _], _ => rfl
 | [_, _, _], h => exact absurd rfl h
 | _ :: _ :: _ :: _ :: _, _ => rfl
theorem Om {l : List PyData} (h : l.length ≠ 1) : RN l = false := by
 match l, h with
 | [], _ => rfl
 | [_], h => exact absurd rfl h
 | _ :: _ :: _, _ => rfl
theorem at3 {a b c d : PyData} {l : List PyData} (P : PyData → Prop) : K7 (a :: b :: c :: d :: l) 3 P = P d := rfl
noncomputable def ZcZ (o : OO) : Prop := ∃ (ns : List Int) (i b : Int), 0 ≤ i ∧ o = .lst [.list (ns.map PyData.int), .int i, .int b]
noncomputable def Pen (M : Mp) (p : Addr) : Prop := ∃ o, ZcZ o ∧ M p = some o
theorem Pen.Z1 {M : Mp} {p : Addr} {o : OO} (h : ZcZ o) : Pen (Z1 M p o) p := ⟨o, h, Z7⟩
theorem Pen.ne {M : Mp} {p q : Addr} (h : Pen M p) (hq : M q = none) : p ≠ q := fun e => by
 obtain ⟨o, _, ho⟩ := h
 rw [e, hq] at ho
 cases ho
theorem Pen.put {M : Mp} {p q : Addr} {o : OO} (h : Pen M p) (hq : p ≠ q) : Pen (DL.Z1 M q o) p := by
 obtain ⟨o', h1, h2⟩ := h
 exact ⟨o', h1, by rw [Jl hq]; exact h2⟩
theorem Pen.del {M : Mp} {p q : Addr} (h : Pen M p) (hq : p ≠ q) : Pen (DL.YQ M q) p := by
 obtain ⟨o', h1, h2⟩ := h
 exact ⟨o', h1, by rw [WY hq]; exact h2⟩
noncomputable def Zea (x : DV) (P : List Int → Prop) : Prop := ∃ ns, x = .dat (.list (ns.map PyData.int)) ∧ P ns
theorem ZdC {x : DV} {P : List Int → Prop} (h : Zea x P) : ∃ ns, x = .dat (.list (ns.map PyData.int)) ∧ P ns := h
theorem X7 : ∀ {as bs : List Int}, as.map PyData.int = bs.map PyData.int → as = bs
 | [], [], _ => rfl
 | [], _ :: _, h => by simp at h
 | _ :: _, [], h => by simp at h
 | a :: as, b :: bs, h => by
  rw [List.map_cons, List.map_cons, List.cons.injEq, PyData.int.injEq] at h
  rw [h.1, X7 h.2]
theorem Pw (bs : List Int) (P : List Int → Prop) : Zea (.dat (.list (bs.map PyData.int))) P = P bs := propext ⟨fun ⟨cs, e, h⟩ => by
 rw [DV.dat.injEq, PyData.list.injEq] at e
 rw [X7 e]
 exact h, fun h => ⟨bs, rfl, h⟩⟩
theorem tab {l : List Int} {r : Int} (P : Int → Prop) (h0 : 0 ≤ r) (h1 : r < l.length) (hl : ∀ w ∈ l, P w) {Q : PyData → Prop} (k : ∀ w, P w → Q (.int w)) : K7 (l.map PyData.int) r Q := by
 obtain ⟨w, hw, e⟩ := Pt h0 h1
 exact Y5 e (k w (hl w hw))
noncomputable def Fr (p : Addr) (M M' : Mp) : Prop := Pen M' p ∧ ∀ a, a ≠ p → M a ≠ none → M' a = M a
theorem Fr.refl {p : Addr} {M : Mp} (h : Pen M p) : Fr p M M := ⟨h, fun _ _ _ => rfl⟩
theorem Fr.trans {p : Addr} {M M1 M2 : Mp} (h : Fr p M M1) (k : Fr p M1 M2) : Fr p M M2 := ⟨k.1, fun a ha hn => by
 have e := h.2 a ha hn
 rw [← e]
 exact k.2 a ha (by rw [e]; exact hn)⟩
theorem Fr.Z1 {p : Addr} {M : Mp} {o : OO} (h : ZcZ o) : Fr p M (Z1 M p o) := ⟨Pen.Z1 h, fun a ha _ => Jl ha⟩
theorem Fr.own {p q : Addr} {M M' : Mp} {o : OO} (h : Fr p M M') (hq : M q = some o) (hne : q ≠ p) : M' q = some o := by
 rw [h.2 q hne (by rw [hq]; exact Option.some_ne_none _)]
 exact hq
theorem Fr.new {p q : Addr} {M M' : Mp} {o : OO} (h : Fr p M M') (hq : M q = none) (hne : q ≠ p) : Fr p M (DL.Z1 M' q o) := ⟨h.1.put (Ne.symm hne), fun a ha hn => by
 rw [Jl (fun e => hn (by rw [e]; exact hq))]
 exact h.2 a ha hn⟩
noncomputable def Vk : DSp := fun xs M Φ => on2 xs fun x y => onO x fun p => onI y fun m => (0 < m ∧ m < 10 ^ 60) ∧ Pen M p ∧ ∀ r M', 0 ≤ r → r < m → Fr p M M' → Φ (.dat (.int r)) M'
theorem LY (xs : List DV) (M : Mp) (Φ : DK) : Vk xs M Φ = (on2 xs fun x y => onO x fun p => onI y fun m => (0 < m ∧ m < 10 ^ 60) ∧ Pen M p ∧ ∀ r M', 0 ≤ r → r < m → Fr p M M' → Φ (.dat (.int r)) M') := propext Iff.rfl
theorem Pen.get {M : Mp} {p : Addr} (h : Pen M p) : ∃ (ns : List Int) (i b : Int), 0 ≤ i ∧ M p = some (.lst [.list (ns.map PyData.int), .int i, .int b]) := by
 obtain ⟨o, ⟨ns, i, b, hi, eo⟩, hp⟩ := h
 exact ⟨ns, i, b, hi, by rw [hp, eo]⟩
noncomputable def W7 : DSp := fun xs M Φ => on2 xs fun x y => onO x fun p => onI y fun m => (0 < m ∧ m < 10 ^ 60) ∧ Pen M p ∧ ∀ r M', 0 ≤ r → r < m → Fr p M M' → Φ (.dat (.int r)) M'
theorem Ho (xs : List DV) (M : Mp) (Φ : DK) : W7 xs M Φ = (on2 xs fun x y => onO x fun p => onI y fun m => (0 < m ∧ m < 10 ^ 60) ∧ Pen M p ∧ ∀ r M', 0 ≤ r → r < m → Fr p M M' → Φ (.dat (.int r)) M') := propext Iff.rfl
noncomputable def Qi (s : Str) : Prop := (1 ≤ s.length ∧ s.length ≤ 8) ∧ ∀ c ∈ s.cps.toList, 97 ≤ c ∧ c ≤ 122
noncomputable def Nml (n : Nat) (ss : List Str) : Prop := (1 ≤ ss.length ∧ ss.length ≤ n) ∧ ∀ s ∈ ss, Qi s
noncomputable def Grb (n : Int) (b : B4) : Prop := (b.x ≤ b.X ∧ b.y ≤ b.Y) ∧ (-(4 * n) ≤ b.x ∧ b.X ≤ 15 + 4 * n) ∧ (-(4 * n) ≤ b.y ∧ b.Y ≤ 15 + 4 * n)
noncomputable def Grd (bs : List B4) : Prop := (1 ≤ bs.length ∧ bs.length ≤ 6) ∧ chB bs = true ∧ ∀ b ∈ bs, Grb 5 b
noncomputable def Frm (f ox oy : Int) : Prop := (1 ≤ f ∧ f ≤ 10000000000) ∧ (-100000000000 ≤ ox ∧ ox ≤ 100000000000) ∧ (-100000000000 ≤ oy ∧ oy ≤ 100000000000)
noncomputable def R8 (f ox oy bg sp : Int) (ts ls : List Str) : OO := .dkv [(.inr (Str.ofString "by"), .int f), (.inr (Str.ofString "off"), .tuple [.int ox, .int oy]), (.inr (Str.ofString "begin"), .int bg), (.inr (Str.ofString "span"), .int sp), (.inr (Str.ofString "things"), .list (ts.map PyData.str)), (.inr (Str.ofString "lands"), .list (ls.map PyData.str))]
noncomputable def Wd (M : Mp) (q : Addr) : Prop := ∃ f ox oy bg sp ts ls, M q = some (R8 f ox oy bg sp ts ls) ∧ Frm f ox oy ∧ (0 ≤ bg ∧ bg ≤ 999999999992) ∧ (1 ≤ sp ∧ sp ≤ 9) ∧ Nml 4 ts ∧ Nml 5 ls
theorem Wd.fr {p q : Addr} {M M' : Mp} (h : Wd M q) (k : Fr p M M') (hne : q ≠ p) : Wd M' q := by
 obtain ⟨f, ox, oy, bg, sp, ts, ls, hq, hh⟩ := h
 exact ⟨f, ox, oy, bg, sp, ts, ls, k.own hq hne, hh⟩
noncomputable def Sh (x : Int) : Prop := -999999999999 ≤ x ∧ x ≤ 999999999999
noncomputable def Bg : DSp := fun xs M Φ => on2 xs fun x y => onO x fun p => onI y fun m => (1 ≤ m ∧ m ≤ 8) ∧ Pen M p ∧ ∀ (ss : List Str) (M' : Mp), ss.length = m.toNat → (∀ s ∈ ss, Qi s) → Fr p M M' → Φ (.dat (.list (ss.map PyData.str))) M'
theorem EW (xs : List DV) (M : Mp) (Φ : DK) : Bg xs M Φ = (on2 xs fun x y => onO x fun p => onI y fun m => (1 ≤ m ∧ m ≤ 8) ∧ Pen M p ∧ ∀ (ss : List Str) (M' : Mp), ss.length = m.toNat → (∀ s ∈ ss, Qi s) → Fr p M M' → Φ (.dat (.list (ss.map PyData.str))) M') := propext Iff.rfl
noncomputable def Bw : DSp := fun xs M Φ => on2 xs fun x y => onO x fun p => onI y fun m => (1 ≤ m ∧ m ≤ 6) ∧ Pen M p ∧ ∀ bs M', Grd bs → Fr p M M' → Φ (.dat (.list (bs.map bD))) M'
theorem DZ (xs : List DV) (M : Mp) (Φ : DK) : Bw xs M Φ = (on2 xs fun x y => onO x fun p => onI y fun m => (1 ≤ m ∧ m ≤ 6) ∧ Pen M p ∧ ∀ bs M', Grd bs → Fr p M M' → Φ (.dat (.list (bs.map bD))) M') := propext Iff.rfl
noncomputable def Yn : DSp := fun xs M Φ => on3 xs fun x y z => Zcm x fun bs => onI y fun f => onP z fun ox oy => Grd bs ∧ Φ (.dat (.tuple ((bs.map (BQ f ox oy)).map bD))) M
theorem WW (xs : List DV) (M : Mp) (Φ : DK) : Yn xs M Φ = (on3 xs fun x y z => Zcm x fun bs => onI y fun f => onP z fun ox oy => Grd bs ∧ Φ (.dat (.tuple ((bs.map (BQ f ox oy)).map bD))) M) := propext Iff.rfl
noncomputable def Kg : DSp := fun xs M Φ => on1 xs fun x => onO x fun p => Pen M p ∧ ∀ f ox oy M', Frm f ox oy → Fr p M M' → Φ (.dat (.tuple [.int f, .tuple [.int ox, .int oy]])) M'
theorem G5 (xs : List DV) (M : Mp) (Φ : DK) : Kg xs M Φ = (on1 xs fun x => onO x fun p => Pen M p ∧ ∀ f ox oy M', Frm f ox oy → Fr p M M' → Φ (.dat (.tuple [.int f, .tuple [.int ox, .int oy]])) M') := propext Iff.rfl
noncomputable def GU : DSp := fun xs M Φ => on1 xs fun x => onO x fun p => Pen M p ∧ ∀ q M', Wd M' q → q ≠ p → Fr p M M' → Φ (.own q) M'
theorem FN (xs : List DV) (M : Mp) (Φ : DK) : GU xs M Φ = (on1 xs fun x => onO x fun p => Pen M p ∧ ∀ q M', Wd M' q → q ≠ p → Fr p M M' → Φ (.own q) M') := propext Iff.rfl
noncomputable def Dm : DSp := fun xs M Φ => on2 xs fun x y => onO x fun p => onO y fun q => Wd M q ∧ q ≠ p ∧ Pen M p ∧ ∀ u v M', Sh u → Sh v → Fr p M M' → Φ (.dat (.tuple [.int u, .int v])) M'
theorem Mn (xs : List DV) (M : Mp) (Φ : DK) : Dm xs M Φ = (on2 xs fun x y => onO x fun p => onO y fun q => Wd M q ∧ q ≠ p ∧ Pen M p ∧ ∀ u v M', Sh u → Sh v → Fr p M M' → Φ (.dat (.tuple [.int u, .int v])) M') := propext Iff.rfl
noncomputable def ZaL (t : Int) (nm ou : Str) (bs : List B4) (wb : Int) : PyData := .tuple [.str (Str.ofString "land"), .int t, .str nm, .str ou, .tuple (bs.map bD), .int wb]
noncomputable def Fi : DSp := fun xs M Φ => on3 xs fun x y z => onO x fun p => onO y fun q => onI z fun t => Wd M q ∧ q ≠ p ∧ Pen M p ∧
 ∀ nm ou bs f ox oy wb M', Qi nm → (ou = Str.ofString "" ∨ Qi ou) → Grd bs → Frm f ox oy → (0 ≤ wb ∧ wb ≤ 30000000000) → Fr p M M' → Φ (.dat (ZaL t nm ou (bs.map (BQ f ox oy)) wb)) M'
theorem Lo (xs : List DV) (M : Mp) (Φ : DK) : Fi xs M Φ = (on3 xs fun x y z => onO x fun p => onO y fun q => onI z fun t => Wd M q ∧ q ≠ p ∧ Pen M p ∧ ∀ nm ou bs f ox oy wb M', Qi nm → (ou = Str.ofString "" ∨ Qi ou) → Grd bs → Frm f ox oy → (0 ≤ wb ∧ wb ≤ 30000000000) → Fr p M M' → Φ (.dat (ZaL t nm ou (bs.map (BQ f ox oy)) wb)) M') := propext Iff.rfl
theorem Qi.is {s : Str} (h : Qi s) : Z9 (.str s) = true := by
 show ((decide (1 ≤ s.length) && decide (s.length ≤ 8)) && s.cps.toList.all L6) = true
 rw [decide_eq_true h.1.1, decide_eq_true h.1.2]
 exact List.all_eq_true.mpr fun c hc => by unfold L6; rw [decide_eq_true (h.2 c hc).1, decide_eq_true (h.2 c hc).2]; rfl
noncomputable def Zca (s : Str) : Prop := ∃ c, s = ⟨#[c]⟩ ∧ 97 ≤ c ∧ c ≤ 122
theorem abc : (Str.ofString "abcdefghijklmnopqrstuvwxyz").cps.toList = (List.range 26).map fun k => 97 + k := by decide +kernel
theorem EZ : (Str.ofString "abcdefghijklmnopqrstuvwxyz").length = 26 := by decide +kernel
theorem N2 {i : Int} (h0 : 0 ≤ i) (h1 : i < 26) : ∃ c, L2.atI (Str.ofString "abcdefghijklmnopqrstuvwxyz").cps.toList i = some c ∧ 97 ≤ c ∧ c ≤ 122 := by
 obtain ⟨k, rfl⟩ := Int.eq_ofNat_of_zero_le h0
 refine ⟨97 + k, ?_, by omega, by omega⟩
 rw [abc]
 refine Yh ?_
 rw [List.getElem?_map, List.getElem?_range (by omega)]
 rfl
theorem Ur : ∀ {ss : List Str}, (∀ s ∈ ss, Zca s) → ((ss.map (·.cps.toList)).flatten).length = ss.length ∧ ∀ c ∈ (ss.map (·.cps.toList)).flatten, 97 ≤ c ∧ c ≤ 122
 | [], _ => ⟨rfl, fun c hc => (nomatch hc)⟩
 | s :: ss, h => by
  obtain ⟨c, rfl, hc⟩ := h s List.mem_cons_self
  obtain ⟨i1, i2⟩ := Ur fun t ht => h t (List.mem_cons_of_mem _ ht)
  rw [List.map_cons, List.flatten_cons, XF]
  refine ⟨by rw [List.length_append, i1, List.length_cons]; simp; omega, fun d hd => ?_⟩
  rcases List.mem_append.mp hd with hd | hd
  ·rw [List.mem_singleton.mp hd]
   exact hc
  ·exact i2 d hd
theorem EG {ss : List Str} (h8 : ss.length = 8) (h : ∀ s ∈ ss, Zca s) : (Txt.join (Str.ofString "") ss).length = 8 ∧ ∀ c ∈ (Txt.join (Str.ofString "") ss).cps.toList, 97 ≤ c ∧ c ≤ 122 := by
 obtain ⟨i1, i2⟩ := Ur h
 rw [← str_len, DL.join_list]
 exact ⟨by omega, i2⟩
theorem tabS {l : List Str} {r : Int} (P : Str → Prop) (h0 : 0 ≤ r) (h1 : r < l.length) (hl : ∀ s ∈ l, P s) {Q : PyData → Prop} (k : ∀ s, P s → Q (.str s)) : K7 (l.map PyData.str) r Q := by
 obtain ⟨n, rfl⟩ := Int.eq_ofNat_of_zero_le h0
 have hn : n < l.length := by omega
 refine Y5 (d := .str l[n]) (Yh (by rw [List.getElem?_map, List.getElem?_eq_getElem hn]; rfl)) (k _ (hl _ (List.getElem_mem hn)))
theorem Di : ∀ s ∈ (["land", "drop", "free", "spot", "comes", "goes", "in", "out", "stays", "wait", "none", "a", "z"] : List Str), Qi s := by
 unfold Qi
 decide +kernel
noncomputable def Nms (i : Nat) (acc : List PyData) : Prop := ∃ ss : List Str, acc = ss.map PyData.str ∧ ss.length = i ∧ ∀ s ∈ ss, Qi s
theorem Nms.snoc {i : Nat} {acc : List PyData} {s : Str} (h : Nms i acc) (hs : Qi s) : Nms (i + 1) (acc ++ [.str s]) := by
 obtain ⟨ss, rfl, hl, ha⟩ := h
 refine ⟨ss ++ [s], by rw [List.map_append]; rfl, by rw [List.length_append, hl]; rfl, fun t ht => ?_⟩
 rcases List.mem_append.mp ht with ht | ht
 ·exact ha t ht
 ·rw [List.mem_singleton.mp ht]
  exact hs
theorem Fr.fresh {p q : Addr} {M M' : Mp} (h : Fr p M M') (hq : M' q = none) : M q = none := by
 cases e : M q with
 | none => rfl
 | some o =>
  have hn : q ≠ p := Ne.symm (h.1.ne hq)
  rw [h.own e hn] at hq
  cases hq
theorem Fr.gone {p q : Addr} {M M' : Mp} (h : Fr p M M') (hq : M q = none) (hne : q ≠ p) : Fr p M (DL.YQ M' q) := ⟨h.1.del (Ne.symm hne), fun a ha hn => by
 rw [WY (fun e => hn (by rw [e]; exact hq))]
 exact h.2 a ha hn⟩
theorem Ck : ∀ (l : List B4) (b c : B4), chB (l ++ [b, c]) = (chB (l ++ [b]) && decide (QC b c ≤ 1))
 | [], b, c => by
  show (decide (QC b c ≤ 1) && true) = (true && decide (QC b c ≤ 1))
  rw [Bool.and_true, Bool.true_and]
 | [a], b, c => by
  show (decide (QC a b ≤ 1) && (decide (QC b c ≤ 1) && true)) = ((decide (QC a b ≤ 1) && true) && decide (QC b c ≤ 1))
  rw [Bool.and_true, Bool.and_true]
 | a :: a' :: l, b, c => by
  have ih := Ck (a' :: l) b c
  show (decide (QC a a' ≤ 1) && chB (a' :: l ++ [b, c])) = ((decide (QC a a' ≤ 1) && chB (a' :: l ++ [b])) && decide (QC b c ≤ 1))
  rw [ih, Bool.and_assoc]
theorem OH {a b a' b' : Int} (h1 : a' - b ≤ 1) (h2 : a - b' ≤ 1) : gp a b a' b' ≤ 1 := by
 unfold gp
 omega
theorem MG {a b : B4} (h1 : b.x - a.X ≤ 1) (h2 : a.x - b.X ≤ 1) (h3 : b.y - a.Y ≤ 1) (h4 : a.y - b.Y ≤ 1) : QC a b ≤ 1 := Int.max_le.mpr ⟨OH h1 h2, OH h3 h4⟩
theorem Zeq {A B : Prop} {p : Prop} [Decidable p] (h1 : p → A) (h2 : ¬ p → B) : if decide p = true then A else B := Zm h1 h2
theorem C6 (k : Key) (d : PyData) (ps : List (Key × PyData)) : Js ((k, d) :: ps) k = some d := by
 unfold Js
 rw [List.find?_cons_of_pos (by simp)]
 rfl
theorem V5 {k k' : Key} (d : PyData) (ps : List (Key × PyData)) (h : k' ≠ k) : Js ((k', d) :: ps) k = Js ps k := by
 unfold Js
 rw [List.find?_cons_of_neg (by simpa using h)]
theorem Xd {ps : List (Key × PyData)} {k : Key} {d : PyData} (e : Js ps k = some d) (Q : PyData → Prop) : (WZ (some (.dkv ps)) fun ps => ∃ d, Js ps k = some d ∧ Q d) = Q d := propext ⟨fun ⟨d', e', h⟩ => by
 rw [e, Option.some.injEq] at e'
 rw [e']
 exact h, fun h => ⟨d, e, h⟩⟩
theorem ZeP (f ox oy bg sp : Int) (ts ls : List Str) (Q : PyData → Prop) : (WZ (some (R8 f ox oy bg sp ts ls)) fun ps => ∃ d, Js ps (.inr (Str.ofString "by")) = some d ∧ Q d) = Q (.int f) := Xd (C6 _ _ _) Q
theorem RQ (f ox oy bg sp : Int) (ts ls : List Str) (Q : PyData → Prop) : (WZ (some (R8 f ox oy bg sp ts ls)) fun ps => ∃ d, Js ps (.inr (Str.ofString "off")) = some d ∧ Q d) = Q (.tuple [.int ox, .int oy]) := Xd ((V5 _ _ (by decide +kernel)).trans (C6 _ _ _)) Q
theorem RC (f ox oy bg sp : Int) (ts ls : List Str) (Q : PyData → Prop) : (WZ (some (R8 f ox oy bg sp ts ls)) fun ps => ∃ d, Js ps (.inr (Str.ofString "begin")) = some d ∧ Q d) = Q (.int bg) := Xd ((V5 _ _ (by decide +kernel)).trans ((V5 _ _ (by decide +kernel)).trans (C6 _ _ _))) Q
theorem ZbR (f ox oy bg sp : Int) (ts ls : List Str) (Q : PyData → Prop) : (WZ (some (R8 f ox oy bg sp ts ls)) fun ps => ∃ d, Js ps (.inr (Str.ofString "span")) = some d ∧ Q d) = Q (.int sp) := Xd ((V5 _ _ (by decide +kernel)).trans ((V5 _ _ (by decide +kernel)).trans ((V5 _ _ (by decide +kernel)).trans (C6 _ _ _)))) Q
theorem MR (f ox oy bg sp : Int) (ts ls : List Str) (Q : PyData → Prop) : (WZ (some (R8 f ox oy bg sp ts ls)) fun ps => ∃ d, Js ps (.inr (Str.ofString "things")) = some d ∧ Q d) = Q (.list (ts.map PyData.str)) := Xd ((V5 _ _ (by decide +kernel)).trans ((V5 _ _ (by decide +kernel)).trans ((V5 _ _ (by decide +kernel)).trans ((V5 _ _ (by decide +kernel)).trans (C6 _ _ _))))) Q
theorem EF (f ox oy bg sp : Int) (ts ls : List Str) (Q : PyData → Prop) : (WZ (some (R8 f ox oy bg sp ts ls)) fun ps => ∃ d, Js ps (.inr (Str.ofString "lands")) = some d ∧ Q d) = Q (.list (ls.map PyData.str)) := Xd ((V5 _ _ (by decide +kernel)).trans ((V5 _ _ (by decide +kernel)).trans ((V5 _ _ (by decide +kernel)).trans ((V5 _ _ (by decide +kernel)).trans ((V5 _ _ (by decide +kernel)).trans (C6 _ _ _)))))) Q
theorem Bl {a f lo hi : Int} (h1 : lo ≤ a) (h2 : a ≤ hi) (hf : 1 ≤ f) : lo * f ≤ a * f ∧ a * f ≤ hi * f := ⟨Int.mul_le_mul_of_nonneg_right h1 (by omega), Int.mul_le_mul_of_nonneg_right h2 (by omega)⟩
theorem Nn (n : Nat) (ls : List Str) : (List.replicate n [PyData.str (Str.ofString "")]).flatten ++ ls.map PyData.str = (List.replicate n (Str.ofString "") ++ ls).map PyData.str := by
 rw [List.map_append, List.map_replicate]
 congr 1
 induction n with
 | zero => rfl
 | succ n ih => rw [List.replicate_succ, List.flatten_cons, ih]; rfl
theorem Sv {x f r2 : Int} (h0 : 0 ≤ x) (h3 : x ≤ 3) (hf : 1 ≤ f ∧ f ≤ 10000000000) (hr : r2 = 1 ∨ r2 = 2) : 0 ≤ x * f / r2 ∧ x * f / r2 ≤ 30000000000 := by
 have e := Bl h0 h3 hf.1
 rcases hr with rfl | rfl <;> omega
structure Pl (k n : Nat) (d : PyData) : Prop where
 s : d.showable = true
 nd : d.hasDict = false
 nl : Z2 d = false
 dp : d.depth ≤ k
 z : cost d ≤ n
structure Pls (k n : Nat) (l : List PyData) : Prop where
 s : PyData.showableAll l = true
 nd : PyData.hasDictAll l = false
 nl : ZF l = false
 dp : PyData.depthAll l ≤ k
 z : QF l ≤ n
structure Od (k n : Nat) (d : PyData) : Prop where
 s : d.showable = true
 m : (d.hasDict && Z2 d) = false
 dp : d.depth ≤ k
 z : cost d ≤ n
theorem Pl.od {k n : Nat} {d : PyData} (h : Pl k n d) : Od k n d := ⟨h.s, by rw [h.nd]; rfl, h.dp, h.z⟩
theorem Od.le {k n k' n' : Nat} {d : PyData} (h : Od k n d) (hk : k ≤ k') (hn : n ≤ n') : Od k' n' d := ⟨h.s, h.m, Nat.le_trans h.dp hk, Nat.le_trans h.z hn⟩
theorem Pl.le {k n k' n' : Nat} {d : PyData} (h : Pl k n d) (hk : k ≤ k') (hn : n ≤ n') : Pl k' n' d := ⟨h.s, h.nd, h.nl, Nat.le_trans h.dp hk, Nat.le_trans h.z hn⟩
theorem Od.shw {k n : Nat} {d : PyData} (h : Od k n d) (hk : k ≤ 64) (hn : n ≤ 1000000) : Shw d := Shw.of h.s h.m (Nat.le_trans h.dp hk) (Nat.le_trans h.z hn)
theorem Pls.nil : Pls 0 0 [] := ⟨by simp [PyData.showableAll], by simp [PyData.hasDictAll], by simp [ZF], by simp [PyData.depthAll], by simp [QF]⟩
theorem Pls.cons {k n k' m : Nat} {d : PyData} {l : List PyData} (h : Pl k n d) (t : Pls k' m l) : Pls (max k k') (n + 2 + m) (d :: l) :=
 ⟨by simp only [PyData.showableAll, h.s, t.s, Bool.and_self], by simp only [PyData.hasDictAll, h.nd, t.nd, Bool.or_self], by simp only [ZF, h.nl, t.nl, Bool.or_self],
  by simp only [PyData.depthAll]; have := h.dp; have := t.dp; omega, by simp only [QF]; have := h.z; have := t.z; omega⟩
theorem Pls.le {k n k' n' : Nat} {l : List PyData} (h : Pls k n l) (hk : k ≤ k') (hn : n ≤ n') : Pls k' n' l := ⟨h.s, h.nd, h.nl, Nat.le_trans h.dp hk, Nat.le_trans h.z hn⟩
theorem Pls.all {k n m : Nat} : ∀ {l : List PyData}, l.length ≤ m → (∀ d ∈ l, Pl k n d) → Pls k ((n + 2) * m) l
 | [], _, _ => Pls.nil.le (Nat.zero_le _) (Nat.zero_le _)
 | d :: l, hm, h => by
  obtain ⟨m, rfl⟩ : ∃ m', m = m' + 1 := ⟨m - 1, by rw [List.length_cons] at hm; omega⟩
  refine (Pls.cons (h d List.mem_cons_self) (Pls.all (m := m) (by rw [List.length_cons] at hm; omega) fun e he => h e (List.mem_cons_of_mem _ he))).le (by omega) ?_
  rw [Nat.mul_succ]
  omega
theorem Pls.app {k n m : Nat} : ∀ {l l' : List PyData}, Pls k n l → Pls k m l' → Pls k (n + m) (l ++ l')
 | [], l', _, h => h.le (Nat.le_refl _) (by omega)
 | d :: l, l', g, h => by
  have gs := g.s
  have gd := g.nd
  have gl := g.nl
  have gp := g.dp
  have gz := g.z
  simp only [PyData.showableAll, Bool.and_eq_true] at gs
  simp only [PyData.hasDictAll, Bool.or_eq_false_iff] at gd
  simp only [ZF, Bool.or_eq_false_iff] at gl
  simp only [PyData.depthAll] at gp
  simp only [QF] at gz
  have t := Pls.app (k := k) (l := l) (n := n - (cost d + 2)) ⟨gs.2, gd.2, gl.2, by omega, by omega⟩ h
  exact (Pls.cons (k := k) (d := d) ⟨gs.1, gd.1, gl.1, by omega, Nat.le_refl _⟩ t).le (by omega) (by omega)
theorem Pl.tup {k n : Nat} {l : List PyData} (h : Pls k n l) : Pl (k + 1) (n + 3) (.tuple l) :=
 ⟨by simp only [PyData.showable.eq_6, h.s], by simp only [PyData.hasDict, h.nd], by simp only [Z2, h.nl], by simp only [PyData.depth]; have := h.dp; omega, by simp only [cost]; have := h.z; omega⟩
theorem Od.lst {k n : Nat} {l : List PyData} (h : Pls k n l) : Od (k + 1) (n + 2) (.list l) :=
 ⟨by simp only [PyData.showable, h.s], by simp only [PyData.hasDict, h.nd]; rfl, by simp only [PyData.depth]; have := h.dp; omega, by simp only [cost]; have := h.z; omega⟩
theorem Od.dct : Od 1 2 (.dict []) := ⟨by simp [PyData.showable, PyData.showableKv], by simp [Z2, J8], by simp [PyData.depth, PyData.depthKv], by simp [cost, KR]⟩
theorem Od.tup {k n a b : Nat} {e : PyData} : ∀ {l l' : List PyData}, Pls k a l → Od k n e → Pls k b l' → PyData.showableAll (l ++ e :: l') = true ∧ PyData.hasDictAll (l ++ e :: l') = e.hasDict ∧ ZF (l ++ e :: l') = Z2 e ∧ PyData.depthAll (l ++ e :: l') ≤ k ∧ QF (l ++ e :: l') ≤ a + (n + 2 + b)
 | [], l', g, h, g' => by
  have := g'.dp
  have := h.dp
  have := g'.z
  have := h.z
  refine ⟨?_, ?_, ?_, ?_, ?_⟩
  ·simp only [List.nil_append, PyData.showableAll, h.s, g'.s, Bool.and_self]
  ·simp only [List.nil_append, PyData.hasDictAll, g'.nd, Bool.or_false]
  ·simp only [List.nil_append, ZF, g'.nl, Bool.or_false]
  ·simp only [List.nil_append, PyData.depthAll]; omega
  ·simp only [List.nil_append, QF]; omega
 | d :: l, l', g, h, g' => by
  have gs := g.s
  have gd := g.nd
  have gl := g.nl
  have gp := g.dp
  have gz := g.z
  simp only [PyData.showableAll, Bool.and_eq_true] at gs
  simp only [PyData.hasDictAll, Bool.or_eq_false_iff] at gd
  simp only [ZF, Bool.or_eq_false_iff] at gl
  simp only [PyData.depthAll] at gp
  simp only [QF] at gz
  obtain ⟨t1, t2, t3, t4, t5⟩ := Od.tup (l := l) (a := a - (cost d + 2)) ⟨gs.2, gd.2, gl.2, by omega, by omega⟩ h g'
  refine ⟨?_, ?_, ?_, ?_, ?_⟩
  ·simp only [List.cons_append, PyData.showableAll, gs.1, t1, Bool.and_self]
  ·simp only [List.cons_append, PyData.hasDictAll, gd.1, t2, Bool.false_or]
  ·simp only [List.cons_append, ZF, gl.1, t3, Bool.false_or]
  ·simp only [List.cons_append, PyData.depthAll]; omega
  ·simp only [List.cons_append, QF]; omega
theorem Od.put {k n a b : Nat} {e : PyData} {l l' : List PyData} (g : Pls k a l) (h : Od k n e) (g' : Pls k b l') : Od (k + 1) (a + (n + 2 + b) + 3) (.tuple (l ++ e :: l')) := by
 obtain ⟨t1, t2, t3, t4, t5⟩ := Od.tup g h g'
 exact ⟨by simp only [PyData.showable.eq_6, t1], by simp only [PyData.hasDict, Z2, t2, t3, h.m], by simp only [PyData.depth]; omega, by simp only [cost]; omega⟩
theorem ZaI {i : Int} (h : -(10 ^ 60) ≤ i ∧ i ≤ 10 ^ 60) : Pl 0 1921 (.int i) := ⟨Mid.show ⟨by omega, by omega⟩, by simp [PyData.hasDict], by simp [Z2], by simp [PyData.depth], by simp [cost]⟩
theorem pBl (b : Bool) : Pl 0 5 (.bool b) := ⟨by simp [PyData.showable], by simp [PyData.hasDict], by simp [Z2], by simp [PyData.depth], by simp [cost]⟩
theorem Zg1 : Pl 0 4 .none := ⟨by simp [PyData.showable], by simp [PyData.hasDict], by simp [Z2], by simp [PyData.depth], by simp [cost]⟩
theorem ZdM {s : Str} (h : ∀ c ∈ s.cps.toList, c < 16 ^ 8) {n : Nat} (hn : s.length ≤ n) : Pl 0 (10 * n + 2) (.str s) := ⟨by simp [PyData.showable], by simp [PyData.hasDict], by simp [Z2], by simp [PyData.depth], by
 simp only [cost]
 have := StrLaws.reprText_len s h
 omega⟩
theorem Hv (t : String) : ∀ c ∈ (Str.ofString t).cps.toList, c < 16 ^ 8 := by
 intro c hc
 rw [PySem.Str.ofString_eq_toList] at hc
 simp at hc
 obtain ⟨a, _, rfl⟩ := hc
 have h := a.valid
 show a.val.toNat < 16 ^ 8
 unfold UInt32.isValidChar Nat.isValidChar at h
 omega
theorem Sx (t : String) {n : Nat} (hn : (Str.ofString t).length ≤ n) : Pl 0 (10 * n + 2) (.str (Str.ofString t)) := ZdM (Hv t) hn
theorem pNm {s : Str} (h : Qi s) : Pl 0 82 (.str s) := ZdM (n := 8) (fun c hc => by have := h.2 c hc; omega) h.1.2
theorem pSp {x y : Int} (hx : Sh x) (hy : Sh y) : Pl 1 3849 (.tuple [.int x, .int y]) :=
 (Pl.tup (Pls.cons (ZaI (by unfold Sh at hx; omega)) (Pls.cons (ZaI (by unfold Sh at hy; omega)) Pls.nil))).le (by decide) (by decide)
theorem fc {Q : PyData → Prop} {a : PyData} {l : List PyData} (h : Q a) (k : ∀ d ∈ l, Q d) : ∀ d ∈ a :: l, Q d := fun d hd => by
 rcases List.mem_cons.mp hd with rfl | hd
 ·exact h
 ·exact k d hd
theorem fn {Q : PyData → Prop} : ∀ d ∈ ([] : List PyData), Q d := fun _ h => (nomatch h)
structure Thg (d : PyData) : Prop where
 t : Kt d = true
 o : Od 20 90000 d
theorem Od.th {k n : Nat} {d : PyData} (h : Od k n d) (t : Kt d = true) (hk : k ≤ 20 := by decide) (hn : n ≤ 90000 := by decide) : Thg d := ⟨t, h.le hk hn⟩
theorem Pl.th {k n : Nat} {d : PyData} (h : Pl k n d) (t : Kt d = true) (hk : k ≤ 20 := by decide) (hn : n ≤ 90000 := by decide) : Thg d := h.od.th t hk hn
noncomputable def Zbs (bs : List B4) : Prop := (1 ≤ bs.length ∧ bs.length ≤ 6) ∧ chB bs = true ∧ ∀ b ∈ bs, okB b = true ∧ (Sh b.x ∧ Sh b.y) ∧ (Sh b.X ∧ Sh b.Y)
noncomputable def ZbD (w : Str) (l : List PyData) : Prop := w = Str.ofString "land" ∧ ∃ (ou : Str) (bs : List B4) (wb : Int), l = [.str ou, .tuple (bs.map bD), .int wb] ∧ (ou = Str.ofString "" ∨ Qi ou) ∧ Zbs bs ∧ (0 ≤ wb ∧ wb ≤ 30000000000)
noncomputable def T3 (w : Str) (l : List PyData) : Prop := w = Str.ofString "spot" ∧ ∃ u v : Int, l = [.tuple [.int u, .int v]] ∧ Sh u ∧ Sh v
noncomputable def SD (w : Str) (l : List PyData) : Prop := (w = Str.ofString "drop" ∨ w = Str.ofString "free") ∧ l = []
noncomputable def Tel (ds : List PyData) : Prop := ∃ (w : Str) (t : Int) (nm : Str) (l : List PyData), ds = .str w :: .int t :: .str nm :: l ∧ (0 ≤ t ∧ t ≤ 1000000000000) ∧ Qi nm ∧ (ZbD w l ∨ T3 w l ∨ SD w l)
noncomputable def Gw (M M' : Mp) : Prop := ∀ a, M a ≠ none → M' a = M a
theorem Gw.refl {M : Mp} : Gw M M := fun _ _ => rfl
theorem Gw.trans {M M1 M2 : Mp} (h : Gw M M1) (k : Gw M1 M2) : Gw M M2 := fun a ha => by
 rw [k a (by rw [h a ha]; exact ha), h a ha]
theorem Gw.new {M M' : Mp} {q : Addr} {o : OO} (h : Gw M M') (hq : M' q = none) : Gw M (Z1 M' q o) := fun a ha => by
 have e := h a ha
 rw [Jl (fun z => ha (by rw [← e, z]; exact hq)), e]
theorem Gw.pen {M M' : Mp} {p : Addr} (h : Gw M M') (hp : Pen M p) : Pen M' p := by
 obtain ⟨o, h1, h2⟩ := hp
 exact ⟨o, h1, by rw [h p (by rw [h2]; exact Option.some_ne_none _)]; exact h2⟩
theorem Gw.wd {M M' : Mp} {q : Addr} (h : Gw M M') (hw : Wd M q) : Wd M' q := by
 obtain ⟨f, ox, oy, bg, sp, ts, ls, hq, hh⟩ := hw
 exact ⟨f, ox, oy, bg, sp, ts, ls, by rw [h q (by rw [hq]; exact Option.some_ne_none _)]; exact hq, hh⟩
noncomputable def Knd (w : Str) (l : List PyData) : Prop := ZbD w l ∨ T3 w l ∨ SD w l
theorem Tb {s : Str} (h : Qi s) : Kt (.str s) = true := decide_eq_true (by have := h.1; omega)
theorem FU {bs : List B4} (hs : Zbs bs) : Pl 3 46245 (.tuple (bs.map bD)) := by
 refine (Pl.tup (Pls.all (k := 2) (n := 7705) (m := 6) (by rw [List.length_map]; exact hs.1.2) fun d hd => ?_)).le (by decide) (by decide)
 obtain ⟨c, hc, rfl⟩ := List.mem_map.mp hd
 have hc := hs.2.2 c hc
 exact (Pl.tup (Pls.cons (pSp hc.2.1.1 hc.2.1.2) (Pls.cons (pSp hc.2.2.1 hc.2.2.2) Pls.nil))).le (by decide) (by decide)
theorem Bv {w : Str} {l : List PyData} (h : Knd w l) : Pls 19 60000 l ∧ l.all Kt = true ∧ l.length ≤ 3 ∧ Pl 0 102 (.str w) ∧ Kt (.str w) = true := by
 rcases h with ⟨rfl, ou, bs, wb, rfl, ho, hs, hw⟩ | ⟨rfl, u, v, rfl, hu, hv⟩ | ⟨hw, rfl⟩
 ·have po : Pl 0 102 (.str ou) ∧ Kt (.str ou) = true := by
   rcases ho with rfl | ho
   ·exact ⟨Sx "" (n := 10) (by decide +kernel), by decide +kernel⟩
   ·exact ⟨(pNm ho).le (by decide) (by decide), Tb ho⟩
  refine ⟨(Pls.cons po.1 (Pls.cons (FU hs) (Pls.cons (ZaI (by omega)) Pls.nil))).le (by decide) (by decide), ?_, by simp, Sx "land" (n := 10) (by decide +kernel), by decide +kernel⟩
  show (Kt (.str ou) && _) = true
  rw [po.2]
  rfl
 ·exact ⟨(Pls.cons (pSp hu hv) Pls.nil).le (by decide) (by decide), rfl, by simp, Sx "spot" (n := 10) (by decide +kernel), by decide +kernel⟩
 ·refine ⟨Pls.nil.le (by decide) (by decide), rfl, by simp, ?_⟩
  rcases hw with rfl | rfl
  ·exact ⟨Sx "drop" (n := 10) (by decide +kernel), by decide +kernel⟩
  ·exact ⟨Sx "free" (n := 10) (by decide +kernel), by decide +kernel⟩
theorem ZcM : isS (.str (Str.ofString "land")) (Str.ofString "land") = true := by decide +kernel
theorem ZcK : isS (.str (Str.ofString "spot")) (Str.ofString "land") = false := by decide +kernel
theorem Zdw : isS (.str (Str.ofString "spot")) (Str.ofString "spot") = true := by decide +kernel
theorem Zck : isS (.str (Str.ofString "drop")) (Str.ofString "land") = false ∧ isS (.str (Str.ofString "drop")) (Str.ofString "spot") = false := by decide +kernel
theorem Zcf : isS (.str (Str.ofString "free")) (Str.ofString "land") = false ∧ isS (.str (Str.ofString "free")) (Str.ofString "spot") = false := by decide +kernel
theorem Zfb : isS (.str (Str.ofString "land")) (Str.ofString "spot") = false ∧ isS (.str (Str.ofString "land")) (Str.ofString "drop") = false ∧ isS (.str (Str.ofString "land")) (Str.ofString "free") = false := by decide +kernel
theorem ZgQ : isS (.str (Str.ofString "spot")) (Str.ofString "drop") = false ∧ isS (.str (Str.ofString "spot")) (Str.ofString "free") = false := by decide +kernel
theorem ZgB : isS (.str (Str.ofString "drop")) (Str.ofString "drop") = true ∧ isS (.str (Str.ofString "free")) (Str.ofString "drop") = false ∧ isS (.str (Str.ofString "free")) (Str.ofString "free") = true := by decide +kernel
theorem Zab (l : List PyData) : V7 (.str (Str.ofString "land")) l = OI l := by unfold V7; rw [if_pos ZcM]
theorem TK (l : List PyData) : V7 (.str (Str.ofString "spot")) l = RN l := by unfold V7; rw [ZcK, if_neg (by decide), if_pos Zdw]
theorem ZeA (a : PyData) (l : List PyData) : V7 (.str (Str.ofString "drop")) (a :: l) = false := by unfold V7; rw [Zck.1, Zck.2]; rfl
theorem ZeO (a : PyData) (l : List PyData) : V7 (.str (Str.ofString "free")) (a :: l) = false := by unfold V7; rw [Zcf.1, Zcf.2]; rfl
theorem Zb8 {w t n : PyData} {l : List PyData} (h : V7 w l = false) : Qs (.tuple (w :: t :: n :: l)) = false := by
 show (_ && (_ && V7 w l)) = false
 rw [h, Bool.and_false, Bool.and_false]
theorem Zcg {w t n : PyData} {l : List PyData} (h : JM t = false) : Qs (.tuple (w :: t :: n :: l)) = false := by
 show (JM t && _) = false
 rw [h, Bool.false_and]
theorem ZbX {w t n : PyData} {l : List PyData} (h : Z9 n = false) : Qs (.tuple (w :: t :: n :: l)) = false := by
 show (_ && (Z9 n && _)) = false
 rw [h, Bool.false_and, Bool.and_false]
theorem CK {x : Int} (h : Sh x) : ZC (.int x) = true := by
 show (decide (-999999999999 ≤ x) && decide (x ≤ 999999999999)) = true
 rw [decide_eq_true h.1, decide_eq_true h.2]
 rfl
theorem MV {bs : List B4} (h : Zbs bs) : Jc (.tuple (bs.map bD)) = true := by
 show ((decide (1 ≤ (bs.map bD).length) && decide ((bs.map bD).length ≤ 6)) && ((bs.map bD).all Vl && chB ((bs.map bD).map toB))) = true
 rw [XQ, h.2.1, List.length_map, decide_eq_true h.1.1, decide_eq_true h.1.2, List.all_eq_true.mpr fun d hd => ?_]
 ·rfl
 ·obtain ⟨b, hb, rfl⟩ := List.mem_map.mp hd
  obtain ⟨h1, ⟨h2, h3⟩, h4, h5⟩ := h.2.2 b hb
  show ((ZC (.int b.x) && ZC (.int b.y)) && ((ZC (.int b.X) && ZC (.int b.Y)) && okB b)) = true
  rw [CK h2, CK h3, CK h4, CK h5, h1]
  rfl
theorem Zah {w : Str} {l : List PyData} (h : Knd w l) : V7 (.str w) l = true := by
 rcases h with ⟨rfl, ou, bs, wb, rfl, ho, hs, hw⟩ | ⟨rfl, u, v, rfl, hu, hv⟩ | ⟨hw, rfl⟩
 ·rw [Zab]
  show ((isS (.str ou) (Str.ofString "") || Z9 (.str ou)) && (Jc (.tuple (bs.map bD)) && (decide (0 ≤ wb) && decide (wb ≤ 999999999999)))) = true
  rw [MV hs, decide_eq_true hw.1, decide_eq_true (show wb ≤ 999999999999 by omega)]
  rcases ho with rfl | ho
  ·decide +kernel
  ·rw [ho.is, Bool.or_true]
   rfl
 ·rw [TK]
  show (ZC (.int u) && ZC (.int v)) = true
  rw [CK hu, CK hv]
  rfl
 ·rcases hw with rfl | rfl <;> decide +kernel
theorem Sj {D : List PyData} (h : Tel D) : Qs (.tuple D) = true ∧ Zdo (.tuple D) = true := by
 obtain ⟨w, t, nm, l, rfl, ht, hn, hk⟩ := h
 obtain ⟨_, lt, _, _, wt⟩ := Bv hk
 constructor
 ·show ((decide (0 ≤ t) && decide (t ≤ 1000000000000)) && (Z9 (.str nm) && V7 (.str w) l)) = true
  rw [decide_eq_true ht.1, decide_eq_true ht.2, hn.is, Zah hk]
  rfl
 ·show (Kt (.str w) && (true && (Kt (.str nm) && l.all Kt))) = true
  rw [wt, Tb hn, lt]
  rfl
theorem Oc {a b a' b' f o : Int} (hf : 1 ≤ f) (h : gp a b a' b' ≤ 1) : gp (a * f + o) (b * f + f - 1 + o) (a' * f + o) (b' * f + f - 1 + o) ≤ 1 := by
 have h1 : a' - b ≤ 1 := by unfold gp at h; omega
 have h2 : a - b' ≤ 1 := by unfold gp at h; omega
 have e1 : a' * f ≤ (b + 1) * f := Int.mul_le_mul_of_nonneg_right (by omega) (by omega)
 have e2 : a * f ≤ (b' + 1) * f := Int.mul_le_mul_of_nonneg_right (by omega) (by omega)
 rw [Int.add_mul, Int.one_mul] at e1 e2
 exact OH (by omega) (by omega)
theorem Og {f ox oy : Int} (hf : 1 ≤ f) : ∀ bs : List B4, chB bs = true → chB (bs.map (BQ f ox oy)) = true
 | [], _ => rfl
 | [_], _ => rfl
 | a :: b :: l, h => by
  have h' : decide (QC a b ≤ 1) = true ∧ chB (b :: l) = true := Bool.and_eq_true_iff.mp h
  show (decide (QC (BQ f ox oy a) (BQ f ox oy b) ≤ 1) && chB ((b :: l).map (BQ f ox oy))) = true
  rw [Og hf (b :: l) h'.2]
  have k := Int.max_le.mp (of_decide_eq_true h'.1)
  rw [decide_eq_true (show QC (BQ f ox oy a) (BQ f ox oy b) ≤ 1 from Int.max_le.mpr ⟨Oc hf k.1, Oc hf k.2⟩)]
  rfl
theorem Oo {bs : List B4} {f ox oy : Int} (h : Grd bs) (hf : Frm f ox oy) : Zbs (bs.map (BQ f ox oy)) := by
 obtain ⟨⟨f1, f2⟩, hx, hy⟩ := hf
 refine ⟨by rw [List.length_map]; exact h.1, Og f1 bs h.2.1, fun c hc => ?_⟩
 obtain ⟨b, hb, rfl⟩ := List.mem_map.mp hc
 obtain ⟨⟨g1, g2⟩, ⟨g3, g4⟩, g5, g6⟩ := h.2.2 b hb
 have a1 := Bl (a := b.x) (lo := -20) (hi := 35) (by omega) (by omega) f1
 have a2 := Bl (a := b.y) (lo := -20) (hi := 35) (by omega) (by omega) f1
 have a3 := Bl (a := b.X) (lo := -20) (hi := 35) (by omega) (by omega) f1
 have a4 := Bl (a := b.Y) (lo := -20) (hi := 35) (by omega) (by omega) f1
 have c1 : b.x * f ≤ b.X * f := Int.mul_le_mul_of_nonneg_right g1 (by omega)
 have c2 : b.y * f ≤ b.Y * f := Int.mul_le_mul_of_nonneg_right g2 (by omega)
 unfold BQ okB Sh
 dsimp only
 refine ⟨?_, ⟨⟨by omega, by omega⟩, by omega, by omega⟩, ⟨by omega, by omega⟩, by omega, by omega⟩
 rw [decide_eq_true (show b.x * f + ox ≤ b.X * f + f - 1 + ox by omega), decide_eq_true (show b.y * f + oy ≤ b.Y * f + f - 1 + oy by omega)]
 rfl
theorem Wd.put {M : Mp} {q g : Addr} {o : OO} (h : Wd M q) (hq : q ≠ g) : Wd (DL.Z1 M g o) q := by
 obtain ⟨f, ox, oy, bg, sp, ts, ls, h1, hh⟩ := h
 exact ⟨f, ox, oy, bg, sp, ts, ls, by rw [Jl hq]; exact h1, hh⟩
theorem Wd.del {M : Mp} {q g : Addr} (h : Wd M q) (hq : q ≠ g) : Wd (DL.YQ M g) q := by
 obtain ⟨f, ox, oy, bg, sp, ts, ls, h1, hh⟩ := h
 exact ⟨f, ox, oy, bg, sp, ts, ls, by rw [WY hq]; exact h1, hh⟩
theorem ZdS (D : List PyData) : Qs (.list D) = false := rfl
theorem Zcy {D : List PyData} (h : Tel D) : Shw (.tuple D) := by
 obtain ⟨w, t, nm, l, rfl, ht, hn, hk⟩ := h
 obtain ⟨lp, _, _, wp, _⟩ := Bv hk
 exact ((Pl.tup (Pls.cons wp (Pls.cons (ZaI (by omega)) (Pls.cons (pNm hn) lp)))).od).shw (by decide) (by decide)
noncomputable def X9 : DSp := fun xs M Φ => on2 xs fun x y => onO x fun p => onO y fun q => Wd M q ∧ q ≠ p ∧ Pen M p ∧ ∀ D M', Tel D → Fr p M M' → Φ (.dat (.tuple D)) M'
theorem G8 (xs : List DV) (M : Mp) (Φ : DK) : X9 xs M Φ = (on2 xs fun x y => onO x fun p => onO y fun q => Wd M q ∧ q ≠ p ∧ Pen M p ∧ ∀ D M', Tel D → Fr p M M' → Φ (.dat (.tuple D)) M') := propext Iff.rfl
open PySem.Builtin PySem.Builtin.Str
noncomputable def sg1 (c : Nat) : Str := ⟨#[c]⟩
theorem Qm {a b : Str} (h : a.cps.toList = b.cps.toList) : a = b := by
 cases a; cases b
 exact congrArg _ (Array.ext' h)
noncomputable def jn (c : List Nat) : List (List Nat) → List Nat
 | [] => []
 | [p] => p
 | p :: q :: r => p ++ c ++ jn c (q :: r)
theorem JN (y : Str) : ∀ ps : List Str, (Txt.join y ps).cps.toList = jn y.cps.toList (ps.map fun p => p.cps.toList) := fun ps => by
 show (glued y ps).cps.toList = _
 rw [StrLaws.glued_eq_join]
 induction ps with
 | nil => rfl
 | cons p ps ih =>
  cases ps with
  | nil => rfl
  | cons q r =>
   have e : PySem.Str.join y (p :: q :: r) = p ++ y ++ PySem.Str.join y (q :: r) := rfl
   rw [e, add_list, add_list, ih]
   rfl
theorem Vy {c : Nat} : ∀ {p r : List Nat}, c ∉ p → (p ++ c :: r).takeWhile (fun d => d != c) = p ∧ (p ++ c :: r).dropWhile (fun d => d != c) = c :: r
 | [], r, _ => by simp
 | d :: p, r, h => by
  have hd : d ≠ c := fun e => h (by rw [e]; exact List.mem_cons_self)
  have ih := Vy (p := p) (r := r) fun m => h (List.mem_cons_of_mem _ m)
  have hb : (d != c) = true := by simpa using hd
  rw [List.cons_append, List.takeWhile_cons_of_pos (p := fun d => d != c) hb, List.dropWhile_cons_of_pos (p := fun d => d != c) hb, ih.1, ih.2]
  exact ⟨rfl, rfl⟩
theorem Nu {c : Nat} : ∀ {a b : List (List Nat)}, a ≠ [] → b ≠ [] → (∀ p ∈ a, c ∉ p) → (∀ p ∈ b, c ∉ p) → jn [c] a = jn [c] b → a = b
 | [], _, h, _, _, _, _ => absurd rfl h
 | _, [], _, h, _, _, _ => absurd rfl h
 | [p], [q], _, _, _, _, e => by rw [show p = q from e]
 | [p], q :: s :: r, _, _, ha, _, e => by
  have e : p = q ++ [c] ++ jn [c] (s :: r) := e
  exact absurd (by rw [e]; simp) (ha p (.head _))
 | p :: s :: r, [q], _, _, _, hb, e => by
  have e : p ++ [c] ++ jn [c] (s :: r) = q := e
  exact absurd (by rw [← e]; simp) (hb q (.head _))
 | p :: s :: r, q :: s' :: r', _, _, ha, hb, e => by
  have e : p ++ [c] ++ jn [c] (s :: r) = q ++ [c] ++ jn [c] (s' :: r') := e
  rw [List.append_assoc, List.append_assoc, List.singleton_append, List.singleton_append] at e
  have t1 := Vy (r := jn [c] (s :: r)) (ha p (.head _))
  have t2 := Vy (r := jn [c] (s' :: r')) (hb q (.head _))
  rw [e] at t1
  have e1 : p = q := t1.1.symm.trans t2.1
  have e2 : jn [c] (s :: r) = jn [c] (s' :: r') := (List.cons.inj (t1.2.symm.trans t2.2)).2
  rw [e1, Nu (List.cons_ne_nil _ _) (List.cons_ne_nil _ _) (fun p hp => ha p (.tail _ hp)) (fun p hp => hb p (.tail _ hp)) e2]
theorem BV (x y : Str) : Txt.split x y ≠ [] := by
 unfold Txt.split
 split
 ·exact List.cons_ne_nil _ _
 ·split
  ·exact List.cons_ne_nil _ _
  ·intro e
   have := congrArg List.length e
   rw [length_partsBetween] at this
   simp at this
theorem Y8 {c : Nat} {ps : List Str} (h0 : ps ≠ []) (hf : ∀ p ∈ ps, c ∉ p.cps.toList) : Txt.split (Txt.join (sg1 c) ps) (sg1 c) = ps := by
 have h1 := StrLaws.join_split (Txt.join (sg1 c) ps) (sg1 c)
 have h2 := StrLaws.split_free (Txt.join (sg1 c) ps) c
 have h3 := BV (Txt.join (sg1 c) ps) (sg1 c)
 have h2 : ∀ p ∈ Txt.split (Txt.join (sg1 c) ps) (sg1 c), c ∉ p.cps.toList := h2
 generalize Txt.split (Txt.join (sg1 c) ps) (sg1 c) = qs at h1 h2 h3 ⊢
 rw [← StrLaws.glued_eq_join] at h1
 have h1 : Txt.join (sg1 c) qs = Txt.join (sg1 c) ps := h1
 have e := congrArg (fun s : Str => s.cps.toList) h1
 rw [JN, JN] at e
 have e2 : qs.map (fun p => p.cps.toList) = ps.map fun p => p.cps.toList := Nu (c := c) (by simpa using h3) (by simpa using h0) (fun p hp => by
  obtain ⟨q, hq, rfl⟩ := List.mem_map.mp hp
  exact h2 q hq) (fun p hp => by
  obtain ⟨q, hq, rfl⟩ := List.mem_map.mp hp
  exact hf q hq) e
 have inj : ∀ {a b : List Str}, a.map (fun p => p.cps.toList) = b.map (fun p => p.cps.toList) → a = b := fun {a} => by
  induction a with
  | nil => intro b e; cases b with | nil => rfl | cons _ _ => cases e
  | cons x a ih =>
   intro b e
   cases b with
   | nil => cases e
   | cons y b =>
    rw [List.map_cons, List.map_cons, List.cons.injEq] at e
    rw [Qm e.1, ih e.2]
 exact inj e2
noncomputable def YO : Str := ⟨#[46, 46]⟩
theorem NY : ∀ ps : List (List Nat), ps ≠ [] → (jn [46, 46] ps).count 46 = (ps.map fun p => p.count 46).sum + 2 * (ps.length - 1)
 | [], h => absurd rfl h
 | [p], _ => by simp [jn]
 | p :: q :: r, _ => by
  have ih := NY (q :: r) (List.cons_ne_nil _ _)
  show (p ++ [46, 46] ++ jn [46, 46] (q :: r)).count 46 = _
  rw [List.count_append, List.count_append, ih]
  simp only [List.map_cons, List.sum_cons, List.length_cons]
  have : ([46, 46] : List Nat).count 46 = 2 := rfl
  omega
theorem CY {a b : Str} (ha : 46 ∉ a.cps.toList) (hb : 46 ∉ b.cps.toList) : Txt.split (Txt.join YO [a, b]) YO = [a, b] := by
 have ex : (Txt.join YO [a, b]).cps.toList = a.cps.toList ++ [46, 46] ++ b.cps.toList := JN YO [a, b]
 have h1 := StrLaws.join_split (Txt.join YO [a, b]) YO
 have h3 := BV (Txt.join YO [a, b]) YO
 have hne : ∀ q, Txt.split (Txt.join YO [a, b]) YO ≠ [q] := fun q e => by
  have lx : (Txt.join YO [a, b]).length = a.cps.toList.length + 2 + b.cps.toList.length := by
   rw [← str_len, ex, List.length_append, List.length_append]
   rfl
  unfold Txt.split at e
  split at e
  ·rename_i hc
   rcases Bool.or_eq_true_iff.mp hc with z | z
   ·have := of_decide_eq_true z
    rw [lx] at this
    have : YO.length = 2 := rfl
    omega
   ·have := of_decide_eq_true z
    have h1 : strKind YO = 1 := by decide +kernel
    have h2 := strKind_pos (Txt.join YO [a, b])
    omega
  ·split at e
   ·rename_i hc
    rcases StrLaws.occ_head (Txt.join YO [a, b]) YO ((Txt.join YO [a, b]).length + 1) (by omega) with ⟨_, n⟩ | ⟨i, r, q, _⟩
    ·refine n a.cps.toList.length ⟨by rw [lx, show YO.length = 2 from rfl]; omega, ?_⟩
     unfold subAt
     rw [StrLaws.beq_toList, Array.toList_extract, ex]
     show (List.take _ (List.drop _ _) == [46, 46]) = true
     rw [List.append_assoc, List.drop_left, show YO.length = 2 from rfl, show a.cps.toList.length + 2 - a.cps.toList.length = 2 by omega]
     rfl
    ·rw [q] at hc
     cases hc
   ·rename_i hc
    have := congrArg List.length e
    rw [length_partsBetween] at this
    cases q : occurrences (Txt.join YO [a, b]) YO 0 (Txt.join YO [a, b]).length ((Txt.join YO [a, b]).length + 1) with
    | nil => rw [q] at hc; exact hc rfl
    | cons _ _ => rw [q] at this; simp at this
 generalize Txt.split (Txt.join YO [a, b]) YO = qs at h1 h3 hne ⊢
 rw [← StrLaws.glued_eq_join] at h1
 have e := congrArg (fun s : Str => s.cps.toList) (show Txt.join YO qs = Txt.join YO [a, b] from h1)
 rw [ex, JN] at e
 have e : jn [46, 46] (qs.map fun p => p.cps.toList) = a.cps.toList ++ [46, 46] ++ b.cps.toList := e
 have c := NY (qs.map fun p => p.cps.toList) (by simpa using h3)
 rw [e, List.count_append, List.count_append, List.count_eq_zero.mpr ha, List.count_eq_zero.mpr hb, List.length_map] at c
 have c2 : ([46, 46] : List Nat).count 46 = 2 := rfl
 match qs, h3, hne, e, c with
 | [q], _, hne, _, _ => exact absurd rfl (hne q)
 | [p, q], _, _, e, c =>
  simp only [List.map_cons, List.map_nil, List.sum_cons, List.sum_nil, List.length_cons, List.length_nil] at c
  have hp : 46 ∉ p.cps.toList := List.count_eq_zero.mp (by omega)
  have e : p.cps.toList ++ [46, 46] ++ q.cps.toList = a.cps.toList ++ [46, 46] ++ b.cps.toList := e
  rw [List.append_assoc, List.append_assoc] at e
  have t1 := Vy (r := 46 :: q.cps.toList) hp
  have t2 := Vy (r := 46 :: b.cps.toList) ha
  have e : p.cps.toList ++ 46 :: 46 :: q.cps.toList = a.cps.toList ++ 46 :: 46 :: b.cps.toList := e
  rw [e] at t1
  have e1 := Qm (t1.1.symm.trans t2.1)
  have e2 := Qm (List.cons.inj (List.cons.inj (t1.2.symm.trans t2.2)).2).2
  rw [e1, e2]
 | _ :: _ :: _ :: r, _, _, _, c =>
  simp only [List.map_cons, List.sum_cons, List.length_cons] at c
  omega
noncomputable def JC (i : Int) : Str := Str.ofString (toString i)
theorem Wm (m : Nat) : (JC (m : Int)).cps.toList = (Nat.toDigits 10 m).map Char.toNat := PySem.W.KIN.signs_num m
theorem Wk (m : Nat) : (JC (Int.negSucc m)).cps.toList = 45 :: (Nat.toDigits 10 (m + 1)).map Char.toNat := by
 have e : toString (Int.negSucc m) = "-" ++ toString (m + 1) := rfl
 have d := Wm (m + 1)
 unfold JC at d ⊢
 rw [signs_ofString] at d ⊢
 rw [e, String.toList_append, List.map_append]
 have d : (toString (m + 1)).toList.map Char.toNat = (Nat.toDigits 10 (m + 1)).map Char.toNat := d
 rw [d]
 rfl
theorem X4 (m : Nat) : PySem.NumText.AllDigits ((Nat.toDigits 10 m).map Char.toNat) := fun c hc => by
 obtain ⟨ch, hch, e⟩ := List.mem_map.mp hc
 have r := digit_range (Nat.isDigit_of_mem_toDigits (by decide) (by decide) hch)
 rw [← e]
 exact r
theorem U6 (m : Nat) : (Nat.toDigits 10 m).map Char.toNat ≠ [] := fun e => by
 have h := toDigits_len_ge 10 m
 rw [List.map_eq_nil_iff.mp e] at h
 exact absurd h (by decide)
theorem Ca {m : Nat} (h : 0 < m) : ((Nat.toDigits 10 m).map Char.toNat).head? ≠ some 48 := by
 induction m using Nat.strongRecOn with
 | _ m ih =>
  by_cases hm : m < 10
  ·rw [Nat.toDigits_of_lt_base hm]
   have e := PySem.W.KIN.digit_back m hm
   show some (Nat.digitChar m).toNat ≠ some 48
   intro z
   have z := Option.some.inj z
   omega
  ·have hq : m % 10 < 10 := Nat.mod_lt m (by decide)
   have t : Nat.toDigits 10 (m / 10) ++ Nat.toDigits 10 (m % 10) = Nat.toDigits 10 (10 * (m / 10) + m % 10) := Nat.toDigits_append_toDigits (by decide) (by omega) hq
   rw [Nat.div_add_mod] at t
   rw [← t, List.map_append]
   have i := ih (m / 10) (by omega) (by omega)
   cases q : (Nat.toDigits 10 (m / 10)).map Char.toNat with
   | nil => exact absurd q (U6 _)
   | cons c r =>
    rw [q] at i
    exact i
theorem QX {i : Int} (h : -(10 ^ 40) ≤ i ∧ i ≤ 10 ^ 40) : 1 ≤ (JC i).length ∧ (JC i).length ≤ 50 := by
 have l := int_text_length_le10 (a := i) (k := 41) (by decide) (by omega)
 have e : (JC i).length = (toString i).length := by
  rw [← str_len]
  unfold JC
  rw [signs_ofString, List.length_map, String.length_toList]
 have n : (JC i).cps.toList ≠ [] := by
  cases i with
  | ofNat m =>
   rw [show (Int.ofNat m) = (m : Int) from rfl, Wm]
   exact U6 m
  | negSucc m =>
   rw [Wk]
   exact List.cons_ne_nil _ _
 have p : 1 ≤ (JC i).length := by
  rw [← str_len]
  exact List.length_pos_iff.mpr n
 omega
theorem VA {k : Nat} (hk : k ≠ 45 ∧ (k < 48 ∨ 57 < k)) (i : Int) : k ∉ (JC i).cps.toList := int_text_free' k hk i
theorem FY {i : Int} (h : -(10 ^ 40) ≤ i ∧ i ≤ 10 ^ 40) : PySem.intText? (JC i) = some i := by
 have hl := (QX h).2
 cases i with
 | ofNat m =>
  have d := Wm m
  have e := PySem.intText_digits (x := JC (m : Int)) (by rw [d]; exact X4 m) (by rw [d]; exact U6 m) (Nat.le_trans hl (by decide))
  rw [d, PySem.W.KIN.val_back] at e
  exact e
 | negSucc m =>
  have e := PySem.intText_neg (Wk m) (X4 _) (U6 _) (Nat.le_trans hl (by decide))
  rw [PySem.W.KIN.val_back] at e
  exact e
theorem Bf (z : Str) (c : Nat) : Txt.startswith z (sg1 c) = decide (z.cps.toList.head? = some c) := by
 unfold Txt.startswith subAt
 rw [StrLaws.beq_toList, Array.toList_extract]
 have l := str_len z
 show (decide (0 + 1 ≤ z.length) && (List.take _ (List.drop 0 z.cps.toList) == [c])) = _
 cases q : z.cps.toList with
 | nil =>
  rw [q] at l
  have : z.length = 0 := l.symm
  rw [this]
  rfl
 | cons d r =>
  rw [q, List.length_cons] at l
  rw [decide_eq_true (show 0 + 1 ≤ z.length by omega), Bool.true_and]
  show ([d] == [c]) = decide (some d = some c)
  rw [Bool.eq_iff_iff]
  simp
noncomputable def RP (c : Nat) : Bool := decide (48 ≤ c) && decide (c ≤ 57)
noncomputable def KI (s : Str) : Bool := (decide (1 ≤ s.length) && decide (s.length ≤ 60)) && s.cps.toList.all RP
theorem Mt {i : Int} (h : -(10 ^ 40) ≤ i ∧ i ≤ 10 ^ 40) : (0 ≤ i ∧ (JC i).cps.toList.head? ≠ some 45 ∧ KI (JC i) = true ∧ ((JC i).cps.toList.head? = some 48 → JC i = JC 0)) ∨ ∃ z : Str, (JC i).cps.toList = 45 :: z.cps.toList ∧ KI z = true ∧ z.cps.toList.head? ≠ some 48 := by
 have hl := QX h
 have al : ∀ l : List Nat, PySem.NumText.AllDigits l → l.all RP = true := fun l hl => List.all_eq_true.mpr fun c hc => by
  have := hl c hc
  unfold RP
  rw [decide_eq_true this.1, decide_eq_true this.2]
  rfl
 cases i with
 | ofNat m =>
  have d := Wm m
  refine .inl ⟨Int.natCast_nonneg m, fun e => ?_, ?_, fun e => ?_⟩
  ·rw [show JC (Int.ofNat m) = JC (m : Int) from rfl, d] at e
   have := X4 m 45 (List.mem_of_mem_head? e)
   omega
  ·unfold KI
   rw [decide_eq_true hl.1, decide_eq_true (show (JC (Int.ofNat m)).length ≤ 60 by omega), show JC (Int.ofNat m) = JC (m : Int) from rfl, d, al _ (X4 m)]
   rfl
  ·rw [show JC (Int.ofNat m) = JC (m : Int) from rfl, d] at e
   by_cases z : 0 < m
   ·exact absurd e (Ca z)
   ·rw [show m = 0 by omega]
    rfl
 | negSucc m =>
  refine .inr ⟨⟨((Nat.toDigits 10 (m + 1)).map Char.toNat).toArray⟩, by rw [Wk], ?_, ?_⟩
  ·have l2 : ((Nat.toDigits 10 (m + 1)).map Char.toNat).length + 1 ≤ 50 := by
    have := hl.2
    rw [← str_len, Wk, List.length_cons] at this
    exact this
   have l1 : 1 ≤ ((Nat.toDigits 10 (m + 1)).map Char.toNat).length := List.length_pos_iff.mpr (U6 _)
   unfold KI
   have e : (⟨((Nat.toDigits 10 (m + 1)).map Char.toNat).toArray⟩ : Str).length = ((Nat.toDigits 10 (m + 1)).map Char.toNat).length := by rw [← str_len]
   rw [e, decide_eq_true l1, decide_eq_true (show ((Nat.toDigits 10 (m + 1)).map Char.toNat).length ≤ 60 by omega)]
   exact al _ (X4 _)
  ·exact Ca (Nat.succ_pos m)
inductive Tl where
 | land (t : Int) (nm ou : Str) (bs : List B4) (wb : Int)
 | spot (t : Int) (nm : Str) (u v : Int)
 | off (w : Str) (t : Int) (nm : Str)
noncomputable def tlD : Tl → PyData
 | .land t nm ou bs wb => .tuple [.str (Str.ofString "land"), .int t, .str nm, .str ou, .tuple (bs.map bD), .int wb]
 | .spot t nm u v => .tuple [.str (Str.ofString "spot"), .int t, .str nm, .tuple [.int u, .int v]]
 | .off w t nm => .tuple [.str w, .int t, .str nm]
noncomputable def T9 (t : Int) (nm : Str) : Prop := (0 ≤ t ∧ t ≤ 1000000000000) ∧ Qi nm
noncomputable def YS : Tl → Prop
 | .land t nm ou bs wb => T9 t nm ∧ (ou = Str.ofString "" ∨ Qi ou) ∧ Zbs bs ∧ (0 ≤ wb ∧ wb ≤ 30000000000)
 | .spot t nm u v => T9 t nm ∧ Sh u ∧ Sh v
 | .off w t nm => T9 t nm ∧ (w = Str.ofString "drop" ∨ w = Str.ofString "free")
theorem S2 {D : List PyData} (h : Tel D) : ∃ x, YS x ∧ .tuple D = tlD x := by
 obtain ⟨w, t, nm, l, rfl, ht, hn, ⟨rfl, ou, bs, wb, rfl, ho, hs, hw⟩ | ⟨rfl, u, v, rfl, hu, hv⟩ | ⟨hw, rfl⟩⟩ := h
 ·exact ⟨.land t nm ou bs wb, ⟨⟨ht, hn⟩, ho, hs, hw⟩, rfl⟩
 ·exact ⟨.spot t nm u v, ⟨⟨ht, hn⟩, hu, hv⟩, rfl⟩
 ·exact ⟨.off w t nm, ⟨⟨ht, hn⟩, hw⟩, rfl⟩
theorem NS {x : Tl} (h : YS x) : ∃ D, tlD x = .tuple D ∧ Tel D := by
 cases x with
 | land t nm ou bs wb => exact ⟨_, rfl, _, t, nm, _, rfl, h.1.1, h.1.2, .inl ⟨rfl, ou, bs, wb, rfl, h.2⟩⟩
 | spot t nm u v => exact ⟨_, rfl, _, t, nm, _, rfl, h.1.1, h.1.2, .inr (.inl ⟨rfl, u, v, rfl, h.2⟩)⟩
 | off w t nm => exact ⟨_, rfl, w, t, nm, [], rfl, h.1.1, h.1.2, .inr (.inr ⟨h.2, rfl⟩)⟩
theorem cm1 : Str.ofString "," = sg1 44 := Qm (by decide +kernel)
theorem cm2 : Str.ofString ".." = YO := Qm (by decide +kernel)
theorem cm3 : Str.ofString " " = sg1 32 := Qm (by decide +kernel)
theorem cm4 : Str.ofString "\n" = sg1 10 := Qm (by decide +kernel)
noncomputable def Jy (u v : Int) : Str := Txt.join (Str.ofString ",") [JC u, JC v]
noncomputable def Ul (b : B4) : Str := Txt.join (Str.ofString "..") [Jy b.x b.y, Jy b.X b.Y]
noncomputable def Nk (ou : Str) : Str := if ou.length = 0 then Str.ofString "-" else ou
noncomputable def Qk : Tl → List Str
 | .land t nm ou bs wb => [Str.ofString "land", JC t, nm, Nk ou, JC wb] ++ bs.map Ul
 | .spot t nm u v => [Str.ofString "spot", JC t, nm, Jy u v]
 | .off w t nm => [w, JC t, nm]
noncomputable def Jb (x : Tl) : Str := Txt.join (Str.ofString " ") (Qk x)
noncomputable def Jd (xs : List Tl) : Str := Txt.join (Str.ofString "\n") (xs.map Jb)
noncomputable def Big (i : Int) : Prop := -(10 ^ 40) ≤ i ∧ i ≤ 10 ^ 40
theorem Sh.big {i : Int} (h : Sh i) : Big i := by
 unfold Sh at h
 unfold Big
 omega
theorem QG {i : Int} (h : Big i) : i.natAbs.log2 < 1920 := Nat.lt_of_lt_of_le (XD (k := 140) (by unfold Big at h; omega) (by decide)) (by decide)
theorem Ob {c : List Nat} {k : Nat} : ∀ {ps : List (List Nat)}, k ∉ c → (∀ p ∈ ps, k ∉ p) → k ∉ jn c ps
 | [], _, _ => fun h => nomatch h
 | [p], _, h => h p (.head _)
 | p :: q :: r, hc, h => by
  show k ∉ p ++ c ++ jn c (q :: r)
  rw [List.mem_append, List.mem_append]
  rintro ((z | z) | z)
  ·exact h p (.head _) z
  ·exact hc z
  ·exact Ob hc (fun p hp => h p (.tail _ hp)) z
theorem Vs {y : Str} {ps : List Str} {k : Nat} (hc : k ∉ y.cps.toList) (h : ∀ p ∈ ps, k ∉ p.cps.toList) : k ∉ (Txt.join y ps).cps.toList := by
 rw [JN]
 refine Ob hc fun p hp => ?_
 obtain ⟨q, hq, rfl⟩ := List.mem_map.mp hp
 exact h q hq
theorem Nx {c : List Nat} {B : Nat} : ∀ {ps : List (List Nat)}, (∀ p ∈ ps, p.length ≤ B) → (jn c ps).length ≤ ps.length * (B + c.length)
 | [], _ => Nat.zero_le _
 | [p], h => by
  have := h p (.head _)
  show p.length ≤ 1 * (B + c.length)
  omega
 | p :: q :: r, h => by
  have ih := Nx (c := c) (B := B) (ps := q :: r) fun p hp => h p (.tail _ hp)
  have := h p (.head _)
  show (p ++ c ++ jn c (q :: r)).length ≤ (r.length + 1 + 1) * (B + c.length)
  rw [List.length_append, List.length_append, Nat.succ_mul]
  have ih : (jn c (q :: r)).length ≤ (r.length + 1) * (B + c.length) := ih
  omega
theorem XI {y : Str} {ps : List Str} {B : Nat} (h : ∀ p ∈ ps, p.length ≤ B) : (Txt.join y ps).length ≤ ps.length * (B + y.length) := by
 rw [← str_len, JN]
 have := Nx (c := y.cps.toList) (B := B) (ps := ps.map fun p => p.cps.toList) fun p hp => by
  obtain ⟨q, hq, rfl⟩ := List.mem_map.mp hp
  rw [str_len]
  exact h q hq
 rwa [List.length_map, str_len] at this
theorem Jm {α : Type} {P : α → Prop} {a b : α} (ha : P a) (hb : P b) : ∀ p ∈ [a, b], P p := fun p hp => by
 rcases List.mem_cons.mp hp with rfl | hp
 ·exact ha
 ·rw [List.mem_singleton.mp hp]
  exact hb
theorem Q1 {u v : Int} (hu : Big u) (hv : Big v) : (Jy u v).length ≤ 102 :=
 Nat.le_trans (XI (B := 50) (Jm (QX hu).2 (QX hv).2)) (by rw [show (Str.ofString ",").length = 1 by decide +kernel]; exact (by decide : 2 * (50 + 1) ≤ 102))
theorem JU {k : Nat} (hk : (k ≠ 45 ∧ (k < 48 ∨ 57 < k)) ∧ k ≠ 44) (u v : Int) : k ∉ (Jy u v).cps.toList :=
 Vs (by rw [cm1]; exact fun h => hk.2 (List.mem_singleton.mp h)) (Jm (VA hk.1 u) (VA hk.1 v))
theorem E4 {k : Nat} (hk : (k ≠ 45 ∧ (k < 48 ∨ 57 < k)) ∧ k ≠ 44 ∧ k ≠ 46) (b : B4) : k ∉ (Ul b).cps.toList :=
 Vs (by rw [cm2]; exact fun h => (List.mem_cons.mp h).elim hk.2.2 fun h => hk.2.2 (List.mem_singleton.mp h)) (Jm (JU ⟨hk.1, hk.2.1⟩ _ _) (JU ⟨hk.1, hk.2.1⟩ _ _))
noncomputable def BxK (b : B4) : Prop := okB b = true ∧ (Sh b.x ∧ Sh b.y) ∧ (Sh b.X ∧ Sh b.Y)
theorem BZ {b : B4} (h : BxK b) : (Ul b).length ≤ 208 :=
 Nat.le_trans (XI (B := 102) (Jm (Q1 h.2.1.1.big h.2.1.2.big) (Q1 h.2.2.1.big h.2.2.2.big))) (by rw [show (Str.ofString "..").length = 2 by decide +kernel]; exact (by decide : 2 * (102 + 2) ≤ 208))
theorem HG (u v : Int) : Txt.split (Jy u v) (Str.ofString ",") = [JC u, JC v] := by
 unfold Jy
 rw [cm1]
 exact Y8 (List.cons_ne_nil _ _) (Jm (VA (by decide) u) (VA (by decide) v))
theorem Oq (b : B4) : Txt.split (Ul b) (Str.ofString "..") = [Jy b.x b.y, Jy b.X b.Y] := by
 unfold Ul
 rw [cm2]
 exact CY (JU (by decide) _ _) (JU (by decide) _ _)
theorem YE {ou : Str} (h : ou = Str.ofString "" ∨ Qi ou) : (ou = Str.ofString "" ∧ Nk ou = Str.ofString "-") ∨ (Qi ou ∧ Nk ou = ou) := by
 unfold Nk
 rcases h with rfl | h
 ·exact .inl ⟨rfl, if_pos (by decide +kernel)⟩
 ·exact .inr ⟨h, if_neg (by have := h.1; omega)⟩
noncomputable def Wd1 (s : Str) : Prop := s.length ≤ 208 ∧ ∀ k, (k ≤ 32 ∨ 123 ≤ k) → k ∉ s.cps.toList
theorem Qi.wd {s : Str} (h : Qi s) : Wd1 s := ⟨by have := h.1; omega, fun k hk m => by have := h.2 _ m; omega⟩
theorem FH {i : Int} (h : Big i) : Wd1 (JC i) := ⟨by have := QX h; omega, fun k hk => VA (by omega) i⟩
theorem JG {x : Tl} (h : YS x) : (Qk x ≠ [] ∧ (Qk x).length ≤ 11) ∧ ∀ s ∈ Qk x, Wd1 s := by
 have tm : ∀ {t : Int} {nm : Str}, T9 t nm → Wd1 (JC t) ∧ Wd1 nm := fun {t nm} k => ⟨FH (by unfold Big; have := k.1; omega), k.2.wd⟩
 have lit : ∀ s ∈ [Str.ofString "land", Str.ofString "spot", Str.ofString "drop", Str.ofString "free", Str.ofString "-"], Wd1 s := fun s hs => by
  have e : ∀ s ∈ [Str.ofString "land", Str.ofString "spot", Str.ofString "drop", Str.ofString "free", Str.ofString "-"], s.length ≤ 208 ∧ (s.cps.toList.all fun c => decide (32 < c) && decide (c < 123)) = true := by decide +kernel
  refine ⟨(e s hs).1, fun k hk m => ?_⟩
  have := List.all_eq_true.mp (e s hs).2 k m
  simp only [Bool.and_eq_true, decide_eq_true_eq] at this
  omega
 cases x with
 | land t nm ou bs wb =>
  obtain ⟨k, ho, hs, hw⟩ := h
  refine ⟨⟨List.cons_ne_nil _ _, by unfold Qk; rw [List.length_append, List.length_map]; have := hs.1; simp only [List.length_cons, List.length_nil]; omega⟩, fun s m => ?_⟩
  rcases List.mem_append.mp m with m | m
  ·simp only [List.mem_cons, List.not_mem_nil, or_false] at m
   rcases m with rfl | rfl | rfl | rfl | rfl
   ·exact lit _ (by simp)
   ·exact (tm k).1
   ·exact (tm k).2
   ·rcases YE ho with ⟨_, e⟩ | ⟨n, e⟩
    ·rw [e]
     exact lit _ (by simp)
    ·rw [e]
     exact n.wd
   ·exact FH (by unfold Big; omega)
  ·obtain ⟨b, hb, rfl⟩ := List.mem_map.mp m
   exact ⟨BZ (hs.2.2 b hb), fun k hk => E4 (by omega) b⟩
 | spot t nm u v =>
  refine ⟨⟨List.cons_ne_nil _ _, by unfold Qk; simp⟩, fun s m => ?_⟩
  unfold Qk at m
  simp only [List.mem_cons, List.not_mem_nil, or_false] at m
  rcases m with rfl | rfl | rfl | rfl
  ·exact lit _ (by simp)
  ·exact (tm h.1).1
  ·exact (tm h.1).2
  ·exact ⟨Nat.le_trans (Q1 h.2.1.big h.2.2.big) (by decide), fun k hk => JU (by omega) _ _⟩
 | off w t nm =>
  refine ⟨⟨List.cons_ne_nil _ _, by unfold Qk; simp⟩, fun s m => ?_⟩
  unfold Qk at m
  simp only [List.mem_cons, List.not_mem_nil, or_false] at m
  rcases m with rfl | rfl | rfl
  ·rcases h.2 with rfl | rfl
   ·exact lit _ (by simp)
   ·exact lit _ (by simp)
  ·exact (tm h.1).1
  ·exact (tm h.1).2
theorem LP {x : Tl} (h : YS x) : Txt.split (Jb x) (Str.ofString " ") = Qk x := by
 unfold Jb
 rw [cm3]
 exact Y8 (JG h).1.1 fun p hp => ((JG h).2 p hp).2 32 (by decide)
theorem Xz {x : Tl} (h : YS x) : (Jb x).length ≤ 2400 := by
 have := XI (y := Str.ofString " ") (ps := Qk x) (B := 208) fun p hp => ((JG h).2 p hp).1
 rw [show (Str.ofString " ").length = 1 by decide +kernel] at this
 have := (JG h).1.2
 unfold Jb
 omega
theorem HL {xs : List Tl} (h0 : xs ≠ []) (h : ∀ x ∈ xs, YS x) : Txt.split (Jd xs) (Str.ofString "\n") = xs.map Jb := by
 unfold Jd
 rw [cm4]
 refine Y8 (by simpa using h0) fun p hp => ?_
 obtain ⟨x, hx, rfl⟩ := List.mem_map.mp hp
 exact Vs (by decide +kernel) fun q hq => ((JG (h x hx)).2 q hq).2 10 (by decide)
theorem text_len {xs : List Tl} (hl : xs.length ≤ 30) (h : ∀ x ∈ xs, YS x) : (Jd xs).length ≤ 80000 := by
 have := XI (y := Str.ofString "\n") (ps := xs.map Jb) (B := 2400) fun p hp => by
  obtain ⟨x, hx, rfl⟩ := List.mem_map.mp hp
  exact Xz (h x hx)
 rw [show (Str.ofString "\n").length = 1 by decide +kernel, List.length_map] at this
 have := Nat.mul_le_mul_right 2401 hl
 unfold Jd
 omega
theorem ZcD {c : List Nat} : ∀ {ps : List (List Nat)}, ps ≠ [] → (∀ p ∈ ps, p ≠ []) → jn c ps ≠ []
 | [], h, _ => absurd rfl h
 | [p], _, h => h p (.head _)
 | p :: q :: r, _, h => fun e => by
  have e : p ++ c ++ jn c (q :: r) = [] := e
  rw [List.append_eq_nil_iff, List.append_eq_nil_iff] at e
  exact h p (.head _) e.1.1
theorem RL {x : Tl} (h : YS x) : (Jb x).cps.toList ≠ [] := by
 unfold Jb
 rw [JN]
 cases x with
 | land t nm ou bs wb =>
  show [108, 97, 110, 100] ++ _ ++ _ ≠ []
  simp
 | spot t nm u v =>
  show [115, 112, 111, 116] ++ _ ++ _ ≠ []
  simp
 | off w t nm =>
  rcases h.2 with rfl | rfl
  ·show [100, 114, 111, 112] ++ _ ++ _ ≠ []
   simp
  ·show [102, 114, 101, 101] ++ _ ++ _ ≠ []
   simp
theorem RY {xs : List Tl} (h0 : xs ≠ []) (h : ∀ x ∈ xs, YS x) : Jd xs ≠ Str.ofString "" := fun e => by
 have e := congrArg (fun s : Str => s.cps.toList) e
 have e : (Jd xs).cps.toList = [] := e
 unfold Jd at e
 rw [JN] at e
 refine ZcD (by simpa using h0) (fun p hp => ?_) e
 obtain ⟨q, hq, rfl⟩ := List.mem_map.mp hp
 obtain ⟨x, hx, rfl⟩ := List.mem_map.mp hq
 exact RL (h x hx)
noncomputable def Zb4 (x : DV) (P : Tl → Prop) : Prop := ∃ t, x = .dat (tlD t) ∧ P t
noncomputable def ZaS (x : DV) (P : List Tl → Prop) : Prop := ∃ ts : List Tl, x = .dat (.list (ts.map tlD)) ∧ P ts
noncomputable def Kv (ts : List Tl) : Prop := ts.length ≤ 20 ∧ ∀ t ∈ ts, YS t
noncomputable def VF : DSp := fun xs M Φ => on1 xs fun x => onP x fun u v => (Big u ∧ Big v) ∧ Φ (.dat (.str (Jy u v))) M
theorem UZ (xs : List DV) (M : Mp) (Φ : DK) : VF xs M Φ = (on1 xs fun x => onP x fun u v => (Big u ∧ Big v) ∧ Φ (.dat (.str (Jy u v))) M) := propext Iff.rfl
noncomputable def Kf : DSp := fun xs M Φ => on1 xs fun x => onX x fun b => BxK b ∧ Φ (.dat (.str (Ul b))) M
theorem Gm (xs : List DV) (M : Mp) (Φ : DK) : Kf xs M Φ = (on1 xs fun x => onX x fun b => BxK b ∧ Φ (.dat (.str (Ul b))) M) := propext Iff.rfl
noncomputable def Wq : DSp := fun xs M Φ => on1 xs fun x => Zb4 x fun t => YS t ∧ Φ (.dat (.str (Jb t))) M
theorem CV (xs : List DV) (M : Mp) (Φ : DK) : Wq xs M Φ = (on1 xs fun x => Zb4 x fun t => YS t ∧ Φ (.dat (.str (Jb t))) M) := propext Iff.rfl
noncomputable def Kn : DSp := fun xs M Φ => on1 xs fun x => ZaS x fun ts => Kv ts ∧ Φ (.dat (.str (Jd ts))) M
theorem GL (xs : List DV) (M : Mp) (Φ : DK) : Kn xs M Φ = (on1 xs fun x => ZaS x fun ts => Kv ts ∧ Φ (.dat (.str (Jd ts))) M) := propext Iff.rfl
noncomputable def D4 : DSp := fun xs M Φ => on1 xs fun x => onS x fun s => s.length ≤ 1000 ∧ Φ (.dat (.bool (KI s))) M
theorem MN (xs : List DV) (M : Mp) (Φ : DK) : D4 xs M Φ = (on1 xs fun x => onS x fun s => s.length ≤ 1000 ∧ Φ (.dat (.bool (KI s))) M) := propext Iff.rfl
noncomputable def XA : DSp := fun xs M Φ => on1 xs fun x => ∃ i, x = .dat (.str (JC i)) ∧ Big i ∧ Φ (.dat (.int i)) M
theorem CT (xs : List DV) (M : Mp) (Φ : DK) : XA xs M Φ = (on1 xs fun x => ∃ i, x = .dat (.str (JC i)) ∧ Big i ∧ Φ (.dat (.int i)) M) := propext Iff.rfl
noncomputable def VS : DSp := fun xs M Φ => on1 xs fun x => ∃ u v, x = .dat (.str (Jy u v)) ∧ (Big u ∧ Big v) ∧ Φ (.dat (.tuple [.int u, .int v])) M
theorem Ua (xs : List DV) (M : Mp) (Φ : DK) : VS xs M Φ = (on1 xs fun x => ∃ u v, x = .dat (.str (Jy u v)) ∧ (Big u ∧ Big v) ∧ Φ (.dat (.tuple [.int u, .int v])) M) := propext Iff.rfl
noncomputable def X1 : DSp := fun xs M Φ => on1 xs fun x => ∃ b, x = .dat (.str (Ul b)) ∧ BxK b ∧ Φ (.dat (bD b)) M
theorem BC (xs : List DV) (M : Mp) (Φ : DK) : X1 xs M Φ = (on1 xs fun x => ∃ b, x = .dat (.str (Ul b)) ∧ BxK b ∧ Φ (.dat (bD b)) M) := propext Iff.rfl
noncomputable def Yj : DSp := fun xs M Φ => on1 xs fun x => ∃ ou, x = .dat (.str (Nk ou)) ∧ (ou = Str.ofString "" ∨ Qi ou) ∧ Φ (.dat (.str ou)) M
theorem WA (xs : List DV) (M : Mp) (Φ : DK) : Yj xs M Φ = (on1 xs fun x => ∃ ou, x = .dat (.str (Nk ou)) ∧ (ou = Str.ofString "" ∨ Qi ou) ∧ Φ (.dat (.str ou)) M) := propext Iff.rfl
noncomputable def V0 : DSp := fun xs M Φ => on1 xs fun x => ∃ t, x = .dat (.list ((Qk t).map PyData.str)) ∧ YS t ∧ Φ (.dat (tlD t)) M
theorem Wh (xs : List DV) (M : Mp) (Φ : DK) : V0 xs M Φ = (on1 xs fun x => ∃ t, x = .dat (.list ((Qk t).map PyData.str)) ∧ YS t ∧ Φ (.dat (tlD t)) M) := propext Iff.rfl
noncomputable def Yc : DSp := fun xs M Φ => on1 xs fun x => ∃ t, x = .dat (.str (Jb t)) ∧ YS t ∧ Φ (.dat (tlD t)) M
theorem WG (xs : List DV) (M : Mp) (Φ : DK) : Yc xs M Φ = (on1 xs fun x => ∃ t, x = .dat (.str (Jb t)) ∧ YS t ∧ Φ (.dat (tlD t)) M) := propext Iff.rfl
noncomputable def XU : DSp := fun xs M Φ => on1 xs fun x => ∃ ts, x = .dat (.str (Jd ts)) ∧ Kv ts ∧ ∀ q, M q = none → Φ (.own q) (Z1 M q (.lst (ts.map tlD)))
theorem GF (xs : List DV) (M : Mp) (Φ : DK) : XU xs M Φ = (on1 xs fun x => ∃ ts, x = .dat (.str (Jd ts)) ∧ Kv ts ∧ ∀ q, M q = none → Φ (.own q) (Z1 M q (.lst (ts.map tlD)))) := propext Iff.rfl
theorem jk {y : Str} (hy : y.length ≤ 2) {B : Nat} {ss : List Str} (hl : ss.length ≤ 30) (hB : B ≤ 3000) (h : ∀ s ∈ ss, s.length ≤ B) : JoinOk y ss = true :=
 Fb (B := 3000) (fun s hs => Nat.le_trans (h s hs) hB) (by
  have := Nat.mul_le_mul hl (Nat.le_refl 3000)
  have := Nat.mul_le_mul hl hy
  omega)
theorem ln1 : (Str.ofString ",").length ≤ 2 ∧ (Str.ofString "..").length ≤ 2 ∧ (Str.ofString " ").length ≤ 2 ∧ (Str.ofString "\n").length ≤ 2 := by decide +kernel
theorem Fz {x : Tl} (h : YS x) : JoinOk (Str.ofString " ") (Qk x) = true := jk ln1.2.2.1 (Nat.le_trans (JG h).1.2 (by decide)) (by decide : 208 ≤ 3000) fun s hs => ((JG h).2 s hs).1
theorem ZdZ : (Str.ofString "spot" ≠ Str.ofString "land" ∧ Str.ofString "drop" ≠ Str.ofString "land" ∧ Str.ofString "free" ≠ Str.ofString "land") ∧ Str.ofString "drop" ≠ Str.ofString "spot" ∧ Str.ofString "free" ≠ Str.ofString "spot" := by
 have k : ∀ a b : Str, a.cps.toList ≠ b.cps.toList → a ≠ b := fun a b h e => h (by rw [e])
 exact ⟨⟨k _ _ (by decide +kernel), k _ _ (by decide +kernel), k _ _ (by decide +kernel)⟩, k _ _ (by decide +kernel), k _ _ (by decide +kernel)⟩
theorem VU {t : Int} {nm : Str} (h : T9 t nm) : Big t := by
 have := h.1
 unfold Big
 omega
theorem YU (t : Int) (nm ou : Str) (bs : List B4) (wb : Int) : Qk (.land t nm ou bs wb) = [Str.ofString "land", JC t, nm, Nk ou, JC wb] ++ bs.map Ul := rfl
theorem Zex (a b c : PyData) (l : List PyData) : DL.cutD (a :: b :: c :: l) (some 3) none = l := by
 unfold DL.cutD
 rw [HT.Wz]
 have e : HT.sIx (a :: b :: c :: l).length 0 (some 3) = 3 := by
  unfold HT.sIx
  simp only [List.length_cons]
  rw [if_neg (by decide)]
  omega
 rw [e]
 show List.take _ l = l
 exact List.take_of_length_le (by simp only [List.length_cons]; omega)
theorem Zdh (c : Nat) : (!decide ((⟨#[c]⟩ : Str).cps.toList < (Str.ofString "0").cps.toList)) = decide (48 ≤ c) := by
 have e : (Str.ofString "0").cps.toList = [48] := by decide +kernel
 rw [e]
 show (!decide ([c] < [48])) = _
 rw [Bool.eq_iff_iff, Bool.not_eq_true', decide_eq_false_iff_not, decide_eq_true_eq, List.cons_lt_cons_iff]
 simp
theorem ZdO (c : Nat) : (!decide ((Str.ofString "9").cps.toList < (⟨#[c]⟩ : Str).cps.toList)) = decide (c ≤ 57) := by
 have e : (Str.ofString "9").cps.toList = [57] := by decide +kernel
 rw [e]
 show (!decide ([57] < [c])) = _
 rw [Bool.eq_iff_iff, Bool.not_eq_true', decide_eq_false_iff_not, decide_eq_true_eq, List.cons_lt_cons_iff]
 simp
theorem Hh {s : Str} (h : ¬ 1 ≤ s.length ∨ ¬ s.length ≤ 60) : KI s = false := by
 unfold KI
 rcases h with h | h
 ·rw [decide_eq_false h]
  rfl
 ·rw [decide_eq_false h, Bool.and_false]
  rfl
theorem Mc {s z : Str} {c : Nat} (h : s.cps.toList = c :: z.cps.toList) : Dh s (some 1) none = z := by
 refine Qm ?_
 have l : s.length = z.length + 1 := by rw [← str_len, h, List.length_cons, str_len]
 show ((s.cps.toList.drop (HT.sIx s.length 0 (some 1))).take (HT.sIx s.length s.length none - HT.sIx s.length 0 (some 1))) = _
 have e : HT.sIx s.length 0 (some 1) = 1 := by
  unfold HT.sIx
  dsimp only
  rw [if_neg (by decide)]
  omega
 rw [e, HT.Wz, h]
 show List.take _ z.cps.toList = _
 exact List.take_of_length_le (by rw [str_len]; omega)
theorem Oa {f st : Bool} {c : Prop} [Decidable c] {F F2 A : Prop} (hf : f = true) (hs : st = true → c) (k : A) : if (!f) = true then F else if st = true then (if (!decide c) = true then F2 else A) else A := by
 rw [hf, if_neg (by decide)]
 cases st with
 | false => rw [if_neg Bool.false_ne_true]; exact k
 | true => rw [if_pos rfl, decide_eq_true (hs rfl), if_neg (by decide)]; exact k
theorem Zf5 (a b c d e : PyData) (l : List PyData) : DL.cutD (a :: b :: c :: d :: e :: l) (some 5) none = l := by
 unfold DL.cutD
 rw [HT.Wz]
 have q : HT.sIx (a :: b :: c :: d :: e :: l).length 0 (some 5) = 5 := by
  unfold HT.sIx
  simp only [List.length_cons]
  rw [if_neg (by decide)]
  omega
 rw [q]
 show List.take _ l = l
 exact List.take_of_length_le (by simp only [List.length_cons]; omega)
theorem Bu : ∀ {l : List PyData} {n : Nat}, (∀ d ∈ l, d.canLay0 = true ∧ d.depth ≤ n) → PyData.canLayAll0 l = true ∧ PyData.depthAll l ≤ n
 | [], _, _ => by simp [PyData.canLayAll0, PyData.depthAll]
 | d :: l, n, h => by
  have h1 := h d (.head _)
  have h2 := Bu (l := l) (n := n) fun d hd => h d (.tail _ hd)
  rw [PyData.canLayAll0, PyData.depthAll, h1.1, h2.1]
  exact ⟨rfl, by have := h1.2; have := h2.2; omega⟩
theorem Y6 {l : List PyData} {n : Nat} (h : ∀ d ∈ l, d.canLay0 = true ∧ d.depth ≤ n) : (PyData.tuple l).canLay0 = true ∧ (PyData.tuple l).depth ≤ n + 1 := by
 obtain ⟨a, b⟩ := Bu h
 rw [PyData.canLay0, PyData.depth]
 exact ⟨a, by omega⟩
theorem XB {s : Str} (h : Qi s) : (PyData.str s).canLay0 = true := by
 show s.cps.all (fun c => decide (c < 0x110000)) = true
 rw [← Array.all_toList]
 exact List.all_eq_true.mpr fun c hc => decide_eq_true (by have := h.2 c hc; omega)
theorem Y0 (i : Int) (n : Nat) : (PyData.int i).canLay0 = true ∧ (PyData.int i).depth ≤ n := by simp [PyData.canLay0, PyData.depth]
theorem Cg (u v : Int) : (PyData.tuple [.int u, .int v]).canLay0 = true ∧ (PyData.tuple [.int u, .int v]).depth ≤ 1 := Y6 (n := 0) (Jm (Y0 u 0) (Y0 v 0))
theorem Zag {x : Tl} (h : YS x) : (tlD x).canLay0 = true ∧ (tlD x).depth ≤ 5 := by
 have st : ∀ {s : Str}, (PyData.str s).canLay0 = true → (PyData.str s).canLay0 = true ∧ (PyData.str s).depth ≤ 4 := fun e => ⟨e, by simp [PyData.depth]⟩
 have lit : ∀ s ∈ [Str.ofString "land", Str.ofString "spot", Str.ofString "drop", Str.ofString "free", Str.ofString ""], (PyData.str s).canLay0 = true := by decide +kernel
 cases x with
 | land t nm ou bs wb =>
  refine Y6 (n := 4) fun d hd => ?_
  simp only [List.mem_cons, List.not_mem_nil, or_false] at hd
  rcases hd with rfl | rfl | rfl | rfl | rfl | rfl
  ·exact st (lit _ (by simp))
  ·exact Y0 _ _
  ·exact st (XB h.1.2)
  ·rcases h.2.1 with rfl | n
   ·exact st (lit _ (by simp))
   ·exact st (XB n)
  ·have := Y6 (l := bs.map bD) (n := 2) fun d hd => by
    obtain ⟨b, _, rfl⟩ := List.mem_map.mp hd
    exact Y6 (n := 1) (Jm (Cg b.x b.y) (Cg b.X b.Y))
   exact ⟨this.1, by omega⟩
  ·exact Y0 _ _
 | spot t nm u v =>
  refine Y6 (n := 4) fun d hd => ?_
  simp only [List.mem_cons, List.not_mem_nil, or_false] at hd
  rcases hd with rfl | rfl | rfl | rfl
  ·exact st (lit _ (by simp))
  ·exact Y0 _ _
  ·exact st (XB h.1.2)
  ·exact ⟨(Cg u v).1, Nat.le_trans (Cg u v).2 (by decide)⟩
 | off w t nm =>
  refine Y6 (n := 4) fun d hd => ?_
  simp only [List.mem_cons, List.not_mem_nil, or_false] at hd
  rcases hd with rfl | rfl | rfl
  ·rcases h.2 with rfl | rfl
   ·exact st (lit _ (by simp))
   ·exact st (lit _ (by simp))
  ·exact Y0 _ _
  ·exact st (XB h.1.2)
theorem Fw {ts : List Tl} (h : ∀ t ∈ ts, YS t) : PyData.canLayAll0 (ts.map tlD) = true ∧ PyData.depthAll (ts.map tlD) ≤ 5 := Bu fun d hd => by
 obtain ⟨x, hx, rfl⟩ := List.mem_map.mp hd
 exact Zag (h x hx)
theorem O9 {ts : List Tl} : ((ts.map tlD).any fun e => e.eqv PyData.none) = false := by
 rw [List.any_eq_false]
 intro d hd
 obtain ⟨x, _, rfl⟩ := List.mem_map.mp hd
 cases x <;> simp [tlD, PyData.eqv]
noncomputable def DC : DSp := fun xs M Φ => on2 xs fun x y => ∃ d, (x = .dat d ∨ ∃ q ds, x = .own q ∧ M q = some (.lst ds) ∧ d = .list ds) ∧ y = .dat d ∧ (BM d d = true ∧ PyData.eqv d d = true ∧ Shw d) ∧ Φ (.dat (.bool true)) M
theorem Ll (xs : List DV) (M : Mp) (Φ : DK) : DC xs M Φ = (on2 xs fun x y => ∃ d, (x = .dat d ∨ ∃ q ds, x = .own q ∧ M q = some (.lst ds) ∧ d = .list ds) ∧ y = .dat d ∧ (BM d d = true ∧ PyData.eqv d d = true ∧ Shw d) ∧ Φ (.dat (.bool true)) M) := propext Iff.rfl
noncomputable def FV : DSp := fun xs M Φ => on3 xs fun x y z => onO x fun p => onO y fun q => onI z fun m => m = 16 ∧ Wd M q ∧ q ≠ p ∧ Pen M p ∧ ∀ (ts : List Tl) (M' : Mp) (r : Addr), ts.length ≤ 16 → (∀ t ∈ ts, YS t) → M' r = some (.lst (ts.map tlD)) → M r = none → (∀ a, a ≠ p → M a ≠ none → M' a = M a) → Pen M' p → r ≠ p → Φ (.own r) M'
theorem Me (xs : List DV) (M : Mp) (Φ : DK) : FV xs M Φ = (on3 xs fun x y z => onO x fun p => onO y fun q => onI z fun m => m = 16 ∧ Wd M q ∧ q ≠ p ∧ Pen M p ∧ ∀ (ts : List Tl) (M' : Mp) (r : Addr), ts.length ≤ 16 → (∀ t ∈ ts, YS t) → M' r = some (.lst (ts.map tlD)) → M r = none → (∀ a, a ≠ p → M a ≠ none → M' a = M a) → Pen M' p → r ≠ p → Φ (.own r) M') := propext Iff.rfl
noncomputable def Y4 : DSp := fun xs M Φ => on1 xs fun x => onP x fun u v => (Big u ∧ Big v) ∧ Φ (.dat (.str (Jy u v))) M
theorem Ux (xs : List DV) (M : Mp) (Φ : DK) : Y4 xs M Φ = (on1 xs fun x => onP x fun u v => (Big u ∧ Big v) ∧ Φ (.dat (.str (Jy u v))) M) := propext Iff.rfl
noncomputable def D0 : DSp := fun xs M Φ => on1 xs fun x => Zb4 x fun t => YS t ∧ Φ (.dat (.str (Jb t))) M
theorem Mm (xs : List DV) (M : Mp) (Φ : DK) : D0 xs M Φ = (on1 xs fun x => Zb4 x fun t => YS t ∧ Φ (.dat (.str (Jb t))) M) := propext Iff.rfl
theorem Hr (u v : Int) : Str.ofString (toString u) ++ Str.ofString "," ++ Str.ofString (toString v) = Jy u v := by
 refine Qm ?_
 unfold Jy
 rw [JN, add_list, add_list]
 rfl
theorem O5 (b : B4) : Jy b.x b.y ++ Str.ofString ".." ++ Jy b.X b.Y = Ul b := by
 refine Qm ?_
 unfold Ul
 rw [JN, add_list, add_list]
 rfl
theorem Zaf {ou : Str} (h : ou = Str.ofString "" ∨ Qi ou) {Q : PyData → Prop} (k : Q (.str (Nk ou))) : K7 [.str ou, .str (Str.ofString "-")] (if decide (ou = Str.ofString "") = true then 1 else 0) Q := by
 rcases YE h with ⟨e0, e⟩ | ⟨n, e⟩
 ·rw [e] at k
  rw [decide_eq_true e0, if_pos rfl]
  exact k
 ·rw [e] at k
  have n1 : ou ≠ Str.ofString "" := fun z => by
   have := n.1
   rw [z] at this
   exact absurd this (by decide +kernel)
  rw [decide_eq_false n1, if_neg Bool.false_ne_true]
  exact k
theorem Zdu {x : Tl} (h : YS x) : Pl 20 63000 (tlD x) := by
 obtain ⟨D, e, w, t, nm, l, rfl, ht, hn, hk⟩ := NS h
 obtain ⟨a, _, _, b, _⟩ := Bv hk
 rw [e]
 exact (Pl.tup (Pls.cons b (Pls.cons (ZaI (by omega)) (Pls.cons (pNm hn) a)))).le (by decide) (by decide)
theorem Fv {ts : List Tl} (h : Kv ts) : Shw (.list (ts.map tlD)) := by
 have o := Od.lst (Pls.all (k := 20) (n := 63000) (m := 20) (l := ts.map tlD) (by rw [List.length_map]; exact h.1) fun d hd => by
  obtain ⟨x, hx, rfl⟩ := List.mem_map.mp hd
  exact Zdu (h.2 x hx))
 exact ⟨o.s, o.m, Nat.le_trans o.dp (by decide), Nat.le_trans (JZ _ o.s) (Nat.le_trans o.z (by rw [sizeLine_eq]; decide))⟩
theorem Nq {ts : List Tl} (h : ∀ t ∈ ts, YS t) : BM (.list (ts.map tlD)) (.list (ts.map tlD)) = true ∧ PyData.eqv (.list (ts.map tlD)) (.list (ts.map tlD)) = true := by
 obtain ⟨a, b⟩ := Fw h
 have c : (PyData.list (ts.map tlD)).canLay0 = true := a
 refine ⟨?_, PySem.SeqAt.eqv_refl _ c⟩
 unfold BM
 rw [c, PyData.depth]
 simp only [Bool.and_self, Bool.true_and, Nat.min_self]
 exact Nat.ble_eq_true_of_le (by omega)
theorem B5 : Jd [] = Str.ofString "" := Qm (by decide +kernel)
theorem Ht (s : Str) (h : (PyData.str s).canLay0 = true) : BM (.str s) (.str s) = true ∧ PyData.eqv (.str s) (.str s) = true := by
 refine ⟨?_, PySem.SeqAt.eqv_refl _ h⟩
 unfold BM
 rw [h]
 simp [PyData.depth]
theorem BS {ts : List Tl} (h : Kv ts) : ∀ c ∈ (Jd ts).cps.toList, c < 128 := fun c hc => by
 apply Classical.byContradiction
 intro n
 have lit : (∀ c ∈ (Str.ofString "\n").cps.toList, c < 128) ∧ ∀ c ∈ (Str.ofString " ").cps.toList, c < 128 := by decide +kernel
 unfold Jd at hc
 refine Vs (fun m => n (lit.1 c m)) (fun p hp => ?_) hc
 obtain ⟨x, hx, rfl⟩ := List.mem_map.mp hp
 exact Vs (fun m => n (lit.2 c m)) fun q hq => ((JG (h.2 x hx)).2 q hq).2 c (by omega)
theorem HQ {ts : List Tl} (h : Kv ts) : (PyData.str (Jd ts)).canLay0 = true := by
 show (Jd ts).cps.all (fun c => decide (c < 0x110000)) = true
 rw [← Array.all_toList]
 exact List.all_eq_true.mpr fun c hc => decide_eq_true (by have := BS h c hc; omega)
theorem Nj {ts : List Tl} (h : Kv ts) : Shw (.str (Jd ts)) :=
 (ZdM (n := 80000) (fun c hc => by have := BS h c hc; omega) (text_len (by have := h.1; omega) h.2)).od.shw (by decide) (by decide)
theorem Pr {M : Mp} {p r : Addr} {ts : List Tl} {F : Mp → Prop} (hr : M r = some (.lst (ts.map tlD))) (hP : Pen M p) (hrp : r ≠ p) (hl : ts.length ≤ 16) (ht : ∀ t ∈ ts, YS t) (k : ∀ (ts' : List Tl) (M' : Mp), Kv ts' → M' r = some (.lst (ts'.map tlD)) → Pen M' p → F M') :
  if (!(ts.map tlD).isEmpty) = true then Pen M p ∧ ∀ (r1 : Int) (M1 : Mp), 0 ≤ r1 → r1 < 3 → Fr p M M1 → (if decide (r1 = 0) = true then J1 (M1 r) fun _ => J1 (M1 r) fun ds => ((0 : Int) < ds.length ∧ (ds.length : Int) < 1000000000000000000000000000000000000000000000000000000000000) ∧ Pen M1 p ∧ ∀ (r2 : Int) (M2 : Mp), 0 ≤ r2 → r2 < ds.length → Fr p M1 M2 → J1 (M2 r) fun ds => K7 ds r2 fun d => J1 (M2 r) fun ds => ds.length < 16777216 ∧ F (Z1 M2 r (.lst (ds ++ [d]))) else F M1) else F M := by
 have len := List.length_map (as := ts) tlD
 cases ts with
 | nil => exact k [] M ⟨by decide, fun t h => (nomatch h)⟩ hr hP
 | cons a l =>
  rw [if_pos (by rfl)]
  refine ⟨hP, fun r1 M1 _ _ f1 => ?_⟩
  have q1 := f1.own hr hrp
  refine Zm (fun _ => ?_) fun _ => k (a :: l) M1 ⟨by omega, ht⟩ q1 f1.1
  rw [q1, X5, X5, len]
  have pos : 0 < (a :: l).length := by rw [List.length_cons]; omega
  refine ⟨⟨by omega, by omega⟩, f1.1, fun r2 M2 h0 h1 f2 => ?_⟩
  have q2 := f2.own q1 hrp
  rw [q2, X5]
  obtain ⟨j, rfl⟩ := Int.eq_ofNat_of_zero_le h0
  have hj : j < (a :: l).length := by omega
  refine Y5 (d := tlD (a :: l)[j]) (Yh (by rw [List.getElem?_map, List.getElem?_eq_getElem hj]; rfl)) ?_
  rw [X5]
  refine ⟨by omega, ?_⟩
  refine k ((a :: l) ++ [(a :: l)[j]]) _ ⟨by rw [List.length_append, List.length_singleton]; omega, fun t m => ?_⟩ (by rw [Z7, List.map_append]; rfl) (f2.1.put (Ne.symm hrp))
  rcases List.mem_append.mp m with m | m
  ·exact ht t m
  ·rw [List.mem_singleton.mp m]
   exact ht _ (List.getElem_mem hj)
local macro_rules | `(tactic| walk_at "rk") => `(tactic| try simp (config := { maxSteps := 10000000 }) only [↓MS, ↓HJ, ↓Mv, ↓LN, ↓LR, ↓Lz, ↓Lm, ↓Mj, ↓Ew, ↓DP, ↓Pp, ↓OL, ↓Ot, ↓OF, ↓Rw, ↓Hq, ↓MQ, ↓MA, ↓Hm, ↓Ml, ↓HB, ↓MM, ↓Mx, ↓Mq, ↓Nd, ↓Mh, ↓Hy, ↓MK, ↓LH, ↓Lx, ↓H9, ↓Eh, ↓Eg, ↓EA, ↓TR, ↓ZfU, ↓Zd1, ↓ZcH, ↓ZfF, ↓LF, ↓T6, ↓Zdv, ↓Za9, ↓PB, ↓ZaF, ↓Ry, ↓Zcu, ↓Sn, ↓ZcP, ↓S5, ↓ZdJ, ↓La, ↓MP, ↓E8, ↓Tg, ↓O8, ↓ZbH, ↓Za1, ↓Pu, ↓Zbp, ↓MJ, ↓LX, ↓LS, ↓MB, ↓L7, ↓Lw, ↓Lf, ↓Ni, ↓Za0, ↓ZcU, ↓RW, ↓HY, ↓HV, ↓Rm, ↓SO, ↓CH, ↓HM, ↓CL, ↓LC, ↓Mz, ↓Mg, ↓Za8, ↓TX, ↓R6, ↓Ri, ↓Hc, ↓Ov, ↓Zbw, ↓RZ, ↓ZaH, ↓Nc, ↓P0, ↓OJ, ↓SN, ↓PZ, ↓Zbi, ↓XH, ↓De, ↓GR, ↓LO, ↓Lg, ↓RA, ↓OZ, ↓Th, ↓FX, ↓Oh, ↓RH, ↓HI, ↓HA, ↓O0, ↓Ly, ↓EC, ↓Fg, ↓Ng, ↓Ms, ↓EI, ↓Zc5, ↓TH, ↓S4, ↓PD, ↓OS, ↓Lq, ↓MC, ↓Po, ↓S6, ↓E5, ↓Lb, ↓Mb, ↓ZaG, ↓DB, ↓RV, ↓PQ, ↓Sg, ↓FK, ↓Ta, ↓Lh, ↓HS, ↓HK, ↓HZ, ↓Zbo, ↓L5, ↓Zar, ↓DR, ↓TF, ↓L3, ↓Fm, ↓RS, ↓LD, ↓ON, ↓Pj, ↓O3, ↓LU, ↓HR, ↓Ru, ↓ZaJ, ↓Mi, ↓Za5, ↓LV, ↓RD, ↓DX, ↓CO, Hd, Fn, Hx, Hn, LB, Dc, Xg, DF, Zdp, Nb, S9, NH, Oe, NC, SF, isNone_none, GI, C8, C0, G3, UL, Bd,
 Option.bind_some, Option.bind_none, Option.join_some, Option.join_none, Option.getD_some, Option.map_some, Option.map_none, List.getElem?_cons_zero, List.getElem?_cons_succ, List.set_cons_zero, List.set_cons_succ, List.map_cons, List.map_nil, List.length_cons, List.length_nil, List.replicate, List.cons_append, List.nil_append, List.any_cons, List.any_nil,
 Z7, FJ, ↓reduceIte, Bool.not_true, Bool.not_false, Bool.or_false, Bool.or_true, Bool.true_or, Bool.false_or, Bool.and_true, Bool.and_false, Bool.true_and, Bool.false_and, Bool.bne_true, Bool.bne_false, Bool.false_eq_true, eq_self, true_and, and_true, Zay, Ss, TZ, exists_eq_left', exists_eq_left, Option.some.injEq, Nat.reduceAdd, Nat.reduceSub, Nat.zero_add, Nat.reduceLT, Nat.reduceLeDiff, Int.reduceToNat, Int.reducePow, Int.reduceSub, Int.reduceMul, Int.reduceAdd, Int.reduceNeg,
 Int.reduceLT, Int.reduceLE, Int.reduceEq, Int.zero_add, Int.cast_ofNat_Int, decide_true, decide_false, sizeLine_eq, Rj, Li, Za2, Zbx, ZdB, Zcw, ZcR, Zdx, Zcz, ZdQ, GN, Ba, C9, CM, GV, W5, Bq, Ud, U9, BD, GH, Ga, Wn, Uu, Wo, WQ, W9, UM, Ww, KA, Wi, US, Ug, G7, Gk, UX, WS, W2, Bz, Gy, CW, C7, Bo, Uz, GW, U2, Uq, GK, G6, UT, WI, Uy, ↓Cc, ↓HU, ↓Mf, ↓L9, PV, Py, ↓Zdb, ↓TM, ↓Zbu, ↓T1, ↓Zbr, ↓Fs, ↓Zdy, ↓Rg, ↓Zdm, ↓ZaT, ↓HD, ↓OM, ↓RM, ↓G4, ↓Eo, ↓SU, ↓RK, ↓L8, ↓LL, ↓RG, ↓Zbe, ↓Ds, ↓MT, ↓PF, ↓MO, ↓FF, ↓RJ, ↓P8, ↓Mu, ↓PN, ↓Pn, ↓Fe, ↓Lk, ↓FT, ↓LY, Pw, ↓Ho, ↓EW, ↓DZ, ↓WW, ↓G5, ↓FN, ↓Mn, ↓Lo, ↓G8, ↓HF, ↓D3, ↓Lu, ↓Tz, ↓CA, ↓ME, ↓Rx, ↓PY, ↓ER, ↓Oz, ↓ML, ↓Hu, ↓L1, ↓LQ, ↓PH, ↓UZ, ↓Gm, ↓CV, ↓GL, ↓MN, ↓CT, ↓Ua, ↓BC, ↓WA, ↓Wh, ↓WG, ↓GF, ↓EH, ↓Ll, ↓Me, ↓Ux, ↓Mm])
theorem Yf (T : Tx K mg) : ZE P w K mg base CX0 1 T.JW T.JR ["thing"] (lift K spW) := by
 refine okD T.ZK.F Gi (fun xs M Φ h => by obtain ⟨_, rfl, _⟩ := Zn h; rfl) fun cdv A outer s H E hr => ⟨_, (Zi (Zq (Qh (Zj (Xn (OP _)) rfl T.Z5 ZU (Za (Zb 0) (Za (UB rfl T.P4 Dz) Zd))) (QZ (Zba (Zj (Xn (Ld _)) rfl T.Z5 ZU (Za (Zb 0) (Za (UB rfl T.S1 Ox) Zd)))))))), fun xs M Φ h => ?_⟩
 replace h := Zn h
 obtain ⟨x1, rfl, h⟩ := h
 replace h := Z0 h
 obtain ⟨d, rfl, h⟩ := h
 walk_at "rk"
 cases d <;> simpa [ZG, tyN, ZR] using h
theorem XS (T : Tx K mg) : ZE P w K mg base CX0 2 T.VG T.VO ["thing"] (lift K ZbZ) := by
 have G_is_whole : ZE P w K mg base CX0 1 T.JW T.JR ["thing"] (lift K spW) := Yf T
 refine okD T.Z8.F GO (fun xs M Φ h => by obtain ⟨_, rfl, _⟩ := Zn h; rfl) fun cdv A outer s H E hr => ⟨_, (Zi (Zq (Qh (Zg G_is_whole (hr.mono (by first | decide | omega)) rfl T.ZK.m T.ZK.F.kp T.ZK.b Zp (Za (Zb 0) Zd)) (QZ (YL Y3 Y3 (NN (VL rfl T.NB)) (Zb 0) (VL rfl T.NB)))))), fun xs M Φ h => ?_⟩
 replace h := Zn h
 obtain ⟨x1, rfl, h⟩ := h
 replace h := Z0 h
 obtain ⟨d, rfl, h⟩ := h
 walk_at "rk"
 cases d with
 | int i =>
  walk_at "rk"
  simp only [ZR]
  walk_at "rk"
  refine Zm (fun h1 => ?_) fun h1 => ?_
  ·simpa [ZC, h1] using h
  ·simpa [ZC, h1] using h
 | _ => simpa [ZR, ZC] using h
theorem KG (T : Tx K mg) : ZE P w K mg base CX0 2 T.Va T.Vb ["thing"] (lift K Zdf) := by
 have G_is_whole : ZE P w K mg base CX0 1 T.JW T.JR ["thing"] (lift K spW) := Yf T
 refine okD T.Je.F Ky (fun xs M Φ h => by obtain ⟨_, rfl, _⟩ := Zn h; rfl) fun cdv A outer s H E hr => ⟨_, (Zi (Zq (Qh (Zj (Xn (kit_tuple _)) rfl T.Z5 ZU (Za (Zb 0) (Za (UB rfl T.Jt QI) Zd))) (Qh (JE (VT hr) (Zj Qu rfl T.Ju Qc (Za (Zb 0) Zd)) Zc) (Qh (Zg G_is_whole (hr.mono (by first | decide | omega)) rfl T.ZK.m T.ZK.F.kp T.ZK.b Zp (Za (Zl (Zb 0) Zc) Zd)) (QZ (Zg G_is_whole (hr.mono (by first | decide | omega)) rfl T.ZK.m T.ZK.F.kp T.ZK.b Zp (Za (Zl (Zb 0) Zc) Zd)))))))), fun xs M Φ h => ?_⟩
 replace h := Zn h
 obtain ⟨x1, rfl, h⟩ := h
 replace h := Z0 h
 obtain ⟨d, rfl, h⟩ := h
 cases d with
 | tuple ds =>
  walk_at "rk"
  rw [Zek]
  refine Zm (fun h1 => ?_) fun h1 => ?_
  ·obtain ⟨a, b, rfl⟩ := UN h1
   walk_at "rk"
   cases q : ZR a with
   | true =>
    walk_at "rk"
    simpa [VY, q] using h
   | false =>
    walk_at "rk"
    simpa [VY, q] using h
  ·rw [(UE h1).1] at h
   exact h
 | _ =>
  walk_at "rk"
  exact h
theorem KN (T : Tx K mg) : ZE P w K mg base CX0 3 T.YH T.Yt ["thing"] (lift K ZbW) := by
 have G_is_any_spot : ZE P w K mg base CX0 2 T.Va T.Vb ["thing"] (lift K Zdf) := KG T
 have G_is_short : ZE P w K mg base CX0 2 T.VG T.VO ["thing"] (lift K ZbZ) := XS T
 refine okD T.Qj.F CJ (fun xs M Φ h => by obtain ⟨_, rfl, _⟩ := Zn h; rfl) fun cdv A outer s H E hr => ⟨_, (Zi (Zq (Qh (Zg G_is_any_spot (hr.mono (by first | decide | omega)) rfl T.Je.m T.Je.F.kp T.Je.b Zp (Za (Zb 0) Zd)) (Qh (Zg G_is_short (hr.mono (by first | decide | omega)) rfl T.Z8.m T.Z8.F.kp T.Z8.b Zp (Za (Zl (Zb 0) Zc) Zd)) (QZ (Zg G_is_short (hr.mono (by first | decide | omega)) rfl T.Z8.m T.Z8.F.kp T.Z8.b Zp (Za (Zl (Zb 0) Zc) Zd))))))), fun xs M Φ h => ?_⟩
 replace h := Zn h
 obtain ⟨x1, rfl, h⟩ := h
 replace h := Z0 h
 obtain ⟨d, rfl, h⟩ := h
 walk_at "rk"
 cases q : VY d with
 | false =>
  walk_at "rk"
  rw [BI q] at h
  exact h
 | true =>
  obtain ⟨x, y, rfl⟩ := Nt q
  walk_at "rk"
  replace h : Φ (.dat (.bool (ZC (.int x) && ZC (.int y)))) M := h
  cases q1 : ZC (.int x) with
  | false =>
   rw [q1] at h
   walk_at "rk"
   exact h
  | true =>
   rw [q1] at h
   walk_at "rk"
   exact h
theorem UI (T : Tx K mg) : ZE P w K mg base CX0 1 T.V3 T.Yk ["box"] (lift K Oy) := by
 refine okD T.Ve.F Ue (fun xs M Φ h => by obtain ⟨_, rfl, _⟩ := Zn h; rfl) fun cdv A outer s H E hr => ⟨_, (Zi (Zq (Qh (JE Y3 (Zl (Zl (Zb 0) Zc) Zc) (Zl (Zl (Zb 0) Zc) Zc)) (QZ (JE Y3 (Zl (Zl (Zb 0) Zc) Zc) (Zl (Zl (Zb 0) Zc) Zc)))))), fun xs M Φ h => ?_⟩
 replace h := Zn h
 obtain ⟨x1, rfl, h⟩ := h
 replace h := KW h
 obtain ⟨b, rfl, h⟩ := h
 walk_at "rk"
 refine Zm (fun h1 => ?_) (fun h1 => ?_)
 ·unfold okB at h
  simpa [h1] using h
 ·unfold okB at h
  simpa [h1] using h
theorem E2 (T : Tx K mg) : ZE P w K mg base CX0 4 T.WU T.Wj ["thing"] (lift K Zd0) := by
 have G_is_spot : ZE P w K mg base CX0 3 T.YH T.Yt ["thing"] (lift K ZbW) := KN T
 have G_has_spots : ZE P w K mg base CX0 1 T.V3 T.Yk ["box"] (lift K Oy) := UI T
 refine okD T.XE.F Dq (fun xs M Φ h => by obtain ⟨_, rfl, _⟩ := Zn h; rfl) fun cdv A outer s H E hr => ⟨_, (Zf (Ql (DW.dt (Br (Vm (JS (Zj (Xn (kit_tuple _)) rfl T.Z5 ZU (Za (Zb 0) (Za (UB rfl T.Jt QI) Zd))))) (X3 (ZJ (Za3 hr) (Zj Qu rfl T.Ju Qc (Za (Zb 0) Zd)) Zc)))) (Zi (Zq Gj)) Zz)
 (Zi (Zq (Qh (Zg G_is_spot (hr.mono (by first | decide | omega)) rfl T.Qj.m T.Qj.F.kp T.Qj.b Zp (Za (Zl (Zb 0) Zc) Zd)) (Qh (Zg G_is_spot (hr.mono (by first | decide | omega)) rfl T.Qj.m T.Qj.F.kp T.Qj.b Zp (Za (Zl (Zb 0) Zc) Zd)) (QZ (Zg G_has_spots (hr.mono (by first | decide | omega)) rfl T.Ve.m T.Ve.F.kp T.Ve.b Zp (Za (Zb 0) Zd)))))))), fun xs M Φ h => ?_⟩
 replace h := Zn h
 obtain ⟨x1, rfl, h⟩ := h
 replace h := Z0 h
 obtain ⟨d, rfl, h⟩ := h
 cases d with
 | tuple ds =>
  walk_at "hd"
  walk_at "rk"
  rw [Zek]
  by_cases h1 : ds.length = 2
  ·obtain ⟨a, b, rfl⟩ := UN h1
   replace h : Φ (.dat (.bool (QE a && (QE b && okB (toB (.tuple [a, b])))))) M := h
   subst_vars
   walk_at "rk"
   cases q : QE a with
   | false =>
    rw [q] at h
    walk_at "rk"
    exact h
   | true =>
    rw [q] at h
    walk_at "rk"
    cases q2 : QE b with
    | false =>
     rw [q2] at h
     walk_at "rk"
     exact h
    | true =>
     rw [q2] at h
     obtain ⟨x, y, rfl, _⟩ := WE q
     obtain ⟨x', y', rfl, _⟩ := WE q2
     walk_at "rk"
     exact h
  ·rw [decide_eq_false h1]
   rw [(UE h1).2.2] at h
   walk_at "rk"
   exact h
 | _ =>
  walk_at "rk"
  exact h
theorem ZbN (T : Tx K mg) : ZE P w K mg base CX0 1 T.R4 T.PL ["one", "other", "way"] (lift K RB) := by
 refine okD T.Gn.F Tp (fun xs M Φ h => by obtain ⟨_, _, _, rfl, _⟩ := Yv h; rfl) fun cdv A outer s H E hr => ⟨_, (Zi (Zq (Zj (PJ rfl) rfl T.Zbl N1 (Za Zc (Za (Zo JH (Zl (Zl (Zb 1) Zc) (Zb 2)) (Zl (Zl (Zb 0) Zc) (Zb 2))) (Za (Zo JH (Zl (Zl (Zb 0) Zc) (Zb 2)) (Zl (Zl (Zb 1) Zc) (Zb 2))) Zd)))))), fun xs M Φ h => ?_⟩
 replace h := Yv h
 obtain ⟨x1, x2, x3, rfl, h⟩ := h
 replace h := KW h
 obtain ⟨a, rfl, h⟩ := h
 replace h := KW h
 obtain ⟨b, rfl, h⟩ := h
 replace h := ZN h
 obtain ⟨i, rfl, hi, h⟩ := h
 rcases hi with rfl | rfl
 ·walk_at "rk"
  exact h
 ·walk_at "rk"
  exact h
theorem Xu (T : Tx K mg) : ZE P w K mg base CX0 2 T.Jk T.Jx ["one", "other"] (lift K Ks) := by
 have G_gap : ZE P w K mg base CX0 1 T.R4 T.PL ["one", "other", "way"] (lift K RB) := ZbN T
 refine okD T.QD.F Xs (fun xs M Φ h => by obtain ⟨_, _, rfl, _⟩ := QJ h; rfl) fun cdv A outer s H E hr => ⟨_, (Zi (Zq (Zj (Ol rfl) rfl T.Zbl N1 (Za (Zg G_gap (hr.mono (by first | decide | omega)) rfl T.Gn.m T.Gn.F.kp T.Gn.b Zp (Za (Zb 0) (Za (Zb 1) (Za Zc Zd)))) (Za (Zg G_gap (hr.mono (by first | decide | omega)) rfl T.Gn.m T.Gn.F.kp T.Gn.b Zp (Za (Zb 0) (Za (Zb 1) (Za Zc Zd)))) Zd))))), fun xs M Φ h => ?_⟩
 replace h := QJ h
 obtain ⟨x1, x2, rfl, h⟩ := h
 replace h := KW h
 obtain ⟨a, rfl, h⟩ := h
 replace h := KW h
 obtain ⟨b, rfl, h⟩ := h
 walk_at "rk"
 exact ⟨.inl trivial, .inr trivial, h⟩
theorem GA (T : Tx K mg) : ZE P w K mg base CX0 3 T.YX T.YY ["boxes"] (lift K Gv) := by
 have G_steps_between : ZE P w K mg base CX0 2 T.Jk T.Jx ["one", "other"] (lift K Ks) := Xu T
 refine okD T.VN.F Bb (fun xs M Φ h => by obtain ⟨_, rfl, _⟩ := Zn h; rfl) fun cdv A outer s H E hr => ⟨_, (Zi (Zq (Zj (Cd rfl) rfl T.Lc Cj (Za (Qf false (Zw (sc := Ze QL) (XN := ["boxes"]) (N := ["k", "boxes"]) (ix := [none, some 0]) rfl rfl (by decide +kernel)) (FQ rfl T.Q5 (Za Zc (Za (Zj Qu rfl T.Ju Qc (Za (Zb 0) Zd)) Zd))) (fun C ex s H => (Zv 0 (show List.Nodup (["k", "boxes"] : List Str) by decide +kernel))) (fun C ex s H => ZS) (fun C ex s H => (JE Y3 (Zg G_steps_between (hr.mono (by first | decide | omega)) rfl T.QD.m T.QD.F.kp T.QD.b Zp (Za (Zl (Zb 1) (Zo JH (Zb 0) Zc)) (Za (Zl (Zb 1) (Zb 0)) Zd))) Zc)) rfl) Zd)))), fun xs M Φ h => ?_⟩
 replace h := Zn h
 obtain ⟨x1, rfl, h⟩ := h
 replace h := OU h
 obtain ⟨bs, rfl, hl, h⟩ := h
 walk_at "rk"
 rw [List.length_map]
 refine ⟨⟨⟨by decide, by decide⟩, ⟨by omega, by omega⟩⟩, by rw [ZT]; omega, fun i acc M' => acc = ((List.range i).map (stB bs)).map PyData.bool ∧ M' = M, ⟨rfl, rfl⟩, ?_, ?_⟩
 ·rintro i d acc M' hd ⟨rfl, rfl⟩
  have hi : i < ((bs.length : Int) - 1).toNat := by have := (List.getElem?_eq_some_iff.mp hd).1; rw [ZT] at this; exact this
  rw [YK hi] at hd
  cases hd
  walk_at "rk"
  have hi' : i + 1 < bs.length := by omega
  have e1 : L2.atI (bs.map bD) (1 + (i : Int) - 1) = some (bD bs[i]) := by
   rw [show 1 + (i : Int) - 1 = (i : Int) by omega]
   exact Yh (by rw [List.getElem?_map, List.getElem?_eq_getElem (by omega)]; rfl)
  have e2 : L2.atI (bs.map bD) (1 + (i : Int)) = some (bD bs[i + 1]) := by
   rw [show 1 + (i : Int) = ((i + 1 : Nat) : Int) by omega]
   exact Yh (by rw [List.getElem?_map, List.getElem?_eq_getElem (by omega)]; rfl)
  refine Y5 e1 (Y5 e2 ?_)
  walk_at "rk"
  rw [List.range_succ, List.map_append, List.map_append]
  unfold stB
  simp [List.getElem?_eq_getElem, hi', show i < bs.length by omega]
 ·rintro acc M' ⟨rfl, rfl⟩
  refine ⟨_, rfl, ?_⟩
  rw [ZT, List.all_map, show ((bs.length : Int) - 1).toNat = bs.length - 1 by omega]
  rw [Dy] at h
  exact h
theorem Gu (T : Tx K mg) : ZE P w K mg base CX0 5 T.YR T.YT ["thing"] (lift K Bk) := by
 have G_is_chain : ZE P w K mg base CX0 3 T.YX T.YY ["boxes"] (lift K Gv) := GA T
 have G_is_box : ZE P w K mg base CX0 4 T.WU T.Wj ["thing"] (lift K Zd0) := E2 T
 refine okD T.VE.F Gf (fun xs M Φ h => by obtain ⟨_, rfl, _⟩ := Zn h; rfl) fun cdv A outer s H E hr => ⟨_, (Zf (Ql (DW.dt (Br (Vm (JS (Zj (Xn (kit_tuple _)) rfl T.Z5 ZU (Za (Zb 0) (Za (UB rfl T.Jt QI) Zd))))) (X3 (Vm (Cr Y3 Y3 Zc (Zj Qu rfl T.Ju Qc (Za (Zb 0) Zd)) (VL rfl T.UA)))))) (Zi (Zq Gj)) Zz)
 (Zi (Zq (Qh (Zj (Cd rfl) rfl T.Lc Cj (Za (Qf false (Zw (sc := Ze QK) (XN := ["thing"]) (N := ["box"]) (ix := [none]) rfl rfl (by decide +kernel)) (U5 (Zb 0)) (fun C ex s H => (Zv 0 (show List.Nodup (["box"] : List Str) by decide +kernel))) (fun C ex s H => ZS) (fun C ex s H => (Zg G_is_box (hr.mono (by first | decide | omega)) rfl T.XE.m T.XE.F.kp T.XE.b Zp (Za (Zb 0) Zd))) rfl) Zd)) (QZ (Zg G_is_chain (hr.mono (by first | decide | omega)) rfl T.VN.m T.VN.F.kp T.VN.b Zp (Za (Zb 0) Zd))))))), fun xs M Φ h => ?_⟩
 replace h := Zn h
 obtain ⟨x1, rfl, h⟩ := h
 replace h := Z0 h
 obtain ⟨d, rfl, h⟩ := h
 cases d with
 | tuple ds =>
  walk_at "hd"
  walk_at "rk"
  refine Zm (fun h1 => Uk (fun h2 => ?_) fun h2 => ?_) fun h1 => ?_
  ·rw [Gb (.inr h2)] at h
   exact h
  ·have e : Jc (.tuple ds) = (ds.all Vl && chB (ds.map toB)) := by
    show ((decide (1 ≤ ds.length) && decide (ds.length ≤ 6)) && _) = _
    rw [decide_eq_true (show 1 ≤ ds.length by omega), decide_eq_true (show ds.length ≤ 6 by omega)]
    rfl
   rw [e] at h
   subst_vars
   walk_at "rk"
   refine ⟨by omega, fun i acc M' => acc = ((ds.take i).map Vl).map PyData.bool ∧ M' = M, ⟨rfl, rfl⟩, ?_, ?_⟩
   ·rintro i d acc M' hd ⟨rfl, rfl⟩
    walk_at "rk"
    rw [← take_snoc _ hd, List.map_append]
    rfl
   ·rintro acc M' ⟨rfl, rfl⟩
    refine ⟨_, rfl, ?_⟩
    rw [List.take_length, List.all_map]
    show if ds.all Vl = true then _ else _
    cases q : ds.all Vl with
    | false =>
     rw [q] at h
     walk_at "rk"
     exact h
    | true =>
     rw [q] at h
     obtain ⟨bs, rfl⟩ := Cw q
     rw [XQ] at h
     walk_at "rk"
     rw [List.length_map] at h2
     exact ⟨by omega, h⟩
  ·rw [Gb (.inl h1)] at h
   exact h
 | _ =>
  walk_at "rk"
  exact h
theorem CZ (T : Tx K mg) : ZE P w K mg base CX0 2 T.Ke T.Kc ["thing"] (lift K spT) := by
 have G_is_whole : ZE P w K mg base CX0 1 T.JW T.JR ["thing"] (lift K spW) := Yf T
 refine okD T.Yy.F CB (fun xs M Φ h => by obtain ⟨_, rfl, _⟩ := Zn h; rfl) fun cdv A outer s H E hr => ⟨_, (Zi (Zq (Qh (Zg G_is_whole (hr.mono (by first | decide | omega)) rfl T.ZK.m T.ZK.F.kp T.ZK.b Zp (Za (Zb 0) Zd)) (QZ (YL Y3 Y3 Zc (Zb 0) (VL rfl T.Gx)))))), fun xs M Φ h => ?_⟩
 replace h := Zn h
 obtain ⟨x1, rfl, h⟩ := h
 replace h := Z0 h
 obtain ⟨d, rfl, h⟩ := h
 walk_at "rk"
 cases d with
 | int i =>
  walk_at "rk"
  simp only [ZR]
  walk_at "rk"
  refine Zm (fun h1 => ?_) fun h1 => ?_
  ·simpa [JM, h1] using h
  ·simpa [JM, h1] using h
 | _ => simpa [ZR, JM] using h
theorem K4 (T : Tx K mg) : ZE P w K mg base CX0 1 T.YA T.YM ["thing"] (lift K spN) := by
 refine okD T.Jo.F C5 (fun xs M Φ h => by obtain ⟨_, rfl, _⟩ := Zn h; rfl) fun cdv A outer s H E hr => ⟨_, (Zf (Ql (DW.dt (Br (Vm (JS (Zj (Xn (Ff _)) rfl T.Z5 ZU (Za (Zb 0) (Za (UB rfl T.Ka Vo) Zd))))) (X3 (Vm (Cr Y3 Y3 Zc (Zj GP rfl T.Ju Qc (Za (Zb 0) Zd)) (VL rfl T.Kx)))))) (Zi (Zq Gj)) Zz)
 (Zi (Zq (Zj (Cd rfl) rfl T.Lc Cj (Za (Qf false (Zw (sc := Ze Jq) (XN := ["thing"]) (N := ["sign"]) (ix := [none]) rfl rfl (by decide +kernel)) (Nl (Zb 0)) (fun C ex s H => (Zv 0 (show List.Nodup (["sign"] : List Str) by decide +kernel))) (fun C ex s H => ZS) (fun C ex s H => (YL B6 B6 Zk (Zb 0) Zk)) rfl) Zd))))), fun xs M Φ h => ?_⟩
 replace h := Zn h
 obtain ⟨x1, rfl, h⟩ := h
 replace h := Z0 h
 obtain ⟨d, rfl, hk, h⟩ := h
 cases d with
 | str s =>
  have hl : s.length ≤ 1000 := by simpa [Kt] using hk
  walk_at "hd"
  walk_at "rk"
  refine ⟨by omega, Zm (fun h1 => Uk (fun h2 => ?_) fun h2 => ?_) fun h1 => ?_⟩
  ·rw [UG (.inr h2)] at h
   exact h
  ·have e : Z9 (.str s) = s.cps.toList.all L6 := by
    show ((decide (1 ≤ s.length) && decide (s.length ≤ 8)) && s.cps.toList.all L6) = _
    rw [decide_eq_true (show 1 ≤ s.length by omega), decide_eq_true (show s.length ≤ 8 by omega)]
    rfl
   rw [e] at h
   subst_vars
   walk_at "rk"
   refine ⟨by rw [List.length_map, str_len]; omega, fun i acc M' => acc = ((s.cps.toList.take i).map L6).map PyData.bool ∧ M' = M, ⟨rfl, rfl⟩, ?_, ?_⟩
   ·rintro i d acc M' hd ⟨rfl, rfl⟩
    obtain ⟨c, ec, rfl⟩ := QT hd
    unfold Hj
    walk_at "rk"
    rw [Zdk, ZcF]
    refine Zm (fun h3 => ?_) fun h3 => ?_
    ·rw [← take_snoc _ ec, List.map_append]
     simp [L6, h3]
    ·rw [← take_snoc _ ec, List.map_append]
     simp [L6, h3]
   ·rintro acc M' ⟨rfl, rfl⟩
    refine ⟨_, rfl, ?_⟩
    rw [List.length_map, List.take_length, List.all_map]
    exact h
  ·rw [UG (.inl h1)] at h
   exact h
 | _ =>
  walk_at "rk"
  simpa [Z9] using h
theorem Yd (T : Tx K mg) : ZE P w K mg base CX0 2 T.Qz T.QA ["thing"] (lift K ZcJ) := by
 have G_is_name : ZE P w K mg base CX0 1 T.YA T.YM ["thing"] (lift K spN) := K4 T
 refine okD T.Qa.F V9 (fun xs M Φ h => by obtain ⟨_, rfl, _⟩ := Zn h; rfl) fun cdv A outer s H E hr => ⟨_, (Zi (Zq (Zdd (JE (VW hr) (Zb 0) Zk) (QZ (Zg G_is_name (hr.mono (by first | decide | omega)) rfl T.Jo.m T.Jo.F.kp T.Jo.b Zp (Za (Zb 0) Zd)))))), fun xs M Φ h => ?_⟩
 replace h := Zn h
 obtain ⟨x1, rfl, h⟩ := h
 replace h := Z0 h
 obtain ⟨d, rfl, hk, h⟩ := h
 walk_at "rk"
 cases q : isS d (Str.ofString "") with
 | true =>
  rw [q] at h
  walk_at "rk"
  exact h
 | false =>
  rw [q] at h
  walk_at "rk"
  exact ⟨hk, h⟩
theorem UR (T : Tx K mg) : ZE P w K mg base CX0 3 T.V6 T.Yp ["thing"] (lift K OC) := by
 have G_is_short : ZE P w K mg base CX0 2 T.VG T.VO ["thing"] (lift K ZbZ) := XS T
 refine okD T.J5.F UY (fun xs M Φ h => by obtain ⟨_, rfl, _⟩ := Zn h; rfl) fun cdv A outer s H E hr => ⟨_, (Zi (Zq (Qh (Zg G_is_short (hr.mono (by first | decide | omega)) rfl T.Z8.m T.Z8.F.kp T.Z8.b Zp (Za (Zb 0) Zd)) (QZ (JE SK (Zb 0) Zc))))), fun xs M Φ h => ?_⟩
 replace h := Zn h
 obtain ⟨x1, rfl, h⟩ := h
 replace h := Z0 h
 obtain ⟨d, rfl, h⟩ := h
 walk_at "rk"
 cases d with
 | int i =>
  replace h : Φ (.dat (.bool (decide (0 ≤ i) && decide (i ≤ 999999999999)))) M := h
  walk_at "rk"
  show if (decide (-999999999999 ≤ i) && decide (i ≤ 999999999999)) = true then _ else _
  by_cases h1 : i ≤ 999999999999
  ·by_cases h2 : 0 ≤ i
   ·rw [decide_eq_true h1, decide_eq_true h2] at h
    rw [decide_eq_true h1, decide_eq_true (show -999999999999 ≤ i by omega)]
    walk_at "rk"
    rw [decide_eq_true h2]
    exact h
   ·rw [decide_eq_false h2] at h
    rw [decide_eq_true h1, Bool.and_true]
    refine Zm (fun h3 => ?_) fun h3 => ?_
    ·walk_at "rk"
     rw [decide_eq_false h2]
     exact h
    ·exact h
  ·rw [decide_eq_false h1, Bool.and_false] at h
   rw [decide_eq_false h1, Bool.and_false]
   exact h
 | _ =>
  walk_at "rk"
  exact h
theorem WX (T : Tx K mg) : ZE P w K mg base CX0 6 T.Vr T.Vq ["thing"] (lift K EU) := by
 have G_is_time : ZE P w K mg base CX0 2 T.Ke T.Kc ["thing"] (lift K spT) := CZ T
 have G_is_name : ZE P w K mg base CX0 1 T.YA T.YM ["thing"] (lift K spN) := K4 T
 have G_is_name_or_empty : ZE P w K mg base CX0 2 T.Qz T.QA ["thing"] (lift K ZcJ) := Yd T
 have G_is_shape : ZE P w K mg base CX0 5 T.YR T.YT ["thing"] (lift K Bk) := Gu T
 have G_is_wobble : ZE P w K mg base CX0 3 T.V6 T.Yp ["thing"] (lift K OC) := UR T
 have G_is_spot : ZE P w K mg base CX0 3 T.YH T.Yt ["thing"] (lift K ZbW) := KN T
 refine okD T.JB.F WT (fun xs M Φ h => by obtain ⟨_, rfl, _⟩ := Zn h; rfl) fun cdv A outer s H E hr => ⟨_, (Zf (Ql (DW.dt (Br (Vm (JS (Zj (Xn (kit_tuple _)) rfl T.Z5 ZU (Za (Zb 0) (Za (UB rfl T.Jt QI) Zd))))) (X3 (ZJ HW (Zj Qu rfl T.Ju Qc (Za (Zb 0) Zd)) Zc)))) (Zi (Zq Gj)) Zz)
 (Zf (Ql (DW.dt (Br (Vm (JS (Zg G_is_time (hr.mono (by first | decide | omega)) rfl T.Yy.m T.Yy.F.kp T.Yy.b Zp (Za (Zl (Zb 0) Zc) Zd)))) (X3 (Vm (JS (Zg G_is_name (hr.mono (by first | decide | omega)) rfl T.Jo.m T.Jo.F.kp T.Jo.b Zp (Za (Zl (Zb 0) Zc) Zd))))))) (Zi (Zq Gj)) Zz)
 (Zf (Ql (ZJ (VW hr) (Zl (Zb 0) Zc) Zk) (Zi (Zq (Qh (JE (VT hr) (Zj Qu rfl T.Ju Qc (Za (Zb 0) Zd)) Zc) (Qh (Zg G_is_name_or_empty (hr.mono (by first | decide | omega)) rfl T.Qa.m T.Qa.F.kp T.Qa.b Zp (Za (Zl (Zb 0) Zc) Zd)) (Qh (Zg G_is_shape (hr.mono (by first | decide | omega)) rfl T.VE.m T.VE.F.kp T.VE.b Zp (Za (Zl (Zb 0) Zc) Zd)) (QZ (Zg G_is_wobble (hr.mono (by first | decide | omega)) rfl T.J5.m T.J5.F.kp T.J5.b Zp (Za (Zl (Zb 0) Zc) Zd)))))))) Zz)
 (Zf (Ql (ZJ (VW hr) (Zl (Zb 0) Zc) Zk) (Zi (Zq (Qh (JE (VT hr) (Zj Qu rfl T.Ju Qc (Za (Zb 0) Zd)) Zc) (QZ (Zg G_is_spot (hr.mono (by first | decide | omega)) rfl T.Qj.m T.Qj.F.kp T.Qj.b Zp (Za (Zl (Zb 0) Zc) Zd)))))) Zz)
 (Zi (Zq (Qh (JE (VT hr) (Zj Qu rfl T.Ju Qc (Za (Zb 0) Zd)) Zc) (QZ (JE (NZ hr) (Zl (Zb 0) Zc) (Qw (Za Zk (Za Zk Zd)))))))))))), fun xs M Φ h => ?_⟩
 replace h := Zn h
 obtain ⟨x1, rfl, h⟩ := h
 replace h := Z0 h
 obtain ⟨d, rfl, hk, h⟩ := h
 cases d with
 | tuple ds =>
  walk_at "hd"
  walk_at "rk"
  refine Zm (fun h1 => ?_) fun h1 => ?_
  ·rw [EL (by omega)] at h
   exact h
  ·obtain ⟨k, t, n, l, rfl⟩ := LJ (ds := ds) (by omega)
   replace hk : (Kt k && (Kt t && (Kt n && l.all Kt))) = true := hk
   simp only [Bool.and_eq_true] at hk
   obtain ⟨_, _, hn, hl⟩ := hk
   replace h : Φ (.dat (.bool (JM t && (Z9 n && V7 k l)))) M := h
   walk_at "hd"
   walk_at "rk"
   cases q1 : JM t with
   | false =>
    rw [q1] at h
    walk_at "rk"
    exact h
   | true =>
    rw [q1] at h
    walk_at "rk"
    refine ⟨hn, ?_⟩
    cases q2 : Z9 n with
    | false =>
     rw [q2] at h
     walk_at "rk"
     exact h
    | true =>
     rw [q2] at h
     unfold V7 at h
     walk_at "rk"
     walk_at "hd"
     walk_at "rk"
     cases q3 : isS k (Str.ofString "land") with
     | true =>
      rw [q3] at h
      walk_at "rk"
      refine Zm (fun h2 => ?_) fun h2 => ?_
      ·obtain ⟨o, v, z, rfl⟩ := LW (ds := l) (by omega)
       replace h : Φ (.dat (.bool ((isS o (Str.ofString "") || Z9 o) && (Jc v && B3 z)))) M := h
       replace hl : (Kt o && _) = true := hl
       walk_at "rk"
       refine ⟨(Bool.and_eq_true_iff.mp hl).1, ?_⟩
       cases q4 : (isS o (Str.ofString "") || Z9 o) with
       | false =>
        rw [q4] at h
        exact h
       | true =>
        rw [q4] at h
        walk_at "rk"
        cases q5 : Jc v with
        | false =>
         rw [q5] at h
         exact h
        | true =>
         rw [q5] at h
         exact h
      ·rw [if_pos rfl, Rc (show l.length ≠ 3 by omega)] at h
       exact h
     | false =>
      rw [q3, if_neg Bool.false_ne_true] at h
      walk_at "rk"
      walk_at "hd"
      walk_at "rk"
      cases q4 : isS k (Str.ofString "spot") with
      | true =>
       rw [q4] at h
       walk_at "rk"
       refine Zm (fun h2 => ?_) fun h2 => ?_
       ·obtain ⟨v, rfl⟩ := Zby (ds := l) (by omega)
        exact h
       ·rw [if_pos rfl, Om (show l.length ≠ 1 by omega)] at h
        exact h
      | false =>
       rw [q4, if_neg Bool.false_ne_true] at h
       subst_vars
       walk_at "rk"
       refine Zm (fun h2 => ?_) fun h2 => ?_
       ·obtain rfl : l = [] := List.length_eq_zero_iff.mp (by omega)
        refine ⟨[Str.ofString "drop", Str.ofString "free"], rfl, ?_⟩
        simp only [List.any_cons, List.any_nil, Bool.or_false]
        exact h
       ·have e : l.isEmpty = false := by
         cases l with
         | nil => exact absurd rfl h2
         | cons _ _ => rfl
        rw [e] at h
        exact h
 | _ =>
  walk_at "rk"
  exact h
theorem JO (T : Tx K mg) : ZE P w K mg base CX0 1 T.Vn T.Vj ["_law_pen", "_law_many"] (lift K Vk) := by
 refine okD T.Zh.F Yo (fun xs M Φ h => by obtain ⟨_, _, rfl, _⟩ := QJ h; rfl) fun cdv A outer s H E hr => ⟨_, (Zf (Ql (ZJ OR (Zl (Zb 0) Zc) Zc) (Zf (Zu 6 Yo.nd (Zo JQ (Zl (Zb 0) Zc) (Zb 1)))
 (Zf (Ut (Zo Cm (Zl (Zb 0) Zc) (Zb 1)) (ES (Zb 0) Zc))
 (Zi (Zq (Zb 6))))) Zz)
 (Zf (Zu 2 Yo.nd (Zl (Zb 0) Zc))
 (Zf (Ut (Zo ZI (Zb 2) Zc) (ES (Zb 0) Zc))
 (Zf (Zu 3 Yo.nd Zc)
 (Zf (Ql (ZJ OR (Zj Qu rfl T.Ju Qc (Za (Zl (Zb 0) Zc) Zd)) Zc) (Zi (Zu 3 Yo.nd (Zl (Zl (Zb 0) Zc) (Zo JQ (Zb 2) (Zj Qu rfl T.Ju Qc (Za (Zl (Zb 0) Zc) Zd)))))) Zz)
 (Zf (Ql (DW.dt (Wf (ZJ HW (Zb 2) (Zj Qu rfl T.Ju Qc (Za (Zl (Zb 0) Zc) Zd))) (Xe (ZJ SK (Zj DJ rfl T.OG Ep (Za (Zb 3) Zd)) (Zo YG Zc Zc))))) (Zf (Ut (Zo Cm (Zj DJ rfl T.OG Ep (Za (Zb 3) Zd)) (Zb 1)) (ES (Zb 0) Zc))
 (Zi (Zq (Zo JQ (Zj DJ rfl T.OG Ep (Za (Zb 3) Zd)) (Zb 1))))) Zz)
 (Zf (Zu 4 Yo.nd (Zo JQ (Zo Q6 (Zo ZI (Zo ZI (Zo JQ (Zb 3) Zc) (Zo Q6 Zc (Zb 2))) Zc) Zc) Zc))
 (Zf (Zu 5 Yo.nd (Zo JQ (Zo ZI (Zo ZI (Zo Q6 (Zb 4) (Zb 4)) (Zo Q6 Zc (Zb 4))) (Zo Q6 Zc (Zb 2))) Zc))
 (Zi (Zq (Zo JQ (Zo BB (Zo JQ (Zo Q6 (Zb 5) (Zo ZI (Zo JQ (Zb 5) Zc) Zc)) Zc) Zc) (Zb 1)))))))))))), fun xs M Φ h => ?_⟩
 replace h := QJ h
 obtain ⟨x1, x2, rfl, h⟩ := h
 replace h := Qd h
 obtain ⟨p, rfl, h⟩ := h
 replace h := ZN h
 obtain ⟨m, rfl, ⟨h0, h1⟩, hp, h⟩ := h
 obtain ⟨ns, i, b, hi, hp⟩ := hp.get
 have lg : m.natAbs.log2 < 9000 := Nat.lt_of_lt_of_le (XD (k := 200) (by omega) (by decide)) (by decide)
 have fin : ∀ (x j c : Int), 0 ≤ j → Φ (.dat (.int (x % m))) (Z1 M p (.lst [.list (ns.map PyData.int), .int j, .int c])) := fun x j c hj => h _ _ (Uc x h0).1 (Uc x h0).2 (Fr.Z1 ⟨ns, j, c, hj, rfl⟩)
 walk_at "hd"
 walk_at "rk"
 simp only [hp]
 walk_at "rk"
 refine Zm (fun h2 => ?_) fun h2 => ?_
 ·exact ⟨h0, ⟨h0, lg⟩, fin _ _ _ hi⟩
 ·walk_at "hd"
  walk_at "rk"
  simp only [hp]
  walk_at "rk"
  walk_at "hd"
  walk_at "rk"
  simp only [hp]
  walk_at "rk"
  walk_at "hd"
  walk_at "rk"
  walk_at "hd"
  walk_at "rk"
  rw [List.length_map]
  refine Zm (fun hl => ?_) fun hl => ?_
  ·have hm := Uc i hl
   obtain ⟨c, hc⟩ := OV (ns := ns) hm.1 hm.2
   refine ⟨hl, Y5 hc ?_⟩
   walk_at "hd"
   walk_at "rk"
   rw [List.length_map]
   refine Zm (fun h2 => ⟨LM _ (by decide), Zm (fun h3 => ⟨⟨h0, lg⟩, h0, fin _ _ _ (by omega)⟩) fun h3 => ?_⟩) fun h2 => ?_
   ·walk_at "hd"
    walk_at "rk"
    refine ⟨.inl (by decide), .inr (by decide), ?_⟩
    walk_at "hd"
    walk_at "rk"
    refine ⟨.inl (by omega), .inl (by decide), .inl (by decide), ?_⟩
    subst_vars
    walk_at "rk"
    refine ⟨.inl (by omega), ⟨by decide, by decide⟩, by assumption, ?_⟩
    exact fin _ _ _ (by omega)
   ·walk_at "hd"
    walk_at "rk"
    refine ⟨.inl (by decide), .inr (by decide), ?_⟩
    walk_at "hd"
    walk_at "rk"
    refine ⟨.inl (by omega), .inl (by decide), .inl (by decide), ?_⟩
    subst_vars
    walk_at "rk"
    refine ⟨.inl (by omega), ⟨by decide, by decide⟩, by assumption, ?_⟩
    exact fin _ _ _ (by omega)
  ·walk_at "hd"
   walk_at "rk"
   rw [List.length_map]
   refine Zm (fun h2 => absurd h2 (by omega)) fun h2 => ?_
   walk_at "hd"
   walk_at "rk"
   refine ⟨.inl (by decide), .inr (by decide), ?_⟩
   walk_at "hd"
   walk_at "rk"
   refine ⟨.inl (by omega), .inl (by decide), .inl (by decide), ?_⟩
   subst_vars
   walk_at "rk"
   refine ⟨.inl (by omega), ⟨by decide, by decide⟩, by assumption, ?_⟩
   exact fin _ _ _ (by omega)
theorem Gz (T : Tx K mg) : ZE P w K mg base CX0 2 T.UW T.U1 ["_law_pen", "_law_many"] (lift K W7) := by
 have G_take : ZE P w K mg base CX0 1 T.Vn T.Vj ["_law_pen", "_law_many"] (lift K Vk) := JO T
 refine okD T.JP.F WV (fun xs M Φ h => by obtain ⟨_, _, rfl, _⟩ := QJ h; rfl) fun cdv A outer s H E hr => ⟨_, (Zf (Ql (ZJ HW (Zb 1) (Zo YG Zc Zc)) (Zi (Zq (Zg G_take (hr.mono (by first | decide | omega)) rfl T.Zh.m T.Zh.F.kp T.Zh.b Zp (Za (Zb 0) (Za (Zb 1) Zd))))) Zz)
 (Zf (Zu 2 WV.nd Zc)
 (Zf (XC rfl T.Q5 (Za (Zo ZI (Zo BB (Zj GP rfl T.Ju Qc (Za (ZD Vc rfl T.Ka Vo (Za (Zb 1) Zd)) Zd)) Zc) Zc) Zd) (Zv 3 WV.nd) (Zi (Zu 2 WV.nd (Zo ZI (Zo Q6 (Zb 2) (Zo YG Zc Zc)) (Zg G_take (hr.mono (by first | decide | omega)) rfl T.Zh.m T.Zh.F.kp T.Zh.b Zp (Za (Zb 0) (Za (Zo YG Zc Zc) Zd)))))) PassesOwn.never rfl)
 (Zi (Zq (Zo JQ (Zb 2) (Zb 1))))))), fun xs M Φ h => ?_⟩
 replace h := QJ h
 obtain ⟨x1, x2, rfl, h⟩ := h
 replace h := Qd h
 obtain ⟨p, rfl, h⟩ := h
 replace h := ZN h
 obtain ⟨m, rfl, ⟨h0, h1⟩, hp, h⟩ := h
 have lg : m.natAbs.log2 < 1920 := Nat.lt_of_lt_of_le (XD (k := 200) (by omega) (by decide)) (by decide)
 walk_at "hd"
 walk_at "rk"
 refine ⟨LM _ (by decide), Zm (fun h2 => ⟨⟨h0, h1⟩, hp, h⟩) fun h2 => ?_⟩
 have hz := int_text_len_1921 lg
 walk_at "hd"
 walk_at "rk"
 walk_at "hd"
 walk_at "rk"
 refine ⟨lg, by omega, ⟨by decide, by decide⟩, ⟨by omega, by omega⟩, fun i Δ M' => ∃ (v : Int) (kk : Option DV), Δ = [some (.own p), some (.dat (.int m)), some (.dat (.int v)), kk] ∧ Fr p M M', ⟨0, none, rfl, Fr.refl hp⟩, ?_, ?_⟩
 ·rintro i Δ M' hi ⟨v, kk, rfl, hf⟩
  walk_at "rk"
  refine ⟨LM _ (by decide), .inr (by decide), LM _ (by decide), hf.1, fun r M2 h3 h4 f2 => ?_⟩
  exact ⟨_, _, rfl, hf.trans f2⟩
 ·rintro Δ M' ⟨v, kk, rfl, hf⟩
  subst_vars
  walk_at "rk"
  exact ⟨h0, h _ _ (Uc v h0).1 (Uc v h0).2 hf⟩
theorem HX (T : Tx K mg) : ZE P w K mg base CX0 2 T.Bm T.Bt ["_law_pen", "_law_many"] (lift K Bg) := by
 have G_take : ZE P w K mg base CX0 1 T.Vn T.Vj ["_law_pen", "_law_many"] (lift K Vk) := JO T
 refine okD T.Yg.F Q9 (fun xs M Φ h => by obtain ⟨_, _, rfl, _⟩ := QJ h; rfl) fun cdv A outer s H E hr => ⟨_, (Zf (Zu 2 Q9.nd Zk)
 (Zf (Zu 3 Q9.nd (Jv (Za Zk (Za Zk (Za Zk (Za Zk (Za Zk (Za Zk (Za Zk (Za Zk (Za Zk (Za Zk (Za Zk (Za Zk (Za Zk Zd)))))))))))))))
 (Zf (Zu 4 Q9.nd (Vv Zk (Qf false (Zw (sc := Ze Jj) (XN := ["_law_pen", "_law_many", "_law_letters", "_law_words", "_law_base", "_law_start", "_law_manner", "_law_long", "_law_at", "_law_signs"]) (N := ["_law_k", "_law_letters", "_law_pen"]) (ix := [none, some 2, some 0]) rfl rfl (by decide +kernel)) (Jh rfl T.Q5 (Za Zc Zd)) (fun C ex s H => (Zv 0 (show List.Nodup (["_law_k", "_law_letters", "_law_pen"] : List Str) by decide +kernel))) (fun C ex s H => ZS) (fun C ex s H => (N8 (Zb 1) (Zg G_take (hr.mono (by first | decide | omega)) rfl T.Zh.m T.Zh.F.kp T.Zh.b Zp (Za (Zb 2) (Za Zc Zd))))) rfl)))
 (Zf (Zu 5 Q9.nd (Zg G_take (hr.mono (by first | decide | omega)) rfl T.Zh.m T.Zh.F.kp T.Zh.b Zp (Za (Zb 0) (Za Zc Zd))))
 (Zf (Zu 6 Q9.nd (Zg G_take (hr.mono (by first | decide | omega)) rfl T.Zh.m T.Zh.F.kp T.Zh.b Zp (Za (Zb 0) (Za Zc Zd))))
 (Zf (Ql (ZJ (VT hr) (Zb 6) Zc) (Zi (Zq (Qf false (Zw (sc := Ze Jj) (XN := ["_law_pen", "_law_many", "_law_letters", "_law_words", "_law_base", "_law_start", "_law_manner", "_law_long", "_law_at", "_law_signs"]) (N := ["_law_k", "_law_base", "_law_start"]) (ix := [none, some 4, some 5]) rfl rfl (by decide +kernel)) (Jh rfl T.Q5 (Za (Zb 1) Zd)) (fun C ex s H => (Zv 0 (show List.Nodup (["_law_k", "_law_base", "_law_start"] : List Str) by decide +kernel))) (fun C ex s H => ZS) (fun C ex s H => (YC (Zb 1) XO (Ym (Zo ZI (Zo JQ (Zo ZI (Zb 2) (Zo Q6 Zc (Zb 0))) Zc) Zc)))) rfl))) Zz)
 (Zf (Ql (ZJ (VT hr) (Zb 6) Zc) (Zi (Zq (Qf false (Zw (sc := Ze Jj) (XN := ["_law_pen", "_law_many", "_law_letters", "_law_words", "_law_base", "_law_start", "_law_manner", "_law_long", "_law_at", "_law_signs"]) (N := ["_law_k", "_law_words", "_law_start"]) (ix := [none, some 3, some 5]) rfl rfl (by decide +kernel)) (Jh rfl T.Q5 (Za (Zb 1) Zd)) (fun C ex s H => (Zv 0 (show List.Nodup (["_law_k", "_law_words", "_law_start"] : List Str) by decide +kernel))) (fun C ex s H => ZS) (fun C ex s H => (Zl (Zb 1) (Zo JQ (Zo ZI (Zb 2) (Zb 0)) Zc))) rfl))) Zz)
 (Zf (Zu 7 Q9.nd (Zo ZI Zc (Zg G_take (hr.mono (by first | decide | omega)) rfl T.Zh.m T.Zh.F.kp T.Zh.b Zp (Za (Zb 0) (Za Zc Zd)))))
 (Zf (Zu 8 Q9.nd (Zg G_take (hr.mono (by first | decide | omega)) rfl T.Zh.m T.Zh.F.kp T.Zh.b Zp (Za (Zb 0) (Za (Zb 7) Zd))))
 (Zf (Bi 9 false Q9.nd (Zw (sc := Ze Jj) (XN := ["_law_pen", "_law_many", "_law_letters", "_law_words", "_law_base", "_law_start", "_law_manner", "_law_long", "_law_at", "_law_signs"]) (N := ["_law_k", "_law_letters", "_law_start"]) (ix := [none, some 2, some 5]) rfl rfl (by decide +kernel)) (Jh rfl T.Q5 (Za (Zb 1) Zd)) (fun C ex s H => (Zv 0 (show List.Nodup (["_law_k", "_law_letters", "_law_start"] : List Str) by decide +kernel))) (fun C ex s H => ZS) (fun C ex s H => (N8 (Zb 1) (Zo JQ (Zo ZI (Zb 2) (Zo Q6 Zc (Zb 0))) Zc))) rfl)
 (Zi (Zq (Qf false (Zw (sc := Ze Jj) (XN := ["_law_pen", "_law_many", "_law_letters", "_law_words", "_law_base", "_law_start", "_law_manner", "_law_long", "_law_at", "_law_signs"]) (N := ["_law_sign", "_law_base", "_law_long", "_law_at"]) (ix := [none, some 4, some 7, some 8]) rfl rfl (by decide +kernel)) (V4 (Zb 9)) (fun C ex s H => (Zv 0 (show List.Nodup (["_law_sign", "_law_base", "_law_long", "_law_at"] : List Str) by decide +kernel))) (fun C ex s H => ZS) (fun C ex s H => (Zo Xc (Zo Xc (YC (Zb 1) XO (Ym (Zb 3))) (Zb 0)) (YC (Zb 1) (Ym (Zo ZI (Zb 3) Zc)) (Ym (Zb 2))))) rfl))))))))))))), fun xs M Φ h => ?_⟩
 replace h := QJ h
 obtain ⟨x1, x2, rfl, h⟩ := h
 replace h := Qd h
 obtain ⟨p, rfl, h⟩ := h
 replace h := ZN h
 obtain ⟨m, rfl, ⟨hm0, hm8⟩, hp, h⟩ := h
 walk_at "hd"
 walk_at "rk"
 walk_at "hd"
 walk_at "rk"
 walk_at "hd"
 walk_at "rk"
 refine ⟨⟨by decide, by decide⟩, by rw [ZT]; decide, fun i acc M' => ∃ ss : List Str, acc = ss.map PyData.str ∧ ss.length = i ∧ (∀ s ∈ ss, Zca s) ∧ Fr p M M', ⟨[], rfl, rfl, fun s hs => (nomatch hs), Fr.refl hp⟩, ?_, ?_⟩
 ·rintro i d acc M' hd ⟨ss, rfl, hl, ha, hf⟩
  refine ⟨hf.1, fun r M2 h0 h1 f2 => ⟨by rw [EZ]; decide, ?_⟩⟩
  obtain ⟨c, hc, c1⟩ := N2 h0 h1
  refine ⟨c, hc, ss ++ [⟨#[c]⟩], by rw [List.map_append]; rfl, by rw [List.length_append, hl]; rfl, fun s hs => ?_, hf.trans f2⟩
  rcases List.mem_append.mp hs with hs | hs
  ·exact ha s hs
  ·rw [List.mem_singleton.mp hs]
   exact ⟨c, rfl, c1⟩
 ·rintro acc M1 ⟨ss, rfl, hl, ha, hf⟩
  rw [ZT] at hl
  refine ⟨ss, rfl, Fb (B := 1) (fun y hy => by obtain ⟨c, rfl, _⟩ := ha y hy; exact Nat.le_refl 1) (by rw [hl]; decide), ?_⟩
  obtain ⟨bl, bc⟩ := EG hl ha
  generalize Txt.join (Str.ofString "") ss = b at *
  walk_at "hd"
  walk_at "rk"
  refine ⟨hf.1, fun st M2 s0 s1 f2 => ?_⟩
  walk_at "hd"
  walk_at "rk"
  refine ⟨f2.1, fun mn M3 m0 m1 f3 => ?_⟩
  have fin : ∀ (ds : List PyData) (M' : Mp), Nms m.toNat ds → Fr p M3 M' → Φ (.dat (.list ds)) M' := fun ds M' hn hm => by
   obtain ⟨ss, rfl, h8, ha⟩ := hn
   exact h ss M' h8 ha (((hf.trans f2).trans f3).trans hm)
  walk_at "hd"
  walk_at "rk"
  refine Zm (fun z => ?_) fun z => ?_
  ·refine ⟨⟨by omega, by omega⟩, by rw [ZT]; omega, fun i acc M' => Nms i acc ∧ M' = M3, ⟨⟨[], rfl, rfl, fun s hs => (nomatch hs)⟩, rfl⟩, ?_, ?_⟩
   ·rintro i d acc M' hd ⟨hn, rfl⟩
    have hi : i < m.toNat := by have := (List.getElem?_eq_some_iff.mp hd).1; rw [ZT] at this; exact this
    rw [YK hi] at hd
    cases hd
    walk_at "rk"
    refine ⟨.inl (by decide), by omega, hn.snoc ⟨?_, fun c hc => bc c (Gr hc)⟩⟩
    have hm := Uc (st + 3 * (i : Int)) (show (0 : Int) < 8 by decide)
    rw [Bc, BW (by omega), bl]
    show 1 ≤ _ - 0 ∧ _ - 0 ≤ 8
    omega
   ·rintro acc M' ⟨hn, rfl⟩
    rw [ZT] at hn
    exact fin _ _ hn (Fr.refl f3.1)
  ·walk_at "hd"
   walk_at "rk"
   refine Zm (fun z => ?_) fun z => ?_
   ·refine ⟨⟨by omega, by omega⟩, by rw [ZT]; omega, fun i acc M' => Nms i acc ∧ M' = M3, ⟨⟨[], rfl, rfl, fun s hs => (nomatch hs)⟩, rfl⟩, ?_, ?_⟩
    ·rintro i d acc M' hd ⟨hn, rfl⟩
     have hi : i < m.toNat := by have := (List.getElem?_eq_some_iff.mp hd).1; rw [ZT] at this; exact this
     rw [YK hi] at hd
     cases hd
     walk_at "rk"
     have hm := Uc (st + (i : Int)) (show (0 : Int) < 13 by decide)
     exact tabS (l := ["land", "drop", "free", "spot", "comes", "goes", "in", "out", "stays", "wait", "none", "a", "z"]) Qi hm.1 hm.2 Di fun s hs => hn.snoc hs
    ·rintro acc M' ⟨hn, rfl⟩
     rw [ZT] at hn
     exact fin _ _ hn (Fr.refl f3.1)
   ·walk_at "hd"
    walk_at "rk"
    refine ⟨f3.1, fun lg M4 l0 l1 f4 => ?_⟩
    walk_at "hd"
    walk_at "rk"
    refine ⟨⟨by omega, by omega⟩, f4.1, fun at' M5 t0 t1 f5 => ?_⟩
    walk_at "hd"
    walk_at "rk"
    refine ⟨⟨by omega, by omega⟩, by rw [ZT]; omega, fun i acc M' => (∃ ss : List Str, acc = ss.map PyData.str ∧ ss.length = i ∧ ∀ s ∈ ss, Zca s) ∧ M' = M5, ⟨⟨[], rfl, rfl, fun s hs => (nomatch hs)⟩, rfl⟩, ?_, ?_⟩
    ·rintro i d acc M' hd ⟨⟨ss, rfl, hl, ha⟩, rfl⟩
     have hi : i < m.toNat := by have := (List.getElem?_eq_some_iff.mp hd).1; rw [ZT] at this; exact this
     rw [YK hi] at hd
     cases hd
     walk_at "rk"
     have hm := Uc (st + 5 * (i : Int)) (show (0 : Int) < 26 by decide)
     obtain ⟨c, hc, c1⟩ := N2 hm.1 hm.2
     refine ⟨.inl (by decide), by rw [EZ]; decide, c, by simpa using hc, ss ++ [⟨#[c]⟩], by rw [List.map_append]; rfl, by rw [List.length_append, hl]; rfl, fun s hs => ?_⟩
     rcases List.mem_append.mp hs with hs | hs
     ·exact ha s hs
     ·rw [List.mem_singleton.mp hs]
      exact ⟨c, rfl, c1⟩
    ·rintro acc M' ⟨⟨ss2, rfl, h8, ha2⟩, rfl⟩
     rw [ZT] at h8
     subst_vars
     walk_at "rk"
     refine ⟨by rw [List.length_map, h8]; omega, fun i acc M2 => Nms i acc ∧ M2 = M', ⟨⟨[], rfl, rfl, fun s hs => (nomatch hs)⟩, rfl⟩, ?_, ?_⟩
     ·rintro i d acc M' hd ⟨hn, rfl⟩
      obtain ⟨s, es, rfl⟩ := QT hd
      obtain ⟨c, rfl, c1⟩ := ha2 s (List.mem_of_getElem? es)
      walk_at "rk"
      have k1 : (Dh b none (some at')).length = at'.toNat := by
       rw [Bc, BW t0, bl]
       show _ - 0 = _
       omega
      have k2 : (Dh b (some (at' + 1)) (some (1 + lg))).length = (lg - at').toNat := by
       rw [Bc, BW (by omega), BW (by omega), bl]
       omega
      refine ⟨by omega, by rw [k1, GS]; omega, by omega, by rw [Bh, k1, k2, GS]; omega, hn.snoc ⟨?_, fun d hd => ?_⟩⟩
      ·rw [Bh, Bh, k1, k2, GS]
       omega
      ·rw [add_list, add_list, XF] at hd
       rcases List.mem_append.mp hd with hd | hd
       ·rcases List.mem_append.mp hd with hd | hd
        ·exact bc d (Gr hd)
        ·rw [List.mem_singleton.mp hd]
         exact c1
       ·exact bc d (Gr hd)
     ·rintro acc M' ⟨hn, rfl⟩
      rw [List.length_map, h8] at hn
      exact fin _ _ hn (f4.trans f5)
theorem Ma (T : Tx K mg) : ZE P w K mg base CX0 2 T.BA T.Bj ["_law_pen", "_law_most"] (lift K Bw) := by
 have G_take : ZE P w K mg base CX0 1 T.Vn T.Vj ["_law_pen", "_law_many"] (lift K Vk) := JO T
 refine okD T.Wy.F JJ (fun xs M Φ h => by obtain ⟨_, _, rfl, _⟩ := QJ h; rfl) fun cdv A outer s H E hr => ⟨_, (Zf (Zu 2 JJ.nd (Jv (Za (Zg G_take (hr.mono (by first | decide | omega)) rfl T.Zh.m T.Zh.F.kp T.Zh.b Zp (Za (Zb 0) (Za Zc Zd))) (Za (Zg G_take (hr.mono (by first | decide | omega)) rfl T.Zh.m T.Zh.F.kp T.Zh.b Zp (Za (Zb 0) (Za Zc Zd))) Zd))))
 (Zf (Zu 3 JJ.nd (Yb (Za (Qw (Za (ZD QO rfl T.Jt QI (Za (Zb 2) Zd)) (Za (Qw (Za (Zo ZI (Zl (Zb 2) Zc) (Zg G_take (hr.mono (by first | decide | omega)) rfl T.Zh.m T.Zh.F.kp T.Zh.b Zp (Za (Zb 0) (Za Zc Zd)))) (Za (Zo ZI (Zl (Zb 2) Zc) (Zg G_take (hr.mono (by first | decide | omega)) rfl T.Zh.m T.Zh.F.kp T.Zh.b Zp (Za (Zb 0) (Za Zc Zd)))) Zd))) Zd))) Zd)))
 (Zf (XC rfl T.Q5 (Za (Zg G_take (hr.mono (by first | decide | omega)) rfl T.Zh.m T.Zh.F.kp T.Zh.b Zp (Za (Zb 0) (Za (Zb 1) Zd))) Zd) (Zv 4 JJ.nd) (Zf (Ut (Zl (Zb 3) (NN Zc)) (BX (n := 2) rfl (JI (Zv 6 JJ.nd) (JI (Zv 7 JJ.nd) WD))))
 (Zf (Zu 5 JJ.nd (Jv (Za (Zg G_take (hr.mono (by first | decide | omega)) rfl T.Zh.m T.Zh.F.kp T.Zh.b Zp (Za (Zb 0) (Za Zc Zd))) (Za (Zg G_take (hr.mono (by first | decide | omega)) rfl T.Zh.m T.Zh.F.kp T.Zh.b Zp (Za (Zb 0) (Za Zc Zd))) Zd))))
 (Zf (L0 2 false JJ.nd (Zw (sc := Ze V1) (XN := ["_law_pen", "_law_most", "_law_low", "_law_found", "_law_k", "_law_wide_here", "_law_first", "_law_last"]) (N := ["_law_w", "_law_pen", "_law_first", "_law_wide_here", "_law_last"]) (ix := [none, some 0, some 6, some 5, some 7]) rfl rfl (by decide +kernel)) (Jh rfl T.Q5 (Za Zc Zd)) (fun C ex s H => (Zv 0 (show List.Nodup (["_law_w", "_law_pen", "_law_first", "_law_wide_here", "_law_last"] : List Str) by decide +kernel))) (fun C ex s H => ZS) (fun C ex s H => (Zo ZI (Zo JH (Zo JH (Zl (Zb 2) (Zb 0)) (Zl (Zb 3) (Zb 0))) Zc) (Zg G_take (hr.mono (by first | decide | omega)) rfl T.Zh.m T.Zh.F.kp T.Zh.b Zp (Za (Zb 1) (Za (Zo ZI (Zo ZI (Zo JH (Zl (Zb 4) (Zb 0)) (Zl (Zb 2) (Zb 0))) (Zl (Zb 3) (Zb 0))) Zc) Zd))))) rfl)
 (Zi (VB (JV (Zb 3) (Qw (Za (ZD QO rfl T.Jt QI (Za (Zb 2) Zd)) (Za (Qw (Za (Zo ZI (Zl (Zb 2) Zc) (Zl (Zb 5) Zc)) (Za (Zo ZI (Zl (Zb 2) Zc) (Zl (Zb 5) Zc)) Zd))) Zd))))))))) PassesOwn.never rfl)
 (Zi (Zq (NA (Zb 3))))))), fun xs M Φ h => ?_⟩
 replace h := QJ h
 obtain ⟨x1, x2, rfl, h⟩ := h
 replace h := Qd h
 obtain ⟨p, rfl, h⟩ := h
 replace h := ZN h
 obtain ⟨m, rfl, hm, hp, h⟩ := h
 walk_at "hd"
 walk_at "rk"
 refine ⟨hp, fun x1 M1 a1 b1 f1 => ⟨f1.1, fun y1 M2 a2 b2 f2 => ?_⟩⟩
 walk_at "hd"
 walk_at "rk"
 refine ⟨f2.1, fun x2 M3 a3 b3 f3 => ⟨f3.1, fun y2 M4 a4 b4 f4 q hq => ?_⟩⟩
 have F0 := ((f1.trans f2).trans f3).trans f4
 have n1 : q ≠ p := Ne.symm (f4.1.ne hq)
 have q0 : M q = none := F0.fresh hq
 walk_at "hd"
 walk_at "rk"
 refine ⟨⟨by omega, by omega⟩, f4.1.put (Ne.symm n1), fun r M5 a5 b5 f5 => ⟨⟨by omega, by omega⟩, ?_⟩⟩
 refine ⟨fun i Δ M' => ∃ (cs : List B4) (b : B4) (k2 k4 k5 k6 k7 : Option DV), Δ = [some (.own p), some (.dat (.int m)), k2, some (.own q), k4, k5, k6, k7] ∧ cs.length = i ∧ chB (cs ++ [b]) = true ∧ (∀ c ∈ cs ++ [b], Grb i c) ∧ M' q = some (.lst (cs.map bD ++ [bD b])) ∧ Fr p M M',
  ⟨[], ⟨x1, y1, x1 + x2, y1 + y2⟩, _, _, _, _, _, rfl, rfl, rfl, ?_, f5.own Z7 n1, (F0.new q0 n1).trans f5⟩, ?_, ?_⟩
 ·intro c hc
  rw [List.mem_singleton.mp hc]
  unfold Grb
  dsimp only
  omega
 ·rintro i Δ M' hi ⟨cs, b, k2, k4, k5, k6, k7, rfl, hl, hch, hcs, hq', hF⟩
  have hb := hcs b (List.mem_append_right _ (List.mem_singleton.mpr rfl))
  unfold Grb at hb
  rw [XH]
  walk_at "hd"
  walk_at "rk"
  simp only [hq']
  walk_at "rk"
  walk_at "hd"
  walk_at "rk"
  refine ⟨hF.1, fun w1 M6 a6 b6 f6 => ⟨f6.1, fun w2 M7 a7 b7 f7 => ?_⟩⟩
  walk_at "hd"
  walk_at "rk"
  refine ⟨⟨by decide, by decide⟩, ⟨by omega, by omega⟩, f7.1, fun u1 M8 a8 b8 f8 => ⟨⟨by omega, by omega⟩, f8.1, fun u2 M9 a9 b9 f9 => ?_⟩⟩
  have F1 := ((f6.trans f7).trans f8).trans f9
  subst_vars
  walk_at "rk"
  simp only [F1.own hq' n1]
  walk_at "rk"
  refine ⟨by rw [List.length_append, List.length_map, List.length_singleton]; omega, cs ++ [b], ⟨b.x - w1 - 1 + u1, b.y - w2 - 1 + u2, b.x - w1 - 1 + u1 + w1, b.y - w2 - 1 + u2 + w2⟩, _, _, _, _, _, rfl, by rw [List.length_append]; rfl, ?_, fun c hc => ?_, ?_, (hF.trans F1).new q0 n1⟩
  ·rw [List.append_assoc]
   show chB (cs ++ [b, _]) = true
   rw [Ck, hch, decide_eq_true (MG (by dsimp only; omega) (by dsimp only; omega) (by dsimp only; omega) (by dsimp only; omega))]
   rfl
  ·rcases List.mem_append.mp hc with hc | hc
   ·have := hcs c hc
    unfold Grb at this ⊢
    omega
   ·rw [List.mem_singleton.mp hc]
    unfold Grb
    dsimp only
    omega
  ·rw [List.map_append]
   rfl
 ·rintro Δ M' ⟨cs, b, k2, k4, k5, k6, k7, rfl, hl, hch, hcs, hq', hF⟩
  subst_vars
  walk_at "rk"
  simp only [hq']
  walk_at "rk"
  rw [show cs.map bD ++ [bD b] = (cs ++ [b]).map bD by rw [List.map_append]; rfl]
  refine h _ _ ⟨by rw [List.length_append, List.length_singleton]; omega, hch, fun c hc => ?_⟩ (hF.gone q0 n1)
  have := hcs c hc
  unfold Grb at this ⊢
  omega
theorem UO (T : Tx K mg) : ZE P w K mg base CX0 1 T.Yq T.Ye ["_law_boxes_here", "_law_by", "_law_off"] (lift K Yn) := by
 refine okG T.J6.F Q0 (fun xs M Φ h => by obtain ⟨_, _, _, rfl, _⟩ := Yv h; rfl) fun cdv A outer s H E hr => ⟨_, (Zf (Zu 3 Q0.nd (Yb Zd))
 (Zf (Ph (Zb 0) (BX (n := 2) rfl (JI (Zv 4 Q0.nd) (JI (Zv 5 Q0.nd) WD))) (Zf (Zu 6 Q0.nd (Qw (Za (Zo ZI (Zo Q6 (Zl (Zb 4) Zc) (Zb 1)) (Zl (Zb 2) Zc)) (Za (Zo ZI (Zo Q6 (Zl (Zb 4) Zc) (Zb 1)) (Zl (Zb 2) Zc)) Zd))))
 (Zi (VB (JV (Zb 3) (Qw (Za (Zb 6) (Za (Qw (Za (Zo ZI (Zo JH (Zo ZI (Zo Q6 (Zl (Zb 5) Zc) (Zb 1)) (Zb 1)) Zc) (Zl (Zb 2) Zc)) (Za (Zo ZI (Zo JH (Zo ZI (Zo Q6 (Zl (Zb 5) Zc) (Zb 1)) (Zb 1)) Zc) (Zl (Zb 2) Zc)) Zd))) Zd))))))) PassesOwn.never rfl)
 (Zi (Zq (ZD QO rfl T.Jt QI (Za (Zb 3) Zd)))))), fun xs M Φ h => ?_⟩
 replace h := Yv h
 obtain ⟨x1, x2, x3, rfl, h⟩ := h
 replace h := P9 h
 obtain ⟨bs, rfl, h⟩ := h
 replace h := ZN h
 obtain ⟨f, rfl, h⟩ := h
 replace h := EX h
 obtain ⟨ox, oy, rfl, hs, h⟩ := h
 walk_at "hd"
 walk_at "rk"
 intro q hq
 walk_at "hd"
 walk_at "rk"
 refine ⟨fun i Δ M' => ∃ k4 k5 k6, Δ = [some (.dat (.list (bs.map bD))), some (.dat (.int f)), some (.dat (.tuple [.int ox, .int oy])), some (.own q), k4, k5, k6] ∧ M' = Z1 M q (.lst (((bs.take i).map (BQ f ox oy)).map bD)), ⟨none, none, none, rfl, rfl⟩, ?_, ?_⟩
 ·rintro i d Δ M' hd ⟨k4, k5, k6, rfl, rfl⟩
  obtain ⟨b, eb, rfl⟩ := QT hd
  have hb := hs.2.2 _ (List.mem_of_getElem? eb)
  unfold Grb at hb
  walk_at "rk"
  refine ⟨.inl (by omega), .inl (by omega), .inl (by omega), .inl (by omega), by rw [List.length_map, List.length_map, List.length_take]; have := hs.1.2; omega, _, _, _, rfl, ?_⟩
  rw [← take_snoc (BQ f ox oy) eb, List.map_append]
  rfl
 ·rintro Δ M' ⟨k4, k5, k6, rfl, rfl⟩
  rw [List.length_map, List.take_length]
  subst_vars
  walk_at "rk"
  exact SR hq h
theorem C3 (T : Tx K mg) : ZE P w K mg base CX0 3 T.Kl T.X2 ["_law_pen"] (lift K Kg) := by
 have G_take : ZE P w K mg base CX0 1 T.Vn T.Vj ["_law_pen", "_law_many"] (lift K Vk) := JO T
 have G_wide : ZE P w K mg base CX0 2 T.UW T.U1 ["_law_pen", "_law_many"] (lift K W7) := Gz T
 refine okD T.Yu.F VQ (fun xs M Φ h => by obtain ⟨_, rfl, _⟩ := Zn h; rfl) fun cdv A outer s H E hr => ⟨_, (Zf (Zu 1 VQ.nd (Zl (Jv (Za Zc (Za Zc (Za Zc (Za Zc (Za Zc (Za (Zo YG Zc Zc) Zd))))))) (Zg G_take (hr.mono (by first | decide | omega)) rfl T.Zh.m T.Zh.F.kp T.Zh.b Zp (Za (Zb 0) (Za Zc Zd)))))
 (Zf (Zu 2 VQ.nd (Zl (Jv (Za (Qw (Za Zc (Za Zc Zd))) (Za (Qw (Za (Zo JH (Zg G_take (hr.mono (by first | decide | omega)) rfl T.Zh.m T.Zh.F.kp T.Zh.b Zp (Za (Zb 0) (Za Zc Zd))) Zc) (Za (Zo JH (Zg G_take (hr.mono (by first | decide | omega)) rfl T.Zh.m T.Zh.F.kp T.Zh.b Zp (Za (Zb 0) (Za Zc Zd))) Zc) Zd))) Zd))) (Zg G_take (hr.mono (by first | decide | omega)) rfl T.Zh.m T.Zh.F.kp T.Zh.b Zp (Za (Zb 0) (Za Zc Zd)))))
 (Zf (Ql (ZJ (VT hr) (Zb 1) (Zo YG Zc Zc)) (Zi (Zu 2 VQ.nd (Qw (Za (Zg G_wide (hr.mono (by first | decide | omega)) rfl T.JP.m T.JP.F.kp T.JP.b Zp (Za (Zb 0) (Za (Zo YG Zc Zc) Zd))) (Za (Zo JH Zc (Zg G_wide (hr.mono (by first | decide | omega)) rfl T.JP.m T.JP.F.kp T.JP.b Zp (Za (Zb 0) (Za (Zo YG Zc Zc) Zd)))) Zd))))) Zz)
 (Zi (Zq (Qw (Za (Zb 1) (Za (Zb 2) Zd)))))))), fun xs M Φ h => ?_⟩
 replace h := Zn h
 obtain ⟨x1, rfl, h⟩ := h
 replace h := Qd h
 obtain ⟨p, rfl, hp, h⟩ := h
 walk_at "hd"
 walk_at "rk"
 refine ⟨LM _ (by decide), hp, fun r1 M1 a1 b1 f1 => tab (l := [1, 1, 1, 2, 1000, 10000000000]) (fun t => 1 ≤ t ∧ t ≤ 10000000000) a1 (by simp only [List.length_cons, List.length_nil]; omega) (by decide) fun f hf => ?_⟩
 walk_at "hd"
 walk_at "rk"
 refine ⟨f1.1, fun x M2 a2 b2 f2 => ⟨f2.1, fun y M3 a3 b3 f3 => ⟨f3.1, fun r4 M4 a4 b4 f4 => ?_⟩⟩⟩
 have F := ((f1.trans f2).trans f3).trans f4
 have two : ∃ ox oy : Int, (-20 ≤ ox ∧ ox ≤ 20) ∧ (-20 ≤ oy ∧ oy ≤ 20) ∧ ∀ P : PyData → Prop, K7 [.tuple [.int 0, .int 0], .tuple [.int (x - 20), .int (y - 20)]] r4 P = P (.tuple [.int ox, .int oy]) := by
  have : r4 = 0 ∨ r4 = 1 := by omega
  rcases this with rfl | rfl
  ·exact ⟨0, 0, by omega, by omega, fun P => rfl⟩
  ·exact ⟨x - 20, y - 20, by omega, by omega, fun P => rfl⟩
 obtain ⟨ox, oy, hx, hy, e⟩ := two
 rw [e]
 clear e
 walk_at "hd"
 walk_at "rk"
 refine ⟨LM _ (by decide), Zm (fun z => ?_) fun z => ?_⟩
 ·walk_at "rk"
  refine ⟨LM _ (by decide), f4.1, fun u M5 a5 b5 f5 => ⟨LM _ (by decide), f5.1, fun v M6 a6 b6 f6 => ?_⟩⟩
  subst_vars
  walk_at "rk"
  exact h _ _ _ _ ⟨by omega, by omega, by omega⟩ ((F.trans f5).trans f6)
 ·subst_vars
  walk_at "rk"
  exact h _ _ _ _ ⟨hf, by omega, by omega⟩ F
theorem HN (T : Tx K mg) : ZE P w K mg base CX0 4 T.G9 T.Bn ["_law_pen"] (lift K GU) := by
 have G_stretch : ZE P w K mg base CX0 3 T.Kl T.X2 ["_law_pen"] (lift K Kg) := C3 T
 have G_names : ZE P w K mg base CX0 2 T.Bm T.Bt ["_law_pen", "_law_many"] (lift K Bg) := HX T
 have G_take : ZE P w K mg base CX0 1 T.Vn T.Vj ["_law_pen", "_law_many"] (lift K Vk) := JO T
 have G_wide : ZE P w K mg base CX0 2 T.UW T.U1 ["_law_pen", "_law_many"] (lift K W7) := Gz T
 refine okD T.Ws.F JA (fun xs M Φ h => by obtain ⟨_, rfl, _⟩ := Zn h; rfl) fun cdv A outer s H E hr => ⟨_, (Zf (Ut (Zg G_stretch (hr.mono (by first | decide | omega)) rfl T.Yu.m T.Yu.F.kp T.Yu.b Zp (Za (Zb 0) Zd)) (BX (n := 2) rfl (JI (Zv 6 JA.nd) (JI (Zv 7 JA.nd) WD))))
 (Zf (Zu 1 JA.nd (Zo YG Zc Zc))
 (Zf (Zu 2 JA.nd (Zl (Jv (Za Zc (Za Zc (Za (Zo JH (Zb 1) Zc) (Za (Zg G_wide (hr.mono (by first | decide | omega)) rfl T.JP.m T.JP.F.kp T.JP.b Zp (Za (Zb 0) (Za (Zo JH (Zb 1) Zc) Zd))) Zd))))) (Zg G_take (hr.mono (by first | decide | omega)) rfl T.Zh.m T.Zh.F.kp T.Zh.b Zp (Za (Zb 0) (Za Zc Zd)))))
 (Zf (Zu 3 JA.nd (Zo ZI Zc (Zg G_take (hr.mono (by first | decide | omega)) rfl T.Zh.m T.Zh.F.kp T.Zh.b Zp (Za (Zb 0) (Za Zc Zd)))))
 (Zf (Zu 4 JA.nd (Zg G_names (hr.mono (by first | decide | omega)) rfl T.Yg.m T.Yg.F.kp T.Yg.b Zp (Za (Zb 0) (Za (Zo ZI Zc (Zg G_take (hr.mono (by first | decide | omega)) rfl T.Zh.m T.Zh.F.kp T.Zh.b Zp (Za (Zb 0) (Za Zc Zd)))) Zd))))
 (Zf (Zu 5 JA.nd (Zg G_names (hr.mono (by first | decide | omega)) rfl T.Yg.m T.Yg.F.kp T.Yg.b Zp (Za (Zb 0) (Za (Zo ZI Zc (Zg G_take (hr.mono (by first | decide | omega)) rfl T.Zh.m T.Zh.F.kp T.Zh.b Zp (Za (Zb 0) (Za Zc Zd)))) Zd))))
 (Zi (Zq (Lj K9 (Wa 6) K9 (Wa 7) K9 (Wa 2) K9 (Wa 3) K9 (Wa 4) K9 (Wa 5)))))))))), fun xs M Φ h => ?_⟩
 replace h := Zn h
 obtain ⟨x1, rfl, h⟩ := h
 replace h := Qd h
 obtain ⟨p, rfl, hp, h⟩ := h
 walk_at "hd"
 walk_at "rk"
 refine ⟨hp, fun f ox oy M1 hf f1 => ?_⟩
 walk_at "hd"
 walk_at "rk"
 refine ⟨LM _ (by decide), ?_⟩
 walk_at "hd"
 walk_at "rk"
 refine ⟨f1.1, fun r2 M2 a2 b2 f2 => ⟨f2.1, fun r3 M3 a3 b3 f3 => tab (l := [0, 3, 999999999992, r2]) (fun t => 0 ≤ t ∧ t ≤ 999999999992) a3 (by simp only [List.length_cons, List.length_nil]; omega) (fun w hw => ?_) fun bg hb => ?_⟩⟩
 ·simp only [List.mem_cons, List.not_mem_nil, or_false] at hw
  omega
 walk_at "hd"
 walk_at "rk"
 refine ⟨f3.1, fun r4 M4 a4 b4 f4 => ?_⟩
 walk_at "hd"
 walk_at "rk"
 refine ⟨f4.1, fun r5 M5 a5 b5 f5 => ⟨⟨by omega, by omega⟩, f5.1, fun ts M6 tl th f6 => ?_⟩⟩
 walk_at "hd"
 walk_at "rk"
 refine ⟨f6.1, fun r7 M7 a7 b7 f7 => ⟨⟨by omega, by omega⟩, f7.1, fun ls M8 ll lh f8 => ?_⟩⟩
 have F := ((((((f1.trans f2).trans f3).trans f4).trans f5).trans f6).trans f7).trans f8
 subst_vars
 walk_at "rk"
 refine ⟨by decide +kernel, fun q hq => ?_⟩
 have n1 : q ≠ p := Ne.symm (f8.1.ne hq)
 exact h q _ ⟨f, ox, oy, bg, 1 + r4, ts, ls, Z7, hf, hb, by omega, ⟨by omega, th⟩, ⟨by omega, lh⟩⟩ n1 (F.new (F.fresh hq) n1)
theorem Rp (T : Tx K mg) : ZE P w K mg base CX0 3 T.FC T.Dl ["_law_pen", "_law_world_here"] (lift K Dm) := by
 have G_wide : ZE P w K mg base CX0 2 T.UW T.U1 ["_law_pen", "_law_many"] (lift K W7) := Gz T
 have G_take : ZE P w K mg base CX0 1 T.Vn T.Vj ["_law_pen", "_law_many"] (lift K Vk) := JO T
 refine okD T.Cb.F Ft (fun xs M Φ h => by obtain ⟨_, _, rfl, _⟩ := QJ h; rfl) fun cdv A outer s H E hr => ⟨_, (Zf (Zu 2 Ft.nd ((Jw hr) (Zb 1) Zk))
 (Zi (Zq (ZD QO rfl T.Jt QI (Za (XG false (Zw (sc := Ze Kh) (XN := ["_law_pen", "_law_world_here", "_law_by"]) (N := ["_law_w", "_law_by", "_law_pen", "_law_world_here"]) (ix := [none, some 2, some 0, some 1]) rfl rfl (by decide +kernel)) (Jh rfl T.Q5 (Za Zc Zd)) (fun C ex s H => (Zv 0 (show List.Nodup (["_law_w", "_law_by", "_law_pen", "_law_world_here"] : List Str) by decide +kernel))) (fun C ex s H => ZS) (fun C ex s H => (Zo ZI (Zo ZI (Zo Q6 (Zo JH (Zg G_take (hr.mono (by first | decide | omega)) rfl T.Zh.m T.Zh.F.kp T.Zh.b Zp (Za (Zb 2) (Za Zc Zd))) Zc) (Zb 1)) (Zg G_wide (hr.mono (by first | decide | omega)) rfl T.JP.m T.JP.F.kp T.JP.b Zp (Za (Zb 2) (Za (Zb 1) Zd)))) (Zl ((Jw hr) (Zb 3) Zk) (Zb 0)))) rfl) Zd))))), fun xs M Φ h => ?_⟩
 replace h := QJ h
 obtain ⟨x1, x2, rfl, h⟩ := h
 replace h := Qd h
 obtain ⟨p, rfl, h⟩ := h
 replace h := Qd h
 obtain ⟨q, rfl, hw, n1, hp, h⟩ := h
 obtain ⟨f, ox, oy, bg, sp, ts, ls, hq, ⟨hf, hx, hy⟩, hw⟩ := hw
 walk_at "hd"
 walk_at "rk"
 simp only [hq, ZeP]
 subst_vars
 walk_at "rk"
 refine ⟨⟨by decide, by decide⟩, hp, fun r1 M1 a1 b1 f1 => ⟨.inl (by omega), ⟨by omega, by omega⟩, f1.1, fun r2 M2 a2 b2 f2 => ?_⟩⟩
 simp only [(f1.trans f2).own hq n1, RQ]
 walk_at "rk"
 refine ⟨f2.1, fun r3 M3 a3 b3 f3 => ⟨.inl (by omega), ⟨by omega, by omega⟩, f3.1, fun r4 M4 a4 b4 f4 => ?_⟩⟩
 have F := ((f1.trans f2).trans f3).trans f4
 simp only [F.own hq n1, RQ]
 walk_at "rk"
 have e1 := Bl (a := r1 - 2) (lo := -2) (hi := 14) (by omega) (by omega) hf.1
 have e2 := Bl (a := r3 - 2) (lo := -2) (hi := 14) (by omega) (by omega) hf.1
 exact h _ _ _ ⟨by omega, by omega⟩ ⟨by omega, by omega⟩ F
theorem RT (T : Tx K mg) : ZE P w K mg base CX0 3 T.Fx T.Fc ["_law_pen", "_law_world_here", "_law_time"] (lift K Fi) := by
 have G_boxes : ZE P w K mg base CX0 2 T.BA T.Bj ["_law_pen", "_law_most"] (lift K Bw) := Ma T
 have G_take : ZE P w K mg base CX0 1 T.Vn T.Vj ["_law_pen", "_law_many"] (lift K Vk) := JO T
 have G_stretched : ZE P w K mg base CX0 1 T.Yq T.Ye ["_law_boxes_here", "_law_by", "_law_off"] (lift K Yn) := UO T
 refine okD T.BY.F VZ (fun xs M Φ h => by obtain ⟨_, _, _, rfl, _⟩ := Yv h; rfl) fun cdv A outer s H E hr => ⟨_, (Zf (Zu 3 VZ.nd ((Jw hr) (Zb 1) Zk))
 (Zf (Zu 4 VZ.nd ((Jw hr) (Zb 1) Zk))
 (Zf (Zu 5 VZ.nd (Zl (Zo GX (Zo TU (Yb (Za Zk Zd)) (Zj Qu rfl T.Ju Qc (Za (Zb 3) Zd))) (Zb 3)) (Zg G_take (hr.mono (by first | decide | omega)) rfl T.Zh.m T.Zh.F.kp T.Zh.b Zp (Za (Zb 0) (Za (Zo Q6 Zc (Zj Qu rfl T.Ju Qc (Za (Zb 3) Zd))) Zd)))))
 (Zf (Zu 6 VZ.nd (Zg G_boxes (hr.mono (by first | decide | omega)) rfl T.Wy.m T.Wy.F.kp T.Wy.b Zp (Za (Zb 0) (Za (Zl (Jv (Za Zc (Za Zc (Za Zc (Za Zc Zd))))) (Zg G_take (hr.mono (by first | decide | omega)) rfl T.Zh.m T.Zh.F.kp T.Zh.b Zp (Za (Zb 0) (Za Zc Zd)))) Zd))))
 (Zf (Zu 7 VZ.nd (Zo BB (Zo Q6 (Zl (Jv (Za Zc (Za Zc (Za Zc (Za Zc (Za Zc Zd)))))) (Zg G_take (hr.mono (by first | decide | omega)) rfl T.Zh.m T.Zh.F.kp T.Zh.b Zp (Za (Zb 0) (Za Zc Zd)))) (Zb 4)) (Zl (Jv (Za Zc (Za Zc Zd))) (Zg G_take (hr.mono (by first | decide | omega)) rfl T.Zh.m T.Zh.F.kp T.Zh.b Zp (Za (Zb 0) (Za Zc Zd))))))
 (Zf (Zu 8 VZ.nd (Zl (Zb 3) (Zg G_take (hr.mono (by first | decide | omega)) rfl T.Zh.m T.Zh.F.kp T.Zh.b Zp (Za (Zb 0) (Za (Zj Qu rfl T.Ju Qc (Za (Zb 3) Zd)) Zd)))))
 (Zi (Zq (Qw (Za Zk (Za (Zb 2) (Za (Zb 8) (Za (Zb 5) (Za (Zg G_stretched (hr.mono (by first | decide | omega)) rfl T.J6.m T.J6.F.kp T.J6.b Zp (Za (Zb 6) (Za (Zb 4) (Za ((Jw hr) (Zb 1) Zk) Zd)))) (Za (Zb 7) Zd))))))))))))))), fun xs M Φ h => ?_⟩
 replace h := Yv h
 obtain ⟨x1, x2, x3, rfl, h⟩ := h
 replace h := Qd h
 obtain ⟨p, rfl, h⟩ := h
 replace h := Qd h
 obtain ⟨q, rfl, h⟩ := h
 replace h := ZN h
 obtain ⟨t, rfl, hw, n1, hp, h⟩ := h
 obtain ⟨f, ox, oy, bg, sp, ts, ls, hq, hf, hw⟩ := hw
 obtain ⟨_, _, _, hl, hn⟩ := hw
 walk_at "hd"
 walk_at "rk"
 simp only [hq, EF]
 walk_at "hd"
 walk_at "rk"
 simp only [hq, ZeP]
 walk_at "hd"
 walk_at "rk"
 intro g hg
 have ng : g ≠ p := Ne.symm (hp.ne hg)
 rw [Nn, ← List.length_append, Nn, List.length_map, List.length_map, List.length_append, List.length_replicate]
 refine ⟨by omega, by omega, .inl (by decide), ⟨by omega, by omega⟩, hp.put (Ne.symm ng), fun r1 M1 a1 b1 f1 => ?_⟩
 replace f1 := (Fr.new (Fr.refl hp) hg ng).trans f1
 refine tabS (fun s => s = Str.ofString "" ∨ Qi s) a1 (by rw [List.length_append, List.length_replicate]; omega) (fun s hs => ?_) fun ou ho => ?_
 ·rcases List.mem_append.mp hs with hs | hs
  ·exact .inl (List.eq_of_mem_replicate hs)
  ·exact .inr (hn s hs)
 walk_at "hd"
 walk_at "rk"
 refine ⟨f1.1, fun r2 M2 a2 b2 f2 => tab (l := [3, 3, 3, 6]) (fun t => 1 ≤ t ∧ t ≤ 6) a2 (by simp only [List.length_cons, List.length_nil]; omega) (by decide) fun m hm => ?_⟩
 walk_at "rk"
 refine ⟨hm, f2.1, fun bs M3 hb f3 => ?_⟩
 walk_at "hd"
 walk_at "rk"
 refine ⟨f3.1, fun r4 M4 a4 b4 f4 => tab (l := [0, 0, 1, 2, 3]) (fun t => 0 ≤ t ∧ t ≤ 3) a4 (by simp only [List.length_cons, List.length_nil]; omega) (by decide) fun wb hwb => ?_⟩
 walk_at "rk"
 refine ⟨.inl (by omega), f4.1, fun r5 M5 a5 b5 f5 => tab (l := [1, 2]) (fun t => t = 1 ∨ t = 2) a5 (by simp only [List.length_cons, List.length_nil]; omega) (by decide) fun dv hdv => ?_⟩
 walk_at "rk"
 replace hdv : dv = 1 ∨ dv = 2 := hdv
 refine ⟨⟨by omega, by omega⟩, ?_⟩
 walk_at "hd"
 walk_at "rk"
 rw [List.length_map]
 refine ⟨⟨by omega, by omega⟩, f5.1, fun r6 M6 a6 b6 f6 => ?_⟩
 have F := ((((f1.trans f2).trans f3).trans f4).trans f5).trans f6
 refine tabS Qi a6 b6 hn fun nm hnm => ?_
 subst_vars
 walk_at "rk"
 simp only [F.own hq n1, RQ]
 walk_at "rk"
 exact ⟨hb, h nm ou bs f ox oy _ _ hnm ho hb hf (Sv hwb.1 hwb.2 hf.1 hdv) F⟩
theorem C1 (T : Tx K mg) : ZE P w K mg base CX0 4 T.Kb T.Kj ["_law_pen", "_law_world_here"] (lift K X9) := by
 have G_take : ZE P w K mg base CX0 1 T.Vn T.Vj ["_law_pen", "_law_many"] (lift K Vk) := JO T
 have G_land : ZE P w K mg base CX0 3 T.Fx T.Fc ["_law_pen", "_law_world_here", "_law_time"] (lift K Fi) := RT T
 have G_spot : ZE P w K mg base CX0 3 T.FC T.Dl ["_law_pen", "_law_world_here"] (lift K Dm) := Rp T
 refine okD T.Yz.F VR (fun xs M Φ h => by obtain ⟨_, _, rfl, _⟩ := QJ h; rfl) fun cdv A outer s H E hr => ⟨_, (Zf (Zu 2 VR.nd (Zg G_take (hr.mono (by first | decide | omega)) rfl T.Zh.m T.Zh.F.kp T.Zh.b Zp (Za (Zb 0) (Za Zc Zd))))
 (Zf (Zu 3 VR.nd (Zo ZI ((Jw hr) (Zb 1) Zk) (Zg G_take (hr.mono (by first | decide | omega)) rfl T.Zh.m T.Zh.F.kp T.Zh.b Zp (Za (Zb 0) (Za ((Jw hr) (Zb 1) Zk) Zd)))))
 (Zf (Zu 4 VR.nd (Zl ((Jw hr) (Zb 1) Zk) (Zg G_take (hr.mono (by first | decide | omega)) rfl T.Zh.m T.Zh.F.kp T.Zh.b Zp (Za (Zb 0) (Za (Zj Qu rfl T.Ju Qc (Za ((Jw hr) (Zb 1) Zk) Zd)) Zd)))))
 (Zf (Ql (ZJ HW (Zb 2) Zc) (Zi (Zq (Zg G_land (hr.mono (by first | decide | omega)) rfl T.BY.m T.BY.F.kp T.BY.b Zp (Za (Zb 0) (Za (Zb 1) (Za (Zb 3) Zd)))))) Zz)
 (Zf (Ql (ZJ (VT hr) (Zb 2) Zc) (Zi (Zq (Qw (Za Zk (Za (Zb 3) (Za (Zl ((Jw hr) (Zb 1) Zk) (Zg G_take (hr.mono (by first | decide | omega)) rfl T.Zh.m T.Zh.F.kp T.Zh.b Zp (Za (Zb 0) (Za (Zj Qu rfl T.Ju Qc (Za ((Jw hr) (Zb 1) Zk) Zd)) Zd)))) Zd)))))) Zz)
 (Zf (Ql (ZJ (VT hr) (Zb 2) Zc) (Zi (Zq (Qw (Za Zk (Za (Zb 3) (Za (Zb 4) Zd)))))) Zz)
 (Zi (Zq (Qw (Za Zk (Za (Zb 3) (Za (Zb 4) (Za (Zg G_spot (hr.mono (by first | decide | omega)) rfl T.Cb.m T.Cb.F.kp T.Cb.b Zp (Za (Zb 0) (Za (Zb 1) Zd))) Zd))))))))))))), fun xs M Φ h => ?_⟩
 replace h := QJ h
 obtain ⟨x1, x2, rfl, h⟩ := h
 replace h := Qd h
 obtain ⟨p, rfl, h⟩ := h
 replace h := Qd h
 obtain ⟨q, rfl, hw, n1, hp, h⟩ := h
 obtain ⟨f, ox, oy, bg, sp, ts, ls, hq, hf, hbg, hsp, hts, hls⟩ := id hw
 walk_at "hd"
 walk_at "rk"
 refine ⟨hp, fun r M1 a1 b1 f1 => ?_⟩
 have hq1 := f1.own hq n1
 walk_at "hd"
 walk_at "rk"
 simp only [hq1, RC, ZbR]
 walk_at "rk"
 refine ⟨⟨by omega, by omega⟩, f1.1, fun r2 M2 a2 b2 f2 => ?_⟩
 have hq2 := f2.own hq1 n1
 have hl1 := hts.1
 have hl2 := hls.1
 walk_at "hd"
 walk_at "rk"
 simp only [hq2, MR]
 walk_at "rk"
 rw [List.length_map]
 refine ⟨⟨by omega, by omega⟩, f2.1, fun r3 M3 a3 b3 f3 => tabS (l := ts) Qi a3 b3 hts.2 fun nm hnm => ?_⟩
 have hq3 := f3.own hq2 n1
 have F3 := (f1.trans f2).trans f3
 have hw3 := hw.fr F3 n1
 have ht : 0 ≤ bg + r2 ∧ bg + r2 ≤ 1000000000000 := by omega
 walk_at "hd"
 walk_at "rk"
 refine Zm (fun z => ?_) fun z => ?_
 ·refine ⟨hw3, n1, f3.1, fun ln ou bs f' ox' oy' wb M4 hln hou hbs hf' hwb f4 => ?_⟩
  exact h _ M4 ⟨_, _, ln, _, rfl, ht, hln, .inl ⟨rfl, ou, _, wb, rfl, hou, Oo hbs hf', hwb⟩⟩ (F3.trans f4)
 ·walk_at "hd"
  walk_at "rk"
  refine Zm (fun z1 => ?_) fun z1 => ?_
  ·simp only [hq3, EF]
   walk_at "rk"
   rw [List.length_map]
   refine ⟨⟨by omega, by omega⟩, f3.1, fun r4 M4 a4 b4 f4 => tabS (l := ls) Qi a4 b4 hls.2 fun ln hln => ?_⟩
   exact h _ M4 ⟨_, _, ln, [], rfl, ht, hln, .inr (.inr ⟨.inl rfl, rfl⟩)⟩ (F3.trans f4)
  ·walk_at "hd"
   walk_at "rk"
   refine Zm (fun z2 => ?_) fun z2 => ?_
   ·exact h _ M3 ⟨_, _, nm, [], rfl, ht, hnm, .inr (.inr ⟨.inr rfl, rfl⟩)⟩ F3
   ·subst_vars
    walk_at "rk"
    refine ⟨hw3, n1, f3.1, fun u v M4 hu hv f4 => ?_⟩
    exact h _ M4 ⟨_, _, nm, _, rfl, ht, hnm, .inr (.inl ⟨rfl, u, v, rfl, hu, hv⟩)⟩ (F3.trans f4)
theorem Xq (T : Tx K mg) : ZE P w K mg base CX0 1 T.Vf T.J7 ["spot"] (lift K VF) := by
 refine okD T.Qn.F U4 (fun xs M Φ h => by obtain ⟨_, rfl, _⟩ := Zn h; rfl) fun cdv A outer s H E hr => ⟨_, (Zi (Zq (Vv Zk (XG false (Zw (sc := Ze Qp) (XN := ["spot"]) (N := ["number"]) (ix := [none]) rfl rfl (by decide +kernel)) (U5 (Zb 0)) (fun C ex s H => (Zv 0 (show List.Nodup (["number"] : List Str) by decide +kernel))) (fun C ex s H => ZS) (fun C ex s H => (ZD Vc rfl T.Ka Vo (Za (Zb 0) Zd))) rfl)))), fun xs M Φ h => ?_⟩
 replace h := Zn h
 obtain ⟨x1, rfl, h⟩ := h
 replace h := EX h
 obtain ⟨u, v, rfl, ⟨hu, hv⟩, h⟩ := h
 walk_at "rk"
 exact ⟨QG hu, QG hv, [JC u, JC v], rfl, jk ln1.1 (by simp) (by decide : 50 ≤ 3000) (Jm (QX hu).2 (QX hv).2), h⟩
theorem GC (T : Tx K mg) : ZE P w K mg base CX0 2 T.Xf T.YW ["box"] (lift K Kf) := by
 have G_show_spot : ZE P w K mg base CX0 1 T.Vf T.J7 ["spot"] (lift K VF) := Xq T
 refine okD T.VJ.F GG (fun xs M Φ h => by obtain ⟨_, rfl, _⟩ := Zn h; rfl) fun cdv A outer s H E hr => ⟨_, (Zi (Zq (Vv Zk (XG false (Zw (sc := Ze QM) (XN := ["box"]) (N := ["spot"]) (ix := [none]) rfl rfl (by decide +kernel)) (U5 (Zb 0)) (fun C ex s H => (Zv 0 (show List.Nodup (["spot"] : List Str) by decide +kernel))) (fun C ex s H => ZS) (fun C ex s H => (Zg G_show_spot (hr.mono (by first | decide | omega)) rfl T.Qn.m T.Qn.F.kp T.Qn.b Zp (Za (Zb 0) Zd))) rfl)))), fun xs M Φ h => ?_⟩
 replace h := Zn h
 obtain ⟨x1, rfl, h⟩ := h
 replace h := KW h
 obtain ⟨b, rfl, hb, h⟩ := h
 have h1 := hb.2.1
 have h2 := hb.2.2
 walk_at "rk"
 exact ⟨⟨h1.1.big, h1.2.big⟩, ⟨h2.1.big, h2.2.big⟩, [Jy b.x b.y, Jy b.X b.Y], rfl, jk ln1.2.1 (by simp) (by decide : 102 ≤ 3000) (Jm (Q1 h1.1.big h1.2.big) (Q1 h2.1.big h2.2.big)), h⟩
theorem Cz (T : Tx K mg) : ZE P w K mg base CX0 3 T.XX T.X8 ["telling"] (lift K Wq) := by
 have G_show_spot : ZE P w K mg base CX0 1 T.Vf T.J7 ["spot"] (lift K VF) := Xq T
 have G_show_box : ZE P w K mg base CX0 2 T.Xf T.YW ["box"] (lift K Kf) := GC T
 refine okD T.Yx.F Y1 (fun xs M Φ h => by obtain ⟨_, rfl, _⟩ := Zn h; rfl) fun cdv A outer s H E hr => ⟨_, (Zf (Ql (ZJ (VT hr) (Zl (Zb 0) Zc) Zk) (Zf (Zu 1 Y1.nd (Jv (Za (Zl (Zb 0) Zc) (Za (ZD Vc rfl T.Ka Vo (Za (Zl (Zb 0) Zc) Zd)) (Za (Zl (Zb 0) Zc) (Za (Zav (Zl (Zb 0) Zc) (QZ Zk)) (Za (ZD Vc rfl T.Ka Vo (Za (Zl (Zb 0) Zc) Zd)) Zd)))))))
 (Zi (Zq (Vv Zk (Zo GX (Zb 1) (Qf false (Zw (sc := Ze QY) (XN := ["telling", "words"]) (N := ["box"]) (ix := [none]) rfl rfl (by decide +kernel)) (U5 (Zl (Zb 0) Zc)) (fun C ex s H => (Zv 0 (show List.Nodup (["box"] : List Str) by decide +kernel))) (fun C ex s H => ZS) (fun C ex s H => (Zg G_show_box (hr.mono (by first | decide | omega)) rfl T.VJ.m T.VJ.F.kp T.VJ.b Zp (Za (Zb 0) Zd))) rfl)))))) Zz)
 (Zf (Zu 1 Y1.nd (Jv (Za (Zl (Zb 0) Zc) (Za (ZD Vc rfl T.Ka Vo (Za (Zl (Zb 0) Zc) Zd)) (Za (Zl (Zb 0) Zc) Zd)))))
 (Zi (Zq (Vv Zk (Zo GX (Zb 1) (XG false (Zw (sc := Ze QY) (XN := ["telling", "words"]) (N := ["spot"]) (ix := [none]) rfl rfl (by decide +kernel)) (U5 (FR (Zb 0) (Ym Zc) XO)) (fun C ex s H => (Zv 0 (show List.Nodup (["spot"] : List Str) by decide +kernel))) (fun C ex s H => ZS) (fun C ex s H => (Zg G_show_spot (hr.mono (by first | decide | omega)) rfl T.Qn.m T.Qn.F.kp T.Qn.b Zp (Za (Zb 0) Zd))) rfl))))))), fun xs M Φ h => ?_⟩
 replace h := Zn h
 obtain ⟨x1, rfl, h⟩ := h
 obtain ⟨t, rfl, ht, h⟩ := h
 have hj := Fz ht
 cases t with
 | land t nm ou bs wb =>
  obtain ⟨k, ho, hs, hw⟩ := ht
  have len := List.length_map (as := bs) bD
  have l6 := hs.1
  have bw : Big wb := by unfold Big; omega
  unfold tlD
  walk_at "hd"
  walk_at "rk"
  unfold Jb at h
  rw [YU] at h hj
  rcases YE ho with ⟨e0, e⟩ | ⟨n, e⟩
  ·rw [e] at h hj
   refine ⟨QG (VU k), by rw [e0]; decide +kernel, ?_⟩
   rw [if_pos (by rw [e0]; decide +kernel)]
   refine ⟨QG bw, by omega, fun i acc M' => acc = ((bs.take i).map Ul).map PyData.str ∧ M' = M, ⟨rfl, rfl⟩, ?_, ?_⟩
   ·rintro i d acc M' hd ⟨rfl, rfl⟩
    obtain ⟨b, eb, rfl⟩ := QT hd
    walk_at "rk"
    refine ⟨hs.2.2 b (List.mem_of_getElem? eb), ?_⟩
    rw [List.map_map, List.map_map, ← take_snoc _ eb]
    first | exact ⟨rfl, rfl⟩ | rfl
   ·rintro acc M' ⟨rfl, rfl⟩
    rw [len, List.take_length]
    exact ⟨by rw [List.length_map, List.length_map]; omega, _, rfl, hj, h⟩
  ·rw [e] at h hj
   refine ⟨QG (VU k), by have := n.1; omega, ?_⟩
   rw [if_neg (by have := n.1; omega)]
   refine ⟨QG bw, by omega, fun i acc M' => acc = ((bs.take i).map Ul).map PyData.str ∧ M' = M, ⟨rfl, rfl⟩, ?_, ?_⟩
   ·rintro i d acc M' hd ⟨rfl, rfl⟩
    obtain ⟨b, eb, rfl⟩ := QT hd
    walk_at "rk"
    refine ⟨hs.2.2 b (List.mem_of_getElem? eb), ?_⟩
    rw [List.map_map, List.map_map, ← take_snoc _ eb]
    first | exact ⟨rfl, rfl⟩ | rfl
   ·rintro acc M' ⟨rfl, rfl⟩
    rw [len, List.take_length]
    exact ⟨by rw [List.length_map, List.length_map]; omega, _, rfl, hj, h⟩
 | spot t nm u v =>
  unfold tlD
  walk_at "hd"
  walk_at "rk"
  rw [decide_eq_false ZdZ.1.1, if_neg Bool.false_ne_true]
  subst_vars
  walk_at "rk"
  rw [Zex]
  walk_at "rk"
  exact ⟨QG (VU ht.1), by decide, ⟨ht.2.1.big, ht.2.2.big⟩, Qk (.spot t nm u v), rfl, hj, h⟩
 | off w t nm =>
  have nl : w ≠ Str.ofString "land" := by
   rcases ht.2 with rfl | rfl
   ·exact ZdZ.1.2.1
   ·exact ZdZ.1.2.2
  unfold tlD
  walk_at "hd"
  walk_at "rk"
  rw [decide_eq_false nl, if_neg Bool.false_ne_true]
  subst_vars
  walk_at "rk"
  rw [Zex]
  walk_at "rk"
  exact ⟨QG (VU ht.1), by decide, Qk (.off w t nm), rfl, hj, h⟩
theorem Xx (T : Tx K mg) : ZE P w K mg base CX0 4 T.Jp T.Jn ["tellings"] (lift K Kn) := by
 have G_line_of : ZE P w K mg base CX0 3 T.XX T.X8 ["telling"] (lift K Wq) := Cz T
 refine okD T.ZP.F Xv (fun xs M Φ h => by obtain ⟨_, rfl, _⟩ := Zn h; rfl) fun cdv A outer s H E hr => ⟨_, (Zi (Zq (Vv Zk (Qf false (Zw (sc := Ze ZO) (XN := ["tellings"]) (N := ["telling"]) (ix := [none]) rfl rfl (by decide +kernel)) (V4 (Zb 0)) (fun C ex s H => (Zv 0 (show List.Nodup (["telling"] : List Str) by decide +kernel))) (fun C ex s H => ZS) (fun C ex s H => (Zg G_line_of (hr.mono (by first | decide | omega)) rfl T.Yx.m T.Yx.F.kp T.Yx.b Zp (Za (Zb 0) Zd))) rfl)))), fun xs M Φ h => ?_⟩
 replace h := Zn h
 obtain ⟨x1, rfl, h⟩ := h
 obtain ⟨ts, rfl, hts, h⟩ := h
 have len := List.length_map (as := ts) tlD
 have hl := hts.1
 walk_at "rk"
 refine ⟨by omega, fun i acc M' => acc = ((ts.take i).map Jb).map PyData.str ∧ M' = M, ⟨rfl, rfl⟩, ?_, ?_⟩
 ·rintro i d acc M' hd ⟨rfl, rfl⟩
  obtain ⟨x, ex, rfl⟩ := QT hd
  walk_at "rk"
  refine ⟨x, rfl, hts.2 x (List.mem_of_getElem? ex), ?_⟩
  rw [List.map_map, List.map_map, ← take_snoc _ ex]
  first | exact ⟨rfl, rfl⟩ | rfl
 ·rintro acc M' ⟨rfl, rfl⟩
  rw [len, List.take_length]
  refine ⟨ts.map Jb, rfl, jk ln1.2.2.2 (by rw [List.length_map]; omega) (by decide : 2400 ≤ 3000) fun s hs => ?_, h⟩
  obtain ⟨x, hx, rfl⟩ := List.mem_map.mp hs
  exact Xz (hts.2 x hx)
theorem Kw (T : Tx K mg) : ZE P w K mg base CX0 1 T.J3 T.J2 ["text"] (lift K D4) := by
 refine okD T.Ja.F Ku (fun xs M Φ h => by obtain ⟨_, rfl, _⟩ := Zn h; rfl) fun cdv A outer s H E hr => ⟨_, (Zi (Zq (Qh (YL Y3 Y3 Zc (Zj GP rfl T.Ju Qc (Za (Zb 0) Zd)) (VL rfl T.Kz)) (QZ (Zj (Cd rfl) rfl T.Lc Cj (Za (Qf false (Zw (sc := Ze Z6) (XN := ["text"]) (N := ["sign"]) (ix := [none]) rfl rfl (by decide +kernel)) (Nl (Zb 0)) (fun C ex s H => (Zv 0 (show List.Nodup (["sign"] : List Str) by decide +kernel))) (fun C ex s H => ZS) (fun C ex s H => (YL B6 B6 Zk (Zb 0) Zk)) rfl) Zd)))))), fun xs M Φ h => ?_⟩
 replace h := Zn h
 obtain ⟨x1, rfl, h⟩ := h
 replace h := Z4 h
 obtain ⟨s, rfl, hl, h⟩ := h
 walk_at "rk"
 refine ⟨by omega, Zm (fun h1 => Zm (fun h2 => ?_) fun h2 => ?_) fun h1 => ?_⟩
 ·have e : KI s = s.cps.toList.all RP := by
   unfold KI
   rw [decide_eq_true (show 1 ≤ s.length by omega), decide_eq_true (show s.length ≤ 60 by omega)]
   rfl
  rw [e] at h
  refine ⟨by rw [List.length_map, str_len]; omega, fun i acc M' => acc = ((s.cps.toList.take i).map RP).map PyData.bool ∧ M' = M, ⟨rfl, rfl⟩, ?_, ?_⟩
  ·rintro i d acc M' hd ⟨rfl, rfl⟩
   obtain ⟨c, ec, rfl⟩ := QT hd
   unfold Hj
   walk_at "rk"
   rw [Zdh, ZdO]
   refine Zm (fun h3 => ?_) fun h3 => ?_
   ·rw [← take_snoc _ ec, List.map_append]
    simp [RP, h3]
   ·rw [← take_snoc _ ec, List.map_append]
    simp [RP, h3]
  ·rintro acc M' ⟨rfl, rfl⟩
   refine ⟨_, rfl, ?_⟩
   rw [List.length_map, List.take_length, List.all_map]
   exact h
 ·rw [Hh (.inr (by omega))] at h
  exact h
 ·rw [Hh (.inl (by omega))] at h
  exact h
theorem Xj (T : Tx K mg) : ZE P w K mg base CX0 2 T.Vi T.Vh ["word"] (lift K XA) := by
 have G_are_figures : ZE P w K mg base CX0 1 T.J3 T.J2 ["text"] (lift K D4) := Kw T
 refine okD T.Zx.F Xp (fun xs M Φ h => by obtain ⟨_, rfl, _⟩ := Zn h; rfl) fun cdv A outer s H E hr => ⟨_, (Zf (Zu 1 Xp.nd (Rf (JS (Ge (Zb 0) Zk)) (YC (Zb 0) (Ym Zc) XO) (Zb 0)))
 (Zf (Ql (DW.dt (Br (Vm (JS (Zg G_are_figures (hr.mono (by first | decide | omega)) rfl T.Ja.m T.Ja.F.kp T.Ja.b Zp (Za (Zb 1) Zd)))) (X3 (DW.dt (Wf (JS (Ge (Zb 1) Zk)) (Xe (ZJ (Za3 hr) (Zb 0) Zk))))))) (Zi (Zq K8)) Zz)
 (Zi (Zq (ZD Rr rfl T.P4 Dz (Za (Zb 0) Zd)))))), fun xs M Φ h => ?_⟩
 replace h := Zn h
 obtain ⟨x1, rfl, h⟩ := h
 obtain ⟨i, rfl, hi, h⟩ := h
 have hl := QX hi
 have hr := FY hi
 have m0 : Str.ofString "-" = sg1 45 := Qm (by decide +kernel)
 have m1 : Str.ofString "0" = sg1 48 := Qm (by decide +kernel)
 walk_at "hd"
 walk_at "rk"
 rw [m0, Bf]
 rcases Mt hi with ⟨_, f1, f2, f3⟩ | ⟨z, f1, f2, f3⟩
 ·rw [decide_eq_false f1, if_neg Bool.false_ne_true]
  walk_at "hd"
  walk_at "rk"
  refine ⟨by omega, Oa f2 (fun e => ?_) ?_⟩
  ·rw [m1, Bf] at e
   rw [f3 (of_decide_eq_true e)]
   exact Qm (by decide +kernel)
  ·subst_vars
   walk_at "rk"
   exact ⟨i, hr, by omega, h⟩
 ·rw [decide_eq_true (by rw [f1]; rfl), if_pos rfl]
  refine ⟨by omega, ?_⟩
  rw [Mc f1]
  have hz : z.length ≤ 1000 := by
   have := hl.2
   rw [← str_len, f1, List.length_cons, str_len] at this
   omega
  walk_at "hd"
  walk_at "rk"
  refine ⟨hz, Oa f2 (fun e => ?_) ?_⟩
  ·rw [m1, Bf] at e
   exact absurd (of_decide_eq_true e) f3
  ·subst_vars
   walk_at "rk"
   exact ⟨i, hr, by omega, h⟩
theorem Xl (T : Tx K mg) : ZE P w K mg base CX0 3 T.J4 T.Vg ["word"] (lift K VS) := by
 have G_number_of : ZE P w K mg base CX0 2 T.Vi T.Vh ["word"] (lift K XA) := Xj T
 refine okD T.Qo.F Us (fun xs M Φ h => by obtain ⟨_, rfl, _⟩ := Zn h; rfl) fun cdv A outer s H E hr => ⟨_, (Zi (Zq (ZD QO rfl T.Jt QI (Za (Qf false (Zw (sc := Ze Qq) (XN := ["word"]) (N := ["part"]) (ix := [none]) rfl rfl (by decide +kernel)) (V4 (Xy (Zb 0) Zk)) (fun C ex s H => (Zv 0 (show List.Nodup (["part"] : List Str) by decide +kernel))) (fun C ex s H => ZS) (fun C ex s H => (Zg G_number_of (hr.mono (by first | decide | omega)) rfl T.Zx.m T.Zx.F.kp T.Zx.b Zp (Za (Zb 0) Zd))) rfl) Zd)))), fun xs M Φ h => ?_⟩
 replace h := Zn h
 obtain ⟨x1, rfl, h⟩ := h
 obtain ⟨u, v, rfl, ⟨hu, hv⟩, h⟩ := h
 walk_at "rk"
 rw [HG]
 refine ⟨⟨by decide +kernel, by have := Q1 hu hv; omega⟩, by simp, fun i acc M' => acc = (([u, v] : List Int).take i).map PyData.int ∧ M' = M, ⟨rfl, rfl⟩, ?_, ?_⟩
 ·rintro i d acc M' hd ⟨rfl, rfl⟩
  have hd' : ([u, v].map fun i => PyData.str (JC i))[i]? = some d := hd
  obtain ⟨x, ex, rfl⟩ := QT hd'
  walk_at "rk"
  refine ⟨x, rfl, Jm hu hv x (List.mem_of_getElem? ex), ?_⟩
  rw [← take_snoc _ ex]
 ·rintro acc M' ⟨rfl, rfl⟩
  exact h
theorem BE (T : Tx K mg) : ZE P w K mg base CX0 4 T.Xb T.YV ["word"] (lift K X1) := by
 have G_read_spot : ZE P w K mg base CX0 3 T.J4 T.Vg ["word"] (lift K VS) := Xl T
 refine okD T.VI.F G2 (fun xs M Φ h => by obtain ⟨_, rfl, _⟩ := Zn h; rfl) fun cdv A outer s H E hr => ⟨_, (Zi (Zq (ZD QO rfl T.Jt QI (Za (Qf false (Zw (sc := Ze QW) (XN := ["word"]) (N := ["part"]) (ix := [none]) rfl rfl (by decide +kernel)) (V4 (Xy (Zb 0) Zk)) (fun C ex s H => (Zv 0 (show List.Nodup (["part"] : List Str) by decide +kernel))) (fun C ex s H => ZS) (fun C ex s H => (Zg G_read_spot (hr.mono (by first | decide | omega)) rfl T.Qo.m T.Qo.F.kp T.Qo.b Zp (Za (Zb 0) Zd))) rfl) Zd)))), fun xs M Φ h => ?_⟩
 replace h := Zn h
 obtain ⟨x1, rfl, h⟩ := h
 obtain ⟨b, rfl, hb, h⟩ := h
 have h1 := hb.2.1
 have h2 := hb.2.2
 walk_at "rk"
 rw [Oq]
 refine ⟨⟨by decide +kernel, by have := BZ hb; omega⟩, by simp, fun i acc M' => acc = ([(b.x, b.y), (b.X, b.Y)].take i).map (fun p => PyData.tuple [.int p.1, .int p.2]) ∧ M' = M, ⟨rfl, rfl⟩, ?_, ?_⟩
 ·rintro i d acc M' hd ⟨rfl, rfl⟩
  have hd' : ([(b.x, b.y), (b.X, b.Y)].map fun p => PyData.str (Jy p.1 p.2))[i]? = some d := hd
  obtain ⟨x, ex, rfl⟩ := QT hd'
  walk_at "rk"
  refine ⟨x.1, x.2, rfl, Jm (P := fun x : Int × Int => Big x.1 ∧ Big x.2) ⟨h1.1.big, h1.2.big⟩ ⟨h2.1.big, h2.2.big⟩ x (List.mem_of_getElem? ex), ?_⟩
  rw [← take_snoc _ ex]
 ·rintro acc M' ⟨rfl, rfl⟩
  exact h
theorem WO (T : Tx K mg) : ZE P w K mg base CX0 1 T.Vt T.Vw ["word"] (lift K Yj) := by
 refine okD T.JF.F Wg (fun xs M Φ h => by obtain ⟨_, rfl, _⟩ := Zn h; rfl) fun cdv A outer s H E hr => ⟨_, (Zf (Ql (ZJ (VT hr) (Zb 0) Zk) (Zi (Zq K8)) Zz)
 (Zi (Zq (Rf (ZJ (VT hr) (Zb 0) Zk) Zk (Zb 0))))), fun xs M Φ h => ?_⟩
 replace h := Zn h
 obtain ⟨x1, rfl, h⟩ := h
 obtain ⟨ou, rfl, ho, h⟩ := h
 have n0 : Str.ofString "-" ≠ Str.ofString "" := fun e => absurd (congrArg (fun s : Str => s.cps.toList) e) (by decide +kernel)
 rcases YE ho with ⟨e0, e⟩ | ⟨n, e⟩
 ·rw [e0] at h
  rw [e]
  walk_at "hd"
  walk_at "rk"
  rw [decide_eq_false n0, if_neg Bool.false_ne_true]
  subst_vars
  walk_at "rk"
  exact h
 ·have n1 : ou ≠ Str.ofString "" := fun z => by
   have := n.1
   rw [z] at this
   exact absurd this (by decide +kernel)
  have n2 : ou ≠ Str.ofString "-" := fun z => by
   have := n.2 45 (by rw [z]; decide +kernel)
   omega
  rw [e]
  walk_at "hd"
  walk_at "rk"
  rw [decide_eq_false n1, if_neg Bool.false_ne_true]
  subst_vars
  walk_at "rk"
  rw [decide_eq_false n2, if_neg Bool.false_ne_true]
  exact h
theorem WJ (T : Tx K mg) : ZE P w K mg base CX0 5 T.VD T.Vx ["words"] (lift K V0) := by
 have G_number_of : ZE P w K mg base CX0 2 T.Vi T.Vh ["word"] (lift K XA) := Xj T
 have G_read_outer : ZE P w K mg base CX0 1 T.Vt T.Vw ["word"] (lift K Yj) := WO T
 have G_read_spot : ZE P w K mg base CX0 3 T.J4 T.Vg ["word"] (lift K VS) := Xl T
 have G_read_box : ZE P w K mg base CX0 4 T.Xb T.YV ["word"] (lift K X1) := BE T
 refine okD T.JK.F YI (fun xs M Φ h => by obtain ⟨_, rfl, _⟩ := Zn h; rfl) fun cdv A outer s H E hr => ⟨_, (Zf (Ql (DW.dt (Wf (ZJ (VW hr) (Zl (Zb 0) Zc) Zk) (Xe (ZJ OR (Zj Qu rfl T.Ju Qc (Za (Zb 0) Zd)) Zc)))) (Zf (Zu 1 YI.nd (ZD QO rfl T.Jt QI (Za (Qf false (Zw (sc := Ze Qb) (XN := ["words", "shape"]) (N := ["word"]) (ix := [none]) rfl rfl (by decide +kernel)) (V4 (Et (Zb 0) (Ym Zc) XO)) (fun C ex s H => (Zv 0 (show List.Nodup (["word"] : List Str) by decide +kernel))) (fun C ex s H => ZS) (fun C ex s H => (Zg G_read_box (hr.mono (by first | decide | omega)) rfl T.VI.m T.VI.F.kp T.VI.b Zp (Za (Zb 0) Zd))) rfl) Zd)))
 (Zi (Zq (Qw (Za Zk (Za (Zg G_number_of (hr.mono (by first | decide | omega)) rfl T.Zx.m T.Zx.F.kp T.Zx.b Zp (Za (Zl (Zb 0) Zc) Zd)) (Za (Zl (Zb 0) Zc) (Za (Zg G_read_outer (hr.mono (by first | decide | omega)) rfl T.JF.m T.JF.F.kp T.JF.b Zp (Za (Zl (Zb 0) Zc) Zd)) (Za (Zb 1) (Za (Zg G_number_of (hr.mono (by first | decide | omega)) rfl T.Zx.m T.Zx.F.kp T.Zx.b Zp (Za (Zl (Zb 0) Zc) Zd)) Zd)))))))))) Zz)
 (Zf (Ql (DW.dt (Wf (ZJ (VW hr) (Zl (Zb 0) Zc) Zk) (Xe (ZJ (VT hr) (Zj Qu rfl T.Ju Qc (Za (Zb 0) Zd)) Zc)))) (Zi (Zq (Qw (Za Zk (Za (Zg G_number_of (hr.mono (by first | decide | omega)) rfl T.Zx.m T.Zx.F.kp T.Zx.b Zp (Za (Zl (Zb 0) Zc) Zd)) (Za (Zl (Zb 0) Zc) (Za (Zg G_read_spot (hr.mono (by first | decide | omega)) rfl T.Qo.m T.Qo.F.kp T.Qo.b Zp (Za (Zl (Zb 0) Zc) Zd)) Zd))))))) Zz)
 (Zf (Ql (DW.dt (Wf (ZJ (NZ hr) (Zl (Zb 0) Zc) (Qw (Za Zk (Za Zk Zd)))) (Xe (ZJ (VT hr) (Zj Qu rfl T.Ju Qc (Za (Zb 0) Zd)) Zc)))) (Zi (Zq (Qw (Za (Zl (Zb 0) Zc) (Za (Zg G_number_of (hr.mono (by first | decide | omega)) rfl T.Zx.m T.Zx.F.kp T.Zx.b Zp (Za (Zl (Zb 0) Zc) Zd)) (Za (Zl (Zb 0) Zc) Zd)))))) Zz)
 (Zi (Zq K8))))), fun xs M Φ h => ?_⟩
 replace h := Zn h
 obtain ⟨x1, rfl, h⟩ := h
 obtain ⟨t, rfl, ht, h⟩ := h
 cases t with
 | land t nm ou bs wb =>
  obtain ⟨k, ho, hs, hw⟩ := ht
  have l6 := hs.1
  have bw : Big wb := by unfold Big; omega
  have len : (List.map PyData.str (List.map Ul bs)).length = bs.length := by rw [List.length_map, List.length_map]
  rw [YU]
  walk_at "hd"
  walk_at "rk"
  rw [ZcM, if_pos rfl, Zf5]
  refine Zm (fun _ => ?_) fun z => absurd (by omega) z
  refine ⟨by omega, fun i acc M' => acc = (bs.take i).map bD ∧ M' = M, ⟨rfl, rfl⟩, ?_, ?_⟩
  ·rintro i d acc M' hd ⟨rfl, rfl⟩
   rw [List.map_map] at hd
   obtain ⟨b, eb, rfl⟩ := QT hd
   exact ⟨b, rfl, hs.2.2 b (List.mem_of_getElem? eb), take_snoc _ eb, rfl⟩
  ·rintro acc M' ⟨rfl, rfl⟩
   rw [len, List.take_length]
   exact ⟨t, rfl, VU k, ou, rfl, ho, wb, rfl, bw, h⟩
 | spot t nm u v =>
  unfold Qk
  walk_at "hd"
  walk_at "rk"
  rw [ZcK, if_neg Bool.false_ne_true]
  walk_at "hd"
  walk_at "rk"
  rw [Zdw, if_pos rfl]
  exact ⟨t, rfl, VU ht.1, u, v, rfl, ⟨ht.2.1.big, ht.2.2.big⟩, h⟩
 | off w t nm =>
  have nw : (isS (.str w) (Str.ofString "land") = false ∧ isS (.str w) (Str.ofString "spot") = false) ∧ [Str.ofString "drop", Str.ofString "free"].any (isS (.str w)) = true := by
   rcases ht.2 with rfl | rfl
   ·exact ⟨Zck, by decide +kernel⟩
   ·exact ⟨Zcf, by decide +kernel⟩
  unfold Qk
  walk_at "hd"
  walk_at "rk"
  rw [nw.1.1, if_neg Bool.false_ne_true]
  walk_at "hd"
  walk_at "rk"
  rw [nw.1.2, if_neg Bool.false_ne_true]
  walk_at "hd"
  walk_at "rk"
  refine ⟨[Str.ofString "drop", Str.ofString "free"], rfl, ?_⟩
  rw [nw.2, if_pos rfl]
  exact ⟨t, rfl, VU ht.1, h⟩
theorem Wt (T : Tx K mg) : ZE P w K mg base CX0 7 T.Vz T.Vp ["line"] (lift K Yc) := by
 have G_read_words : ZE P w K mg base CX0 5 T.VD T.Vx ["words"] (lift K V0) := WJ T
 have G_is_telling : ZE P w K mg base CX0 6 T.Vr T.Vq ["thing"] (lift K EU) := WX T
 refine okD T.Jz.F YJ (fun xs M Φ h => by obtain ⟨_, rfl, _⟩ := Zn h; rfl) fun cdv A outer s H E hr => ⟨_, (Zf (Zu 1 YJ.nd (Zg G_read_words (hr.mono (by first | decide | omega)) rfl T.JK.m T.JK.F.kp T.JK.b Zp (Za (Xy (Zb 0) Zk) Zd)))
 (Zi (Zq (Rf (JS (Zg G_is_telling (hr.mono (by first | decide | omega)) rfl T.JB.m T.JB.F.kp T.JB.b Zp (Za (Zb 1) Zd))) (Zb 1) K8)))), fun xs M Φ h => ?_⟩
 replace h := Zn h
 obtain ⟨x1, rfl, h⟩ := h
 obtain ⟨t, rfl, ht, h⟩ := h
 have hl := Xz ht
 obtain ⟨D, eD, hD⟩ := NS ht
 obtain ⟨e1, e2⟩ := Sj hD
 rw [← eD] at e1 e2
 walk_at "hd"
 walk_at "rk"
 rw [LP ht]
 refine ⟨⟨by decide +kernel, by omega⟩, t, rfl, ht, ?_⟩
 subst_vars
 walk_at "rk"
 rw [e1, e2]
 exact ⟨rfl, h⟩
theorem Xr (T : Tx K mg) : ZE P w K mg base CX0 8 T.Ji T.Jr ["text"] (lift K XU) := by
 have G_telling_of : ZE P w K mg base CX0 7 T.Vz T.Vp ["line"] (lift K Yc) := Wt T
 refine okG T.ZM.F Q3 (fun xs M Φ h => by obtain ⟨_, rfl, _⟩ := Zn h; rfl) fun cdv A outer s H E hr => ⟨_, (Zf (Ql (Vm (JS (Zj (Xn (Ff _)) rfl T.Z5 ZU (Za (Zb 0) (Za (UB rfl T.Ka Vo) Zd))))) (Zi Cp) Zz)
 (Zf (Ql (ZJ (VW hr) (Zb 0) Zk) (Zi (Zq (Yb Zd))) Zz)
 (Zf (Zu 1 Q3.nd (Xy (Zb 0) Zk))
 (Zf (Bi 2 true Q3.nd (Zw (sc := Ze ZQ) (XN := ["text", "lines", "told"]) (N := ["line"]) (ix := [none]) rfl rfl (by decide +kernel)) (V4 (Zb 1)) (fun C ex s H => (Zv 0 (show List.Nodup (["line"] : List Str) by decide +kernel))) (fun C ex s H => ZS) (fun C ex s H => (Zg G_telling_of (hr.mono (by first | decide | omega)) rfl T.Jz.m T.Jz.F.kp T.Jz.b Zp (Za (Zb 0) Zd))) rfl)
 (Zf (Ql (ZJ (SX hr) K8 (Zb 2)) (Zi Cp) Zz)
 (Zi (Zq (Zb 2)))))))), fun xs M Φ h => ?_⟩
 replace h := Zn h
 obtain ⟨x1, rfl, h⟩ := h
 obtain ⟨ts, rfl, hts, h⟩ := h
 have hl := text_len (xs := ts) (by have := hts.1; omega) hts.2
 have h20 := hts.1
 walk_at "hd"
 walk_at "rk"
 walk_at "hd"
 walk_at "rk"
 by_cases e0 : ts = []
 ·have e1 : Jd ts = Str.ofString "" := by
   rw [e0]
   exact Qm (by decide +kernel)
  rw [e0] at h
  have e2 : isS (.str (Jd ts)) (Str.ofString "") = true := by
   rw [e1]
   decide +kernel
  rw [e2, if_pos rfl]
  exact fun p hp => Du (h p hp)
 ·have n1 := RY e0 hts.2
  have e2 : isS (.str (Jd ts)) (Str.ofString "") = false := by
   show decide (Jd ts = Str.ofString "") = false
   exact decide_eq_false n1
  rw [e2, if_neg Bool.false_ne_true]
  walk_at "hd"
  walk_at "rk"
  rw [HL e0 hts.2]
  refine ⟨⟨by decide +kernel, by omega⟩, ?_⟩
  walk_at "hd"
  walk_at "rk"
  have len : (List.map PyData.str (List.map Jb ts)).length = ts.length := by rw [List.length_map, List.length_map]
  refine ⟨by omega, fun i acc M' => acc = (ts.take i).map tlD ∧ M' = M, ⟨rfl, rfl⟩, ?_, ?_⟩
  ·rintro i d acc M' hd ⟨rfl, rfl⟩
   rw [List.map_map] at hd
   obtain ⟨x, ex, rfl⟩ := QT hd
   exact ⟨x, rfl, hts.2 x (List.mem_of_getElem? ex), take_snoc _ ex, rfl⟩
  ·rintro acc M' ⟨rfl, rfl⟩
   rw [len, List.take_length]
   intro q hq
   walk_at "hd"
   walk_at "rk"
   rw [O9, if_neg Bool.false_ne_true]
   refine ⟨?_, ?_⟩
   ·obtain ⟨a, b⟩ := Fw hts.2
    unfold okIn
    rw [a]
    simp [PyData.canLay0, PyData.depth]
   ·subst_vars
    walk_at "rk"
    exact Du (h q hq)
theorem Pa (T : Tx K mg) : ZE P w K mg base CX0 1 T.El T.Ei ["_law_found", "_law_due"] (lift K DC) := by
 refine okD T.VX.F Pb (fun xs M Φ h => by obtain ⟨_, _, rfl, _⟩ := QJ h; rfl) fun cdv A outer s H E hr => ⟨_, (Zi (Zq (Qh (JE (SE hr) (Zb 0) (Zb 1)) (QZ (JE (VW hr) (Zj (LG hr) rfl T.BH WL (Za (Zb 0) Zd)) (Zj (Gq hr) rfl T.BH WL (Za (Zb 1) Zd))))))), fun xs M Φ h => ?_⟩
 replace h := QJ h
 obtain ⟨x1, x2, rfl, h⟩ := h
 obtain ⟨d, hx, rfl, ⟨h1, h2, h3⟩, h⟩ := h
 rcases hx with rfl | ⟨q, ds, rfl, hq, rfl⟩
 ·walk_at "rk"
  rw [h2, if_pos rfl]
  refine ⟨h1, h3, h3, ?_⟩
  rw [show isS (PyData.str d.shown) d.shown = true from decide_eq_true rfl]
  exact h
 ·have h2 : PyData.eqvAll ds ds = true := h2
  walk_at "rk"
  rw [hq]
  walk_at "rk"
  rw [h2, if_pos rfl]
  refine ⟨h1, h3, h3, ?_⟩
  rw [show isS (PyData.str (PyData.list ds).shown) (PyData.list ds).shown = true from decide_eq_true rfl]
  exact h
theorem UQ (T : Tx K mg) : ZE P w K mg base CX0 1 T.Ya T.V8 ["_law_spot_here"] (lift K Y4) := by
 refine okD T.ZX.F UK (fun xs M Φ h => by obtain ⟨_, rfl, _⟩ := Zn h; rfl) fun cdv A outer s H E hr => ⟨_, (Zi (Zq (Zo Xc (Zo Xc (ZD Vc rfl T.Ka Vo (Za (Zl (Zb 0) Zc) Zd)) Zk) (ZD Vc rfl T.Ka Vo (Za (Zl (Zb 0) Zc) Zd))))), fun xs M Φ h => ?_⟩
 replace h := Zn h
 obtain ⟨x1, rfl, h⟩ := h
 replace h := EX h
 obtain ⟨u, v, rfl, ⟨hu, hv⟩, h⟩ := h
 have l1 : (Str.ofString (toString u)).length ≤ 50 := (QX hu).2
 have l2 : (Str.ofString (toString v)).length ≤ 50 := (QX hv).2
 have l3 := ln1.1
 walk_at "rk"
 rw [Hr]
 exact ⟨QG hu, by omega, QG hv, by rw [Str.length_append]; omega, h⟩
theorem Rn (T : Tx K mg) : ZE P w K mg base CX0 2 T.E7 T.EY ["_law_one"] (lift K D0) := by
 have G_spot_text : ZE P w K mg base CX0 1 T.Ya T.V8 ["_law_spot_here"] (lift K Y4) := UQ T
 refine okG T.Cn.F Wu (fun xs M Φ h => by obtain ⟨_, rfl, _⟩ := Zn h; rfl) fun cdv A outer s H E hr => ⟨_, (Zf (Zu 1 Wu.nd (Yb (Za (Zl (Zb 0) Zc) (Za (ZD Vc rfl T.Ka Vo (Za (Zl (Zb 0) Zc) Zd)) (Za (Zl (Zb 0) Zc) Zd)))))
 (Zf (Ql (ZJ (VW hr) (Zl (Zb 0) Zc) Zk) (Zi (VB (JV (Zb 1) (Zg G_spot_text (hr.mono (by first | decide | omega)) rfl T.ZX.m T.ZX.F.kp T.ZX.b Zp (Za (Zl (Zb 0) Zc) Zd))))) Zz)
 (Zf (Ql (ZJ (VW hr) (Zl (Zb 0) Zc) Zk) (Zf (VB (Ek (Zb 1) (Yb (Za (Zl (Jv (Za (Zl (Zb 0) Zc) (Za Zk Zd))) (ZD TV rfl T.P4 Dz (Za (JE (VT hr) (Zl (Zb 0) Zc) Zk) Zd))) (Za (ZD Vc rfl T.Ka Vo (Za (Zl (Zb 0) Zc) Zd)) Zd)))))
 (Zi (O6 (Zl (Zb 0) Zc) (BX (n := 2) rfl (JI (Zv 2 Wu.nd) (JI (Zv 3 Wu.nd) WD))) (Zi (VB (JV (Zb 1) (Zo Xc (Zo Xc (Zg G_spot_text (hr.mono (by first | decide | omega)) rfl T.ZX.m T.ZX.F.kp T.ZX.b Zp (Za (Zb 2) Zd)) Zk) (Zg G_spot_text (hr.mono (by first | decide | omega)) rfl T.ZX.m T.ZX.F.kp T.ZX.b Zp (Za (Zb 3) Zd)))))) PassesOwn.never rfl))) Zz)
 (Zi (Zq (Vv Zk (NA (Zb 1)))))))), fun xs M Φ h => ?_⟩
 replace h := Zn h
 obtain ⟨x1, rfl, h⟩ := h
 obtain ⟨t, rfl, ht, h⟩ := h
 have hj := Fz ht
 cases t with
 | land t nm ou bs wb =>
  obtain ⟨k, ho, hs, hw⟩ := ht
  have len := List.length_map (as := bs) bD
  have l6 := hs.1
  have bw : Big wb := by unfold Big; omega
  unfold Jb at h
  rw [YU] at h hj
  unfold tlD
  walk_at "hd"
  walk_at "rk"
  refine ⟨QG (VU k), fun p hp => ?_⟩
  walk_at "hd"
  walk_at "rk"
  rw [Zfb.1, if_neg Bool.false_ne_true]
  walk_at "hd"
  walk_at "rk"
  rw [ZcM, if_pos rfl]
  refine Zaf ho ⟨QG bw, fun b hb => ?_⟩
  have nb := fresh_ne hb
  rw [Jl (Ne.symm nb), Z7, X5]
  refine ⟨nb, by simp, ?_⟩
  rw [P1 hb]
  refine ⟨fun i Δ M' => ∃ k2 k3, Δ = [some (.dat (.tuple [.str (Str.ofString "land"), .int t, .str nm, .str ou, .tuple (bs.map bD), .int wb])), some (.own p), k2, k3] ∧ M' = Z1 M p (.lst (([Str.ofString "land", JC t, nm, Nk ou, JC wb] ++ (bs.take i).map Ul).map PyData.str)), ⟨_, _, rfl, rfl⟩, ?_, ?_⟩
  ·rintro i d Δ M' hd ⟨k2, k3, rfl, rfl⟩
   obtain ⟨c, ec, rfl⟩ := QT hd
   have hc := hs.2.2 c (List.mem_of_getElem? ec)
   have s1 := Q1 hc.2.1.1.big hc.2.1.2.big
   have s2 := Q1 hc.2.2.1.big hc.2.2.2.big
   have l3 := ln1.2.1
   walk_at "rk"
   rw [O5]
   refine ⟨⟨hc.2.1.1.big, hc.2.1.2.big⟩, by omega, ⟨hc.2.2.1.big, hc.2.2.2.big⟩, by rw [Str.length_append]; omega, ?_, _, _, rfl, ?_⟩
   ·rw [List.length_map, List.length_map, List.length_take]
    omega
   ·have e := take_snoc Ul ec
    rw [← e, List.map_append]
    rfl
  ·rintro Δ M' ⟨k2, k3, rfl, rfl⟩
   rw [len, List.take_length]
   subst_vars
   walk_at "rk"
   rw [Ys hp]
   exact ⟨_, rfl, hj, Du h⟩
 | spot t nm u v =>
  unfold tlD
  walk_at "hd"
  walk_at "rk"
  refine ⟨QG (VU ht.1), fun p hp => ?_⟩
  walk_at "hd"
  walk_at "rk"
  rw [Zdw, if_pos rfl]
  refine ⟨⟨ht.2.1.big, ht.2.2.big⟩, ?_⟩
  walk_at "hd"
  walk_at "rk"
  rw [ZcK, if_neg Bool.false_ne_true]
  subst_vars
  walk_at "rk"
  rw [Ys hp]
  exact ⟨Qk (.spot t nm u v), rfl, hj, Du h⟩
 | off w t nm =>
  have nw : isS (.str w) (Str.ofString "land") = false ∧ isS (.str w) (Str.ofString "spot") = false := by
   rcases ht.2 with rfl | rfl
   ·exact Zck
   ·exact Zcf
  unfold tlD
  walk_at "hd"
  walk_at "rk"
  refine ⟨QG (VU ht.1), fun p hp => ?_⟩
  walk_at "hd"
  walk_at "rk"
  rw [nw.2, if_neg Bool.false_ne_true]
  walk_at "hd"
  walk_at "rk"
  rw [nw.1, if_neg Bool.false_ne_true]
  subst_vars
  walk_at "rk"
  rw [Ys hp]
  exact ⟨Qk (.off w t nm), rfl, hj, Du h⟩
theorem OE (T : Tx K mg) : ZE P w K mg base CX0 5 T.Dp T.FW ["_law_pen", "_law_world_here", "_law_most"] (lift K FV) := by
 have G_telling : ZE P w K mg base CX0 4 T.Kb T.Kj ["_law_pen", "_law_world_here"] (lift K X9) := C1 T
 have G_take : ZE P w K mg base CX0 1 T.Vn T.Vj ["_law_pen", "_law_many"] (lift K Vk) := JO T
 refine okD T.B2.F Ou (fun xs M Φ h => by obtain ⟨_, _, _, rfl, _⟩ := Yv h; rfl) fun cdv A outer s H E hr => ⟨_, (Zi (Zq (Qf true (Zw (sc := Ze XR) (XN := ["_law_pen", "_law_world_here", "_law_most"]) (N := ["_law_k", "_law_pen", "_law_world_here"]) (ix := [none, some 0, some 1]) rfl rfl (by decide +kernel)) (Jh rfl T.Q5 (Za (Zg G_take (hr.mono (by first | decide | omega)) rfl T.Zh.m T.Zh.F.kp T.Zh.b Zp (Za (Zb 0) (Za (Zo ZI (Zb 2) Zc) Zd))) Zd)) (fun C ex s H => (Zv 0 (show List.Nodup (["_law_k", "_law_pen", "_law_world_here"] : List Str) by decide +kernel))) (fun C ex s H => ZS) (fun C ex s H => (Zg G_telling (hr.mono (by first | decide | omega)) rfl T.Yz.m T.Yz.F.kp T.Yz.b Zp (Za (Zb 1) (Za (Zb 2) Zd)))) rfl))), fun xs M Φ h => ?_⟩
 replace h := Yv h
 obtain ⟨x1, x2, x3, rfl, h⟩ := h
 replace h := Qd h
 obtain ⟨p, rfl, h⟩ := h
 replace h := Qd h
 obtain ⟨q, rfl, h⟩ := h
 replace h := ZN h
 obtain ⟨m, rfl, rfl, hw, hne, hp, h⟩ := h
 walk_at "rk"
 refine ⟨hp, fun r M1 r0 r1 f1 => ⟨⟨by omega, by omega⟩, by rw [ZT]; omega, fun i acc M' => ∃ ts : List Tl, acc = ts.map tlD ∧ ts.length = i ∧ (∀ t ∈ ts, YS t) ∧ Fr p M M', ⟨[], rfl, rfl, fun t ht => (nomatch ht), f1⟩, ?_, ?_⟩⟩
 ·rintro i d acc M' hd ⟨ts, rfl, hl, ht, hF⟩
  refine ⟨hw.fr hF hne, hne, hF.1, fun D M2 hD f2 => ?_⟩
  obtain ⟨x, hx, e⟩ := S2 hD
  refine ⟨ts ++ [x], by rw [List.map_append, e]; rfl, by rw [List.length_append, hl]; rfl, fun t m => ?_, hF.trans f2⟩
  rcases List.mem_append.mp m with m | m
  ·exact ht t m
  ·rw [List.mem_singleton.mp m]
   exact hx
 ·rintro acc M' ⟨ts, rfl, hl, ht, hF⟩ s hs
  rw [ZT] at hl
  have sp : s ≠ p := Ne.symm (hF.1.ne hs)
  exact h ts _ s (by omega) ht Z7 (hF.fresh hs) (fun a ha hn => by
   have e := hF.2 a ha hn
   rw [Jl (fun z => hn (by rw [← e, z]; exact hs)), e]) (hF.1.put (Ne.symm sp)) sp
theorem SY (T : Tx K mg) : ZE P w K mg base CX0 9 T.ZbB T.ZaN ["_law_script"] (lift K Ha) := by
 have G_world : ZE P w K mg base CX0 4 T.G9 T.Bn ["_law_pen"] (lift K GU) := HN T
 have G_some : ZE P w K mg base CX0 5 T.Dp T.FW ["_law_pen", "_law_world_here", "_law_most"] (lift K FV) := OE T
 have G_same : ZE P w K mg base CX0 1 T.El T.Ei ["_law_found", "_law_due"] (lift K DC) := Pa T
 have G_read_tellings : ZE P w K mg base CX0 8 T.Ji T.Jr ["text"] (lift K XU) := Xr T
 have G_show_tellings : ZE P w K mg base CX0 4 T.Jp T.Jn ["tellings"] (lift K Kn) := Xx T
 have G_take : ZE P w K mg base CX0 1 T.Vn T.Vj ["_law_pen", "_law_many"] (lift K Vk) := JO T
 have G_line : ZE P w K mg base CX0 2 T.E7 T.EY ["_law_one"] (lift K D0) := Rn T
 refine okD T.o_law.F YB (fun xs M Φ ⟨ns, e, _⟩ => by rw [e]; rfl) fun cdv A outer s H E hr => ⟨_, (Zf (Zu 1 YB.nd (Yb (Za (Zb 0) (Za Zc (Za Zc Zd)))))
 (Zf (XC rfl T.Q5 (Za Zc Zd) (Zv 2 YB.nd) (Zf (Zu 3 YB.nd (Zg G_world (hr.mono (by first | decide | omega)) rfl T.Ws.m T.Ws.F.kp T.Ws.b Zp (Za (Zb 1) Zd)))
 (Zf (Zu 4 YB.nd (Zg G_some (hr.mono (by first | decide | omega)) rfl T.B2.m T.B2.F.kp T.B2.b Zp (Za (Zb 1) (Za (Zb 3) (Za Zc Zd)))))
 (Zf (Ql (DW.dt (Wf (ZJ (MH hr) (Zb 4) (Jv Zd)) (Xe (ZJ (VT hr) (Zg G_take (hr.mono (by first | decide | omega)) rfl T.Zh.m T.Zh.F.kp T.Zh.b Zp (Za (Zb 1) (Za Zc Zd))) Zc)))) (Zi (VB (JV (Zb 4) (Zl (Zb 4) (Zg G_take (hr.mono (by first | decide | omega)) rfl T.Zh.m T.Zh.F.kp T.Zh.b Zp (Za (Zb 1) (Za (Zj Qu rfl T.Ju Qc (Za (Zb 4) Zd)) Zd))))))) Zz)
 (Zf (Rl 4 (Zu 5 YB.nd (Vv Zk (Qf false (Zw (sc := Ze Bp) (XN := ["_law_script", "_law_pen", "_law_k", "_law_world_here", "_law_tellings", "_law_due", "_law_kept", "_law_again", "_law_found"]) (N := ["_law_one"]) (ix := [none]) rfl rfl (by decide +kernel)) (V4 (Zb 4)) (fun C ex s H => (Zv 0 (show List.Nodup (["_law_one"] : List Str) by decide +kernel))) (fun C ex s H => ZS) (fun C ex s H => (Zg G_line (hr.mono (by first | decide | omega)) rfl T.Cn.m T.Cn.F.kp T.Cn.b Zp (Za (Zb 0) Zd))) rfl))))
 (Zf (Zu 6 YB.nd (Zj (Gq hr) rfl T.BH WL (Za (Zb 4) Zd)))
 (Zi (XC rfl T.Q5 (Za Zc Zd) (Zv 7 YB.nd) (Zf (Ql (DW.dt (Br (Vm (JS (Zg G_same (hr.mono (by first | decide | omega)) rfl T.VX.m T.VX.F.kp T.VX.b Zp (Za (Zg G_show_tellings (hr.mono (by first | decide | omega)) rfl T.ZP.m T.ZP.F.kp T.ZP.b Zp (Za (Zb 4) Zd)) (Za (Zb 5) Zd))))) (X3 (ZJ TQ (Zj (Gq hr) rfl T.BH WL (Za (Zb 4) Zd)) (Zb 6))))) (Zi (Zq Gj)) Zz)
 (Zf (Zu 8 YB.nd (Zg G_read_tellings (hr.mono (by first | decide | omega)) rfl T.ZM.m T.ZM.F.kp T.ZM.b Zp (Za (Zb 5) Zd)))
 (Zf (Ql (Vm (JS (Zg G_same (hr.mono (by first | decide | omega)) rfl T.VX.m T.VX.F.kp T.VX.b Zp (Za (Zb 8) (Za (Zb 4) Zd))))) (Zi (Zq Gj)) Zz)
 (Zf (VB (CP (Zb 8)))
 (Zi (VB (JV (Zb 8) K8))))))) PassesOwn.never rfl))))))) PassesOwn.never rfl)
 (Zi (Zq (Qh (JE (VW hr) (Zg G_show_tellings (hr.mono (by first | decide | omega)) rfl T.ZP.m T.ZP.F.kp T.ZP.b Zp (Za (Jv Zd) Zd)) Zk) (QZ (Zg G_same (hr.mono (by first | decide | omega)) rfl T.VX.m T.VX.F.kp T.VX.b Zp (Za (Zg G_read_tellings (hr.mono (by first | decide | omega)) rfl T.ZM.m T.ZM.F.kp T.ZM.b Zp (Za Zk Zd)) (Za (Jv Zd) Zd))))))))), fun xs M Φ ⟨ns, e, hn, h⟩ => ?_⟩
 subst e
 walk_at "hd"
 walk_at "rk"
 intro p hp
 walk_at "hd"
 walk_at "rk"
 refine ⟨⟨by decide, by decide⟩, fun i Δ M' => ∃ k2 k3 k4 k5 k6 k7 k8 : Option DV, Δ = [some (.dat (.list (ns.map PyData.int))), some (.own p), k2, k3, k4, k5, k6, k7, k8] ∧ Pen M' p, ⟨_, _, _, _, _, _, _, rfl, Pen.Z1 ⟨ns, 0, 0, Int.le_refl 0, rfl⟩⟩, ?_, ?_⟩
 ·rintro i Δ M1 hi ⟨k2, k3, k4, k5, k6, k7, k8, rfl, hP⟩
  rw [XH]
  walk_at "hd"
  walk_at "rk"
  refine ⟨hP, fun q M2 hw hne f2 => ?_⟩
  walk_at "hd"
  walk_at "rk"
  refine ⟨hw, hne, f2.1, fun ts M3 r hl ht hr3 hr2 hF3 hP3 hrp => ?_⟩
  walk_at "hd"
  rename_i R hR
  walk_at "rk"
  rw [hr3]
  walk_at "rk"
  refine Pr (F := fun M' => R _ _ M') hr3 hP3 hrp hl ht fun ts4 M4 hts hr4 hP4 => ?_
  have len := List.length_map (as := ts4) tlD
  have l20 := hts.1
  obtain ⟨q1, q2⟩ := Nq hts.2
  have q3 := Fv hts
  obtain ⟨s1, s2⟩ := Ht _ (HQ hts)
  have s3 := Nj hts
  have pd : Pen (YQ M4 r) p := hP4.del (Ne.symm hrp)
  walk_at "hd"
  walk_at "rk"
  rw [hr4]
  walk_at "rk"
  refine ⟨by omega, fun j acc M' => acc = ((ts4.take j).map Jb).map PyData.str ∧ M' = YQ M4 r, ⟨rfl, rfl⟩, ?_, ?_⟩
  ·rintro j d acc M' hd ⟨rfl, rfl⟩
   obtain ⟨x, ex, rfl⟩ := QT hd
   refine ⟨x, rfl, hts.2 x (List.mem_of_getElem? ex), ?_, rfl⟩
   rw [List.map_map, List.map_map]
   exact take_snoc (PyData.str ∘ Jb) ex
  rintro acc M' ⟨rfl, rfl⟩
  rw [len, List.take_length]
  refine ⟨ts4.map Jb, rfl, jk ln1.2.2.2 (by rw [List.length_map]; omega) (by decide : 2400 ≤ 3000) fun s hs => ?_, ?_⟩
  ·obtain ⟨x, hx, rfl⟩ := List.mem_map.mp hs
   exact Xz (hts.2 x hx)
  rw [show Txt.join (Str.ofString "\n") (ts4.map Jb) = Jd ts4 from rfl]
  walk_at "hd"
  walk_at "rk"
  refine ⟨q3, ?_⟩
  subst_vars
  walk_at "rk"
  refine ⟨⟨by decide, by decide⟩, fun j Δ M' => ∃ k7 k8 : Option DV, Δ = [some (.dat (.list (ns.map PyData.int))), some (.own p), some (.dat (.int (i : Int))), some (.own q), some (.dat (.list (ts4.map tlD))), some (.dat (.str (Jd ts4))), some (.dat (.str (PyData.list (ts4.map tlD)).shown)), k7, k8] ∧ Pen M' p, ⟨_, _, rfl, pd⟩, ?_, ?_⟩
  ·rintro j Δ M' hj ⟨k7, k8, rfl, hPj⟩
   rw [XH]
   walk_at "hd"
   walk_at "rk"
   refine ⟨ts4, rfl, hts, .str (Jd ts4), .inl rfl, rfl, ⟨s1, s2, s3⟩, q3, ?_⟩
   walk_at "hd"
   walk_at "rk"
   refine ⟨ts4, rfl, hts, fun s hs => ?_⟩
   have sp : s ≠ p := Ne.symm (hPj.ne hs)
   walk_at "hd"
   walk_at "rk"
   refine ⟨.list (ts4.map tlD), .inr ⟨s, _, rfl, Z7, rfl⟩, rfl, ⟨q1, q2, q3⟩, ?_⟩
   subst_vars
   walk_at "rk"
   exact ⟨by rw [List.length_reverse]; omega, _, _, rfl, hPj.put (Ne.symm sp)⟩
  ·rintro Δ M' ⟨k7, k8, rfl, hPj⟩
   exact ⟨_, _, _, _, _, _, _, rfl, hPj⟩
 ·rintro Δ M1 ⟨k2, k3, k4, k5, k6, k7, k8, rfl, hP⟩
  have h0 : Kv [] := ⟨by decide, fun t ht => (nomatch ht)⟩
  obtain ⟨q1, q2⟩ := Nq h0.2
  have q3 := Fv h0
  subst_vars
  walk_at "rk"
  refine ⟨[], rfl, h0, ?_⟩
  rw [B5, show isS (PyData.str (Str.ofString "")) (Str.ofString "") = true by decide +kernel, if_pos rfl]
  exact ⟨[], by rw [B5], h0, fun q hq => ⟨.list [], .inr ⟨q, [], rfl, Z7, rfl⟩, rfl, ⟨q1, q2, q3⟩, h _⟩⟩
end
theorem Qx {α : Type} {l : List α} (h : l.length = 1) : ∃ a0, l = [a0] := by
 match l, h with
 | [a0], _ => exact ⟨a0, rfl⟩
theorem W4 {α : Type} {l : List α} (h : l.length = 2) : ∃ a0 a1, l = [a0, a1] := by
 match l, h with
 | [a0, a1], _ => exact ⟨a0, a1, rfl⟩
theorem MX {α : Type} {l : List α} (h : l.length = 3) : ∃ a0 a1 a2, l = [a0, a1, a2] := by
 match l, h with
 | [a0, a1, a2], _ => exact ⟨a0, a1, a2, rfl⟩
theorem all_mk {l : PySem.W.OpenLaw} {w : World} {K : PySem.W.Frag} {h : Heap} {mg : Str → Option Value} {fa : Addr} (X : K.In h) (G : h.Ns mainGlobals mg) (hfa : mg "law" = some (.ref fa))
  {f0 : Addr} {od0 an0 : Option Addr} {sl0 : Array (Option Value)} {oc0 kV0 dc0 pm0 cd0 ct0 : Value} {f1 : Addr} {od1 an1 : Option Addr} {sl1 : Array (Option Value)} {oc1 kV1 dc1 pm1 cd1 ct1 : Value} {f2 : Addr} {od2 an2 : Option Addr} {sl2 : Array (Option Value)} {oc2 kV2 dc2 pm2 cd2 ct2 : Value} {f3 : Addr} {od3 an3 : Option Addr} {sl3 : Array (Option Value)} {oc3 kV3 dc3 pm3 cd3 ct3 : Value} {f4 : Addr} {od4 an4 : Option Addr} {sl4 : Array (Option Value)} {oc4 kV4 dc4 pm4 cd4 ct4 : Value} {f5 : Addr} {od5 an5 : Option Addr} {sl5 : Array (Option Value)} {oc5 kV5 dc5 pm5 cd5 ct5 : Value} {f6 : Addr} {od6 an6 : Option Addr} {sl6 : Array (Option Value)} {oc6 kV6 dc6 pm6 cd6 ct6 : Value} {f7 : Addr} {od7 an7 : Option Addr} {sl7 : Array (Option Value)} {oc7 kV7 dc7 pm7 cd7 ct7 : Value} {f8 : Addr} {od8 an8 : Option Addr} {sl8 : Array (Option Value)} {oc8 kV8 dc8 pm8 cd8 ct8 : Value} {f9 : Addr} {od9 an9 : Option Addr} {sl9 : Array (Option Value)} {oc9 kV9 dc9 pm9 cd9 ct9 : Value} {f10 : Addr} {od10 an10 : Option Addr} {sl10 : Array (Option Value)} {oc10 kV10 dc10 pm10 cd10 ct10 : Value} {f11 : Addr} {od11 an11 : Option Addr} {sl11 : Array (Option Value)} {oc11 kV11 dc11 pm11 cd11 ct11 : Value} {f12 : Addr} {od12 an12 : Option Addr} {sl12 : Array (Option Value)} {oc12 kV12 dc12 pm12 cd12 ct12 : Value} {f13 : Addr} {od13 an13 : Option Addr} {sl13 : Array (Option Value)} {oc13 kV13 dc13 pm13 cd13 ct13 : Value} {f14 : Addr} {od14 an14 : Option Addr} {sl14 : Array (Option Value)} {oc14 kV14 dc14 pm14 cd14 ct14 : Value} {f15 : Addr} {od15 an15 : Option Addr} {sl15 : Array (Option Value)} {oc15 kV15 dc15 pm15 cd15 ct15 : Value} {f16 : Addr} {od16 an16 : Option Addr} {sl16 : Array (Option Value)} {oc16 kV16 dc16 pm16 cd16 ct16 : Value} {f17 : Addr} {od17 an17 : Option Addr} {sl17 : Array (Option Value)} {oc17 kV17 dc17 pm17 cd17 ct17 : Value} {f18 : Addr} {od18 an18 : Option Addr} {sl18 : Array (Option Value)} {oc18 kV18 dc18 pm18 cd18 ct18 : Value} {f19 : Addr} {od19 an19 : Option Addr} {sl19 : Array (Option Value)} {oc19 kV19 dc19 pm19 cd19 ct19 : Value} {f20 : Addr} {od20 an20 : Option Addr} {sl20 : Array (Option Value)} {oc20 kV20 dc20 pm20 cd20 ct20 : Value} {f21 : Addr} {od21 an21 : Option Addr} {sl21 : Array (Option Value)} {oc21 kV21 dc21 pm21 cd21 ct21 : Value} {f22 : Addr} {od22 an22 : Option Addr} {sl22 : Array (Option Value)} {oc22 kV22 dc22 pm22 cd22 ct22 : Value} {f23 : Addr} {od23 an23 : Option Addr} {sl23 : Array (Option Value)} {oc23 kV23 dc23 pm23 cd23 ct23 : Value} {f24 : Addr} {od24 an24 : Option Addr} {sl24 : Array (Option Value)} {oc24 kV24 dc24 pm24 cd24 ct24 : Value} {f25 : Addr} {od25 an25 : Option Addr} {sl25 : Array (Option Value)} {oc25 kV25 dc25 pm25 cd25 ct25 : Value} {f26 : Addr} {od26 an26 : Option Addr} {sl26 : Array (Option Value)} {oc26 kV26 dc26 pm26 cd26 ct26 : Value} {f27 : Addr} {od27 an27 : Option Addr} {sl27 : Array (Option Value)} {oc27 kV27 dc27 pm27 cd27 ct27 : Value} {f28 : Addr} {od28 an28 : Option Addr} {sl28 : Array (Option Value)} {oc28 kV28 dc28 pm28 cd28 ct28 : Value} {f29 : Addr} {od29 an29 : Option Addr} {sl29 : Array (Option Value)} {oc29 kV29 dc29 pm29 cd29 ct29 : Value} {f30 : Addr} {od30 an30 : Option Addr} {sl30 : Array (Option Value)} {oc30 kV30 dc30 pm30 cd30 ct30 : Value} {f31 : Addr} {od31 an31 : Option Addr} {sl31 : Array (Option Value)} {oc31 kV31 dc31 pm31 cd31 ct31 : Value} {f32 : Addr} {od32 an32 : Option Addr} {sl32 : Array (Option Value)} {oc32 kV32 dc32 pm32 cd32 ct32 : Value} {f33 : Addr} {od33 an33 : Option Addr} {sl33 : Array (Option Value)} {oc33 kV33 dc33 pm33 cd33 ct33 : Value} {f34 : Addr} {od34 an34 : Option Addr} {sl34 : Array (Option Value)} {oc34 kV34 dc34 pm34 cd34 ct34 : Value} {f35 : Addr} {od35 an35 : Option Addr} {sl35 : Array (Option Value)} {oc35 kV35 dc35 pm35 cd35 ct35 : Value} {f36 : Addr} {od36 an36 : Option Addr} {sl36 : Array (Option Value)} {oc36 kV36 dc36 pm36 cd36 ct36 : Value} {f37 : Addr} {od37 an37 : Option Addr} {sl37 : Array (Option Value)} {oc37 kV37 dc37 pm37 cd37 ct37 : Value} {f38 : Addr} {od38 an38 : Option Addr} {sl38 : Array (Option Value)} {oc38 kV38 dc38 pm38 cd38 ct38 : Value} {f39 : Addr} {od39 an39 : Option Addr} {sl39 : Array (Option Value)} {oc39 kV39 dc39 pm39 cd39 ct39 : Value} {f40 : Addr} {od40 an40 : Option Addr} {sl40 : Array (Option Value)} {oc40 kV40 dc40 pm40 cd40 ct40 : Value} {f41 : Addr} {od41 an41 : Option Addr} {sl41 : Array (Option Value)} {oc41 kV41 dc41 pm41 cd41 ct41 : Value} {tk0 : Tok} {tk1 : Tok} {tk2 : Tok} {tk3 : Tok} {tk4 : Tok}
  (a0 : PySem.W.nsIn K mainGlobals "is_whole" = some (some (.ref f0))) (l0 : K.lookup f0 = some ⟨oc0, od0, .func (PySem.W.fnOf "is_whole" "is_whole" (Zt Jf) (Zr Jf) (Ze Jf) .none kV0 dc0 pm0 an0 cd0 ct0), sl0⟩) (c0 : PySem.W.codeIn K cd0 "is_whole" = true) (k0 : PySem.W.keepIn K (.ref f0) = true)
  (a1 : PySem.W.nsIn K mainGlobals "is_short" = some (some (.ref f1))) (l1 : K.lookup f1 = some ⟨oc1, od1, .func (PySem.W.fnOf "is_short" "is_short" (Zt Jg) (Zr Jg) (Ze Jg) .none kV1 dc1 pm1 an1 cd1 ct1), sl1⟩) (c1 : PySem.W.codeIn K cd1 "is_short" = true) (k1 : PySem.W.keepIn K (.ref f1) = true)
  (a2 : PySem.W.nsIn K mainGlobals "is_any_spot" = some (some (.ref f2))) (l2 : K.lookup f2 = some ⟨oc2, od2, .func (PySem.W.fnOf "is_any_spot" "is_any_spot" (Zt Qe) (Zr Qe) (Ze Qe) .none kV2 dc2 pm2 an2 cd2 ct2), sl2⟩) (c2 : PySem.W.codeIn K cd2 "is_any_spot" = true) (k2 : PySem.W.keepIn K (.ref f2) = true)
  (a3 : PySem.W.nsIn K mainGlobals "is_spot" = some (some (.ref f3))) (l3 : K.lookup f3 = some ⟨oc3, od3, .func (PySem.W.fnOf "is_spot" "is_spot" (Zt JY) (Zr JY) (Ze JY) .none kV3 dc3 pm3 an3 cd3 ct3), sl3⟩) (c3 : PySem.W.codeIn K cd3 "is_spot" = true) (k3 : PySem.W.keepIn K (.ref f3) = true)
  (a4 : PySem.W.nsIn K mainGlobals "is_box" = some (some (.ref f4))) (l4 : K.lookup f4 = some ⟨oc4, od4, .func (PySem.W.fnOf "is_box" "is_box" (Zt VH) (Zr VH) (Ze VH) .none kV4 dc4 pm4 an4 cd4 ct4), sl4⟩) (c4 : PySem.W.codeIn K cd4 "is_box" = true) (k4 : PySem.W.keepIn K (.ref f4) = true)
  (a5 : PySem.W.nsIn K mainGlobals "has_spots" = some (some (.ref f5))) (l5 : K.lookup f5 = some ⟨oc5, od5, .func (PySem.W.fnOf "has_spots" "has_spots" (Zt QV) (Zr QV) (Ze QV) .none kV5 dc5 pm5 an5 cd5 ct5), sl5⟩) (c5 : PySem.W.codeIn K cd5 "has_spots" = true) (k5 : PySem.W.keepIn K (.ref f5) = true)
  (a6 : PySem.W.nsIn K mainGlobals "steps_between" = some (some (.ref f6))) (l6 : K.lookup f6 = some ⟨oc6, od6, .func (PySem.W.fnOf "steps_between" "steps_between" (Zt Z3) (Zr Z3) (Ze Z3) .none kV6 dc6 pm6 an6 cd6 ct6), sl6⟩) (c6 : PySem.W.codeIn K cd6 "steps_between" = true) (k6 : PySem.W.keepIn K (.ref f6) = true)
  (a7 : PySem.W.nsIn K mainGlobals "gap" = some (some (.ref f7))) (l7 : K.lookup f7 = some ⟨oc7, od7, .func (PySem.W.fnOf "gap" "gap" (Zt Cy) (Zr Cy) (Ze Cy) .none kV7 dc7 pm7 an7 cd7 ct7), sl7⟩) (c7 : PySem.W.codeIn K cd7 "gap" = true) (k7 : PySem.W.keepIn K (.ref f7) = true)
  (a8 : PySem.W.nsIn K mainGlobals "is_shape" = some (some (.ref f8))) (l8 : K.lookup f8 = some ⟨oc8, od8, .func (PySem.W.fnOf "is_shape" "is_shape" (Zt QK) (Zr QK) (Ze QK) .none kV8 dc8 pm8 an8 cd8 ct8), sl8⟩) (c8 : PySem.W.codeIn K cd8 "is_shape" = true) (k8 : PySem.W.keepIn K (.ref f8) = true)
  (a9 : PySem.W.nsIn K mainGlobals "is_chain" = some (some (.ref f9))) (l9 : K.lookup f9 = some ⟨oc9, od9, .func (PySem.W.fnOf "is_chain" "is_chain" (Zt QL) (Zr QL) (Ze QL) .none kV9 dc9 pm9 an9 cd9 ct9), sl9⟩) (c9 : PySem.W.codeIn K cd9 "is_chain" = true) (k9 : PySem.W.keepIn K (.ref f9) = true)
  (a10 : PySem.W.nsIn K mainGlobals "is_name" = some (some (.ref f10))) (l10 : K.lookup f10 = some ⟨oc10, od10, .func (PySem.W.fnOf "is_name" "is_name" (Zt Jq) (Zr Jq) (Ze Jq) .none kV10 dc10 pm10 an10 cd10 ct10), sl10⟩) (c10 : PySem.W.codeIn K cd10 "is_name" = true) (k10 : PySem.W.keepIn K (.ref f10) = true)
  (a11 : PySem.W.nsIn K mainGlobals "is_time" = some (some (.ref f11))) (l11 : K.lookup f11 = some ⟨oc11, od11, .func (PySem.W.fnOf "is_time" "is_time" (Zt JT) (Zr JT) (Ze JT) .none kV11 dc11 pm11 an11 cd11 ct11), sl11⟩) (c11 : PySem.W.codeIn K cd11 "is_time" = true) (k11 : PySem.W.keepIn K (.ref f11) = true)
  (a12 : PySem.W.nsIn K mainGlobals "is_telling" = some (some (.ref f12))) (l12 : K.lookup f12 = some ⟨oc12, od12, .func (PySem.W.fnOf "is_telling" "is_telling" (Zt Qv) (Zr Qv) (Ze Qv) .none kV12 dc12 pm12 an12 cd12 ct12), sl12⟩) (c12 : PySem.W.codeIn K cd12 "is_telling" = true) (k12 : PySem.W.keepIn K (.ref f12) = true)
  (a13 : PySem.W.nsIn K mainGlobals "is_name_or_empty" = some (some (.ref f13))) (l13 : K.lookup f13 = some ⟨oc13, od13, .func (PySem.W.fnOf "is_name_or_empty" "is_name_or_empty" (Zt ZH) (Zr ZH) (Ze ZH) .none kV13 dc13 pm13 an13 cd13 ct13), sl13⟩) (c13 : PySem.W.codeIn K cd13 "is_name_or_empty" = true) (k13 : PySem.W.keepIn K (.ref f13) = true)
  (a14 : PySem.W.nsIn K mainGlobals "is_wobble" = some (some (.ref f14))) (l14 : K.lookup f14 = some ⟨oc14, od14, .func (PySem.W.fnOf "is_wobble" "is_wobble" (Zt QR) (Zr QR) (Ze QR) .none kV14 dc14 pm14 an14 cd14 ct14), sl14⟩) (c14 : PySem.W.codeIn K cd14 "is_wobble" = true) (k14 : PySem.W.keepIn K (.ref f14) = true)
  (a15 : PySem.W.nsIn K mainGlobals "show_tellings" = some (some (.ref f15))) (l15 : K.lookup f15 = some ⟨oc15, od15, .func (PySem.W.fnOf "show_tellings" "show_tellings" (Zt ZO) (Zr ZO) (Ze ZO) .none kV15 dc15 pm15 an15 cd15 ct15), sl15⟩) (c15 : PySem.W.codeIn K cd15 "show_tellings" = true) (k15 : PySem.W.keepIn K (.ref f15) = true)
  (a16 : PySem.W.nsIn K mainGlobals "read_tellings" = some (some (.ref f16))) (l16 : K.lookup f16 = some ⟨oc16, od16, .func (PySem.W.fnOf "read_tellings" "read_tellings" (Zt ZQ) (Zr ZQ) (Ze ZQ) .none kV16 dc16 pm16 an16 cd16 ct16), sl16⟩) (c16 : PySem.W.codeIn K cd16 "read_tellings" = true) (k16 : PySem.W.keepIn K (.ref f16) = true)
  (a17 : PySem.W.nsIn K mainGlobals "line_of" = some (some (.ref f17))) (l17 : K.lookup f17 = some ⟨oc17, od17, .func (PySem.W.fnOf "line_of" "line_of" (Zt QY) (Zr QY) (Ze QY) .none kV17 dc17 pm17 an17 cd17 ct17), sl17⟩) (c17 : PySem.W.codeIn K cd17 "line_of" = true) (k17 : PySem.W.keepIn K (.ref f17) = true)
  (a18 : PySem.W.nsIn K mainGlobals "show_box" = some (some (.ref f18))) (l18 : K.lookup f18 = some ⟨oc18, od18, .func (PySem.W.fnOf "show_box" "show_box" (Zt QM) (Zr QM) (Ze QM) .none kV18 dc18 pm18 an18 cd18 ct18), sl18⟩) (c18 : PySem.W.codeIn K cd18 "show_box" = true) (k18 : PySem.W.keepIn K (.ref f18) = true)
  (a19 : PySem.W.nsIn K mainGlobals "show_spot" = some (some (.ref f19))) (l19 : K.lookup f19 = some ⟨oc19, od19, .func (PySem.W.fnOf "show_spot" "show_spot" (Zt Qp) (Zr Qp) (Ze Qp) .none kV19 dc19 pm19 an19 cd19 ct19), sl19⟩) (c19 : PySem.W.codeIn K cd19 "show_spot" = true) (k19 : PySem.W.keepIn K (.ref f19) = true)
  (a20 : PySem.W.nsIn K mainGlobals "telling_of" = some (some (.ref f20))) (l20 : K.lookup f20 = some ⟨oc20, od20, .func (PySem.W.fnOf "telling_of" "telling_of" (Zt Qr) (Zr Qr) (Ze Qr) .none kV20 dc20 pm20 an20 cd20 ct20), sl20⟩) (c20 : PySem.W.codeIn K cd20 "telling_of" = true) (k20 : PySem.W.keepIn K (.ref f20) = true)
  (a21 : PySem.W.nsIn K mainGlobals "read_words" = some (some (.ref f21))) (l21 : K.lookup f21 = some ⟨oc21, od21, .func (PySem.W.fnOf "read_words" "read_words" (Zt Qb) (Zr Qb) (Ze Qb) .none kV21 dc21 pm21 an21 cd21 ct21), sl21⟩) (c21 : PySem.W.codeIn K cd21 "read_words" = true) (k21 : PySem.W.keepIn K (.ref f21) = true)
  (a22 : PySem.W.nsIn K mainGlobals "read_outer" = some (some (.ref f22))) (l22 : K.lookup f22 = some ⟨oc22, od22, .func (PySem.W.fnOf "read_outer" "read_outer" (Zt Qt) (Zr Qt) (Ze Qt) .none kV22 dc22 pm22 an22 cd22 ct22), sl22⟩) (c22 : PySem.W.codeIn K cd22 "read_outer" = true) (k22 : PySem.W.keepIn K (.ref f22) = true)
  (a23 : PySem.W.nsIn K mainGlobals "read_box" = some (some (.ref f23))) (l23 : K.lookup f23 = some ⟨oc23, od23, .func (PySem.W.fnOf "read_box" "read_box" (Zt QW) (Zr QW) (Ze QW) .none kV23 dc23 pm23 an23 cd23 ct23), sl23⟩) (c23 : PySem.W.codeIn K cd23 "read_box" = true) (k23 : PySem.W.keepIn K (.ref f23) = true)
  (a24 : PySem.W.nsIn K mainGlobals "read_spot" = some (some (.ref f24))) (l24 : K.lookup f24 = some ⟨oc24, od24, .func (PySem.W.fnOf "read_spot" "read_spot" (Zt Qq) (Zr Qq) (Ze Qq) .none kV24 dc24 pm24 an24 cd24 ct24), sl24⟩) (c24 : PySem.W.codeIn K cd24 "read_spot" = true) (k24 : PySem.W.keepIn K (.ref f24) = true)
  (a25 : PySem.W.nsIn K mainGlobals "number_of" = some (some (.ref f25))) (l25 : K.lookup f25 = some ⟨oc25, od25, .func (PySem.W.fnOf "number_of" "number_of" (Zt QS) (Zr QS) (Ze QS) .none kV25 dc25 pm25 an25 cd25 ct25), sl25⟩) (c25 : PySem.W.codeIn K cd25 "number_of" = true) (k25 : PySem.W.keepIn K (.ref f25) = true)
  (a26 : PySem.W.nsIn K mainGlobals "are_figures" = some (some (.ref f26))) (l26 : K.lookup f26 = some ⟨oc26, od26, .func (PySem.W.fnOf "are_figures" "are_figures" (Zt Z6) (Zr Z6) (Ze Z6) .none kV26 dc26 pm26 an26 cd26 ct26), sl26⟩) (c26 : PySem.W.codeIn K cd26 "are_figures" = true) (k26 : PySem.W.keepIn K (.ref f26) = true)
  (a27 : PySem.W.nsIn K mainGlobals "_law_take" = some (some (.ref f27))) (l27 : K.lookup f27 = some ⟨oc27, od27, .func (PySem.W.fnOf "_law_take" "_law_take" (Zt KZ) (Zr KZ) (Ze KZ) .none kV27 dc27 pm27 an27 cd27 ct27), sl27⟩) (c27 : PySem.W.codeIn K cd27 "_law_take" = true) (k27 : PySem.W.keepIn K (.ref f27) = true)
  (a28 : PySem.W.nsIn K mainGlobals "_law_wide" = some (some (.ref f28))) (l28 : K.lookup f28 = some ⟨oc28, od28, .func (PySem.W.fnOf "_law_wide" "_law_wide" (Zt KL) (Zr KL) (Ze KL) .none kV28 dc28 pm28 an28 cd28 ct28), sl28⟩) (c28 : PySem.W.codeIn K cd28 "_law_wide" = true) (k28 : PySem.W.keepIn K (.ref f28) = true)
  (a29 : PySem.W.nsIn K mainGlobals "_law_same" = some (some (.ref f29))) (l29 : K.lookup f29 = some ⟨oc29, od29, .func (PySem.W.fnOf "_law_same" "_law_same" (Zt s_same) (Zr s_same) (Ze s_same) .none kV29 dc29 pm29 an29 cd29 ct29), sl29⟩) (c29 : PySem.W.codeIn K cd29 "_law_same" = true) (k29 : PySem.W.keepIn K (.ref f29) = true)
  (a30 : PySem.W.nsIn K mainGlobals "_law_boxes" = some (some (.ref f30))) (l30 : K.lookup f30 = some ⟨oc30, od30, .func (PySem.W.fnOf "_law_boxes" "_law_boxes" (Zt V1) (Zr V1) (Ze V1) .none kV30 dc30 pm30 an30 cd30 ct30), sl30⟩) (c30 : PySem.W.codeIn K cd30 "_law_boxes" = true) (k30 : PySem.W.keepIn K (.ref f30) = true)
  (a31 : PySem.W.nsIn K mainGlobals "_law_stretched" = some (some (.ref f31))) (l31 : K.lookup f31 = some ⟨oc31, od31, .func (PySem.W.fnOf "_law_stretched" "_law_stretched" (Zt QP) (Zr QP) (Ze QP) .none kV31 dc31 pm31 an31 cd31 ct31), sl31⟩) (c31 : PySem.W.codeIn K cd31 "_law_stretched" = true) (k31 : PySem.W.keepIn K (.ref f31) = true)
  (a32 : PySem.W.nsIn K mainGlobals "_law_stretch" = some (some (.ref f32))) (l32 : K.lookup f32 = some ⟨oc32, od32, .func (PySem.W.fnOf "_law_stretch" "_law_stretch" (Zt JX) (Zr JX) (Ze JX) .none kV32 dc32 pm32 an32 cd32 ct32), sl32⟩) (c32 : PySem.W.codeIn K cd32 "_law_stretch" = true) (k32 : PySem.W.keepIn K (.ref f32) = true)
  (a33 : PySem.W.nsIn K mainGlobals "_law_names" = some (some (.ref f33))) (l33 : K.lookup f33 = some ⟨oc33, od33, .func (PySem.W.fnOf "_law_names" "_law_names" (Zt Jj) (Zr Jj) (Ze Jj) .none kV33 dc33 pm33 an33 cd33 ct33), sl33⟩) (c33 : PySem.W.codeIn K cd33 "_law_names" = true) (k33 : PySem.W.keepIn K (.ref f33) = true)
  (a34 : PySem.W.nsIn K mainGlobals "_law_world" = some (some (.ref f34))) (l34 : K.lookup f34 = some ⟨oc34, od34, .func (PySem.W.fnOf "_law_world" "_law_world" (Zt Y2) (Zr Y2) (Ze Y2) .none kV34 dc34 pm34 an34 cd34 ct34), sl34⟩) (c34 : PySem.W.codeIn K cd34 "_law_world" = true) (k34 : PySem.W.keepIn K (.ref f34) = true)
  (a35 : PySem.W.nsIn K mainGlobals "_law_spot" = some (some (.ref f35))) (l35 : K.lookup f35 = some ⟨oc35, od35, .func (PySem.W.fnOf "_law_spot" "_law_spot" (Zt Kh) (Zr Kh) (Ze Kh) .none kV35 dc35 pm35 an35 cd35 ct35), sl35⟩) (c35 : PySem.W.codeIn K cd35 "_law_spot" = true) (k35 : PySem.W.keepIn K (.ref f35) = true)
  (a36 : PySem.W.nsIn K mainGlobals "_law_land" = some (some (.ref f36))) (l36 : K.lookup f36 = some ⟨oc36, od36, .func (PySem.W.fnOf "_law_land" "_law_land" (Zt K5) (Zr K5) (Ze K5) .none kV36 dc36 pm36 an36 cd36 ct36), sl36⟩) (c36 : PySem.W.codeIn K cd36 "_law_land" = true) (k36 : PySem.W.keepIn K (.ref f36) = true)
  (a37 : PySem.W.nsIn K mainGlobals "_law_telling" = some (some (.ref f37))) (l37 : K.lookup f37 = some ⟨oc37, od37, .func (PySem.W.fnOf "_law_telling" "_law_telling" (Zt J0) (Zr J0) (Ze J0) .none kV37 dc37 pm37 an37 cd37 ct37), sl37⟩) (c37 : PySem.W.codeIn K cd37 "_law_telling" = true) (k37 : PySem.W.keepIn K (.ref f37) = true)
  (a38 : PySem.W.nsIn K mainGlobals "_law_some" = some (some (.ref f38))) (l38 : K.lookup f38 = some ⟨oc38, od38, .func (PySem.W.fnOf "_law_some" "_law_some" (Zt XR) (Zr XR) (Ze XR) .none kV38 dc38 pm38 an38 cd38 ct38), sl38⟩) (c38 : PySem.W.codeIn K cd38 "_law_some" = true) (k38 : PySem.W.keepIn K (.ref f38) = true)
  (a39 : PySem.W.nsIn K mainGlobals "_law_spot_text" = some (some (.ref f39))) (l39 : K.lookup f39 = some ⟨oc39, od39, .func (PySem.W.fnOf "_law_spot_text" "_law_spot_text" (Zt QN) (Zr QN) (Ze QN) .none kV39 dc39 pm39 an39 cd39 ct39), sl39⟩) (c39 : PySem.W.codeIn K cd39 "_law_spot_text" = true) (k39 : PySem.W.keepIn K (.ref f39) = true)
  (a40 : PySem.W.nsIn K mainGlobals "_law_line" = some (some (.ref f40))) (l40 : K.lookup f40 = some ⟨oc40, od40, .func (PySem.W.fnOf "_law_line" "_law_line" (Zt K0) (Zr K0) (Ze K0) .none kV40 dc40 pm40 an40 cd40 ct40), sl40⟩) (c40 : PySem.W.codeIn K cd40 "_law_line" = true) (k40 : PySem.W.keepIn K (.ref f40) = true)
  (a41 : PySem.W.nsIn K mainGlobals "law" = some (some (.ref f41))) (l41 : K.lookup f41 = some ⟨oc41, od41, .func (PySem.W.fnOf "law" "law" (Zt Bp) (Zr Bp) (Ze Bp) .none kV41 dc41 pm41 an41 cd41 ct41), sl41⟩) (c41 : PySem.W.codeIn K cd41 "law" = true) (k41 : PySem.W.keepIn K (.ref f41) = true)
  (z0 : PySem.W.nsIn K mainGlobals "abs" = some none)
  (z1 : PySem.W.nsIn K mainGlobals "all" = some none)
  (z2 : PySem.W.nsIn K mainGlobals "bool" = some none)
  (z3 : PySem.W.nsIn K mainGlobals "int" = some none)
  (z4 : PySem.W.nsIn K mainGlobals "isinstance" = some none)
  (z5 : PySem.W.nsIn K mainGlobals "len" = some none)
  (z6 : PySem.W.nsIn K mainGlobals "max" = some none)
  (z7 : PySem.W.nsIn K mainGlobals "range" = some none)
  (z8 : PySem.W.nsIn K mainGlobals "repr" = some none)
  (z9 : PySem.W.nsIn K mainGlobals "str" = some none)
  (z10 : PySem.W.nsIn K mainGlobals "tuple" = some none)
  (u0 : PySem.W.nsIn K mainGlobals "MOST" = some (some (.int 999999999999 tk0)))
  (u1 : PySem.W.nsIn K mainGlobals "MOST_BOXES" = some (some (.int 6 tk1)))
  (u2 : PySem.W.nsIn K mainGlobals "MOST_LETTERS" = some (some (.int 8 tk2)))
  (u3 : PySem.W.nsIn K mainGlobals "LAST_TIME" = some (some (.int 1000000000000 tk3)))
  (u4 : PySem.W.nsIn K mainGlobals "MOST_FIGURES" = some (some (.int 60 tk4))) :
  ∃ fd : FuncData, (∀ (s : Shared) (v : Value), BindsTo s fd ⟨[v], []⟩ [("_law_script", v)]) ∧ ∀ base : Heap, K.In base → base.Ns mainGlobals mg → ZE l.prog w K mg base CX0 9 fa fd ["_law_script"] (lift K Ha) := by
 have e := hfa.symm.trans (PySem.W.mg_of X G a41)
 cases e
 have F0 := Zy (st := Jf) l0 c0 k0
 have b0 := F0.binds (ps := ["thing"]) fun _ _ _ _ _ _ us hl => by obtain ⟨_, rfl⟩ := Qx hl; rfl
 have F1 := Zy (st := Jg) l1 c1 k1
 have b1 := F1.binds (ps := ["thing"]) fun _ _ _ _ _ _ us hl => by obtain ⟨_, rfl⟩ := Qx hl; rfl
 have F2 := Zy (st := Qe) l2 c2 k2
 have b2 := F2.binds (ps := ["thing"]) fun _ _ _ _ _ _ us hl => by obtain ⟨_, rfl⟩ := Qx hl; rfl
 have F3 := Zy (st := JY) l3 c3 k3
 have b3 := F3.binds (ps := ["thing"]) fun _ _ _ _ _ _ us hl => by obtain ⟨_, rfl⟩ := Qx hl; rfl
 have F4 := Zy (st := VH) l4 c4 k4
 have b4 := F4.binds (ps := ["thing"]) fun _ _ _ _ _ _ us hl => by obtain ⟨_, rfl⟩ := Qx hl; rfl
 have F5 := Zy (st := QV) l5 c5 k5
 have b5 := F5.binds (ps := ["box"]) fun _ _ _ _ _ _ us hl => by obtain ⟨_, rfl⟩ := Qx hl; rfl
 have F6 := Zy (st := Z3) l6 c6 k6
 have b6 := F6.binds (ps := ["one", "other"]) fun _ _ _ _ _ _ us hl => by obtain ⟨_, _, rfl⟩ := W4 hl; rfl
 have F7 := Zy (st := Cy) l7 c7 k7
 have b7 := F7.binds (ps := ["one", "other", "way"]) fun _ _ _ _ _ _ us hl => by obtain ⟨_, _, _, rfl⟩ := MX hl; rfl
 have F8 := Zy (st := QK) l8 c8 k8
 have b8 := F8.binds (ps := ["thing"]) fun _ _ _ _ _ _ us hl => by obtain ⟨_, rfl⟩ := Qx hl; rfl
 have F9 := Zy (st := QL) l9 c9 k9
 have b9 := F9.binds (ps := ["boxes"]) fun _ _ _ _ _ _ us hl => by obtain ⟨_, rfl⟩ := Qx hl; rfl
 have F10 := Zy (st := Jq) l10 c10 k10
 have b10 := F10.binds (ps := ["thing"]) fun _ _ _ _ _ _ us hl => by obtain ⟨_, rfl⟩ := Qx hl; rfl
 have F11 := Zy (st := JT) l11 c11 k11
 have b11 := F11.binds (ps := ["thing"]) fun _ _ _ _ _ _ us hl => by obtain ⟨_, rfl⟩ := Qx hl; rfl
 have F12 := Zy (st := Qv) l12 c12 k12
 have b12 := F12.binds (ps := ["thing"]) fun _ _ _ _ _ _ us hl => by obtain ⟨_, rfl⟩ := Qx hl; rfl
 have F13 := Zy (st := ZH) l13 c13 k13
 have b13 := F13.binds (ps := ["thing"]) fun _ _ _ _ _ _ us hl => by obtain ⟨_, rfl⟩ := Qx hl; rfl
 have F14 := Zy (st := QR) l14 c14 k14
 have b14 := F14.binds (ps := ["thing"]) fun _ _ _ _ _ _ us hl => by obtain ⟨_, rfl⟩ := Qx hl; rfl
 have F15 := Zy (st := ZO) l15 c15 k15
 have b15 := F15.binds (ps := ["tellings"]) fun _ _ _ _ _ _ us hl => by obtain ⟨_, rfl⟩ := Qx hl; rfl
 have F16 := Zy (st := ZQ) l16 c16 k16
 have b16 := F16.binds (ps := ["text"]) fun _ _ _ _ _ _ us hl => by obtain ⟨_, rfl⟩ := Qx hl; rfl
 have F17 := Zy (st := QY) l17 c17 k17
 have b17 := F17.binds (ps := ["telling"]) fun _ _ _ _ _ _ us hl => by obtain ⟨_, rfl⟩ := Qx hl; rfl
 have F18 := Zy (st := QM) l18 c18 k18
 have b18 := F18.binds (ps := ["box"]) fun _ _ _ _ _ _ us hl => by obtain ⟨_, rfl⟩ := Qx hl; rfl
 have F19 := Zy (st := Qp) l19 c19 k19
 have b19 := F19.binds (ps := ["spot"]) fun _ _ _ _ _ _ us hl => by obtain ⟨_, rfl⟩ := Qx hl; rfl
 have F20 := Zy (st := Qr) l20 c20 k20
 have b20 := F20.binds (ps := ["line"]) fun _ _ _ _ _ _ us hl => by obtain ⟨_, rfl⟩ := Qx hl; rfl
 have F21 := Zy (st := Qb) l21 c21 k21
 have b21 := F21.binds (ps := ["words"]) fun _ _ _ _ _ _ us hl => by obtain ⟨_, rfl⟩ := Qx hl; rfl
 have F22 := Zy (st := Qt) l22 c22 k22
 have b22 := F22.binds (ps := ["word"]) fun _ _ _ _ _ _ us hl => by obtain ⟨_, rfl⟩ := Qx hl; rfl
 have F23 := Zy (st := QW) l23 c23 k23
 have b23 := F23.binds (ps := ["word"]) fun _ _ _ _ _ _ us hl => by obtain ⟨_, rfl⟩ := Qx hl; rfl
 have F24 := Zy (st := Qq) l24 c24 k24
 have b24 := F24.binds (ps := ["word"]) fun _ _ _ _ _ _ us hl => by obtain ⟨_, rfl⟩ := Qx hl; rfl
 have F25 := Zy (st := QS) l25 c25 k25
 have b25 := F25.binds (ps := ["word"]) fun _ _ _ _ _ _ us hl => by obtain ⟨_, rfl⟩ := Qx hl; rfl
 have F26 := Zy (st := Z6) l26 c26 k26
 have b26 := F26.binds (ps := ["text"]) fun _ _ _ _ _ _ us hl => by obtain ⟨_, rfl⟩ := Qx hl; rfl
 have F27 := Zy (st := KZ) l27 c27 k27
 have b27 := F27.binds (ps := ["_law_pen", "_law_many"]) fun _ _ _ _ _ _ us hl => by obtain ⟨_, _, rfl⟩ := W4 hl; rfl
 have F28 := Zy (st := KL) l28 c28 k28
 have b28 := F28.binds (ps := ["_law_pen", "_law_many"]) fun _ _ _ _ _ _ us hl => by obtain ⟨_, _, rfl⟩ := W4 hl; rfl
 have F29 := Zy (st := s_same) l29 c29 k29
 have b29 := F29.binds (ps := ["_law_found", "_law_due"]) fun _ _ _ _ _ _ us hl => by obtain ⟨_, _, rfl⟩ := W4 hl; rfl
 have F30 := Zy (st := V1) l30 c30 k30
 have b30 := F30.binds (ps := ["_law_pen", "_law_most"]) fun _ _ _ _ _ _ us hl => by obtain ⟨_, _, rfl⟩ := W4 hl; rfl
 have F31 := Zy (st := QP) l31 c31 k31
 have b31 := F31.binds (ps := ["_law_boxes_here", "_law_by", "_law_off"]) fun _ _ _ _ _ _ us hl => by obtain ⟨_, _, _, rfl⟩ := MX hl; rfl
 have F32 := Zy (st := JX) l32 c32 k32
 have b32 := F32.binds (ps := ["_law_pen"]) fun _ _ _ _ _ _ us hl => by obtain ⟨_, rfl⟩ := Qx hl; rfl
 have F33 := Zy (st := Jj) l33 c33 k33
 have b33 := F33.binds (ps := ["_law_pen", "_law_many"]) fun _ _ _ _ _ _ us hl => by obtain ⟨_, _, rfl⟩ := W4 hl; rfl
 have F34 := Zy (st := Y2) l34 c34 k34
 have b34 := F34.binds (ps := ["_law_pen"]) fun _ _ _ _ _ _ us hl => by obtain ⟨_, rfl⟩ := Qx hl; rfl
 have F35 := Zy (st := Kh) l35 c35 k35
 have b35 := F35.binds (ps := ["_law_pen", "_law_world_here"]) fun _ _ _ _ _ _ us hl => by obtain ⟨_, _, rfl⟩ := W4 hl; rfl
 have F36 := Zy (st := K5) l36 c36 k36
 have b36 := F36.binds (ps := ["_law_pen", "_law_world_here", "_law_time"]) fun _ _ _ _ _ _ us hl => by obtain ⟨_, _, _, rfl⟩ := MX hl; rfl
 have F37 := Zy (st := J0) l37 c37 k37
 have b37 := F37.binds (ps := ["_law_pen", "_law_world_here"]) fun _ _ _ _ _ _ us hl => by obtain ⟨_, _, rfl⟩ := W4 hl; rfl
 have F38 := Zy (st := XR) l38 c38 k38
 have b38 := F38.binds (ps := ["_law_pen", "_law_world_here", "_law_most"]) fun _ _ _ _ _ _ us hl => by obtain ⟨_, _, _, rfl⟩ := MX hl; rfl
 have F39 := Zy (st := QN) l39 c39 k39
 have b39 := F39.binds (ps := ["_law_spot_here"]) fun _ _ _ _ _ _ us hl => by obtain ⟨_, rfl⟩ := Qx hl; rfl
 have F40 := Zy (st := K0) l40 c40 k40
 have b40 := F40.binds (ps := ["_law_one"]) fun _ _ _ _ _ _ us hl => by obtain ⟨_, rfl⟩ := Qx hl; rfl
 have F41 := Zy (st := Bp) l41 c41 k41
 have b41 := F41.binds (ps := ["_law_script"]) fun _ _ _ _ _ _ us hl => by obtain ⟨_, rfl⟩ := Qx hl; rfl
 let T : Tx K mg := ⟨_, _, ⟨F0, PySem.W.mg_of X G a0, b0⟩, _, _, ⟨F1, PySem.W.mg_of X G a1, b1⟩, _, _, ⟨F2, PySem.W.mg_of X G a2, b2⟩, _, _, ⟨F3, PySem.W.mg_of X G a3, b3⟩, _, _, ⟨F4, PySem.W.mg_of X G a4, b4⟩, _, _, ⟨F5, PySem.W.mg_of X G a5, b5⟩, _, _, ⟨F6, PySem.W.mg_of X G a6, b6⟩, _, _, ⟨F7, PySem.W.mg_of X G a7, b7⟩, _, _, ⟨F8, PySem.W.mg_of X G a8, b8⟩, _, _, ⟨F9, PySem.W.mg_of X G a9, b9⟩, _, _, ⟨F10, PySem.W.mg_of X G a10, b10⟩, _, _, ⟨F11, PySem.W.mg_of X G a11, b11⟩, _, _, ⟨F12, PySem.W.mg_of X G a12, b12⟩, _, _, ⟨F13, PySem.W.mg_of X G a13, b13⟩, _, _, ⟨F14, PySem.W.mg_of X G a14, b14⟩, _, _, ⟨F15, PySem.W.mg_of X G a15, b15⟩, _, _, ⟨F16, PySem.W.mg_of X G a16, b16⟩, _, _, ⟨F17, PySem.W.mg_of X G a17, b17⟩, _, _, ⟨F18, PySem.W.mg_of X G a18, b18⟩, _, _, ⟨F19, PySem.W.mg_of X G a19, b19⟩, _, _, ⟨F20, PySem.W.mg_of X G a20, b20⟩, _, _, ⟨F21, PySem.W.mg_of X G a21, b21⟩, _, _, ⟨F22, PySem.W.mg_of X G a22, b22⟩, _, _, ⟨F23, PySem.W.mg_of X G a23, b23⟩, _, _, ⟨F24, PySem.W.mg_of X G a24, b24⟩, _, _, ⟨F25, PySem.W.mg_of X G a25, b25⟩, _, _, ⟨F26, PySem.W.mg_of X G a26, b26⟩, _, _, ⟨F27, PySem.W.mg_of X G a27, b27⟩, _, _, ⟨F28, PySem.W.mg_of X G a28, b28⟩, _, _, ⟨F29, PySem.W.mg_of X G a29, b29⟩, _, _, ⟨F30, PySem.W.mg_of X G a30, b30⟩, _, _, ⟨F31, PySem.W.mg_of X G a31, b31⟩, _, _, ⟨F32, PySem.W.mg_of X G a32, b32⟩, _, _, ⟨F33, PySem.W.mg_of X G a33, b33⟩, _, _, ⟨F34, PySem.W.mg_of X G a34, b34⟩, _, _, ⟨F35, PySem.W.mg_of X G a35, b35⟩, _, _, ⟨F36, PySem.W.mg_of X G a36, b36⟩, _, _, ⟨F37, PySem.W.mg_of X G a37, b37⟩, _, _, ⟨F38, PySem.W.mg_of X G a38, b38⟩, _, _, ⟨F39, PySem.W.mg_of X G a39, b39⟩, _, _, ⟨F40, PySem.W.mg_of X G a40, b40⟩, _, _, ⟨F41, PySem.W.mg_of X G a41, b41⟩, PySem.W.mg_none_of X G z0, PySem.W.mg_none_of X G z1, PySem.W.mg_none_of X G z2, PySem.W.mg_none_of X G z3, PySem.W.mg_none_of X G z4, PySem.W.mg_none_of X G z5, PySem.W.mg_none_of X G z6, PySem.W.mg_none_of X G z7, PySem.W.mg_none_of X G z8, PySem.W.mg_none_of X G z9, PySem.W.mg_none_of X G z10, _, PySem.W.mg_of X G u0, _, PySem.W.mg_of X G u1, _, PySem.W.mg_of X G u2, _, PySem.W.mg_of X G u3, _, PySem.W.mg_of X G u4⟩
 exact ⟨_, fun s v => .of_eq rfl, fun base _ _ => SY T⟩
theorem walk {l : PySem.W.OpenLaw} {q : Program} {loose : List Str} {XP : (Str → Option Value) → Heap → Prop} {YP : World → Heap → Prop} {d : DefRec} {K : Params → PySem.W.Frag} (hn : l.most = some 63) (hdf : d.params.defaults = [])
  (hY : ∀ (w : World) (h : Heap), YP w h → (K w.params).In h)
  (F : ∀ (w : World) (mg : Str → Option Value) (fa : Addr) (h : Heap), (K w.params).In h → h.Ns mainGlobals mg → mg d.name = some (.ref fa) →
   ∃ fd : FuncData, (∀ (s : Shared) (u : Value), BindsTo s fd ⟨[u], []⟩ [("_law_script", u)]) ∧ ∀ base : Heap, (K w.params).In base → base.Ns mainGlobals mg → ZE l.prog w (K w.params) mg base CX0 9 fa fd ["_law_script"] (lift (K w.params) Ha)) :
  PySem.W.WalkO q loose XP YP l.row.toRowW d [] (fun f vs => PySem.call f vs) :=
 L2.RI (n := 63) (k := 9) (x := "_law_script") (CX := fun _ => CX0) (sp := fun w => lift (K w.params) Ha) hn (by decide) hdf ⟨rfl, by decide, by decide, rfl⟩ hY F
  (fun w H a ns hl hO hS => Er hl hO hS) fun _ _ _ _ _ z => z
end My
theorem PySem.W.Fast.tw13637300237167652867 : True := trivial
theorem PySem.W.Fast.tw2140457838261468383 : True := trivial
theorem PySem.W.Fast.tw16654546495691611648 : True := trivial
theorem PySem.W.Fast.tw7278601029449450339 : True := trivial
theorem PySem.W.Fast.tw11073742200243368084 : True := trivial
theorem PySem.W.Fast.tw13248504471875058803 : True := trivial
theorem PySem.W.Fast.tw17226420713603208385 : True := trivial
theorem PySem.W.Fast.tw1789682326601202949 : True := trivial
theorem PySem.W.Fast.tw16081805593265398440 : True := trivial
theorem PySem.W.Fast.tw6748961320701532048 : True := trivial
theorem PySem.W.Fast.tw7010623861287142586 : True := trivial
theorem PySem.W.Fast.tw3112407142305978570 : True := trivial
theorem PySem.W.Fast.tw10555688867084011996 : True := trivial
theorem PySem.W.Fast.tw8562680312871003614 : True := trivial
theorem PySem.W.Fast.tw16825361778681453394 : True := trivial
theorem PySem.W.Fast.tw16004184115370855513 : True := trivial
theorem PySem.W.Fast.tw11956308061289986919 : True := trivial
theorem PySem.W.Fast.tw1289855977539100009 : True := trivial
theorem PySem.W.Fast.tw5447759877888399264 : True := trivial
theorem PySem.W.Fast.tw2206751297286013916 : True := trivial
theorem PySem.W.Fast.tw4199493824693037981 : True := trivial
theorem PySem.W.Fast.tw394051178500486078 : True := trivial
theorem PySem.W.Fast.tw11325599187580946226 : True := trivial
theorem PySem.W.Fast.tw12804593286055404748 : True := trivial
theorem PySem.W.Fast.tw16257893456407697962 : True := trivial
theorem PySem.W.Fast.tw223510315134484124 : True := trivial
theorem PySem.W.Fast.tw11189629464177298516 : True := trivial
theorem PySem.W.Fast.tw18079455626378556887 : True := trivial
theorem PySem.W.Fast.tw8042373801178714946 : True := trivial
theorem PySem.W.Fast.tw11883458379942632556 : True := trivial
theorem PySem.W.Fast.tw4112603281004106374 : True := trivial
theorem PySem.W.Fast.tw3043975839129305201 : True := trivial
theorem PySem.W.Fast.tw760044409902949416 : True := trivial
theorem PySem.W.Fast.tw17756423799672759903 : True := trivial
theorem PySem.W.Fast.tw1951121399514214758 : True := trivial
theorem PySem.W.Fast.tw8313015724569347003 : True := trivial
theorem PySem.W.Fast.tw16653519182851372447 : True := trivial
theorem PySem.W.Fast.tw2746556944923217264 : True := trivial
theorem PySem.W.Fast.tw1166324286000563513 : True := trivial
theorem PySem.W.Fast.tw7178661866084640474 : True := trivial
theorem PySem.W.Fast.tw4458031876526490302 : True := trivial
theorem PySem.W.Fast.tw9397580451046757243 : True := trivial
theorem PySem.W.Fast.tw18266729194142255176 : True := trivial
theorem PySem.W.Fast.tw4119176893372000368 : True := trivial
theorem PySem.W.Fast.tw1643710256286567261 : True := trivial
theorem PySem.W.Fast.tw4244385852018147618 : True := trivial
theorem PySem.W.Fast.tw14817484693115995104 : True := trivial
theorem PySem.W.Fast.tw16912179921424765086 : True := trivial
theorem PySem.W.Fast.tw7619802604097354714 : True := trivial
theorem PySem.W.Fast.tw13246116023675698576 : True := trivial
theorem PySem.W.Fast.tw7358707093179184419 : True := trivial
theorem PySem.W.Fast.tw17067930044931385288 : True := trivial
theorem PySem.W.Fast.tw5736539277209750491 : True := trivial
theorem PySem.W.Fast.tw8927712619909989168 : True := trivial
theorem PySem.W.Fast.tw5823363761190830865 : True := trivial
theorem PySem.W.Fast.tw17232405083561033285 : True := trivial
theorem PySem.W.Fast.tw17790869349659466748 : True := trivial
theorem PySem.W.Fast.tw7630580486412089525 : True := trivial
theorem PySem.W.Fast.tw17648778458410918441 : True := trivial
theorem PySem.W.Fast.tw17728084983077117448 : True := trivial
theorem PySem.W.Fast.tw768111083393279733 : True := trivial
theorem PySem.W.Fast.tw2183005312400205504 : True := trivial
theorem PySem.W.Fast.tw3313196533208487952 : True := trivial
theorem PySem.W.Fast.tw2546643133379016550 : True := trivial
theorem PySem.W.Fast.tw2508898183459114400 : True := trivial
theorem PySem.W.Fast.tw14547937982371341231 : True := trivial
theorem PySem.W.Fast.tw9313155206502271627 : True := trivial
theorem PySem.W.Fast.tw15649153080091537836 : True := trivial
theorem PySem.W.Fast.tw17230788130787831603 : True := trivial
theorem PySem.W.Fast.tw1629753683773647963 : True := trivial
theorem PySem.W.Fast.tw10381180982929369102 : True := trivial
theorem PySem.W.Fast.tw1784302884207421947 : True := trivial
theorem PySem.W.Fast.tw8519923882679151739 : True := trivial
theorem PySem.W.Fast.tw14128029788040348747 : True := trivial
theorem PySem.W.Fast.tw12671558505941991431 : True := trivial
theorem PySem.W.Fast.tw2985530058389589907 : True := trivial
theorem PySem.W.Fast.tw693347496087087865 : True := trivial
theorem PySem.W.Fast.tw4941500701241848534 : True := trivial
theorem PySem.W.Fast.tw14771491469693871706 : True := trivial
theorem PySem.W.Fast.tw1491876247183575027 : True := trivial
theorem PySem.W.Fast.tw5879405277262503583 : True := trivial
theorem PySem.W.Fast.tw5010171668584061862 : True := trivial
theorem PySem.W.Fast.tw13049963943629991234 : True := trivial
theorem PySem.W.Fast.tw11435498303168482662 : True := trivial
theorem PySem.W.Fast.tw7867336720564530804 : True := trivial
theorem PySem.W.Fast.tw5703583003117148920 : True := trivial
theorem PySem.W.Fast.tw15368611319396310663 : True := trivial
theorem PySem.W.Fast.tw4660791209130478430 : True := trivial
theorem PySem.W.Fast.tw17796789537327295616 : True := trivial
theorem PySem.W.Fast.tw10094438825263241939 : True := trivial
theorem PySem.W.Fast.tw714901570399728427 : True := trivial
theorem PySem.W.Fast.tw7951480431186648324 : True := trivial
theorem PySem.W.Fast.tw402200891621364308 : True := trivial
theorem PySem.W.Fast.tw3577621582150991672 : True := trivial
theorem PySem.W.Fast.tw9132659843661310364 : True := trivial
theorem PySem.W.Fast.tw14729296903131990573 : True := trivial
theorem PySem.W.Fast.tw7368535134018891914 : True := trivial
theorem PySem.W.Fast.tw16140813953517982311 : True := trivial
theorem PySem.W.Fast.tw6834764587990359035 : True := trivial
theorem PySem.W.Fast.tw5257980271987373892 : True := trivial
theorem PySem.W.Fast.tw14920216099302514380 : True := trivial
theorem PySem.W.Fast.tw11793806529498741240 : True := trivial
theorem PySem.W.Fast.tw6070808696315424770 : True := trivial
theorem PySem.W.Fast.tw2002438319823999409 : True := trivial
theorem PySem.W.Fast.tw14264432460280370311 : True := trivial
theorem PySem.W.Fast.tw5537809949946158433 : True := trivial
theorem PySem.W.Fast.tw9747961737640927505 : True := trivial
theorem PySem.W.Fast.tw1296262581829410088 : True := trivial
theorem PySem.W.Fast.tw2864721500100184139 : True := trivial
theorem PySem.W.Fast.tw8969861466758751030 : True := trivial
theorem PySem.W.Fast.tw15100685007979002890 : True := trivial
theorem PySem.W.Fast.tw15447277095596822618 : True := trivial
theorem PySem.W.Fast.tw2587842155460853711 : True := trivial
theorem PySem.W.Fast.tw10437092764489902248 : True := trivial
theorem PySem.W.Fast.tw5518775984273734138 : True := trivial
theorem PySem.W.Fast.tw16724114684063520181 : True := trivial
theorem PySem.W.Fast.tw6617500354505622820 : True := trivial
theorem PySem.W.Fast.tw4964527832212606452 : True := trivial
theorem PySem.W.Fast.tw1096319420904874369 : True := trivial
theorem PySem.W.Fast.tw10546599067730195374 : True := trivial
theorem PySem.W.Fast.tw9619364006241783176 : True := trivial
theorem PySem.W.Fast.tw5729289879206219877 : True := trivial
theorem PySem.W.Fast.tw269234907323003302 : True := trivial
theorem PySem.W.Fast.tw1316458679056776019 : True := trivial
theorem PySem.W.Fast.tw4757886138036280055 : True := trivial
theorem PySem.W.Fast.tw8037842970983785112 : True := trivial
theorem PySem.W.Fast.tw11230969687560976464 : True := trivial
theorem PySem.W.Fast.tw9139359203144369770 : True := trivial
theorem PySem.W.Fast.tw17041425422891520196 : True := trivial
theorem PySem.W.Fast.tw11872594963007885079 : True := trivial
theorem PySem.W.Fast.tw9270554239679259731 : True := trivial
theorem PySem.W.Fast.tw11454134048311975384 : True := trivial
theorem PySem.W.Fast.tw4241733606674444553 : True := trivial
theorem PySem.W.Fast.tw17446537720932163653 : True := trivial
theorem PySem.W.Fast.tw1403682180281893942 : True := trivial
theorem PySem.W.Fast.tw14934699610637346416 : True := trivial
theorem PySem.W.Fast.tw2243314296337198801 : True := trivial
theorem PySem.W.Fast.tw2985242285115246787 : True := trivial
theorem PySem.W.Fast.tw150934137182057003 : True := trivial
theorem PySem.W.Fast.tw17704624942759568917 : True := trivial
theorem PySem.W.Fast.tw3798505912974998660 : True := trivial
theorem PySem.W.Fast.tw5278662845823565055 : True := trivial
theorem PySem.W.Fast.tw99258569485605738 : True := trivial
theorem PySem.W.Fast.tw10610540292496528287 : True := trivial
theorem PySem.W.Fast.tw5984484373768362349 : True := trivial
theorem PySem.W.Fast.tw5849619086859496325 : True := trivial
theorem PySem.W.Fast.tw14114466641885540793 : True := trivial
theorem PySem.W.Fast.tw3360936388543246234 : True := trivial
theorem PySem.W.Fast.tw415994340123094146 : True := trivial
theorem PySem.W.Fast.tw35661559878012255 : True := trivial
theorem PySem.W.Fast.tw17484495893448757689 : True := trivial
theorem PySem.W.Fast.tw538887960646577393 : True := trivial
theorem PySem.W.Fast.tw8042407795603685444 : True := trivial
theorem PySem.W.Fast.tw14779697584736778879 : True := trivial
theorem PySem.W.Fast.tw9787521615154381995 : True := trivial
theorem PySem.W.Fast.tw10640380832765116705 : True := trivial
theorem PySem.W.Fast.tw554553660620269716 : True := trivial
theorem PySem.W.Fast.tw4375811274939045819 : True := trivial
theorem PySem.W.Fast.tw15724323127466044943 : True := trivial
theorem PySem.W.Fast.tw3126485632047984281 : True := trivial
theorem PySem.W.Fast.tw17567807464450933255 : True := trivial
theorem PySem.W.Fast.tw5096804755873104896 : True := trivial
theorem PySem.W.Fast.tw3294897600874573229 : True := trivial
theorem PySem.W.Fast.tw5168373123022371271 : True := trivial
theorem PySem.W.Fast.tw769524378923398213 : True := trivial
theorem PySem.W.Fast.tw6622250135213987896 : True := trivial
theorem PySem.W.Fast.tw8924742481293083841 : True := trivial
theorem PySem.W.Fast.tw17246834567079041572 : True := trivial
theorem PySem.W.Fast.tw9093352705599011060 : True := trivial
theorem PySem.W.Fast.tw3680898930173946398 : True := trivial
theorem PySem.W.Fast.tw10949079145010463354 : True := trivial
theorem PySem.W.Fast.tw5236797147857272145 : True := trivial
theorem PySem.W.Fast.tw8701532705080317723 : True := trivial
theorem PySem.W.Fast.tw15533488255317536943 : True := trivial
theorem PySem.W.Fast.tw15354079298272395001 : True := trivial
theorem PySem.W.Fast.tw13272282152810896040 : True := trivial
theorem PySem.W.Fast.tw8588888453409769714 : True := trivial
theorem PySem.W.Fast.tw11804209646044973791 : True := trivial
theorem PySem.W.Fast.tw2495012240420308255 : True := trivial
theorem PySem.W.Fast.tw13750009285073349508 : True := trivial
theorem PySem.W.Fast.tw2469447822906566427 : True := trivial
theorem PySem.W.Fast.tw385567860822654159 : True := trivial
theorem PySem.W.Fast.tw5646264338441871612 : True := trivial
theorem PySem.W.Fast.tw2750510958238358436 : True := trivial
theorem PySem.W.Fast.tw7269584029572063529 : True := trivial
theorem PySem.W.Fast.tw443193554826342263 : True := trivial
theorem PySem.W.Fast.tw1117884164429259736 : True := trivial
theorem PySem.W.Fast.tw524662145735171019 : True := trivial
theorem PySem.W.Fast.tw3805236883131722821 : True := trivial
theorem PySem.W.Fast.tw15570409434813208185 : True := trivial
theorem PySem.W.Fast.tw1944442306936739627 : True := trivial
theorem PySem.W.Fast.tw2507925895145634990 : True := trivial
theorem PySem.W.Fast.tw13011808234998326000 : True := trivial
theorem PySem.W.Fast.tw11363114571399395937 : True := trivial
theorem PySem.W.Fast.tw15916049841006522041 : True := trivial
theorem PySem.W.Fast.tw6748281485473308250 : True := trivial
theorem PySem.W.Fast.tw9686466096827973471 : True := trivial
theorem PySem.W.Fast.tw7716166421847959388 : True := trivial
theorem PySem.W.Fast.tw10862047109146914576 : True := trivial
theorem PySem.W.Fast.tw3154654162932420043 : True := trivial
theorem PySem.W.Fast.tw2408023987941945558 : True := trivial
theorem PySem.W.Fast.tw7579707700946438105 : True := trivial
theorem PySem.W.Fast.tw17210698379287746072 : True := trivial
theorem PySem.W.Fast.tw1539917195036328485 : True := trivial
theorem PySem.W.Fast.tw8048277674085914523 : True := trivial
theorem PySem.W.Fast.tw7973687516087471264 : True := trivial
theorem PySem.W.Fast.tw7221024527896815683 : True := trivial
theorem PySem.W.Fast.tw13796679036341801176 : True := trivial
theorem PySem.W.Fast.tw9722161331078503652 : True := trivial
theorem PySem.W.Fast.tw13510675051812558231 : True := trivial
theorem PySem.W.Fast.tw7593706676170308826 : True := trivial
theorem PySem.W.Fast.tw11986281019351204021 : True := trivial
theorem PySem.W.Fast.tw9349108362356155385 : True := trivial
theorem PySem.W.Fast.tw13591198606281576358 : True := trivial
theorem PySem.W.Fast.tw3246242683769555855 : True := trivial
theorem PySem.W.Fast.tw5851272792870811109 : True := trivial
theorem PySem.W.Fast.tw1961415894348407439 : True := trivial
theorem PySem.W.Fast.tw7438891426701461942 : True := trivial
theorem PySem.W.Fast.tw13417330490559864287 : True := trivial
theorem PySem.W.Fast.tw5887242939003681381 : True := trivial
theorem PySem.W.Fast.tw5675748726208156084 : True := trivial
theorem PySem.W.Fast.tw8326374166115407227 : True := trivial
theorem PySem.W.Fast.tw1246680120009676575 : True := trivial
theorem PySem.W.Fast.tw5821702366580184364 : True := trivial
theorem PySem.W.Fast.tw16339978214436456082 : True := trivial
theorem PySem.W.Fast.tw1886767474936489470 : True := trivial
theorem PySem.W.Fast.tw15422597167373168531 : True := trivial
theorem PySem.W.Fast.tw10705835888707909413 : True := trivial
theorem PySem.W.Fast.tw5998278397862689460 : True := trivial
theorem PySem.W.Fast.tw18403697632430826841 : True := trivial
theorem PySem.W.Fast.tw7966881827485156108 : True := trivial
theorem PySem.W.Fast.tw5652210956726974590 : True := trivial
theorem PySem.W.Fast.tw2175524388458976536 : True := trivial
theorem PySem.W.Fast.tw4547019219196254936 : True := trivial
theorem PySem.W.Fast.tw12213405610423284997 : True := trivial
theorem PySem.W.Fast.tw16944429637761903103 : True := trivial
theorem PySem.W.Fast.tw5546635604779448765 : True := trivial
theorem PySem.W.Fast.tw6513399868766417881 : True := trivial
theorem PySem.W.Fast.tw15221026094224914793 : True := trivial
theorem PySem.W.Fast.tw10909007747150824257 : True := trivial
theorem PySem.W.Fast.tw17948060752944497868 : True := trivial
theorem PySem.W.Fast.tw5078142390855858031 : True := trivial
theorem PySem.W.Fast.tw1843085201650132490 : True := trivial
theorem PySem.W.Fast.tw7518905482056154343 : True := trivial
theorem PySem.W.Fast.tw4216884035316016066 : True := trivial
theorem PySem.W.Fast.tw13246079681013125341 : True := trivial
theorem PySem.W.Fast.tw15180699920443715281 : True := trivial
theorem PySem.W.Fast.tw11959978803241702233 : True := trivial
theorem PySem.W.Fast.tw387423390437832995 : True := trivial
theorem PySem.W.Fast.tw9373450990681611273 : True := trivial
theorem PySem.W.Fast.tw4549713063317145487 : True := trivial
theorem PySem.W.Fast.tw3437471558524468729 : True := trivial
theorem PySem.W.Fast.tw11759565093251250696 : True := trivial
theorem PySem.W.Fast.tw15104035378849525444 : True := trivial
theorem PySem.W.Fast.tw6834585907434689914 : True := trivial
theorem PySem.W.Fast.tw16622641620580195781 : True := trivial
theorem PySem.W.Fast.tw8869867942536971585 : True := trivial
theorem PySem.W.Fast.tw17272739323753520795 : True := trivial
theorem PySem.W.Fast.tw7318172662331599456 : True := trivial
theorem PySem.W.Fast.tw4661587283295685076 : True := trivial
theorem PySem.W.Fast.tw14989976299197286164 : True := trivial
theorem PySem.W.Fast.tw1586199787838383418 : True := trivial
theorem PySem.W.Fast.tw2981434925939259042 : True := trivial
theorem PySem.W.Fast.tw9042877313706164384 : True := trivial
theorem PySem.W.Fast.tw3495936181088376728 : True := trivial
theorem PySem.W.Fast.tw12935337398010986949 : True := trivial
theorem PySem.W.Fast.tw9992273926063173255 : True := trivial
theorem PySem.W.Fast.tw3495360271635756176 : True := trivial
theorem PySem.W.Fast.tw242536204755392496 : True := trivial
theorem PySem.W.Fast.tw2863154668662421129 : True := trivial
theorem PySem.W.Fast.tw11098070989138592422 : True := trivial
theorem PySem.W.Fast.tw89552987013571382 : True := trivial
theorem PySem.W.Fast.tw10521818668420182596 : True := trivial
theorem PySem.W.Fast.tw3976105855328500430 : True := trivial
open PySem PySem.W PyProof.Rows
set_option maxRecDepth 100000 in
set_option maxHeartbeats 0 in
theorem PySem.Challenge.cw_landsentered_k44_tellings_as_texts_holds : PySem.Challenge.rw_landsentered_k44_tellings_as_texts.Holds := by
 w_on; o_law; k_head; (case hw => w_witness2)
 k_fill
 refine My.walk (l := PySem.Challenge.rw_landsentered_k44_tellings_as_texts) rfl rfl (fun w h Y => PySem.W.kIn_of Y) ?F
 case F =>
  intro w mg fa h KX G hmg
  refine' My.all_mk KX G hmg ?a0 ?l0 ?c0 ?k0 ?a1 ?l1 ?c1 ?k1 ?a2 ?l2 ?c2 ?k2 ?a3 ?l3 ?c3 ?k3 ?a4 ?l4 ?c4 ?k4 ?a5 ?l5 ?c5 ?k5 ?a6 ?l6 ?c6 ?k6 ?a7 ?l7 ?c7 ?k7 ?a8 ?l8 ?c8 ?k8 ?a9 ?l9 ?c9 ?k9 ?a10 ?l10 ?c10 ?k10 ?a11 ?l11 ?c11 ?k11 ?a12 ?l12 ?c12 ?k12 ?a13 ?l13 ?c13 ?k13 ?a14 ?l14 ?c14 ?k14 ?a15 ?l15 ?c15 ?k15 ?a16 ?l16 ?c16 ?k16 ?a17 ?l17 ?c17 ?k17 ?a18 ?l18 ?c18 ?k18 ?a19 ?l19 ?c19 ?k19 ?a20 ?l20 ?c20 ?k20 ?a21 ?l21 ?c21 ?k21 ?a22 ?l22 ?c22 ?k22 ?a23 ?l23 ?c23 ?k23 ?a24 ?l24 ?c24 ?k24 ?a25 ?l25 ?c25 ?k25 ?a26 ?l26 ?c26 ?k26 ?a27 ?l27 ?c27 ?k27 ?a28 ?l28 ?c28 ?k28 ?a29 ?l29 ?c29 ?k29 ?a30 ?l30 ?c30 ?k30 ?a31 ?l31 ?c31 ?k31 ?a32 ?l32 ?c32 ?k32 ?a33 ?l33 ?c33 ?k33 ?a34 ?l34 ?c34 ?k34 ?a35 ?l35 ?c35 ?k35 ?a36 ?l36 ?c36 ?k36 ?a37 ?l37 ?c37 ?k37 ?a38 ?l38 ?c38 ?k38 ?a39 ?l39 ?c39 ?k39 ?a40 ?l40 ?c40 ?k40 ?a41 ?l41 ?c41 ?k41 ?z0 ?z1 ?z2 ?z3 ?z4 ?z5 ?z6 ?z7 ?z8 ?z9 ?z10 ?u0 ?u1 ?u2 ?u3 ?u4
  (case a0 => k_is)
  (case l0 => k_is)
  (case c0 => k_is)
  (case k0 => k_is)
  (case a1 => k_is)
  (case l1 => k_is)
  (case c1 => k_is)
  (case k1 => k_is)
  (case a2 => k_is)
  (case l2 => k_is)
  (case c2 => k_is)
  (case k2 => k_is)
  (case a3 => k_is)
  (case l3 => k_is)
  (case c3 => k_is)
  (case k3 => k_is)
  (case a4 => k_is)
  (case l4 => k_is)
  (case c4 => k_is)
  (case k4 => k_is)
  (case a5 => k_is)
  (case l5 => k_is)
  (case c5 => k_is)
  (case k5 => k_is)
  (case a6 => k_is)
  (case l6 => k_is)
  (case c6 => k_is)
  (case k6 => k_is)
  (case a7 => k_is)
  (case l7 => k_is)
  (case c7 => k_is)
  (case k7 => k_is)
  (case a8 => k_is)
  (case l8 => k_is)
  (case c8 => k_is)
  (case k8 => k_is)
  (case a9 => k_is)
  (case l9 => k_is)
  (case c9 => k_is)
  (case k9 => k_is)
  (case a10 => k_is)
  (case l10 => k_is)
  (case c10 => k_is)
  (case k10 => k_is)
  (case a11 => k_is)
  (case l11 => k_is)
  (case c11 => k_is)
  (case k11 => k_is)
  (case a12 => k_is)
  (case l12 => k_is)
  (case c12 => k_is)
  (case k12 => k_is)
  (case a13 => k_is)
  (case l13 => k_is)
  (case c13 => k_is)
  (case k13 => k_is)
  (case a14 => k_is)
  (case l14 => k_is)
  (case c14 => k_is)
  (case k14 => k_is)
  (case a15 => k_is)
  (case l15 => k_is)
  (case c15 => k_is)
  (case k15 => k_is)
  (case a16 => k_is)
  (case l16 => k_is)
  (case c16 => k_is)
  (case k16 => k_is)
  (case a17 => k_is)
  (case l17 => k_is)
  (case c17 => k_is)
  (case k17 => k_is)
  (case a18 => k_is)
  (case l18 => k_is)
  (case c18 => k_is)
  (case k18 => k_is)
  (case a19 => k_is)
  (case l19 => k_is)
  (case c19 => k_is)
  (case k19 => k_is)
  (case a20 => k_is)
  (case l20 => k_is)
  (case c20 => k_is)
  (case k20 => k_is)
  (case a21 => k_is)
  (case l21 => k_is)
  (case c21 => k_is)
  (case k21 => k_is)
  (case a22 => k_is)
  (case l22 => k_is)
  (case c22 => k_is)
  (case k22 => k_is)
  (case a23 => k_is)
  (case l23 => k_is)
  (case c23 => k_is)
  (case k23 => k_is)
  (case a24 => k_is)
  (case l24 => k_is)
  (case c24 => k_is)
  (case k24 => k_is)
  (case a25 => k_is)
  (case l25 => k_is)
  (case c25 => k_is)
  (case k25 => k_is)
  (case a26 => k_is)
  (case l26 => k_is)
  (case c26 => k_is)
  (case k26 => k_is)
  (case a27 => k_is)
  (case l27 => k_is)
  (case c27 => k_is)
  (case k27 => k_is)
  (case a28 => k_is)
  (case l28 => k_is)
  (case c28 => k_is)
  (case k28 => k_is)
  (case a29 => k_is)
  (case l29 => k_is)
  (case c29 => k_is)
  (case k29 => k_is)
  (case a30 => k_is)
  (case l30 => k_is)
  (case c30 => k_is)
  (case k30 => k_is)
  (case a31 => k_is)
  (case l31 => k_is)
  (case c31 => k_is)
  (case k31 => k_is)
  (case a32 => k_is)
  (case l32 => k_is)
  (case c32 => k_is)
  (case k32 => k_is)
  (case a33 => k_is)
  (case l33 => k_is)
  (case c33 => k_is)
  (case k33 => k_is)
  (case a34 => k_is)
  (case l34 => k_is)
  (case c34 => k_is)
  (case k34 => k_is)
  (case a35 => k_is)
  (case l35 => k_is)
  (case c35 => k_is)
  (case k35 => k_is)
  (case a36 => k_is)
  (case l36 => k_is)
  (case c36 => k_is)
  (case k36 => k_is)
  (case a37 => k_is)
  (case l37 => k_is)
  (case c37 => k_is)
  (case k37 => k_is)
  (case a38 => k_is)
  (case l38 => k_is)
  (case c38 => k_is)
  (case k38 => k_is)
  (case a39 => k_is)
  (case l39 => k_is)
  (case c39 => k_is)
  (case k39 => k_is)
  (case a40 => k_is)
  (case l40 => k_is)
  (case c40 => k_is)
  (case k40 => k_is)
  (case a41 => k_is)
  (case l41 => k_is)
  (case c41 => k_is)
  (case k41 => k_is)
  (case z0 => k_is)
  (case z1 => k_is)
  (case z2 => k_is)
  (case z3 => k_is)
  (case z4 => k_is)
  (case z5 => k_is)
  (case z6 => k_is)
  (case z7 => k_is)
  (case z8 => k_is)
  (case z9 => k_is)
  (case z10 => k_is)
  (case u0 => k_is)
  (case u1 => k_is)
  (case u2 => k_is)
  (case u3 => k_is)
  (case u4 => k_is)
