import PyProof.Rows.All
import Wide.All
import OpenK.AllK
import Wide.FinOn
import Lean
import PyProof.EqAt
import PyProof.EqKinds
import PyProof.TupleCall
import PyProof.ReprRoads
import PyProof.EqLayable
import PyProof.NeData
import PyProof.Rows.TupDisplay
import PySem.Challenge.RW_landsentered_k13_depths_shown
set_option Elab.async false
set_option compiler.extract_closed false
set_option bootstrap.genMatcherCode false
set_option linter.all false
set_option maxRecDepth 100000
namespace L2
open PySem PySem.Spec PyProof.Rows
noncomputable abbrev Key := Sum Int Str
noncomputable def Dz : Key → Value → Bool
 | .inl k, v => Value.isInt k v
 | .inr x, v => Value.isStrOf x v
noncomputable def ZfV (w : World) : Key → Int
 | .inl k => hashInt k
 | .inr x => hashStr w x
theorem Z4 : ∀ {k : Key} {v : Value}, Dz k v = true → (∃ i t, k = Sum.inl i ∧ v = Value.int i t) ∨ (∃ x t, k = Sum.inr x ∧ v = Value.str x t)
 | .inl i, v, h => by
  obtain ⟨t, e⟩ := Value.isInt_shape (k := i) (v := v) h
  exact .inl ⟨i, t, rfl, e⟩
 | .inr x, v, h => by
  obtain ⟨t, e⟩ := Value.isStrOf_shape (x := x) (v := v) h
  exact .inr ⟨x, t, rfl, e⟩
theorem LN (i : Int) (t : Tok) : Dz (.inl i) (.int i t) = true := by simp [Dz, Value.isInt]
theorem Hd (x : Str) (t : Tok) : Dz (.inr x) (.str x t) = true := by simp [Dz, Value.isStrOf]
theorem TM (a b : Int) : decide ((Sum.inl a : Key) = Sum.inl b) = (a == b) := by
 by_cases e : a = b
 ·subst e; simp
 ·have h : ¬ (Sum.inl a : Key) = Sum.inl b := fun q => e (Sum.inl.inj q)
  rw [decide_eq_false h]
  exact (beq_eq_false_iff_ne.mpr e).symm
theorem Zai (a b : Str) : decide ((Sum.inr a : Key) = Sum.inr b) = decide (a = b) := by
 by_cases e : a = b
 ·subst e; simp
 ·have h : ¬ (Sum.inr a : Key) = Sum.inr b := fun q => e (Sum.inr.inj q)
  rw [decide_eq_false h, decide_eq_false e]
theorem Zb2 (a : Int) (b : Str) : decide ((Sum.inl a : Key) = Sum.inr b) = false := decide_eq_false (fun q => nomatch q)
theorem ZbD (a : Str) (b : Int) : decide ((Sum.inr a : Key) = Sum.inl b) = false := decide_eq_false (fun q => nomatch q)
noncomputable def Qv (prog : Program) (w : World) : PySem.KeyKind prog w Key where
 is := Dz
 hash := ZfV w
 inj := fun v a b ha hb => by
  rcases Z4 ha with ⟨i, t, rfl, rfl⟩ | ⟨x, t, rfl, rfl⟩
  ·rcases Z4 hb with ⟨j, u, rfl, e⟩ | ⟨y, u, rfl, e⟩
   ·injection e with e1 _; rw [e1]
   ·exact nomatch e
  ·rcases Z4 hb with ⟨j, u, rfl, e⟩ | ⟨y, u, rfl, e⟩
   ·exact nomatch e
   ·injection e with e1 _; rw [e1]
 byValue := fun k v h => by
  rcases Z4 h with ⟨i, t, rfl, rfl⟩ | ⟨x, t, rfl, rfl⟩ <;> rfl
 pyHash := fun hv h => by
  rcases Z4 hv with ⟨i, t, rfl, rfl⟩ | ⟨x, t, rfl, rfl⟩
  ·exact wpAny_pyHash_int h
  ·exact wpAny_pyHash_str h
 eqBool := fun hu hv h => by
  rcases Z4 hu with ⟨i, t, rfl, rfl⟩ | ⟨x, t, rfl, rfl⟩
  ·rcases Z4 hv with ⟨j, u, rfl, rfl⟩ | ⟨y, u, rfl, rfl⟩
   ·rw [TM] at h; exact wpAny_eqBool_int h
   ·rw [Zb2] at h; exact SeqAt.EqAt.int_str i t y u _ _ _ _ h
  ·rcases Z4 hv with ⟨j, u, rfl, rfl⟩ | ⟨y, u, rfl, rfl⟩
   ·rw [ZbD] at h; exact SeqAt.EqAt.str_int x t j u _ _ _ _ h
   ·rw [Zai] at h; exact wpAny_eqBool_str h
 «strs» := fun k x t v h => by
  rcases Z4 h with ⟨i, u, rfl, e⟩ | ⟨y, u, rfl, e⟩
  ·exact nomatch e
  ·injection e with e1 _
   subst e1
   cases v <;> rfl
theorem BG (prog : Program) (w : World) (i : Int) (t : Tok) : (Qv prog w).is (.inl i) (.int i t) = true := LN i t
theorem B8 (prog : Program) (w : World) (x : Str) (t : Tok) : (Qv prog w).is (.inr x) (.str x t) = true := Hd x t
end L2
namespace L2
open PySem PySem.Spec PyProof.Rows
inductive V where
 | non | bl (b : Bool) | int (i : Int) | str (x : Str) | byt (b : Array UInt8) | flt (b : UInt64) | ref (a : Addr) | ty (n : String)
 deriving DecidableEq
noncomputable def RelV : V → Value → Prop
 | .non, u => u = Value.none
 | .bl b, u => u = Value.bool b
 | .int i, u => ∃ t, u = Value.int i t
 | .str x, u => ∃ t, u = Value.str x t
 | .byt b, u => ∃ t, u = Value.bytes b t
 | .flt b, u => ∃ t, u = Value.float b t
 | .ref a, u => u = Value.ref a
 | .ty n, u => u = Value.type n
noncomputable abbrev Vals : List V → List Value → Prop := Paired RelV
theorem Vals.length {xs : List V} {us : List Value} (r : Vals xs us) : xs.length = us.length := Paired.length r
theorem Vals.get : ∀ {xs : List V} {us : List Value} {i : Nat} {x : V}, Vals xs us → xs[i]? = some x → ∃ u, us[i]? = some u ∧ RelV x u
 | _, _, _, _, .nil, e => by simp at e
 | _, _, 0, _, .cons r _, e => by simp at e; subst e; exact ⟨_, rfl, r⟩
 | _, _, i + 1, x, .cons _ t, e => by
  obtain ⟨u, h1, h2⟩ := Vals.get (i := i) (x := x) t (by simpa using e)
  exact ⟨u, by simpa using h1, h2⟩
theorem Vals.set {x : V} {u : Value} (r : RelV x u) : ∀ {xs : List V} {us : List Value} (i : Nat), Vals xs us → Vals (xs.set i x) (us.set i u)
 | _, _, _, .nil => .nil
 | _, _, 0, .cons _ t => .cons r t
 | _, _, i + 1, .cons q t => .cons q (Vals.set r i t)
theorem Vals.append : ∀ {xs ys : List V} {us ws : List Value}, Vals xs us → Vals ys ws → Vals (xs ++ ys) (us ++ ws)
 | _, _, _, _, .nil, s => s
 | _, _, _, _, .cons r t, s => .cons r (Vals.append t s)
theorem Vals.take : ∀ {xs : List V} {us : List Value} (n : Nat), Vals xs us → Vals (xs.take n) (us.take n)
 | _, _, 0, _ => .nil
 | _, _, _ + 1, .nil => .nil
 | _, _, n + 1, .cons r t => .cons r (Vals.take n t)
theorem Vals.drop : ∀ {xs : List V} {us : List Value} (n : Nat), Vals xs us → Vals (xs.drop n) (us.drop n)
 | _, _, 0, r => r
 | _, _, _ + 1, .nil => .nil
 | _, _, n + 1, .cons _ t => Vals.drop n t
theorem Vals.none_of : ∀ {xs : List V} {us : List Value} {i : Nat}, Vals xs us → xs[i]? = none → us[i]? = none := fun {xs us i} r e => by
 have h1 := r.length
 have h2 : xs.length ≤ i := List.getElem?_eq_none_iff.mp e
 exact List.getElem?_eq_none_iff.mpr (by omega)
noncomputable def Zcw : Option V → Option Value → Prop
 | some v, some u => RelV v u
 | none, none => True
 | _, _ => False
noncomputable def KV {κ : Type} : List (κ × V) → List (κ × Value) → Prop := Paired fun (p : κ × V) (q : κ × Value) => p.1 = q.1 ∧ RelV p.2 q.2
noncomputable def kV : Key → V
 | .inl i => .int i
 | .inr x => .str x
inductive HO where
  | lst (xs : List V)
  | tup (xs : List V)
  | dK (kvs : List (Key × V)) | dT (kvs : List (List Key × V))
  | set (S : Int → Bool) (n : Nat)
  | ins (C dx : Addr) (fs : List (Str × V))
  | own (x : Addr)
  | xd (fs : List (Str × V))
  | met (f x : Addr)
  | rng (lo hi : Int)
  | frz (o : Obj) (u : HO)
  | tbl (ps : Array Value)
  | ext (φ : Heap → Prop)
noncomputable abbrev Hp := Addr → Option HO
noncomputable def upd (H : Hp) (a : Addr) (o : HO) : Hp := fun b => if b = a then some o else H b
theorem J9 {H : Hp} {a : Addr} {o : HO} : upd H a o a = some o := by unfold upd; rw [if_pos rfl]
theorem ZZ {H : Hp} {a b : Addr} {o : HO} (h : b ≠ a) : upd H a o b = H b := by unfold upd; rw [if_neg h]
theorem Zd1 {H : Hp} {a b : Addr} {o u : HO} (h : H a = some o) (h' : H b = some u) (d : o ≠ u) : a ≠ b := by
 intro e; subst e; rw [h] at h'; exact d (Option.some.inj h')
theorem ZK {H : Hp} {a b : Addr} {o : HO} (h : H a = some o) (h' : H b = none) : a ≠ b := by
 intro e; subst e; rw [h] at h'; cases h'
section
variable (P : Program) (w : World)
noncomputable def Jc (H : Hp) (h : Heap) (a : Addr) : HO → Prop
 | .lst xs => xs.length ≤ sizeLine ∧ ∃ (its : List Value) (n : Nat), Vals xs its ∧ h.get? a = some { cls := .type "list", data := .seq its.toArray n }
 | .tup xs => xs.length ≤ sizeLine ∧ ∃ its : List Value, Vals xs its ∧ IsTup h a its.toArray
 | .dK kvs => kvs.length ≤ sizeLine ∧ (a == sysModules) = false ∧ ∃ vs, KV kvs vs ∧ h.DictOf (Qv P w) a vs
 | .dT kvs => kvs.length ≤ sizeLine ∧ (a == sysModules) = false ∧ ∃ xs : List (List Key × Addr × Value),
   Paired (fun (p : List Key × V) (q : List Key × Addr × Value) => p.1 = q.1 ∧ H q.2.1 = some (.tup (p.1.map kV)) ∧ RelV p.2 q.2.2) kvs xs ∧
   ∃ o es ep, h.get? a = some o ∧ o.ExactDict ∧ o.data = .dict es ep ∧ es.toList = xs.map (entryOfKey (tupleKind (Qv P w))) ∧ (xs.map (·.1)).Nodup
 | .set S n => h.SetOf (intKind P w) a S n
 | .ins C dx fs => H dx = some (.own a) ∧ fs.length ≤ 1000 ∧ dx ≠ a ∧ h.get? a = some (PySem.W.instObj C dx) ∧
   ∃ mA, h.Ns1 dx mA ∧ (∀ f, Zcw (fs.lookup f) (mA f)) ∧ PySem.Within mA (fs.map (·.1))
 | .own _ => ∃ o, h.get? a = some o
 | .xd fs => ∃ mA, h.Ns1 a mA ∧ ∀ f, Zcw (fs.lookup f) (mA f)
 | .rng lo hi => ∃ t u v, h.get? a = some { cls := .type "range", data := .fields #[.int lo t, .int hi u, .int 1 v] }
 | .frz o u => h.get? a = some o ∧ Jc H h a u
 | .tbl ps => h.get? a = some { cls := .none, data := .fields ps }
 | .met f x => h.get? a = some (PySem.W.methodObj (.ref f) (.ref x))
 | .ext φ => φ h ∧ (∃ o, h.get? a = some o) ∧ ∀ h1 h2 : Heap, φ h1 → (∀ o, h1.get? a = some o → h2.get? a = some o) → φ h2
noncomputable def HOk (H : Hp) (h : Heap) : Prop := ∀ a o, H a = some o → Jc P w H h a o
end
section
variable {P : Program} {w : World} {H H' : Hp} {h h' : Heap} {a : Addr} {o : HO}
theorem Jc.lt (x : Jc P w H h a o) : a < h.objs.size := by
 cases o with
 | lst xs => obtain ⟨_, _, _, _, e⟩ := x; exact Heap.lt_size e
 | tup xs => obtain ⟨_, _, _, p⟩ := x; exact p.lt
 | dK kvs => obtain ⟨_, _, _, _, o, _, _, e, _⟩ := x; exact Heap.lt_size e
 | dT kvs => obtain ⟨_, _, _, _, o, _, _, e, _⟩ := x; exact Heap.lt_size e
 | set S n => obtain ⟨o, _, _, _, e, _⟩ := x; exact Heap.lt_size e
 | ins C dx fs => obtain ⟨_, _, _, e, _⟩ := x; exact Heap.lt_size e
 | own y => obtain ⟨_, e⟩ := x; exact Heap.lt_size e
 | xd fs => obtain ⟨_, ⟨_, _, _, e, _⟩, _⟩ := x; exact Heap.lt_size e
 | rng lo hi => obtain ⟨_, _, _, e⟩ := x; exact Heap.lt_size e
 | frz ob u => obtain ⟨e, _⟩ := x; exact Heap.lt_size e
 | tbl ps => exact Heap.lt_size (show h.get? a = some _ from x)
 | met f y => exact Heap.lt_size (show h.get? a = some _ from x)
 | ext φ => obtain ⟨_, ⟨_, e⟩, _⟩ := x; exact Heap.lt_size e
theorem Paired.Zc3 {α β : Type} {F G : α → β → Prop} : ∀ {l₁ : List α} {l₂ : List β}, Paired F l₁ l₂ → (∀ a b, F a b → G a b) → Paired G l₁ l₂
 | _, _, .nil, _ => .nil
 | _, _, .cons r t, f => .cons (f _ _ r) (Paired.Zc3 t f)
theorem Jc.Sk (x : Jc P w H h a o) (k : ∀ b u, (b = a ∨ H b = some (.own a)) → h.get? b = some u → h'.get? b = some u)
  (ho : ∀ b, H b = some (.own a) → H' b = some (.own a)) (ht : ∀ b xs, H b = some (.tup xs) → H' b = some (.tup xs)) : Jc P w H' h' a o := by
 induction o with
 | lst xs => obtain ⟨z, its, n, r, e⟩ := x; exact ⟨z, its, n, r, k _ _ (.inl rfl) e⟩
 | tup xs => obtain ⟨z, its, r, ob, e, c⟩ := x; exact ⟨z, its, r, ob, k _ _ (.inl rfl) e, c⟩
 | dK kvs => obtain ⟨z, y, vs, r, ob, es, ep, e, c⟩ := x; exact ⟨z, y, vs, r, ob, es, ep, k _ _ (.inl rfl) e, c⟩
 | dT kvs =>
  obtain ⟨z, y, xs, r, ob, es, ep, e, c⟩ := x
  exact ⟨z, y, xs, Paired.Zc3 r fun p q z => ⟨z.1, ht _ _ z.2.1, z.2.2⟩, ob, es, ep, k _ _ (.inl rfl) e, c⟩
 | set S n => obtain ⟨ob, es, ep, t, e, c⟩ := x; exact ⟨ob, es, ep, t, k _ _ (.inl rfl) e, c⟩
 | ins C dx fs =>
  obtain ⟨d, z, ne, e, mA, ⟨od, es, ep, e2, c⟩, r⟩ := x
  exact ⟨ho _ d, z, ne, k _ _ (.inl rfl) e, mA, ⟨od, es, ep, k _ _ (.inr d) e2, c⟩, r⟩
 | own y => obtain ⟨ob, e⟩ := x; exact ⟨ob, k _ _ (.inl rfl) e⟩
 | xd fs => obtain ⟨mA, ⟨od, es, ep, e, c⟩, r⟩ := x; exact ⟨mA, ⟨od, es, ep, k _ _ (.inl rfl) e, c⟩, r⟩
 | rng lo hi => obtain ⟨t, u, v, e⟩ := x; exact ⟨t, u, v, k _ _ (.inl rfl) e⟩
 | frz ob u ih => obtain ⟨e, q⟩ := x; exact ⟨k _ _ (.inl rfl) e, ih q⟩
 | tbl ps =>
  have e : h.get? a = some { cls := .none, data := .fields ps } := x
  show h'.get? a = some { cls := .none, data := .fields ps }
  exact k a _ (.inl rfl) e
 | met f y =>
  have e : h.get? a = some (PySem.W.methodObj (.ref f) (.ref y)) := x
  show h'.get? a = some (PySem.W.methodObj (.ref f) (.ref y))
  exact k a _ (.inl rfl) e
 | ext φ => obtain ⟨p, ⟨o, e⟩, st⟩ := x; exact ⟨st _ _ p fun o q => k _ _ (.inl rfl) q, ⟨o, k _ _ (.inl rfl) e⟩, st⟩
theorem HOk.lt (x : HOk P w H h) (e : H a = some o) : a < h.objs.size := (x a o e).lt
theorem HOk.fresh (x : HOk P w H h) (e : h.objs.size ≤ a) : H a = none := by
 cases q : H a with
 | none => rfl
 | some u => exact absurd (Nat.lt_of_lt_of_le (x.lt q) e) (Nat.lt_irrefl _)
theorem HOk.kept (x : HOk P w H h) (k : ∀ b u, h.get? b = some u → h'.get? b = some u) : HOk P w H h' := fun a o e =>
 (x a o e).Sk (fun b u _ q => k b u q) (fun _ q => q) fun _ _ q => q
theorem HOk.laid (x : HOk P w H h) (k : ∀ b u, h.get? b = some u → h'.get? b = some u) (hp : h.objs.size ≤ a) (new : Jc P w (upd H a o) h' a o) : HOk P w (upd H a o) h' := fun b u e => by
 have hn := x.fresh hp
 by_cases hb : b = a
 ·subst hb; rw [J9] at e; cases e; exact new
 ·rw [ZZ hb] at e
  exact (x b u e).Sk (fun c v _ q => k c v q) (fun c q => by rw [ZZ (ZK q hn)]; exact q) fun c xs q => by rw [ZZ (ZK q hn)]; exact q
end
noncomputable def Rd (H : Hp) (a : Addr) (u : HO) : Prop := H a = some u ∨ ∃ o, H a = some (.frz o u)
theorem Rd.of {H : Hp} {a : Addr} {u : HO} (h : H a = some u) : Rd H a u := .inl h
theorem Rd.ok {P : Program} {w : World} {H : Hp} {h : Heap} {a : Addr} {u : HO} (r : Rd H a u) (x : HOk P w H h) : Jc P w H h a u := by
 rcases r with r | ⟨o, r⟩
 ·exact x a u r
 ·obtain ⟨_, q⟩ := x a _ r
  exact q
noncomputable def Mut : Option HO → Prop
 | some (.lst _) => True
 | some (.dK _) => True
 | some (.dT _) => True
 | some (.set _ _) => True
 | some (.ins _ _ _) => True
 | some (.ext _) => True
 | _ => False
section
variable {P : Program} {w : World} {H : Hp} {h h' : Heap} {x e : Addr} {o' : HO}
theorem HOk.write (ok : HOk P w H h) (mu : Mut (H x)) (he : e = x ∨ H e = some (.own x)) (k : ∀ b u, b ≠ e → h.get? b = some u → h'.get? b = some u) (heo : ∃ u, h'.get? e = some u)
  (new : Jc P w (upd H x o') h' x o') : HOk P w (upd H x o') h' := fun b u q => by
 have nown : ∀ c y, H c = some (.own y) → c ≠ x := fun c y r z => by subst z; rw [r] at mu; exact mu
 have ntup : ∀ c xs, H c = some (.tup xs) → c ≠ x := fun c xs r z => by subst z; rw [r] at mu; exact mu
 by_cases hb : b = x
 ·subst hb; rw [J9] at q; cases q; exact new
 ·rw [ZZ hb] at q
  by_cases hbe : b = e
  ·have q' : H b = some (.own x) := by
    rcases he with z | z
    ·exact absurd (hbe.trans z) hb
    ·rw [hbe]; exact z
   rw [q] at q'; cases q'
   obtain ⟨v, hv⟩ := heo
   exact ⟨v, by rw [hbe]; exact hv⟩
  ·refine (ok b u q).Sk (fun c v hc r => k c v ?_ r) (fun c r => by rw [ZZ (nown c b r)]; exact r) fun c xs r => by rw [ZZ (ntup c xs r)]; exact r
   rcases hc with rfl | hc
   ·exact hbe
   ·rintro rfl
    rcases he with z | z
    ·exact nown c b hc z
    ·rw [hc] at z; cases z; exact hb rfl
end
structure Un (fs ex : List Addr) (H H' : Hp) (h h' : Heap) : Prop where
 keep : ∀ b o, h.get? b = some o → H b = none → b ∉ fs → b ∉ ex → h'.get? b = some o
 slot : ∀ b o, h.get? b = some o → H b = none → b ∈ fs → b ∉ ex → ∃ sl, h'.get? b = some { o with slots := sl }
 free : ∀ b o, h.get? b = some o → H b = none → b ∉ ex → H' b = none
 there : ∀ b o, h.get? b = some o → b ∉ ex → ∃ o', h'.get? b = some o'
 tups : ∀ b xs, H b = some (.tup xs) → H' b = some (.tup xs)
 frzs : ∀ b o u, H b = some (.frz o u) → H' b = some (.frz o u)
 tbls : ∀ b ps, H b = some (.tbl ps) → ∃ more, H' b = some (.tbl (ps ++ more))
section
variable {fs fs' ex ex' : List Addr} {H H1 H2 : Hp} {h h1 h2 h' : Heap} {a x e : Addr} {o : HO}
theorem Un.any (u : Un fs ex H H1 h h1) {b : Addr} {ob : Obj} (q : h.get? b = some ob) (n : H b = none) (hx : b ∉ ex) : ∃ sl, h1.get? b = some { ob with slots := sl } := by
 by_cases hb : b ∈ fs
 ·exact u.slot b ob q n hb hx
 ·exact ⟨ob.slots, u.keep b ob q n hb hx⟩
theorem Un.trans (a : Un fs ex H H1 h h1) (b : Un fs ex H1 H2 h1 h2) : Un fs ex H H2 h h2 where
 keep := fun c ob q n hc hx => b.keep c ob (a.keep c ob q n hc hx) (a.free c ob q n hx) hc hx
 slot := fun c ob q n hc hx => by
  obtain ⟨sl, e1⟩ := a.slot c ob q n hc hx
  obtain ⟨sl', e2⟩ := b.slot c _ e1 (a.free c ob q n hx) hc hx
  exact ⟨sl', e2⟩
 free := fun c ob q n hx => by
  obtain ⟨o', e1⟩ := a.there c ob q hx
  exact b.free c o' e1 (a.free c ob q n hx) hx
 there := fun c ob q hx => by
  obtain ⟨o', e1⟩ := a.there c ob q hx
  exact b.there c o' e1 hx
 tups := fun c xs q => b.tups c xs (a.tups c xs q)
 frzs := fun c ob xs q => b.frzs c ob xs (a.frzs c ob xs q)
 tbls := fun c ps q => by
  obtain ⟨m1, e1⟩ := a.tbls c ps q
  obtain ⟨m2, e2⟩ := b.tbls c _ e1
  exact ⟨m1 ++ m2, by rw [e2, Array.append_assoc]⟩
theorem Un.kept (k : ∀ b u, h.get? b = some u → h'.get? b = some u) : Un fs ex H H h h' :=
 ⟨fun b ob q _ _ _ => k b ob q, fun b ob q _ _ _ => ⟨ob.slots, k b ob q⟩, fun _ _ _ n _ => n, fun b ob q _ => ⟨ob, k b ob q⟩, fun _ _ q => q, fun _ _ _ q => q, fun _ ps q => ⟨#[], by rw [q]; simp⟩⟩
theorem Un.refl : Un fs ex H H h h := Un.kept fun _ _ q => q
theorem Un.laid (k : ∀ b u, h.get? b = some u → h'.get? b = some u) (hp : h.objs.size ≤ a) (hn : H a = none) : Un fs ex H (upd H a o) h h' where
 keep := fun b u q _ _ _ => k b u q
 slot := fun b u q _ _ _ => ⟨u.slots, k b u q⟩
 free := fun b u q n _ => by rw [ZZ (Nat.ne_of_lt (Nat.lt_of_lt_of_le (Heap.lt_size q) hp))]; exact n
 there := fun b u q _ => ⟨u, k b u q⟩
 tups := fun b xs q => by rw [ZZ (ZK q hn)]; exact q
 frzs := fun b u xs q => by rw [ZZ (ZK q hn)]; exact q
 tbls := fun b ps q => ⟨#[], by rw [ZZ (ZK q hn), q]; simp⟩
theorem Un.write (mu : Mut (H x)) (he : e = x ∨ H e = some (.own x)) (k : ∀ b u, b ≠ e → h.get? b = some u → h'.get? b = some u) (heo : ∃ u, h'.get? e = some u) : Un fs ex H (upd H x o) h h' := by
 have hx : ∀ b, H b = none → b ≠ x := fun b n z => by subst z; rw [n] at mu; exact mu
 have hb : ∀ b, H b = none → b ≠ e := fun b n z => by
  subst z
  rcases he with r | r
  ·exact hx b n r
  ·rw [n] at r; cases r
 have hm : ∀ b u, H b = some u → ¬ Mut (some u) → b ≠ x := fun b u q nm z => by subst z; rw [q] at mu; exact nm mu
 refine ⟨fun b u q n _ _ => k b u (hb b n) q, fun b u q n _ _ => ⟨u.slots, k b u (hb b n) q⟩, fun b u q n _ => by rw [ZZ (hx b n)]; exact n, fun b u q _ => ?_,
  fun b xs q => by rw [ZZ (hm b _ q fun z => z)]; exact q, fun b u xs q => by rw [ZZ (hm b _ q fun z => z)]; exact q, fun b ps q => ⟨#[], by rw [ZZ (hm b _ q fun z => z), q]; simp⟩⟩
 by_cases hbe : b = e
 ·subst hbe; exact heo
 ·exact ⟨u, k b u hbe q⟩
end
noncomputable def trk (h : Heap) (H : Hp) : List Addr := (List.range h.objs.size).filter fun a => (H a).isSome
noncomputable def Oc (h : Heap) (H : Hp) : Heap := PySem.W.hideAll h (trk h H)
theorem Ly (h : Heap) (H : Hp) : (Oc h H).objs.size = h.objs.size := PySem.W.hideAll_size _ _
theorem MV {h : Heap} {H : Hp} {b : Addr} {o : Obj} (e : h.get? b = some o) (n : H b = none) : (Oc h H).get? b = some o :=
 PySem.W.hideAll_get _ e fun hm => by
  have q : (H b).isSome = true := (List.mem_filter.mp hm).2
  rw [n] at q; simp at q
theorem RM {h : Heap} {H : Hp} {b : Addr} {o : Obj} (e : (Oc h H).get? b = some o) : h.get? b = some o ∧ H b = none := by
 have e' : h.get? b = some o := PySem.W.of_hideAll (trk h H) e
 refine ⟨e', ?_⟩
 cases q : H b with
 | none => rfl
 | some x =>
  have hm : b ∈ trk h H := List.mem_filter.mpr ⟨List.mem_range.mpr (Heap.lt_size e'), by simp [q]⟩
  have z : (Oc h H).get? b = none := PySem.W.hideAll_none (trk h H) hm
  rw [z] at e; cases e
noncomputable def SS (g h : Heap) (L : Addr) : List (Addr × Obj) := (List.range h.objs.size).filterMap fun a => if a = L ∨ (g.get? a).isSome = true then none else (h.get? a).map fun o => (a, o)
noncomputable def rest (g h : Heap) (L d : Addr) : List (Addr × Obj) := (SS g h L).filter fun p => decide (p.1 ≠ d)
end L2
namespace L2
open PySem PySem.Spec PyProof.Rows
structure Mod (K : PySem.W.Frag) (mg : Str → Option Value) (base : Heap) : Prop where
 kin : K.In base
 glob : base.Ns mainGlobals mg
 blt : ∃ mb, base.Ns builtinsNs mb ∧ ∀ x : Str, x ≠ "__name__" → mb x = bootBuiltins x
 nolimit : base.NoLimit
structure Cx where
 prog : Program
 w : World
 K : PySem.W.Frag
 mg : Str → Option Value
 base : Heap
 A : Around
 N : List Str
 s₀ : Shared
 H₀ : Hp
 env : Env
 outer : List Env
 stack : List Env
 ex : List Addr
 fn : Str → Bool
 calm : Bool
 pn : List (Addr × Obj)
 xe : Value → Shared → Prop
noncomputable def frs (l : List Env) : List Addr := l.filterMap (·.frame)
noncomputable abbrev Cx.fs (X : Cx) : List Addr := frs X.outer
noncomputable def Vis (sc : Scope) (x : Str) : Prop := sc.names.lookup x = some .local ∨ sc.names.lookup x = some .cell ∨ sc.names.lookup x = some .free
noncomputable def Loc (sc : Scope) (x : Str) : Prop := sc.names.lookup x = some .local ∨ sc.names.lookup x = some .cell
noncomputable def Look (env : Env) (h : Heap) (m : Str → Option Value) (x : Str) (u : Value) : Prop :=
 (env.kindOf x = some .local ∧ m x = some u) ∨ ((env.kindOf x = some .cell ∨ env.kindOf x = some .free) ∧ ∃ c, env.cells.lookup x = some c ∧ h.IsCell c (some u))
structure Cx.Ok (X : Cx) : Prop where
 mod : Mod X.K X.mg X.base
 kind : X.env.scope.kind = .function
 glob : X.env.globals = mainGlobals
 blt : X.env.builtins = builtinsNs
 above : X.s₀.heap.objs.size ≤ X.env.locals
 inj : ∀ x y c, X.env.cells.lookup x = some c → X.env.cells.lookup y = some c → x = y
 has : ∀ x, (X.env.kindOf x = some .cell ∨ X.env.kindOf x = some .free) → ∃ c, X.env.cells.lookup x = some c
 cab : ∀ x c, X.fn x = true → X.env.cells.lookup x = some c → X.s₀.heap.objs.size ≤ c
 hd : X.calm = true → X.A.handled = none
 frames : X.A.frames = some X.stack
 stk : X.stack = X.outer ∨ (X.stack = X.env :: X.outer ∧ X.env.frame = some X.env.locals)
 exf : ∀ b ∈ X.ex, b ≠ X.env.locals ∧ ∀ x c, X.env.cells.lookup x = some c → c ≠ b
 bs : ∀ b o, X.base.get? b = some o → X.s₀.heap.get? b = some o ∧ X.H₀ b = none
 bsz : X.base.objs.size ≤ X.s₀.heap.objs.size
 noex : ∀ b o, X.base.get? b = some o → b ∉ X.ex
 exfs : ∀ b ∈ X.ex, b ∉ X.fs
 Fq : X.s₀.heap.FunFrames X.base X.outer
 frf : ∀ b ∈ X.fs, X.H₀ b = none
structure Inv (X : Cx) (pins : List (Addr × Obj)) (σ : List (Option V)) (H : Hp) (s : Shared) : Prop where
 ok : X.Ok
 os : s.os = X.s₀.os
 bare : AllBare s.gens
 base : Un X.fs X.ex X.H₀ H X.s₀.heap s.heap
 loc : ∃ m, s.heap.Ns X.env.locals m ∧ ∀ (i : Nat) (x : Str) (v : V), X.N[i]? = some x → σ[i]? = some (some v) → Vis X.env.scope x → ∃ u, RelV v u ∧ Look X.env s.heap m x u
 cell : ∀ x c, X.env.cells.lookup x = some c → ∃ v, s.heap.IsCell c v
 free : H X.env.locals = none
 freeC : ∀ x c, X.env.cells.lookup x = some c → H c = none
 pin : ∀ p ∈ X.pn ++ pins, s.heap.get? p.1 = some p.2 ∧ H p.1 = none ∧ p.1 ≠ X.env.locals ∧ p.1 ∉ X.fs ∧ ∀ v, p.2.data ≠ .cell v
 hok : HOk X.prog X.w H s.heap
 len : σ.length = X.N.length
section
variable {X : Cx} {pins : List (Addr × Obj)} {σ : List (Option V)} {H H' : Hp} {s : Shared} {h' : Heap}
theorem Cx.Ok.Zfd (ok : X.Ok) {b : Addr} {o : Obj} (e : X.base.get? b = some o) : b ∉ X.fs := fun hb => by
 have := (ok.Fq.mem hb).1
 rw [e] at this; cases this
theorem Inv.bs (I : Inv X pins σ H s) : ∀ b o, X.base.get? b = some o → s.heap.get? b = some o ∧ H b = none := fun b o e =>
 ⟨I.base.keep b o (I.ok.bs b o e).1 (I.ok.bs b o e).2 (I.ok.Zfd e) (I.ok.noex b o e), I.base.free b o (I.ok.bs b o e).1 (I.ok.bs b o e).2 (I.ok.noex b o e)⟩
theorem Inv.bk (I : Inv X pins σ H s) : ∀ b o, X.base.get? b = some o → s.heap.get? b = some o := fun b o e => (I.bs b o e).1
theorem Inv.mod (I : Inv X pins σ H s) : Mod X.K X.mg X.base := I.ok.mod
theorem Inv.kIn (I : Inv X pins σ H s) : X.K.In s.heap := I.ok.mod.kin.keeps I.bk
theorem Inv.fr (I : Inv X pins σ H s) : ∃ m, Fr X.base X.env.locals s.heap m :=
 let ⟨m, hn, _⟩ := I.loc
 ⟨m, hn, I.bk, Nat.le_trans I.ok.bsz I.ok.above⟩
theorem Inv.lt (I : Inv X pins σ H s) : X.env.locals < s.heap.objs.size := let ⟨_, hn, _⟩ := I.loc; hn.lt
theorem Inv.sz (I : Inv X pins σ H s) : X.s₀.heap.objs.size ≤ s.heap.objs.size := Nat.le_trans I.ok.above (Nat.le_of_lt I.lt)
theorem Inv.ZfX (I : Inv X pins σ H s) {a : Addr} (h : s.heap.objs.size ≤ a) : a ∉ X.fs := fun hb => by
 obtain ⟨_, o, ho, _⟩ := I.ok.Fq.mem hb
 exact absurd (Nat.lt_of_lt_of_le (Heap.lt_size ho) (Nat.le_trans I.sz h)) (Nat.lt_irrefl _)
theorem Inv.cne (I : Inv X pins σ H s) : ∀ x c, X.env.cells.lookup x = some c → c ≠ X.env.locals := fun x c e z => by
 obtain ⟨v, o, ho, hd⟩ := I.cell x c e
 obtain ⟨m, ⟨o', es, ep, ho', hd', _⟩, _⟩ := I.loc
 rw [z, ho'] at ho; cases ho; rw [hd'] at hd; cases hd
theorem Inv.Fq (I : Inv X pins σ H s) : s.heap.FunFrames X.base X.outer := by
 have all : ∀ (l : List Env), (∀ b ∈ frs l, b ∈ X.fs) → X.s₀.heap.FunFrames X.base l → s.heap.FunFrames X.base l := by
  intro l
  induction l with
  | nil => intro _ _; trivial
  | cons env r ih =>
   intro hs hl
   obtain ⟨hk, ⟨L, o, hf, hn, ho, hd⟩, hr⟩ := hl
   have hL : L ∈ X.fs := hs L (by unfold frs; rw [List.filterMap_cons, hf]; exact List.mem_cons_self)
   obtain ⟨sl, e⟩ := I.base.slot L o ho (I.ok.frf L hL) hL fun z => I.ok.exfs L z hL
   exact ⟨hk, ⟨L, _, hf, hn, e, hd⟩, ih (fun b hb => hs b (by unfold frs; rw [List.filterMap_cons, hf]; exact List.mem_cons_of_mem _ hb)) hr⟩
 exact all X.outer (fun _ hb => hb) I.ok.Fq
theorem Inv.stack (I : Inv X pins σ H s) : s.heap.FunFrames X.base X.stack := by
 rcases I.ok.stk with e | ⟨e, hf⟩
 ·rw [e]; exact I.Fq
 ·rw [e]
  obtain ⟨m, hn, _⟩ := I.loc
  refine .cons (by rw [I.ok.kind]; decide) hf hn ?_ I.Fq
  exact Heap.get?_none_of_le (Nat.le_trans I.ok.bsz I.ok.above)
theorem Inv.ES (I : Inv X pins σ H s) : ∀ b ∈ frs X.stack, b ∈ X.env.locals :: X.fs := fun b hb => by
 rcases I.ok.stk with e | ⟨e, hf⟩
 ·rw [e] at hb; exact List.mem_cons_of_mem _ hb
 ·rw [e] at hb
  unfold frs at hb
  rw [List.filterMap_cons, hf] at hb
  exact hb
theorem Inv.HP (I : Inv X pins σ H s) : ∀ b ∈ frs X.stack, H b = none := fun b hb => by
 rcases List.mem_cons.mp (I.ES b hb) with e | hb
 ·rw [e]; exact I.free
 ·obtain ⟨_, o, ho, _⟩ := I.ok.Fq.mem hb
  exact I.base.free b o ho (I.ok.frf b hb) fun z => I.ok.exfs b z hb
theorem Inv.step {g' : Array GenState} {t' : Nat} {d' : Drawn} {ch : List Addr} (I : Inv X pins σ H s)
  (hch : ∀ b ∈ ch, (b ∈ X.ex ∨ X.s₀.heap.objs.size ≤ b) ∧ b ≠ X.env.locals ∧ (∀ x c, X.env.cells.lookup x = some c → c ≠ b) ∧ ∀ p ∈ X.pn ++ pins, p.1 ≠ b)
  (keep : ∀ b o, b ≠ X.env.locals → b ∉ X.fs → b ∉ ch → s.heap.get? b = some o → H b = none → h'.get? b = some o)
  (slot : ∀ b o, b ≠ X.env.locals → b ∈ X.fs → b ∉ ch → s.heap.get? b = some o → H b = none → ∃ sl, h'.get? b = some { o with slots := sl }) (free : ∀ b o, b ∉ ch → s.heap.get? b = some o → H b = none → H' b = none)
  (there : ∀ b o, b ∉ ch → s.heap.get? b = some o → ∃ o', h'.get? b = some o')
  (tups : ∀ b xs, H b = some (.tup xs) → H' b = some (.tup xs)) (frzs : ∀ b o u, H b = some (.frz o u) → H' b = some (.frz o u)) (tbls : ∀ b ps, H b = some (.tbl ps) → ∃ more, H' b = some (.tbl (ps ++ more)))
  (ns : ∀ m, s.heap.Ns X.env.locals m → h'.Ns X.env.locals m) (hok : HOk X.prog X.w H' h') (hg : AllBare g') :
  Inv X pins σ H' { s with heap := h', gens := g', drawn := d', toks := t' } := by
 have neL : ∀ b o, X.s₀.heap.get? b = some o → b ≠ X.env.locals := fun b o e => Nat.ne_of_lt (Nat.lt_of_lt_of_le (Heap.lt_size e) I.ok.above)
 have neC : ∀ b o, X.s₀.heap.get? b = some o → b ∉ X.ex → b ∉ ch := fun b o e hx hb => by
  rcases (hch b hb).1 with z | z
  ·exact hx z
  ·exact absurd (Nat.lt_of_lt_of_le (Heap.lt_size e) z) (Nat.lt_irrefl _)
 have cellK : ∀ x c, X.env.cells.lookup x = some c → ∀ v, s.heap.IsCell c v → h'.IsCell c v := fun x c e v ⟨o, ho, hd⟩ => by
  have nch : c ∉ ch := fun z => (hch c z).2.2.1 x c e rfl
  by_cases hc : c ∈ X.fs
  ·obtain ⟨sl, q⟩ := slot c o (I.cne x c e) hc nch ho (I.freeC x c e)
   exact ⟨_, q, hd⟩
  ·exact ⟨o, keep c o (I.cne x c e) hc nch ho (I.freeC x c e), hd⟩
 refine ⟨I.ok, I.os, hg, ⟨fun b o e n hb hx => ?_, fun b o e n hb hx => ?_, fun b o e n hx => ?_, fun b o e hx => ?_, fun b xs e => tups b xs (I.base.tups b xs e), fun b o xs e => frzs b o xs (I.base.frzs b o xs e), fun b ps e => ?_⟩, ?_, fun x c e => ?_, ?_, fun x c e => ?_, fun p hp => ?_, hok, I.len⟩
 ·exact keep b o (neL b o e) hb (neC b o e hx) (I.base.keep b o e n hb hx) (I.base.free b o e n hx)
 ·obtain ⟨sl, e1⟩ := I.base.slot b o e n hb hx
  obtain ⟨sl', e2⟩ := slot b _ (neL b o e) hb (neC b o e hx) e1 (I.base.free b o e n hx)
  exact ⟨sl', e2⟩
 ·obtain ⟨o', e1⟩ := I.base.there b o e hx
  exact free b o' (neC b o e hx) e1 (I.base.free b o e n hx)
 ·obtain ⟨o', e1⟩ := I.base.there b o e hx
  exact there b o' (neC b o e hx) e1
 ·obtain ⟨m1, e1⟩ := I.base.tbls b ps e
  obtain ⟨m2, e2⟩ := tbls b _ e1
  exact ⟨m1 ++ m2, by rw [e2, Array.append_assoc]⟩
 ·obtain ⟨m, hn, hl⟩ := I.loc
  refine ⟨m, ns m hn, fun i x v e1 e2 e3 => ?_⟩
  obtain ⟨u, r, l⟩ := hl i x v e1 e2 e3
  refine ⟨u, r, ?_⟩
  rcases l with l | ⟨k, c, e, z⟩
  ·exact .inl l
  ·exact .inr ⟨k, c, e, cellK x c e _ z⟩
 ·obtain ⟨v, z⟩ := I.cell x c e
  exact ⟨v, cellK x c e v z⟩
 ·obtain ⟨m, ⟨o, _, _, ho, _⟩, _⟩ := I.loc
  exact free _ o (fun z => (hch _ z).2.1 rfl) ho I.free
 ·obtain ⟨v, o, ho, hd⟩ := I.cell x c e
  exact free c o (fun z => (hch c z).2.2.1 x c e rfl) ho (I.freeC x c e)
 ·obtain ⟨e, n, ne, nf, d⟩ := I.pin p hp
  have nch : p.1 ∉ ch := fun z => (hch p.1 z).2.2.2 p hp rfl
  exact ⟨keep p.1 p.2 ne nf nch e n, free p.1 p.2 nch e n, ne, nf, d⟩
theorem Inv.un {t' : Nat} (I : Inv X pins σ H s) (u : Un X.fs [] H H' s.heap h') (hok : HOk X.prog X.w H' h') : Inv X pins σ H' { s with heap := h', toks := t' } := by
 obtain ⟨m, ⟨o, es, ep, ho, r⟩, _⟩ := id I.loc
 obtain ⟨sl, hL⟩ := u.any ho I.free (by simp)
 exact I.step (g' := s.gens) (d' := s.drawn) (ch := []) (fun _ z => nomatch z) (fun b o _ hb _ e n => u.keep b o e n hb (by simp)) (fun b o _ hb _ e n => u.slot b o e n hb (by simp)) (fun b o _ e n => u.free b o e n (by simp)) (fun b o _ e => u.there b o e (by simp)) u.tups u.frzs u.tbls (fun m' hm => by
  obtain ⟨o', es', ep', ho', r'⟩ := hm
  rw [ho] at ho'; cases ho'
  exact ⟨_, es', ep', hL, r'⟩) hok I.bare
theorem Inv.call {g' : Array GenState} {t' : Nat} {d' : Drawn} {ch : List Addr} (I : Inv X pins σ H s) (u : Un (frs X.stack) ch H H' s.heap h') (hok : HOk X.prog X.w H' h') (hg : AllBare g')
  (hch : ∀ b ∈ ch, (b ∈ X.ex ∨ X.s₀.heap.objs.size ≤ b) ∧ b ≠ X.env.locals ∧ (∀ x c, X.env.cells.lookup x = some c → c ≠ b) ∧ ∀ p ∈ X.pn ++ pins, p.1 ≠ b) :
  Inv X pins σ H' { s with heap := h', gens := g', drawn := d', toks := t' } := by
 obtain ⟨m, ⟨o, es, ep, ho, r⟩, _⟩ := id I.loc
 obtain ⟨sl, hL⟩ := u.any ho I.free fun z => (hch _ z).2.1 rfl
 exact I.step (ch := ch) hch (fun b o hL hb hc e n => u.keep b o e n (fun z => (List.mem_cons.mp (I.ES b z)).elim hL hb) hc) (fun b o _ _ hc e n => u.any e n hc) (fun b o hc e n => u.free b o e n hc) (fun b o hc e => u.there b o e hc) u.tups u.frzs u.tbls (fun m' hm => by
  obtain ⟨o', es', ep', ho', r'⟩ := hm
  rw [ho] at ho'; cases ho'
  exact ⟨_, es', ep', hL, r'⟩) hok hg
theorem Inv.turned {t' : Nat} {it : Addr} (I : Inv X pins σ H s) (k : ∀ b o, b ≠ it → s.heap.get? b = some o → h'.get? b = some o) (hn : H it = none) (hL : it ≠ X.env.locals)
  (h1 : it ∈ X.ex ∨ X.s₀.heap.objs.size ≤ it) (h2 : ∀ x c, X.env.cells.lookup x = some c → c ≠ it) (h3 : ∀ p ∈ X.pn ++ pins, p.1 ≠ it) : Inv X pins σ H { s with heap := h', toks := t' } := by
 have nit : ∀ b u, H b = some u → b ≠ it := fun b u e z => by rw [z, hn] at e; cases e
 refine I.step (g' := s.gens) (d' := s.drawn) (ch := [it]) (fun b hb => ?_) (fun b o _ _ hc e _ => k b o (fun z => hc (by simp [z])) e) (fun b o _ _ hc e _ => ⟨o.slots, k b o (fun z => hc (by simp [z])) e⟩) (fun _ _ _ _ n => n)
  (fun b o hc e => ⟨o, k b o (fun z => hc (by simp [z])) e⟩) (fun _ _ e => e) (fun _ _ _ e => e) (fun b ps e => ⟨#[], by rw [e]; simp⟩) (fun m hm => ?_) (fun b u e => ?_) I.bare
 ·have e : b = it := by simpa using hb
  subst e
  exact ⟨h1, hL, h2, h3⟩
 ·obtain ⟨o, es, ep, ho, r⟩ := hm
  exact ⟨o, es, ep, k _ o (Ne.symm hL) ho, r⟩
 ·refine (I.hok b u e).Sk (fun c v hc q => k c v ?_ q) (fun _ q => q) fun _ _ q => q
  rcases hc with z | z
  ·rw [z]; exact nit b u e
  ·exact nit c _ z
theorem Inv.tok (I : Inv X pins σ H s) (t : Nat) : Inv X pins σ H { s with toks := t } := I.un (h' := s.heap) (t' := t) Un.refl I.hok
theorem Inv.kept {t' : Nat} (I : Inv X pins σ H s) (k : ∀ b u, s.heap.get? b = some u → h'.get? b = some u) : Inv X pins σ H { s with heap := h', toks := t' } := I.un (Un.kept k) (I.hok.kept k)
theorem Inv.laid {a : Addr} {o : HO} {t' : Nat} (I : Inv X pins σ H s) (k : ∀ b u, s.heap.get? b = some u → h'.get? b = some u) (hp : s.heap.objs.size ≤ a) (new : Jc X.prog X.w (upd H a o) h' a o) :
  Inv X pins σ (upd H a o) { s with heap := h', toks := t' } := I.un (Un.laid k hp (I.hok.fresh hp)) (I.hok.laid k hp new)
theorem Inv.write {x e : Addr} {o : HO} {t' : Nat} (I : Inv X pins σ H s) (mu : Mut (H x)) (he : e = x ∨ H e = some (.own x)) (k : ∀ b u, b ≠ e → s.heap.get? b = some u → h'.get? b = some u) (heo : ∃ u, h'.get? e = some u)
  (new : Jc X.prog X.w (upd H x o) h' x o) : Inv X pins σ (upd H x o) { s with heap := h', toks := t' } := I.un (Un.write mu he k heo) (I.hok.write mu he k heo new)
theorem Inv.Ky {pins' : List (Addr × Obj)} (I : Inv X pins σ H s) (h : ∀ p ∈ pins', s.heap.get? p.1 = some p.2 ∧ H p.1 = none ∧ p.1 ≠ X.env.locals ∧ p.1 ∉ X.fs ∧ ∀ v, p.2.data ≠ .cell v) : Inv X pins' σ H s :=
 ⟨I.ok, I.os, I.bare, I.base, I.loc, I.cell, I.free, I.freeC, fun p hp => (List.mem_append.mp hp).elim (fun z => I.pin p (List.mem_append_left _ z)) (h p), I.hok, I.len⟩
theorem CQ {N : List Str} (hN : N.Nodup) {i j : Nat} {x : Str} (a : N[i]? = some x) (b : N[j]? = some x) : i = j := by
 obtain ⟨h1, e1⟩ := List.getElem?_eq_some_iff.mp a
 obtain ⟨h2, e2⟩ := List.getElem?_eq_some_iff.mp b
 exact (List.getElem_inj hN).mp (e1.trans e2.symm)
theorem FJ {M : Model} {A : Around} {E : Value → Shared → Prop} {i : Nat} {x : Str} {v : V} {u : Value} {Q : Unit → Shared → Prop} (I : Inv X pins σ H s) (hN : X.N.Nodup) (hi : X.N[i]? = some x) (hx : Loc X.env.scope x) (r : RelV v u)
  (h : ∀ s', Inv X pins (σ.set i (some v)) H s' → (∃ a, Heap.SameBut a s.heap s'.heap ∧ (a = X.env.locals ∨ X.env.cells.lookup x = some a)) → Q () s') (hf : X.fn x = true ∨ X.env.scope.names.lookup x = some .local := by first | exact .inl rfl | exact .inr rfl | assumption) : wpAny M A (storeName X.env x u) Q E s := by
 obtain ⟨m, hn, hl⟩ := id I.loc
 have hcls : (X.env.scope.kind == .class || (X.env.scope.kind == .module && X.env.locals != X.env.globals)) = false := by rw [I.ok.kind]; rfl
 have hiσ : i < σ.length := by rw [I.len]; exact (List.getElem?_eq_some_iff.mp hi).1
 have cne := I.cne
 have tracked : ∀ {a : Addr} {h' : Heap}, (∃ o, s.heap.get? a = some o ∧ H a = none) → Heap.SameBut a s.heap h' → HOk X.prog X.w H h' := fun {a h'} ha hs b ob e => by
  obtain ⟨_, _, hfree⟩ := ha
  refine (I.hok b ob e).Sk (fun c w' hc q => (hs.2 c ?_).trans q) (fun _ q => q) fun _ _ q => q
  rintro rfl
  rcases hc with rfl | hc
  ·rw [hfree] at e; cases e
  ·rw [hfree] at hc; cases hc
 rcases hx with hk | hk
 ·refine wpAny_storeName_local hk hn (fun h' hn' hs => ?_) hcls
  obtain ⟨oL, _, _, hoL, _⟩ := id hn
  refine h _ ⟨I.ok, I.os, I.bare, ⟨fun b o e n hb hx => ?_, fun b o e n hb hx => ?_, I.base.free, fun b o e hx => ?_, I.base.tups, I.base.frzs, I.base.tbls⟩, ⟨_, hn', fun j y v' e1 e2 e3 => ?_⟩, fun y c e => ?_, I.free, I.freeC, fun p hp => ?_, tracked ⟨oL, hoL, I.free⟩ hs, by simpa using I.len⟩ ⟨_, hs, .inl rfl⟩
  ·exact (hs.2 b (Nat.ne_of_lt (Nat.lt_of_lt_of_le (Heap.lt_size e) I.ok.above))).trans (I.base.keep b o e n hb hx)
  ·obtain ⟨sl, e1⟩ := I.base.slot b o e n hb hx
   exact ⟨sl, (hs.2 b (Nat.ne_of_lt (Nat.lt_of_lt_of_le (Heap.lt_size e) I.ok.above))).trans e1⟩
  ·obtain ⟨o', e1⟩ := I.base.there b o e hx
   exact ⟨o', (hs.2 b (Nat.ne_of_lt (Nat.lt_of_lt_of_le (Heap.lt_size e) I.ok.above))).trans e1⟩
  ·by_cases hj : j = i
   ·subst hj
    rw [hi] at e1; cases e1
    rw [List.getElem?_set_self hiσ] at e2
    cases e2
    exact ⟨u, r, .inl ⟨hk, by simp⟩⟩
   ·rw [List.getElem?_set_ne (Ne.symm hj)] at e2
    obtain ⟨u', r', q⟩ := hl j y v' e1 e2 e3
    refine ⟨u', r', ?_⟩
    rcases q with ⟨k, e⟩ | ⟨k, c, e, z⟩
    ·refine .inl ⟨k, ?_⟩
     have : y ≠ x := fun e => hj (CQ hN e1 (e ▸ hi))
     simp [this, e]
    ·exact .inr ⟨k, c, e, z.sameBut hs (cne y c e)⟩
  ·obtain ⟨w', z⟩ := I.cell y c e
   exact ⟨w', z.sameBut hs (cne y c e)⟩
  ·obtain ⟨e, n, ne, nf, d⟩ := I.pin p hp
   exact ⟨(hs.2 p.1 ne).trans e, n, ne, nf, d⟩
 ·have hfn : X.fn x = true := by
   rcases hf with z | z
   ·exact z
   ·rw [z] at hk; cases hk
  obtain ⟨c, hc⟩ := I.ok.has x (.inl hk)
  obtain ⟨w', z⟩ := I.cell x c hc
  refine wpAny_storeName_cell I.ok.kind hk hc z (fun h' hc' hs => ?_)
  obtain ⟨oc, hoc, hocd⟩ := id z
  refine h { s with heap := h' } ⟨I.ok, I.os, I.bare, ⟨fun b o e n hb hx => ?_, fun b o e n hb hx => ?_, I.base.free, fun b o e hx => ?_, I.base.tups, I.base.frzs, I.base.tbls⟩, ⟨m, hn.sameBut hs (Ne.symm (cne x c hc)), fun j y v' e1 e2 e3 => ?_⟩, fun y c' e => ?_, I.free, I.freeC, fun p hp => ?_, tracked ⟨oc, hoc, I.freeC x c hc⟩ hs, by simpa using I.len⟩ ⟨c, hs, .inr hc⟩
  ·exact (hs.2 b (Nat.ne_of_lt (Nat.lt_of_lt_of_le (Heap.lt_size e) (I.ok.cab x c hfn hc)))).trans (I.base.keep b o e n hb hx)
  ·obtain ⟨sl, e1⟩ := I.base.slot b o e n hb hx
   exact ⟨sl, (hs.2 b (Nat.ne_of_lt (Nat.lt_of_lt_of_le (Heap.lt_size e) (I.ok.cab x c hfn hc)))).trans e1⟩
  ·obtain ⟨o', e1⟩ := I.base.there b o e hx
   exact ⟨o', (hs.2 b (Nat.ne_of_lt (Nat.lt_of_lt_of_le (Heap.lt_size e) (I.ok.cab x c hfn hc)))).trans e1⟩
  ·by_cases hj : j = i
   ·subst hj
    rw [hi] at e1; cases e1
    rw [List.getElem?_set_self hiσ] at e2
    cases e2
    exact ⟨u, r, .inr ⟨.inl hk, c, hc, hc'⟩⟩
   ·rw [List.getElem?_set_ne (Ne.symm hj)] at e2
    obtain ⟨u', r', q⟩ := hl j y v' e1 e2 e3
    refine ⟨u', r', ?_⟩
    rcases q with q | ⟨k, c', e, z'⟩
    ·exact .inl q
    ·refine .inr ⟨k, c', e, z'.sameBut hs ?_⟩
     rintro rfl
     exact hj (CQ hN e1 (I.ok.inj _ _ _ e hc ▸ hi))
  ·by_cases hcc : c' = c
   ·subst hcc; exact ⟨_, hc'⟩
   ·obtain ⟨w2, z2⟩ := I.cell y c' e
    exact ⟨w2, z2.sameBut hs hcc⟩
  ·obtain ⟨e, n, ne, nf, d⟩ := I.pin p hp
   refine ⟨(hs.2 p.1 ?_).trans e, n, ne, nf, d⟩
   intro q
   rw [q, hoc] at e
   have q' : oc = p.2 := Option.some.inj e
   exact d w' (by rw [← q']; exact hocd)
theorem Dg {M : Model} {A : Around} {E : Value → Shared → Prop} {i : Nat} {x : Str} {v : V} {u : Value} {Q : Unit → Shared → Prop} (I : Inv X pins σ H s) (hN : X.N.Nodup) (hi : X.N[i]? = some x) (hx : Loc X.env.scope x) (r : RelV v u)
  (h : ∀ s', Inv X pins (σ.set i (some v)) H s' → Q () s') (hf : X.fn x = true ∨ X.env.scope.names.lookup x = some .local := by first | exact .inl rfl | exact .inr rfl | assumption) : wpAny M A (storeName X.env x u) Q E s :=
 FJ I hN hi hx r (fun s' I' _ => h s' I') hf
theorem Inv.ZaB {s' : Shared} {ch : List Addr} (I : Inv X pins σ H s) (ho : s'.os = s.os) (u : Un (frs X.stack) ch H H' s.heap s'.heap) (hok : HOk X.prog X.w H' s'.heap) (hg : AllBare s'.gens)
  (hch : ∀ b ∈ ch, (b ∈ X.ex ∨ X.s₀.heap.objs.size ≤ b) ∧ b ≠ X.env.locals ∧ (∀ x c, X.env.cells.lookup x = some c → c ≠ b) ∧ ∀ p ∈ X.pn ++ pins, p.1 ≠ b) : Inv X pins σ H' s' := by
 obtain ⟨h', g', d', t', o'⟩ := s'
 have e : o' = s.os := ho
 subst e
 exact I.call (g' := g') (t' := t') (d' := d') u hok hg hch
end
noncomputable abbrev XK := Value → Option Addr → Hp → Prop
noncomputable abbrev St := List (Option V)
noncomputable abbrev VK := V → Hp → Prop
noncomputable abbrev TE := St → Hp → VK → Prop
noncomputable abbrev TT := St → Hp → (Bool → Hp → Prop) → Prop
noncomputable abbrev TA := St → Hp → (List V → Hp → Prop) → Prop
structure Ends where
 nx : St → Hp → Prop
 rt : VK
 bk : St → Hp → Prop := fun _ _ => False
 ct : St → Hp → Prop := fun _ _ => False
noncomputable abbrev TS := Ends → St → Hp → Prop
noncomputable def EP (X : Cx) (pins : List (Addr × Obj)) (σ : St) (Q : VK) (u : Value) (s' : Shared) : Prop := ∃ v H', Inv X pins σ H' s' ∧ RelV v u ∧ Q v H'
noncomputable def TP (X : Cx) (pins : List (Addr × Obj)) (σ : St) (Q : Bool → Hp → Prop) (b : Bool) (s' : Shared) : Prop := ∃ H', Inv X pins σ H' s' ∧ Q b H'
noncomputable def AP (X : Cx) (pins : List (Addr × Obj)) (σ : St) (Q : List V → Hp → Prop) (us : List Value) (s' : Shared) : Prop := ∃ vs H', Inv X pins σ H' s' ∧ Vals vs us ∧ Q vs H'
noncomputable def SP (X : Cx) (pins : List (Addr × Obj)) (D : Ends) (f : Flow) (s' : Shared) : Prop :=
 match f with
 | .next => ∃ σ' H', Inv X pins σ' H' s' ∧ D.nx σ' H'
 | .brk => ∃ σ' H', Inv X pins σ' H' s' ∧ D.bk σ' H'
 | .cont => ∃ σ' H', Inv X pins σ' H' s' ∧ D.ct σ' H'
 | .ret u => ∃ v σ' H', Inv X pins σ' H' s' ∧ RelV v u ∧ D.rt v H'
noncomputable def PE (X : Cx) (e : Expr) (t : TE) : Prop :=
 ∀ (pins : List (Addr × Obj)) (s : Shared) (σ : St) (H : Hp) (Q : VK), Inv X pins σ H s → t σ H Q → wpAny (model X.prog X.w) X.A (eval e X.env) (EP X pins σ Q) X.xe s
noncomputable def PT (X : Cx) (e : Expr) (t : TT) : Prop :=
 ∀ (pins : List (Addr × Obj)) (s : Shared) (σ : St) (H : Hp) (Q : Bool → Hp → Prop), Inv X pins σ H s → t σ H Q → wpAny (model X.prog X.w) X.A (isTrue e X.env (eval e X.env)) (TP X pins σ Q) X.xe s
noncomputable def PW (X : Cx) (e : Expr) (t : TT) : Prop :=
 ∀ (whole : Sem Value) (pins : List (Addr × Obj)) (s : Shared) (σ : St) (H : Hp) (Q : Bool → Hp → Prop), Inv X pins σ H s → t σ H Q → wpAny (model X.prog X.w) X.A (isTrue e X.env whole) (TP X pins σ Q) X.xe s
theorem PW.pt {X : Cx} {e : Expr} {t : TT} (h : PW X e t) : PT X e t := h _
noncomputable def PA (X : Cx) (es : List Expr) (t : TA) : Prop :=
 ∀ (pos : Pos) (pins : List (Addr × Obj)) (s : Shared) (σ : St) (H : Hp) (Q : List V → Hp → Prop), Inv X pins σ H s → t σ H Q → wpAny (model X.prog X.w) X.A (spliced (backTo pos (starEach es X.env))) (AP X pins σ Q) X.xe s
noncomputable def PS (X : Cx) (st : Stmt) (t : TS) : Prop :=
 ∀ (pins : List (Addr × Obj)) (s : Shared) (σ : St) (H : Hp) (D : Ends), Inv X pins σ H s → t D σ H → wpAny (model X.prog X.w) X.A (exec st X.env) (SP X pins D) X.xe s
noncomputable def PSs (X : Cx) (st : List Stmt) (t : TS) : Prop :=
 ∀ (pins : List (Addr × Obj)) (s : Shared) (σ : St) (H : Hp) (D : Ends), Inv X pins σ H s → t D σ H → wpAny (model X.prog X.w) X.A (execs st X.env) (SP X pins D) X.xe s
theorem thn {α : Type} {t : Sem α} {Q Q' : α → Shared → Prop} {M : Model} {A : Around} {E : Value → Shared → Prop} {s : Shared} (h : wpAny M A t Q E s) (hQ : ∀ a s, Q a s → Q' a s) : wpAny M A t Q' E s := wpAny_mono h hQ fun _ _ x => x
end L2
namespace L2
open PySem PySem.Spec PyProof.Rows
section
variable {X : Cx}
noncomputable def Zff (i : Nat) : TE := fun σ H Q => ∃ v, σ[i]? = some (some v) ∧ Q v H
noncomputable def tC (v : V) : TE := fun _ H Q => Q v H
theorem Zbz {i : Nat} {x : Str} {pos : Pos} (hN : X.N[i]? = some x) (hv : Vis X.env.scope x) (hd : (x == ("__debug__" : Str)) = false := by decide) (hcd : (x == ("__classdict__" : Str)) = false := by decide) : PE X (.Name x pos) (Zff i) := by
 intro pins s σ H Q I h
 obtain ⟨v, e, h⟩ := h
 obtain ⟨m, hn, hl⟩ := I.loc
 obtain ⟨u, r, l⟩ := hl i x v hN e hv
 have fin : EP X pins σ Q u s := ⟨v, H, I, r, h⟩
 rcases l with ⟨hk, hm⟩ | ⟨hk, c, hc, hcell⟩
 ·exact wpAny_Name (wpAny_loadName_local I.ok.kind hk hn hm fin) hd
 ·rcases hk with hk | hk
  ·exact wpAny_Name (wpAny_loadName_cell I.ok.kind hk hc hcell fin) hd
  ·exact wpAny_Name (wpAny_loadName_free I.ok.kind hk hc hcell fin hcd) hd
theorem Zat {i j pos} : PE X (.Constant (.int i) j pos) (tC (.int i)) := fun _ _ _ H _ I h => wpAny_Constant_int ⟨.int i, H, I.tok _, ⟨_, rfl⟩, h⟩
theorem ZdJ {b j pos} : PE X (.Constant (.bool b) j pos) (tC (.bl b)) := fun _ _ _ H _ I h => Constant_bool ⟨.bl b, H, I, rfl, h⟩
theorem Zak {x j pos} : PE X (.Constant (.str x) j pos) (tC (.str x)) := fun _ _ _ H _ I h => Calls.Constant_str ⟨.str x, H, I.tok _, ⟨_, rfl⟩, h⟩
noncomputable def Gl (X : Cx) (x : Str) : Prop := X.env.kindOf x = some .globalImplicit
theorem Tq {E : Value → Shared → Prop} {pins : List (Addr × Obj)} {s : Shared} {σ : St} {H : Hp} {x : Str} {u : Value} {pos : Pos} {Q : Value → Shared → Prop} (I : Inv X pins σ H s) (hg : Gl X x) (hm : X.mg x = some u) (h : Q u s)
  (hd : (x == ("__debug__" : Str)) = false := by decide) : wpAny (model X.prog X.w) X.A (eval (.Name x pos) X.env) Q E s :=
 Calls.Name_function_global I.ok.kind hg (Calls.loadGlobal_global (by rw [I.ok.glob]; exact I.mod.glob.keeps I.bk) hm h) hd
theorem XX {E : Value → Shared → Prop} {pins : List (Addr × Obj)} {s : Shared} {σ : St} {H : Hp} {x : Str} {u : Value} {pos : Pos} {Q : Value → Shared → Prop} (I : Inv X pins σ H s) (hg : Gl X x) (hm : X.mg x = none) (hv : bootBuiltins x = some u) (h : Q u s)
  (hn : x ≠ "__name__" := by decide) (hd : (x == ("__debug__" : Str)) = false := by decide) : wpAny (model X.prog X.w) X.A (eval (.Name x pos) X.env) Q E s := by
 obtain ⟨mb, h1, h2⟩ := I.mod.blt
 exact Calls.Name_function_global I.ok.kind hg (Calls.loadGlobal_builtin (by rw [I.ok.glob]; exact I.mod.glob.keeps I.bk) hm (by rw [I.ok.blt]; exact h1.keeps I.bk) ((h2 x hn).trans hv) h) hd
theorem Sn {x : Str} {v : V} {u : Value} {pos : Pos} (hg : Gl X x) (hm : X.mg x = none) (hv : bootBuiltins x = some u) (r : RelV v u) (hn : x ≠ "__name__" := by decide) (hd : (x == ("__debug__" : Str)) = false := by decide) : PE X (.Name x pos) (tC v) :=
 fun _ _ _ H _ I h => XX I hg hm hv ⟨v, H, I, r, h⟩ hn hd
noncomputable def t2I (ta tb : TE) (k : Int → Int → Hp → Prop) : St → Hp → Prop := fun σ H => ta σ H fun x H1 => tb σ H1 fun y H2 => ∃ i j, x = .int i ∧ y = .int j ∧ k i j H2
noncomputable def Zgc (ta tb : TE) : TE := fun σ H Q => t2I ta tb (fun i j H2 => Q (.int (i + j)) H2) σ H
noncomputable def Zga (ta tb : TE) : TE := fun σ H Q => t2I ta tb (fun i j H2 => Q (.int (i - j)) H2) σ H
noncomputable def Zgh (ta tb : TE) : TE := fun σ H Q => t2I ta tb (fun i j H2 => (-(2 ^ 64) < i ∧ i < 2 ^ 64) ∧ Q (.int (i * j)) H2) σ H
variable {a b : Expr} {ta tb : TE} {pos : Pos}
noncomputable def PC (X : Cx) (op : CmpOp) (a b : Expr) (t : TE) : Prop :=
 ∀ (pins : List (Addr × Obj)) (s : Shared) (σ : St) (H : Hp) (Q : VK), Inv X pins σ H s → t σ H Q →
  wpAny (model X.prog X.w) X.A (eval a X.env) (fun v s₁ => wpAny (model X.prog X.w) X.A (eval b X.env) (fun u s₂ => wpAny (model X.prog X.w) X.A (compareOp op v u) (EP X pins σ Q) X.xe s₂) X.xe s₁) X.xe s
noncomputable def Tt (p : Int → Int → Bool) (ta tb : TE) : TE := fun σ H Q => t2I ta tb (fun i j H2 => Q (.bl (p i j)) H2) σ H
noncomputable abbrev tLt : TE → TE → TE := Tt fun i j => decide (i < j)
noncomputable abbrev tLe : TE → TE → TE := Tt fun i j => decide (i ≤ j)
noncomputable abbrev tGt : TE → TE → TE := Tt fun i j => decide (j < i)
noncomputable abbrev tGe : TE → TE → TE := Tt fun i j => decide (j ≤ i)
noncomputable abbrev Zgf : TE → TE → TE := Tt fun i j => decide (i = j)
noncomputable abbrev Zgj : TE → TE → TE := Tt fun i j => !decide (i = j)
noncomputable def Zf3 (ta : TE) : TE := fun σ H Q => ta σ H fun x H1 => Q (.bl (decide (x = .non))) H1
noncomputable def Zfs (ta : TE) : TE := fun σ H Q => ta σ H fun x H1 => Q (.bl (!decide (x = .non))) H1
noncomputable def tB (t : TE) : TT := fun σ H Q => t σ H fun x H1 => ∃ c, x = .bl c ∧ Q c H1
theorem Zb6 {e : Expr} {t : TE} (h : PE X e t) (he : ∀ whole, isTrue e X.env whole = (do let v ← whole; standAt e.pos; holding [v] (truthy v)) := by intro _; rfl) : PT X e (tB t) := by
 intro pins s σ H Q I hw
 refine isTrue_plain (thn (h pins s σ H _ I hw) fun v s1 ⟨x, H1, I1, r1, q1⟩ => ?_) (he _)
 obtain ⟨d, rfl, q⟩ := q1
 cases r1
 exact wpAny_truthy_bool ⟨H1, I1, q⟩
variable {tA tB' : TT} {rest : List Expr}
noncomputable def ZfW (t u : TT) : TT := fun σ H Q => t σ H fun c H1 => if c = true then u σ H1 Q else Q false H1
noncomputable def tOr (t u : TT) : TT := fun σ H Q => t σ H fun c H1 => if c = true then Q true H1 else u σ H1 Q
noncomputable def ZfR (t : TT) : TT := fun σ H Q => t σ H fun c H1 => Q (!c) H1
theorem Rm (ha : PT X a tA) : PW X (.BoolOp .And [a] pos) tA := by
 intro wh pins s σ H Q I h
 refine isTrue_and (thn (ha pins s σ H Q I h) fun c s1 e => ?_)
 cases c with
 | true => exact isTrue_and_nil e
 | false => exact e
theorem Zcp (ha : PT X a tA) : PW X (.BoolOp .Or [a] pos) tA := by
 intro wh pins s σ H Q I h
 refine isTrue_or (thn (ha pins s σ H Q I h) fun c s1 e => ?_)
 cases c with
 | false => exact isTrue_or_nil e
 | true => exact e
theorem Zbg (ha : PT X a tA) (hb : PW X (.BoolOp .And (b :: rest) pos) tB') : PW X (.BoolOp .And (a :: b :: rest) pos) (ZfW tA tB') := by
 intro wh pins s σ H Q I h
 refine isTrue_and (thn (ha pins s σ H _ I h) fun c s1 ⟨H1, I1, q1⟩ => ?_)
 cases c with
 | true => exact hb wh pins s1 σ H1 Q I1 q1
 | false => exact ⟨H1, I1, q1⟩
theorem ZdT (ha : PT X a tA) (hb : PW X (.BoolOp .Or (b :: rest) pos) tB') : PW X (.BoolOp .Or (a :: b :: rest) pos) (tOr tA tB') := by
 intro wh pins s σ H Q I h
 refine isTrue_or (thn (ha pins s σ H _ I h) fun c s1 ⟨H1, I1, q1⟩ => ?_)
 cases c with
 | true => exact ⟨H1, I1, q1⟩
 | false => exact hb wh pins s1 σ H1 Q I1 q1
theorem ZbM (ha : PT X a tA) : PT X (.UnaryOp .Not a pos) (ZfR tA) := by
 intro pins s σ H Q I h
 exact isTrue_not (ha pins s σ H (fun c H1 => Q (!c) H1) I h)
noncomputable def Zc9 (ta tb : TE) : TE := fun σ H Q => ta σ H fun x H1 => ∃ c, x = .bl c ∧ if c = true then tb σ H1 Q else Q (.bl false) H1
noncomputable def Zfb (ta tb : TE) : TE := fun σ H Q => ta σ H fun x H1 => ∃ c, x = .bl c ∧ if c = true then Q (.bl true) H1 else tb σ H1 Q
noncomputable def Zdi (ta : TE) : TE := fun σ H Q => ta σ H fun x H1 => ∃ c, x = .bl c ∧ Q (.bl (!c)) H1
theorem Zbs {op} {t : TE} (h : PE X a t) : PE X (.BoolOp op [a] pos) t := fun pins s σ H Q I hw => BoolOp_one (h pins s σ H Q I hw)
theorem T7 (ha : PE X a ta) (hb : PE X (.BoolOp .And (b :: rest) pos) tb) : PE X (.BoolOp .And (a :: b :: rest) pos) (Zc9 ta tb) := by
 intro pins s σ H Q I h
 refine BoolOp_and (thn (ha pins s σ H _ I h) fun v s1 ⟨x, H1, I1, r1, q1⟩ => ?_)
 obtain ⟨c, rfl, q1⟩ := q1
 cases r1
 refine wpAny_truthy_bool ?_
 cases c with
 | true => exact hb pins s1 σ H1 Q I1 q1
 | false => exact ⟨.bl false, H1, I1, rfl, q1⟩
theorem Zd2 (ha : PE X a ta) (hb : PE X (.BoolOp .Or (b :: rest) pos) tb) : PE X (.BoolOp .Or (a :: b :: rest) pos) (Zfb ta tb) := by
 intro pins s σ H Q I h
 refine BoolOp_or (thn (ha pins s σ H _ I h) fun v s1 ⟨x, H1, I1, r1, q1⟩ => ?_)
 obtain ⟨c, rfl, q1⟩ := q1
 cases r1
 refine wpAny_truthy_bool ?_
 cases c with
 | false => exact hb pins s1 σ H1 Q I1 q1
 | true => exact ⟨.bl true, H1, I1, rfl, q1⟩
theorem ZaW (ha : PE X a ta) : PE X (.UnaryOp .Not a pos) (Zdi ta) := by
 intro pins s σ H Q I h
 refine UnaryOp_ (thn (ha pins s σ H _ I h) fun v s1 ⟨x, H1, I1, r1, q1⟩ => ?_)
 obtain ⟨c, rfl, q1⟩ := q1
 cases r1
 exact not_of (wpAny_truthy_bool ⟨.bl (!c), H1, I1, rfl, q1⟩)
noncomputable def tIf (t : TT) (ta tb : TE) : TE := fun σ H Q => t σ H fun c H1 => if c = true then ta σ H1 Q else tb σ H1 Q
theorem Nx {c : Expr} (hc : PT X c tA) (ha : PE X a ta) (hb : PE X b tb) : PE X (.IfExp c a b pos) (tIf tA ta tb) := by
 intro pins s σ H Q I h
 refine wpAny_IfExp (thn (hc pins s σ H _ I h) fun d s1 ⟨H1, I1, q1⟩ => ?_)
 cases d with
 | true => exact ha pins s1 σ H1 Q I1 q1
 | false => exact hb pins s1 σ H1 Q I1 q1
end
end L2
namespace L2
open PySem PySem.Spec PyProof.Rows
noncomputable def SqL (K : PySem.W.Frag) (H : Hp) (a : Addr) (xs : List V) : Prop :=
 Rd H a (.lst xs) ∨
  ∃ (o : Obj) (its : Array Value) (n : Nat), K.lookup a = some o ∧ o.cls = .type "list" ∧ o.dict = none ∧ o.data = .seq its n ∧ its.size ≤ sizeLine ∧ Vals xs its.toList
noncomputable def SqT (K : PySem.W.Frag) (H : Hp) (a : Addr) (xs : List V) : Prop :=
 Rd H a (.tup xs) ∨
  ∃ (o : Obj) (its : Array Value) (n : Nat), K.lookup a = some o ∧ o.cls = .type "tuple" ∧ o.data = .seq its n ∧ its.size ≤ sizeLine ∧ Vals xs its.toList
noncomputable def Ze9 : Value → Option V
 | .none => some .non
 | .bool b => some (.bl b)
 | .int i _ => some (.int i)
 | .str x _ => some (.str x)
 | .bytes b _ => some (.byt b)
 | .float b _ => some (.flt b)
 | .ref a => some (.ref a)
 | .type n => some (.ty n)
 | _ => none
theorem RelV.abs {x : V} {u : Value} (r : RelV x u) : Ze9 u = some x := by
 cases x with
 | non => cases r; rfl
 | bl _ => cases r; rfl
 | int _ => obtain ⟨t, rfl⟩ := r; rfl
 | str _ => obtain ⟨t, rfl⟩ := r; rfl
 | byt _ => obtain ⟨t, rfl⟩ := r; rfl
 | flt _ => obtain ⟨t, rfl⟩ := r; rfl
 | ref _ => cases r; rfl
 | ty _ => cases r; rfl
theorem RelV.inj {x y : V} {u : Value} (r : RelV x u) (q : RelV y u) : x = y := Option.some.inj (r.abs.symm.trans q.abs)
theorem Vals.inj : ∀ {xs ys : List V} {us : List Value}, Vals xs us → Vals ys us → xs = ys
 | _, _, _, .nil, .nil => rfl
 | _, _, _, .cons r t, .cons r' t' => by rw [r.inj r', Vals.inj t t']
section
variable {X : Cx} {pins : List (Addr × Obj)} {σ : St} {H : Hp} {s : Shared} {a : Addr} {xs ys : List V}
theorem SqL.of {K : PySem.W.Frag} (h : H a = some (.lst xs)) : SqL K H a xs := .inl (.inl h)
theorem SqT.of {K : PySem.W.Frag} (h : H a = some (.tup xs)) : SqT K H a xs := .inl (.inl h)
theorem Inv.list (I : Inv X pins σ H s) (h : SqL X.K H a xs) : ∃ its : List Value, Vals xs its ∧ PlainL s.heap a its.toArray ∧ xs.length ≤ sizeLine := by
 rcases h with h | ⟨o, its, n, hk, hc, hd, hs, hz, r⟩
 ·obtain ⟨z, its, n, r, e⟩ := h.ok I.hok
  exact ⟨its, r, ⟨_, n, e, rfl, rfl, rfl⟩, z⟩
 ·refine ⟨its.toList, r, ⟨o, n, I.kIn a o hk, hc, hd, by simpa using hs⟩, ?_⟩
  have e := r.length
  simp only [Array.length_toList] at e
  omega
theorem Inv.tuple (I : Inv X pins σ H s) (h : SqT X.K H a xs) : ∃ its : List Value, Vals xs its ∧ IsTup s.heap a its.toArray ∧ xs.length ≤ sizeLine := by
 rcases h with h | ⟨o, its, n, hk, hc, hs, hz, r⟩
 ·obtain ⟨z, its, r, p⟩ := h.ok I.hok
  exact ⟨its, r, p, z⟩
 ·refine ⟨its.toList, r, ⟨o, I.kIn a o hk, hc, n, by simpa using hs⟩, ?_⟩
  have e := r.length
  simp only [Array.length_toList] at e
  omega
theorem Inv.NB (I : Inv X pins σ H s) (h : SqL X.K H a xs) (h' : SqL X.K H a ys) : xs = ys := by
 obtain ⟨its, r, ⟨o, n, e, _, _, d⟩, _⟩ := I.list h
 obtain ⟨its', r', ⟨o', n', e', _, _, d'⟩, _⟩ := I.list h'
 rw [e] at e'; cases e'
 rw [d] at d'
 injection d' with d1 _
 have : its = its' := by simpa using congrArg Array.toList d1
 subst this
 exact r.inj r'
theorem Inv.G0 (I : Inv X pins σ H s) (h : SqT X.K H a xs) (h' : SqT X.K H a ys) : xs = ys := by
 obtain ⟨its, r, ⟨o, e, _, n, d⟩, _⟩ := I.tuple h
 obtain ⟨its', r', ⟨o', e', _, n', d'⟩, _⟩ := I.tuple h'
 rw [e] at e'; cases e'
 rw [d] at d'
 injection d' with d1 _
 have : its = its' := by simpa using congrArg Array.toList d1
 subst this
 exact r.inj r'
end
noncomputable abbrev Cx.L0 (X : Cx) (E : Value → Shared → Prop) : Cx := { X with xe := E }
noncomputable abbrev Cx.nox (X : Cx) : Cx := X.L0 fun _ _ => False
theorem Cx.Ok.L0 {X : Cx} (ok : X.Ok) (E : Value → Shared → Prop) : (X.L0 E).Ok :=
 ⟨ok.mod, ok.kind, ok.glob, ok.blt, ok.above, ok.inj, ok.has, ok.cab, ok.hd, ok.frames, ok.stk, ok.exf, ok.bs, ok.bsz, ok.noex, ok.exfs, ok.Fq, ok.frf⟩
theorem Cx.Ok.XS {X : Cx} {E : Value → Shared → Prop} (ok : (X.L0 E).Ok) : X.Ok :=
 ⟨ok.mod, ok.kind, ok.glob, ok.blt, ok.above, ok.inj, ok.has, ok.cab, ok.hd, ok.frames, ok.stk, ok.exf, ok.bs, ok.bsz, ok.noex, ok.exfs, ok.Fq, ok.frf⟩
section
variable {X : Cx} {pins : List (Addr × Obj)} {σ : St} {H : Hp} {s : Shared} {E : Value → Shared → Prop}
theorem Inv.L0 (I : Inv X pins σ H s) (E : Value → Shared → Prop) : Inv (X.L0 E) pins σ H s := ⟨I.ok.L0 E, I.os, I.bare, I.base, I.loc, I.cell, I.free, I.freeC, I.pin, I.hok, I.len⟩
theorem Inv.XS (I : Inv (X.L0 E) pins σ H s) : Inv X pins σ H s := ⟨I.ok.XS, I.os, I.bare, I.base, I.loc, I.cell, I.free, I.freeC, I.pin, I.hok, I.len⟩
theorem SP.XS {D : Ends} {f : Flow} {s' : Shared} (h : SP (X.L0 E) pins D f s') : SP X pins D f s' := by
 cases f with
 | next => obtain ⟨σ', H', I, q⟩ := h; exact ⟨σ', H', I.XS, q⟩
 | brk => obtain ⟨σ', H', I, q⟩ := h; exact ⟨σ', H', I.XS, q⟩
 | cont => obtain ⟨σ', H', I, q⟩ := h; exact ⟨σ', H', I.XS, q⟩
 | ret u => obtain ⟨v, σ', H', I, r, q⟩ := h; exact ⟨v, σ', H', I.XS, r, q⟩
theorem PSs.nox {st : List Stmt} {t : TS} (h : PSs X.nox st t) : PSs X st t := fun pins s σ H D I hw =>
 wpAny_mono (h pins s σ H D (I.L0 _) hw) (fun _ _ q => q.XS) fun _ _ z => False.elim z
end
section
variable {X : Cx} {st : Stmt} {rest : List Stmt} {t u : TS} {e : Expr} {te : TE} {pos : Pos}
noncomputable def Zdq : TS := fun D σ H => D.nx σ H
noncomputable def Zfj (t u : TS) : TS := fun D σ H => t { D with nx := u D } σ H
theorem P5 : PSs X [] Zdq := fun _ _ σ H _ I h => wpAny_execs_nil ⟨σ, H, I, h⟩
theorem NW (h1 : PS X st t) (h2 : PSs X rest u) : PSs X (st :: rest) (Zfj t u) := by
 intro pins s σ H D I h
 refine wpAny_execs_cons (thn (h1 pins s σ H { D with nx := u D } I h) fun f s1 q => ?_)
 cases f with
 | next =>
  obtain ⟨σ', H', I', q⟩ := q
  exact h2 pins s1 σ' H' D I' q
 | ret v => exact q
 | brk => exact q
 | cont => exact q
theorem Se (h1 : PS X st t) : PSs X [st] t := by
 intro pins s σ H D I h
 refine wpAny_execs_cons (thn (h1 pins s σ H D I h) fun f s1 q => ?_)
 cases f with
 | next => exact wpAny_execs_nil q
 | ret v => exact q
 | brk => exact q
 | cont => exact q
noncomputable def Ze5 : TS := fun D σ H => D.bk σ H
noncomputable def ZfB : TS := fun D σ H => D.ct σ H
theorem Inv.quiet {pins : List (Addr × Obj)} {σ : St} {H : Hp} {s : Shared} (I : Inv X pins σ H s) : interactive X.env = false := by simp [interactive, I.ok.kind]
noncomputable def Zc8 (te : TE) : TS := fun D σ H => te σ H fun _ H1 => D.nx σ H1
theorem Sy (he : PE X e te) (hs : swapsWith e none pos.line X.env = pure false := by rfl) : PS X (.Expr e pos) (Zc8 te) := by
 intro pins s σ H D I h
 exact wpAny_Expr_any (thn (he pins s σ H _ I h) fun v s1 ⟨x, H1, I1, r1, q1⟩ => ⟨σ, H1, I1, q1⟩) I.quiet hs
noncomputable def Ze7 (te : TE) : TS := fun D σ H => te σ H D.rt
theorem Zbr (he : PE X e te) : PS X (.Return (some e) pos) (Ze7 te) := by
 intro pins s σ H D I h
 exact wpAny_Return_some (thn (he pins s σ H _ I h) fun v s1 ⟨x, H1, I1, r1, q1⟩ => ⟨x, σ, H1, I1, r1, q1⟩)
noncomputable def ZfE : TS := fun D _ H => D.rt .non H
noncomputable def ZfC (c : TT) (t u : TS) : TS := fun D σ H => c σ H fun b H1 => if b = true then t D σ H1 else u D σ H1
theorem ZdR {c : Expr} {a b : List Stmt} {tc : TT} (hc : PT X c tc) (ha : PSs X a t) (hb : PSs X b u) : PS X (.If c a b pos) (ZfC tc t u) := by
 intro pins s σ H D I h
 refine wpAny_If (thn (hc pins s σ H _ I h) fun d s1 ⟨H1, I1, q1⟩ => ?_)
 cases d with
 | true => exact ha pins s1 σ H1 D I1 q1
 | false => exact hb pins s1 σ H1 D I1 q1
noncomputable def Zez : TS := fun _ _ _ => False
end
noncomputable abbrev TG := V → St → Hp → (St → Hp → Prop) → Prop
noncomputable abbrev TGs := List V → St → Hp → (St → Hp → Prop) → Prop
noncomputable def PG (X : Cx) (target : Expr) (t : TG) : Prop :=
 ∀ (pins : List (Addr × Obj)) (s : Shared) (σ : St) (H : Hp) (v : V) (u : Value) (Q : St → Hp → Prop), Inv X pins σ H s → RelV v u → t v σ H Q →
  wpAny (model X.prog X.w) X.A (assign target X.env u) (fun _ s' => ∃ σ' H', Inv X pins σ' H' s' ∧ Q σ' H') X.xe s
noncomputable def PGs (X : Cx) (ts : List Expr) (t : TGs) : Prop :=
 ∀ (pins : List (Addr × Obj)) (s : Shared) (σ : St) (H : Hp) (vs : List V) (us : List Value) (Q : St → Hp → Prop), Inv X pins σ H s → Vals vs us → t vs σ H Q →
  wpAny (model X.prog X.w) X.A (assignInOrder ((assignEach ts X.env).map (·.2)) us) (fun _ s' => ∃ σ' H', Inv X pins σ' H' s' ∧ Q σ' H') X.xe s
noncomputable abbrev ZcN := V → V → V → Hp → (Hp → Prop) → Prop
noncomputable def Ze2 (X : Cx) (t : ZcN) : Prop :=
 ∀ (pins : List (Addr × Obj)) (s : Shared) (σ : St) (H : Hp) (o i v : V) (ov iv u : Value) (Q : Hp → Prop), Inv X pins σ H s → RelV o ov → RelV i iv → RelV v u → t o i v H Q →
  wpAny (model X.prog X.w) X.A (setItem ov iv u) (fun _ s' => ∃ H', Inv X pins σ H' s' ∧ Q H') X.xe s
noncomputable abbrev TIp := V → V → Hp → VK → Prop
noncomputable def PIp (X : Cx) (op : Operator) (t : TIp) : Prop :=
 ∀ (pins : List (Addr × Obj)) (s : Shared) (σ : St) (H : Hp) (x y : V) (v u : Value) (Q : VK), Inv X pins σ H s → RelV x v → RelV y u → t x y H Q →
  wpAny (model X.prog X.w) X.A (inplaceOp op v u) (EP X pins σ Q) X.xe s
section
variable {X : Cx} {pos : Pos}
noncomputable def Zbq (i : Nat) : TG := fun v σ H Q => Q (σ.set i (some v)) H
theorem HN {i : Nat} {x : Str} (hN : X.N.Nodup) (hi : X.N[i]? = some x) (hx : Loc X.env.scope x) (hf : X.fn x = true ∨ X.env.scope.names.lookup x = some .local := by first | exact .inl rfl | exact .inr rfl | assumption) : PG X (.Name x pos) (Zbq i) := by
 intro pins s σ H v u Q I r h
 exact wpAny_assign_Name (Dg I hN hi hx r (fun s' I' => ⟨_, H, I', h⟩) hf)
noncomputable def ZfO : TGs := fun vs σ H Q => vs = [] ∧ Q σ H
noncomputable def Zdv (t : TG) (u : TGs) : TGs := fun vs σ H Q => ∃ v r, vs = v :: r ∧ t v σ H fun σ' H' => u r σ' H' Q
theorem S6 : PGs X [] ZfO := by
 intro pins s σ H vs us Q I r h
 obtain ⟨e, h⟩ := h
 subst e
 cases r
 exact assignInOrder_nil ⟨σ, H, I, h⟩
theorem Mb {e : Expr} {es : List Expr} {t : TG} {u : TGs} (h1 : PG X e t) (h2 : PGs X es u)
  (hs : (assignEach (e :: es) X.env).map (·.2) = assign e X.env :: (assignEach es X.env).map (·.2) := by rfl) : PGs X (e :: es) (Zdv t u) := by
 intro pins s σ H vs us Q I r h
 obtain ⟨v, vr, e1, h⟩ := h
 subst e1
 cases r with
 | cons r rr =>
  rw [hs]
  refine assignInOrder_cons (thn (h1 pins s σ H _ _ _ I r h) fun _ s1 ⟨σ1, H1, I1, q1⟩ => ?_)
  exact h2 pins s1 σ1 H1 _ _ Q I1 rr q1
noncomputable def ZfS (K : PySem.W.Frag) (n : Nat) (t : TGs) : TG := fun v σ H Q => ∃ a xs, v = .ref a ∧ SqT K H a xs ∧ xs.length = n ∧ t xs σ H Q
theorem T4 {es : List Expr} {k : Nat} {t : TGs} {n : Nat} (hc : X.calm = true) (h : PGs X es t)
  (hn : (assignEach es X.env).length = n := by rfl) (hst : (assignEach es X.env).findIdx? (·.1) = none := by rfl) : PG X (.Tuple es k pos) (ZfS X.K n t) := by
 intro pins s σ H v u Q I r hw
 obtain ⟨a, xs, e1, hq, hl, hw⟩ := hw
 subst e1
 cases r
 obtain ⟨its, rv, ht, hz⟩ := I.tuple hq
 refine assign_Tuple_tuple (I.ok.hd hc) ht (by simp [hn, ← hl, rv.length]) hst fun h' hx => ?_
 have I1 : Inv X pins σ H { s with heap := h' } := I.kept (t' := s.toks) fun b o e => hx b o (Nat.ne_of_lt (Heap.lt_size e)) e
 exact h pins _ σ H xs _ Q I1 (by simpa using rv) hw
noncomputable def Zfy (to ti : TE) (t : ZcN) : TG := fun v σ H Q => to σ H fun o H1 => ti σ H1 fun i H2 => t o i v H2 fun H3 => Q σ H3
theorem ZaI {o i : Expr} {to ti : TE} {t : ZcN} (ho : PE X o to) (hi : PE X i ti) (hs : Ze2 X t)
  (ha : ∀ v, assign (.Subscript o i pos) X.env v = (do
   let ov ← holding [v] (eval o X.env)
   let iv ← holding [v, ov] (eval i X.env)
   standAt pos
   holding [v, ov, iv] (setItem ov iv v)
   release [v, ov, iv] []) := by intro _; rfl) : PG X (.Subscript o i pos) (Zfy to ti t) := by
 intro pins s σ H v u Q I r h
 rw [ha]
 refine wpAny_bind (wpAny_holding (thn (ho pins s σ H _ I h) fun ov s1 ⟨x, H1, I1, r1, q1⟩ => ?_))
 refine wpAny_bind (wpAny_holding (thn (hi pins s1 σ H1 _ I1 q1) fun iv s2 ⟨y, H2, I2, r2, q2⟩ => ?_))
 refine wpAny_bind (wpAny_standAt (wpAny_bind (wpAny_holding (thn (hs pins s2 σ H2 x y v ov iv u _ I2 r1 r2 r q2) fun _ s3 ⟨H3, I3, q3⟩ => ?_))))
 exact wpAny_release ⟨σ, H3, I3, q3⟩
noncomputable def Zev (te : TE) (g : TG) : TS := fun D σ H => te σ H fun x H1 => g x σ H1 D.nx
theorem ZaR {tg e : Expr} {te : TE} {g : TG} (he : PE X e te) (hg : PG X tg g) (hs : swapsWithSole [tg] e pos.line X.env = pure false := by rfl) (hw : swappedStores [tg] e X.env = pure none := by rfl)
  (h1 : (assignEach [tg] X.env).map (·.2) = [assign tg X.env] := by rfl) : PS X (.Assign [tg] e pos) (Zev te g) := by
 intro pins s σ H D I h
 refine wpAny_Assign_stores (thn (he pins s σ H _ I h) fun v s1 ⟨x, H1, I1, r1, q1⟩ => ?_) hs hw
 rw [h1]
 exact thn (hg pins s1 σ H1 x v _ I1 r1 q1) fun _ s2 q => q
theorem ZcE {i : Nat} {x : Str} {e : Expr} {te : TE} {pos' : Pos} (hN : X.N.Nodup) (hi : X.N[i]? = some x) (hx : Loc X.env.scope x) (he : PE X e te) (hs : swapsWith e (some (.Name x pos')) pos.line X.env = pure false := by rfl) (hf : X.fn x = true ∨ X.env.scope.names.lookup x = some .local := by first | exact .inl rfl | exact .inr rfl | assumption) :
  PS X (.Assign [.Name x pos'] e pos) (Zev te (Zbq i)) := by
 intro pins s σ H D I h
 refine wpAny_Assign_Name (thn (he pins s σ H _ I h) fun v s1 ⟨y, H1, I1, r1, q1⟩ => ?_) hs
 exact Dg I1 hN hi hx r1 (fun s2 I2 => ⟨_, H1, I2, q1⟩) hf
noncomputable def Zf4 (i j : Nat) (ta : TA) : TS := fun D σ H => ta σ H fun vs H1 => ∃ v w, vs = [v, w] ∧ D.nx ((σ.set i (some v)).set j (some w)) H1
noncomputable def Zf0 (i : Nat) (te : TE) (ti : TIp) : TS := fun D σ H => ∃ x, σ[i]? = some (some x) ∧ te σ H fun y H1 => ti x y H1 fun z H2 => D.nx (σ.set i (some z)) H2
noncomputable def Ze8 (to ti te : TE) (tget : V → V → Hp → VK → Prop) (tip : TIp) (tset : ZcN) : TS := fun D σ H => to σ H fun o H1 => ti σ H1 fun i H2 => tget o i H2 fun x H3 => te σ H3 fun y H4 => tip x y H4 fun z H5 => tset o i z H5 fun H6 => D.nx σ H6
noncomputable def Zgl (X : Cx) (t : V → V → Hp → VK → Prop) : Prop :=
 ∀ (pins : List (Addr × Obj)) (s : Shared) (σ : St) (H : Hp) (o i : V) (ov iv : Value) (Q : VK), Inv X pins σ H s → RelV o ov → RelV i iv → t o i H Q →
  wpAny (model X.prog X.w) X.A (getItem ov iv) (EP X pins σ Q) X.xe s
noncomputable def ipI (f : Int → Int → Int) : TIp := fun x y H Q => ∃ i j, x = .int i ∧ y = .int j ∧ Q (.int (f i j)) H
end
section
variable {X : Cx} {pos : Pos}
noncomputable def Zb4 (c : TT) (tb : TS) : TS := fun D σ H => ∃ W : Nat → St → Hp → Prop, (∃ m, W m σ H) ∧ ∀ m σ H, W m σ H →
 c σ H fun b H1 => if b = true then ∃ N : St → Hp → Prop, (∀ σ' H', N σ' H' → ∃ m', m' < m ∧ W m' σ' H') ∧ tb { D with nx := N, ct := N, bk := D.nx } σ H1 else D.nx σ H1
theorem L7 {c : Expr} {body : List Stmt} {tc : TT} {tb : TS} (hp : PassesOwn (model X.prog X.w) X.A X.env X.xe) (hc : PT X c tc) (hb : PSs X body tb) : PS X (.While c body [] pos) (Zb4 tc tb) := by
 intro pins s σ H D I h
 obtain ⟨W, ⟨m0, w0⟩, turn⟩ := h
 refine wpAny_While (codeAny_whileLoop (fun n s' => ∃ σ' H', Inv X pins σ' H' s' ∧ W n σ' H') ?_ m0 ⟨σ, H, I, w0⟩)
 rintro n s1 ⟨σ1, H1, I1, w1⟩
 refine wpAny_passesOwn hp (thn (hc pins s1 σ1 H1 _ I1 (turn n σ1 H1 w1)) fun b s2 ⟨H2, I2, q2⟩ => ?_)
 cases b with
 | true =>
  obtain ⟨N, hN, q2⟩ := q2
  rw [if_pos rfl]
  refine wpAny_passesOwn hp (thn (hb pins s2 σ1 H2 _ I2 q2) fun f s3 q3 => ?_)
  cases f with
  | next =>
   obtain ⟨σ3, H3, I3, n3⟩ := q3
   obtain ⟨m', hm, w3⟩ := hN σ3 H3 n3
   exact ⟨m', hm, σ3, H3, I3, w3⟩
  | cont =>
   obtain ⟨σ3, H3, I3, n3⟩ := q3
   obtain ⟨m', hm, w3⟩ := hN σ3 H3 n3
   exact ⟨m', hm, σ3, H3, I3, w3⟩
  | brk => exact q3
  | ret v => exact q3
 | false =>
  rw [if_neg Bool.false_ne_true]
  exact wpAny_execs_nil ⟨σ1, H2, I2, q2⟩
end
structure It where
 go : Nat → Hp → Prop
 yld : Nat → Hp → V → Hp → Prop
 stop : Nat → Hp → Prop
noncomputable def Ew (X : Cx) (pins : List (Addr × Obj)) (H : Hp) (b : Addr) : Prop :=
 H b = none ∧ b ≠ X.env.locals ∧ b ∉ X.fs ∧ (b ∈ X.ex ∨ X.s₀.heap.objs.size ≤ b) ∧ (∀ x c, X.env.cells.lookup x = some c → c ≠ b) ∧ ∀ p ∈ X.pn ++ pins, p.1 ≠ b
theorem Inv.Tu {X : Cx} {pins : List (Addr × Obj)} {σ : St} {H H' : Hp} {s : Shared} {b : Addr} (I : Inv X pins σ H s) (hb : s.heap.objs.size ≤ b) (hn : H' b = none) : Ew X pins H' b := by
 refine ⟨hn, Nat.ne_of_gt (Nat.lt_of_lt_of_le I.lt hb), I.ZfX hb, .inr (Nat.le_trans I.sz hb), fun x c e z => ?_, fun p hp z => ?_⟩
 ·obtain ⟨v, q⟩ := I.cell x c e
  exact absurd (Nat.lt_of_lt_of_le q.lt (by rw [z]; exact hb)) (Nat.lt_irrefl _)
 ·exact absurd (Nat.lt_of_lt_of_le (Heap.lt_size (I.pin p hp).1) (by rw [z]; exact hb)) (Nat.lt_irrefl _)
structure Turn (P : Program) (w : World) (K : PySem.W.Frag) (tg : Expr) (J : It) (fp : List Addr) (it : Addr) (tn : Nat → Heap → Prop) : Prop where
 mem : it ∈ fp
 obj : ∀ i h, tn i h → ∀ b ∈ fp, ∃ o, h.get? b = some o ∧ ∀ v, o.data ≠ .cell v
 keep : ∀ i h h', tn i h → (∀ b ∈ fp, ∀ o, h.get? b = some o → h'.get? b = some o) → tn i h'
 item : ∀ (X : Cx), X.prog = P → X.w = w → X.K = K → X.calm = true → ∀ (i : Nat) (pins : List (Addr × Obj)) (s : Shared) (σ : St) (H : Hp) (E : Value → Shared → Prop), Inv X pins σ H s → (∀ b ∈ fp, Ew X pins H b) → tn i s.heap → J.go i H →
  wpAny (model P w) X.A (pyNext (.ref it)) (fun r s1 => ∃ u, r = some u ∧
   wpAny (model P w) X.A (letOwnedTupleGo tg (.ref it) u) (fun _ s2 => ∃ x H', Inv X pins σ H' s2 ∧ RelV x u ∧ J.yld i H x H' ∧ tn (i + 1) s2.heap ∧ ∀ b ∈ fp, H' b = none) E s1) E s
 done : ∀ (X : Cx), X.prog = P → X.w = w → X.K = K → X.calm = true → ∀ (i : Nat) (pins : List (Addr × Obj)) (s : Shared) (σ : St) (H : Hp) (E : Value → Shared → Prop), Inv X pins σ H s → (∀ b ∈ fp, Ew X pins H b) → tn i s.heap → J.stop i H →
  wpAny (model P w) X.A (pyNext (.ref it)) (fun r s1 => r = none ∧ Inv X pins σ H s1) E s
 self : ∀ (A : Around) (i : Nat) (s : Shared) (Q : Value → Shared → Prop) (E : Value → Shared → Prop), tn i s.heap → Q (.ref it) s → wpAny (model P w) A (pyIter (.ref it)) Q E s
noncomputable abbrev TI := St → Hp → (It → Hp → Prop) → Prop
noncomputable def PIE (X : Cx) (pins : List (Addr × Obj)) (σ : St) (tg : Expr) (R : It → Hp → Prop) (itv : Value) (s2 : Shared) : Prop :=
 ∃ (it : Addr) (fp : List Addr) (tn : Nat → Heap → Prop) (J : It) (H' : Hp), itv = .ref it ∧ Inv X pins σ H' s2 ∧ Turn X.prog X.w X.K tg J fp it tn ∧ tn 0 s2.heap ∧ (∀ b ∈ fp, Ew X pins H' b) ∧ R J H'
noncomputable def PI (X : Cx) (tg iter : Expr) (wi : TI) : Prop :=
 ∀ (pins : List (Addr × Obj)) (s : Shared) (σ : St) (H : Hp) (R : It → Hp → Prop), Inv X pins σ H s → wi σ H R →
  wpAny (model X.prog X.w) X.A (eval iter X.env) (fun v s1 => wpAny (model X.prog X.w) X.A (pyIter v) (PIE X pins σ tg R) X.xe s1) X.xe s
theorem Rz {M : Model} {A : Around} {E : Value → Shared → Prop} {s : Shared} {tg : Expr} {it : Addr} {u : Value} {o : Obj} {n : String} {vs : Array Value} {Q : Unit → Shared → Prop} (ho : s.heap.get? it = some o) (hc : o.cls = .type n) (hd : o.data = .fields vs)
    (hn : ["enumerate", "zip", "dict_itemiterator", "dict_reverseitemiterator", "odict_iterator", "itertools.zip_longest", "itertools.pairwise"].contains n = false) (hQ : Q () s) : wpAny M A (letOwnedTupleGo tg (.ref it) u) Q E s := by
  unfold letOwnedTupleGo
  cases tg <;> first
    | exact wpAny_pure hQ
    | (cases u <;> first
        | exact wpAny_pure hQ
        | (refine wpAny_bind (wpAny_load ho ?_)
           rw [hc, hd]
           show wpAny M A (if (["enumerate", "zip", "dict_itemiterator", "dict_reverseitemiterator", "odict_iterator", "itertools.zip_longest", "itertools.pairwise"].contains n && vs[0]? == some (rawInt _)) = true then _ else _) Q E s
           rw [if_neg (by intro h; rw [hn, Bool.false_and] at h; cases h)]
           exact wpAny_pure hQ))
noncomputable def Itl (K : PySem.W.Frag) (a : Addr) : It :=
 ⟨fun i H => ∃ xs x, SqL K H a xs ∧ xs[i]? = some x, fun i H x H' => H' = H ∧ ∀ xs, SqL K H a xs → xs[i]? = some x, fun i H => ∃ xs, SqL K H a xs ∧ xs.length ≤ i⟩
noncomputable def Itt (K : PySem.W.Frag) (a : Addr) : It :=
 ⟨fun i H => ∃ xs x, SqT K H a xs ∧ xs[i]? = some x, fun i H x H' => H' = H ∧ ∀ xs, SqT K H a xs → xs[i]? = some x, fun i H => ∃ xs, SqT K H a xs ∧ xs.length ≤ i⟩
noncomputable def Itr (lo : Int) (n : Nat) : It := ⟨fun i _ => i < n, fun i H x H' => H' = H ∧ x = .int (lo + i), fun i _ => n ≤ i⟩
theorem Hf {P : Program} {w : World} {K : PySem.W.Frag} {tg : Expr} (a it : Addr) : Turn P w K tg (Itl K a) [it] it (fun i h => h.IsListIter it a i) where
 mem := by simp
 obj := fun i h st b hb => by
  have e : b = it := by simpa using hb
  subst e
  obtain ⟨o, e, c, d⟩ := st
  exact ⟨o, e, fun v z => by rw [d] at z; cases z⟩
 keep := fun i h h' st k => st.at fun o e => k it (by simp) o e
 item := by
  intro X hP hw hK hc i pins s σ H E I hf st hg
  subst hP hw hK
  obtain ⟨xs, x, hq, hx⟩ := hg
  obtain ⟨its, rv, p, hz⟩ := I.list hq
  obtain ⟨u, hu, ru⟩ := rv.get hx
  obtain ⟨f0, f1, f2, f3, f4, f5⟩ := hf it (by simp)
  refine wpAny_pyNext_list_item st p.isList (x := u) (by simpa using hu) fun h' st' sb => ?_
  have I1 : Inv X pins σ H { s with heap := h' } := I.turned (t' := s.toks) (fun b o hb e => (sb.2 b hb).trans e) f0 f1 f3 f4 f5
  obtain ⟨o, e, c, d⟩ := id st'
  exact ⟨u, rfl, Rz (s := { s with heap := h' }) e c d (by decide) ⟨x, H, I1, ru, ⟨rfl, fun ys hy => by rw [I.NB hy hq]; exact hx⟩, st', fun b hb => (hf b hb).1⟩⟩
 done := by
  intro X hP hw hK hc i pins s σ H E I hf st hg
  subst hP hw hK
  obtain ⟨xs, hq, hx⟩ := hg
  obtain ⟨its, rv, p, hz⟩ := I.list hq
  obtain ⟨f0, f1, f2, f3, f4, f5⟩ := hf it (by simp)
  have hl := rv.length
  exact wpAny_pyNext_list_end (I.ok.hd hc) st p.isList (by simp; omega) fun h' eb => ⟨rfl, I.turned (t' := s.toks) (fun b o hb e => eb b o hb e) f0 f1 f3 f4 f5⟩
 self := fun _ _ _ _ _ st h => wpAny_pyIter_listiter st h
theorem D4 {P : Program} {w : World} {K : PySem.W.Frag} {tg : Expr} (a it : Addr) : Turn P w K tg (Itt K a) [it] it (fun i h => h.IsTupleIter it a i) where
 mem := by simp
 obj := fun i h st b hb => by
  have e : b = it := by simpa using hb
  subst e
  obtain ⟨o, e, c, d⟩ := st
  exact ⟨o, e, fun v z => by rw [d] at z; cases z⟩
 keep := fun i h h' st k => st.at fun o e => k it (by simp) o e
 item := by
  intro X hP hw hK hc i pins s σ H E I hf st hg
  subst hP hw hK
  obtain ⟨xs, x, hq, hx⟩ := hg
  obtain ⟨its, rv, p, hz⟩ := I.tuple hq
  obtain ⟨u, hu, ru⟩ := rv.get hx
  obtain ⟨f0, f1, f2, f3, f4, f5⟩ := hf it (by simp)
  refine wpAny_pyNext_tuple_item st (show s.heap.IsTuple a its.toArray from p) (x := u) (by simpa using hu) fun h' st' sb => ?_
  have I1 : Inv X pins σ H { s with heap := h' } := I.turned (t' := s.toks) (fun b o hb e => (sb.2 b hb).trans e) f0 f1 f3 f4 f5
  obtain ⟨o, e, c, d⟩ := id st'
  exact ⟨u, rfl, Rz (s := { s with heap := h' }) e c d (by decide) ⟨x, H, I1, ru, ⟨rfl, fun ys hy => by rw [I.G0 hy hq]; exact hx⟩, st', fun b hb => (hf b hb).1⟩⟩
 done := by
  intro X hP hw hK hc i pins s σ H E I hf st hg
  subst hP hw hK
  obtain ⟨xs, hq, hx⟩ := hg
  obtain ⟨its, rv, p, hz⟩ := I.tuple hq
  obtain ⟨f0, f1, f2, f3, f4, f5⟩ := hf it (by simp)
  have hl := rv.length
  exact wpAny_pyNext_tuple_end (I.ok.hd hc) st (show s.heap.IsTuple a its.toArray from p) (by simp; omega) fun h' eb => ⟨rfl, I.turned (t' := s.toks) (fun b o hb e => eb b o hb e) f0 f1 f3 f4 f5⟩
 self := fun _ _ _ _ _ st h => wpAny_pyIter_tupleiter st h
theorem D3 {P : Program} {w : World} {K : PySem.W.Frag} {tg : Expr} (it : Addr) (lo : Int) (n : Nat) : Turn P w K tg (Itr lo n) [it] it (fun i h => IsRangeIter h it (lo + (i : Nat) * 1) ((n : Int) - (i : Nat)) 1) where
 mem := by simp
 obj := fun i h st b hb => by
  have e : b = it := by simpa using hb
  subst e
  exact ⟨_, st, fun v z => by
   have z' : Data.fields _ = Data.cell v := z
   cases z'⟩
 keep := fun i h h' st k => k it (by simp) _ st
 item := by
  intro X hP hw hK hc i pins s σ H E I hf st hg
  subst hP hw hK
  obtain ⟨f0, f1, f2, f3, f4, f5⟩ := hf it (by simp)
  have W := Walks.range (prog := X.prog) (w := X.w) (I.ok.hd hc) it lo 1 n
  refine W.item i s _ _ hg st fun v h' tk hv st' kk => ?_
  obtain ⟨t, rfl⟩ := hv
  have I1 : Inv X pins σ H { s with heap := h', toks := tk } := I.turned (fun b o hb e => kk b o (by simpa using hb) e) f0 f1 f3 f4 f5
  refine ⟨_, rfl, Rz (s := { s with heap := h', toks := tk }) (n := "range_iterator") st' rfl rfl (by decide) ⟨.int (lo + i), H, I1, ⟨t, ?_⟩, ⟨rfl, rfl⟩, st', fun b hb => (hf b hb).1⟩⟩
  rw [Int.mul_one]
 done := by
  intro X hP hw hK hc i pins s σ H E I hf st hg
  subst hP hw hK
  obtain ⟨f0, f1, f2, f3, f4, f5⟩ := hf it (by simp)
  exact wpAny_pyNext_range_end (I.ok.hd hc) st (by have : n ≤ i := hg; omega) fun h' eb => ⟨rfl, I.turned (t' := s.toks) (fun b o hb e => eb b o hb e) f0 f1 f3 f4 f5⟩
 self := fun _ _ _ _ _ st h => wpAny_pyIter_rangeiter st h
end L2
namespace L2
open PySem PySem.Spec PyProof.Rows
section
variable {X : Cx} {tg : Expr}
noncomputable def ZdA (K : PySem.W.Frag) (tl : TE) : TI := fun σ H R => tl σ H fun x H1 => ∃ a, x = .ref a ∧ (∃ xs, SqL K H1 a xs) ∧ R (Itl K a) H1
noncomputable def Zfh (K : PySem.W.Frag) (tl : TE) : TI := fun σ H R => tl σ H fun x H1 => ∃ a, x = .ref a ∧ (∃ xs, SqT K H1 a xs) ∧ R (Itt K a) H1
theorem Lz {l : Expr} {tl : TE} (hl : PE X l tl) : PI X tg l (ZdA X.K tl) := by
 intro pins s σ H R I h
 refine thn (hl pins s σ H _ I h) fun v s1 ⟨x, H1, I1, r1, q1⟩ => ?_
 obtain ⟨a, e, ⟨xs, hq⟩, q⟩ := q1
 subst e
 cases r1
 obtain ⟨its, rv, p, hz⟩ := I1.list hq
 refine wpAny_pyIter_list p.isList ?_
 refine ⟨s1.heap.objs.size, [s1.heap.objs.size], _, _, H1, rfl, I1.kept (t' := s1.toks) fun b o e => Heap.get?_push_of_some _ e, Hf a _, ⟨_, Heap.get?_push_size _ rfl, rfl, rfl⟩, fun b hb => ?_, q⟩
 have e : b = s1.heap.objs.size := by simpa using hb
 subst e
 exact I1.Tu (Nat.le_refl _) (I1.hok.fresh (Nat.le_refl _))
theorem Po {l : Expr} {tl : TE} (hl : PE X l tl) : PI X tg l (Zfh X.K tl) := by
 intro pins s σ H R I h
 refine thn (hl pins s σ H _ I h) fun v s1 ⟨x, H1, I1, r1, q1⟩ => ?_
 obtain ⟨a, e, ⟨xs, hq⟩, q⟩ := q1
 subst e
 cases r1
 obtain ⟨its, rv, p, hz⟩ := I1.tuple hq
 refine wpAny_pyIter_tuple (show s1.heap.IsTuple a its.toArray from p) ?_
 refine ⟨s1.heap.objs.size, [s1.heap.objs.size], _, _, H1, rfl, I1.kept (t' := s1.toks) fun b o e => Heap.get?_push_of_some _ e, D4 a _, ⟨_, Heap.get?_push_size _ rfl, rfl, rfl⟩, fun b hb => ?_, q⟩
 have e : b = s1.heap.objs.size := by simpa using hb
 subst e
 exact I1.Tu (Nat.le_refl _) (I1.hok.fresh (Nat.le_refl _))
theorem CW {pins : List (Addr × Obj)} {σ : St} {H : Hp} {s : Shared} {R : It → Hp → Prop} {E : Value → Shared → Prop} {lo hi : Int} {t u v : Tok} {tk : Nat} (I : Inv X pins σ H s) (h1 : -(2 ^ 62) ≤ lo) (h2 : lo < 2 ^ 62) (h3 : -(2 ^ 62) ≤ hi) (h4 : hi < 2 ^ 62)
  (q : R (Itr lo (hi - lo).toNat) H) : wpAny (model X.prog X.w) X.A (pyIter (.ref s.heap.objs.size)) (PIE X pins σ tg R) E { s with heap := s.heap.push { cls := .type "range", data := .fields #[.int lo t, .int hi u, .int 1 v] }, toks := tk } := by
 refine wpAny_pyIter_range (IsRange.new ..) (small_one h1 h2 h3 h4) ?_
 have I1 : Inv X pins σ H { s with heap := s.heap.push { cls := .type "range", data := .fields #[.int lo t, .int hi u, .int 1 v] }, toks := tk } := I.kept fun b o e => Heap.get?_push_of_some _ e
 refine ⟨(s.heap.push { cls := .type "range", data := .fields #[.int lo t, .int hi u, .int 1 v] }).objs.size, [(s.heap.push { cls := .type "range", data := .fields #[.int lo t, .int hi u, .int 1 v] }).objs.size], _, _, H, rfl,
  I1.kept (t' := tk) fun b o e => Heap.get?_push_of_some _ e, D3 _ lo (hi - lo).toNat, ?_, fun b hb => ?_, q⟩
 ·have e1 : lo + ((0 : Nat) : Int) * 1 = lo := by simp
  have e2 : (((hi - lo).toNat : Nat) : Int) - ((0 : Nat) : Int) = Builtin.Range.rangeSize lo hi 1 := by rw [rangeSize_one]; split <;> omega
  show IsRangeIter _ _ (lo + ((0 : Nat) : Int) * 1) ((((hi - lo).toNat : Nat) : Int) - ((0 : Nat) : Int)) 1
  rw [e1, e2]
  exact Heap.get?_push_size _ rfl
 ·have e : b = (s.heap.push { cls := .type "range", data := .fields #[.int lo t, .int hi u, .int 1 v] }).objs.size := by simpa using hb
  subst e
  exact I1.Tu (Nat.le_refl _) (I1.hok.fresh (Nat.le_refl _))
noncomputable def ZdW (ta : TA) : TI := fun σ H R => ta σ H fun vs H1 => ∃ j : Int, vs = [.int j] ∧ -(2 ^ 62) ≤ j ∧ j < 2 ^ 62 ∧ R (Itr 0 j.toNat) H1
noncomputable def Zdk (ta : TA) : TI := fun σ H R => ta σ H fun vs H1 => ∃ i j : Int, vs = [.int i, .int j] ∧ (-(2 ^ 62) ≤ i ∧ i < 2 ^ 62 ∧ -(2 ^ 62) ≤ j ∧ j < 2 ^ 62) ∧ R (Itr i (j - i).toNat) H1
theorem GB {a : Expr} {ta : TA} {p pos : Pos} (hg : Gl X "range") (hm : X.mg "range" = none) (ha : PA X [a] ta) (hs : starEach [a] X.env = [(false, eval a X.env)] := by rfl) : PI X tg (.Call (.Name "range" p) [a] [] pos) (ZdW ta) := by
 intro pins s σ H R I h
 refine Call_ (XX I hg hm boot_range (PyProof.Rows.callWith_type1 (thn (ha pos pins s σ H _ I h) fun us s1 ⟨vs, H1, I1, r1, q1⟩ => ?_) hs rfl))
 obtain ⟨j, e, q1, q2, q⟩ := q1
 subst e
 cases r1 with
 | cons r rr =>
  cases rr
  obtain ⟨t, rfl⟩ := r
  exact call_range_1 (CW I1 (by omega) (by omega) q1 q2 (by simpa using q))
theorem Fo {a b : Expr} {ta : TA} {p pos : Pos} (hg : Gl X "range") (hm : X.mg "range" = none) (ha : PA X [a, b] ta) (hs : starEach [a, b] X.env = [(false, eval a X.env), (false, eval b X.env)] := by rfl) (hs2 : starEach [b] X.env = [(false, eval b X.env)] := by rfl) :
  PI X tg (.Call (.Name "range" p) [a, b] [] pos) (Zdk ta) := by
 intro pins s σ H R I h
 refine Call_ (XX I hg hm boot_range (PyProof.Rows.callWith_type1 (thn (ha pos pins s σ H _ I h) fun us s1 ⟨vs, H1, I1, r1, q1⟩ => ?_) (by rw [hs, hs2]) (by rw [hs2]; rfl)))
 obtain ⟨i, j, e, ⟨q1, q2, q3, q4⟩, q⟩ := q1
 subst e
 cases r1 with
 | cons r rr =>
  cases rr with
  | cons r' rr =>
   cases rr
   obtain ⟨t, rfl⟩ := r
   obtain ⟨t', rfl⟩ := r'
   exact call_range_2 (CW I1 q1 q2 q3 q4 q)
noncomputable def Zfk (wi : TI) (g : TG) (tb : TS) : TS := fun D σ H => wi σ H fun J H1 => ∃ W : Nat → Nat → St → Hp → Prop, (∃ m, W 0 m σ H1) ∧ ∀ i m σ H, W i m σ H →
 (J.stop i H ∧ D.nx σ H) ∨ (J.go i H ∧ ∃ N : St → Hp → Prop, (∀ σ' H', N σ' H' → ∃ m', m' < m ∧ W (i + 1) m' σ' H') ∧ ∀ x H', J.yld i H x H' → g x σ H' fun σ2 H2 => tb { D with nx := N, ct := N, bk := D.nx } σ2 H2)
noncomputable def UX (fp : List Addr) (h : Heap) : List (Addr × Obj) := fp.filterMap fun b => (h.get? b).map fun o => (b, o)
theorem Yi {fp : List Addr} {h : Heap} {b : Addr} {o : Obj} (hb : b ∈ fp) (e : h.get? b = some o) : (b, o) ∈ UX fp h := List.mem_filterMap.mpr ⟨b, hb, by rw [e]; rfl⟩
theorem Lg {fp : List Addr} {h : Heap} {p : Addr × Obj} (hp : p ∈ UX fp h) : p.1 ∈ fp ∧ h.get? p.1 = some p.2 := by
 obtain ⟨b, hb, e⟩ := List.mem_filterMap.mp hp
 cases q : h.get? b with
 | none => rw [q] at e; cases e
 | some o =>
  rw [q] at e
  have e' : (b, o) = p := Option.some.inj e
  subst e'
  exact ⟨hb, q⟩
theorem Inv.pinned {pins : List (Addr × Obj)} {σ : St} {H : Hp} {s : Shared} {fp : List Addr} (I : Inv X pins σ H s) (hf : ∀ b ∈ fp, Ew X pins H b) (ho : ∀ b ∈ fp, ∃ o, s.heap.get? b = some o ∧ ∀ v, o.data ≠ .cell v) : Inv X (pins ++ UX fp s.heap) σ H s :=
 I.Ky fun p hp => (List.mem_append.mp hp).elim (fun z => I.pin p (List.mem_append_right _ z)) fun z => by
  obtain ⟨hb, e⟩ := Lg z
  obtain ⟨f0, f1, f2, _⟩ := hf p.1 hb
  obtain ⟨o, e', d⟩ := ho p.1 hb
  rw [e] at e'; cases e'
  exact ⟨e, f0, f1, f2, d⟩
theorem Inv.W7 {pins pl : List (Addr × Obj)} {σ : St} {H : Hp} {s : Shared} (I : Inv X (pins ++ pl) σ H s) : Inv X pins σ H s := I.Ky fun p hp => I.pin p (List.mem_append_right _ (List.mem_append_left _ hp))
theorem Cy {iter : Expr} {body : List Stmt} {wi : TI} {g : TG} {tb : TS} {pos : Pos} (hp : PassesOwn (model X.prog X.w) X.A X.env X.xe) (hc : X.calm = true) (hi : PI X tg iter wi) (hg : PG X tg g) (hb : PSs X body tb)
  (hs : ∀ x, foldedSetIterable iter X.env x = pure x := by intro _; rfl) : PS X (.For tg iter body [] pos) (Zfk wi g tb) := by
 intro pins s σ H D I h
 refine wpAny_For (thn (hi pins s σ H _ I h) fun v s1 h1 => thn h1 fun itv s2 h2 => ?_) hs
 obtain ⟨it, fp, tn, J, H2, e, I2, T, st2, f2, W, ⟨m0, w0⟩, turn⟩ := h2
 subst e
 have stat : ∀ {H' : Hp}, (∀ b ∈ fp, H' b = none) → ∀ b ∈ fp, Ew X pins H' b := fun hn b hb => ⟨hn b hb, (f2 b hb).2⟩
 refine codeAny_forLoop_any (fun n s' => ∃ i σ' H', Inv X pins σ' H' s' ∧ tn i s'.heap ∧ (∀ b ∈ fp, H' b = none) ∧ W i n σ' H') ?_ m0 ⟨0, σ, H2, I2, st2, fun b hb => (f2 b hb).1, w0⟩
 rintro n s3 ⟨i, σ3, H3, I3, st3, fr3, w3⟩
 rcases turn i n σ3 H3 w3 with ⟨stop, qn⟩ | ⟨go, N, hN, step⟩
 ·refine wpAny_passesOwn hp (thn (T.done X rfl rfl rfl hc i pins s3 σ3 H3 X.xe I3 (stat fr3) st3 stop) fun r s4 ⟨hr, I4⟩ => ?_)
  subst hr
  exact wpAny_execs_nil ⟨σ3, H3, I4, qn⟩
 ·refine wpAny_passesOwn hp (thn (T.item X rfl rfl rfl hc i pins s3 σ3 H3 X.xe I3 (stat fr3) st3 go) fun r s4 ⟨u, hr, h4⟩ => ?_)
  subst hr
  refine wpAny_passesOwn hp (thn h4 fun _ s5 ⟨x, H5, I5, r5, y5, st5, fr5⟩ => ?_)
  have I5' := I5.pinned (stat fr5) (T.obj _ _ st5)
  refine wpAny_passesOwn hp (thn (hg _ s5 σ3 H5 x u _ I5' r5 (step x H5 y5)) fun _ s6 ⟨σ6, H6, I6, q6⟩ => ?_)
  refine wpAny_passesOwn hp (thn (hb _ s6 σ6 H6 _ I6 q6) fun f s7 q7 => ?_)
  have again : ∀ {σ7 : St} {H7 : Hp}, Inv X (pins ++ UX fp s5.heap) σ7 H7 s7 → N σ7 H7 → ∃ m, m < n ∧ ∃ i σ' H', Inv X pins σ' H' s7 ∧ tn i s7.heap ∧ (∀ b ∈ fp, H' b = none) ∧ W i m σ' H' := fun {σ7 H7} I7 n7 => by
   obtain ⟨m', hm, w7⟩ := hN σ7 H7 n7
   refine ⟨m', hm, i + 1, σ7, H7, I7.W7, T.keep _ _ _ st5 fun b hb o e => (I7.pin (b, o) (List.mem_append_right _ (List.mem_append_right _ (Yi hb e)))).1, fun b hb => ?_, w7⟩
   obtain ⟨o, e, d⟩ := T.obj _ _ st5 b hb
   exact (I7.pin (b, o) (List.mem_append_right _ (List.mem_append_right _ (Yi hb e)))).2.1
  cases f with
  | next => obtain ⟨σ7, H7, I7, n7⟩ := q7; exact again I7 n7
  | cont => obtain ⟨σ7, H7, I7, n7⟩ := q7; exact again I7 n7
  | brk => obtain ⟨σ7, H7, I7, q7⟩ := q7; exact ⟨σ7, H7, I7.W7, q7⟩
  | ret v => obtain ⟨x7, σ7, H7, I7, r7, q7⟩ := q7; exact ⟨x7, σ7, H7, I7.W7, r7, q7⟩
end
theorem Of {K : PySem.W.Frag} {a : Addr} {xs : List V} {g : TG} {tb : TS} {D : Ends} {σ : St} {H : Hp} (Pv : Nat → St → Hp → Prop) (h0 : Pv 0 σ H) (hl : ∀ i σ H, i ≤ xs.length → Pv i σ H → SqL K H a xs)
  (hs : ∀ i x σ H, xs[i]? = some x → Pv i σ H → g x σ H fun σ2 H2 => tb { D with nx := Pv (i + 1), ct := Pv (i + 1), bk := D.nx } σ2 H2) (hd : ∀ σ H, Pv xs.length σ H → D.nx σ H) :
  ∃ W : Nat → Nat → St → Hp → Prop, (∃ m, W 0 m σ H) ∧ ∀ i m σ H, W i m σ H →
   ((Itl K a).stop i H ∧ D.nx σ H) ∨ ((Itl K a).go i H ∧ ∃ N : St → Hp → Prop, (∀ σ' H', N σ' H' → ∃ m', m' < m ∧ W (i + 1) m' σ' H') ∧ ∀ x H', (Itl K a).yld i H x H' → g x σ H' fun σ2 H2 => tb { D with nx := N, ct := N, bk := D.nx } σ2 H2) := by
 refine ⟨fun i m σ H => m = xs.length - i ∧ i ≤ xs.length ∧ Pv i σ H, ⟨xs.length, by simp, Nat.zero_le _, h0⟩, ?_⟩
 rintro i m σ H ⟨rfl, hi, p⟩
 have q := hl i σ H hi p
 by_cases hlt : i < xs.length
 ·refine .inr ⟨⟨xs, xs[i], q, by simp [hlt]⟩, Pv (i + 1), fun σ' H' p' => ⟨xs.length - (i + 1), by omega, rfl, hlt, p'⟩, fun x H' y => ?_⟩
  obtain ⟨e, y⟩ := y
  subst e
  exact hs i x σ _ (y xs q) p
 ·have e : i = xs.length := by omega
  subst e
  exact .inl ⟨⟨xs, q, Nat.le_refl _⟩, hd σ H p⟩
theorem RO {K : PySem.W.Frag} {a : Addr} {xs : List V} {g : TG} {tb : TS} {D : Ends} {σ : St} {H : Hp} (Pv : Nat → St → Hp → Prop) (h0 : Pv 0 σ H) (hl : ∀ i σ H, i ≤ xs.length → Pv i σ H → SqT K H a xs)
  (hs : ∀ i x σ H, xs[i]? = some x → Pv i σ H → g x σ H fun σ2 H2 => tb { D with nx := Pv (i + 1), ct := Pv (i + 1), bk := D.nx } σ2 H2) (hd : ∀ σ H, Pv xs.length σ H → D.nx σ H) :
  ∃ W : Nat → Nat → St → Hp → Prop, (∃ m, W 0 m σ H) ∧ ∀ i m σ H, W i m σ H →
   ((Itt K a).stop i H ∧ D.nx σ H) ∨ ((Itt K a).go i H ∧ ∃ N : St → Hp → Prop, (∀ σ' H', N σ' H' → ∃ m', m' < m ∧ W (i + 1) m' σ' H') ∧ ∀ x H', (Itt K a).yld i H x H' → g x σ H' fun σ2 H2 => tb { D with nx := N, ct := N, bk := D.nx } σ2 H2) := by
 refine ⟨fun i m σ H => m = xs.length - i ∧ i ≤ xs.length ∧ Pv i σ H, ⟨xs.length, by simp, Nat.zero_le _, h0⟩, ?_⟩
 rintro i m σ H ⟨rfl, hi, p⟩
 have q := hl i σ H hi p
 by_cases hlt : i < xs.length
 ·refine .inr ⟨⟨xs, xs[i], q, by simp [hlt]⟩, Pv (i + 1), fun σ' H' p' => ⟨xs.length - (i + 1), by omega, rfl, hlt, p'⟩, fun x H' y => ?_⟩
  obtain ⟨e, y⟩ := y
  subst e
  exact hs i x σ _ (y xs q) p
 ·have e : i = xs.length := by omega
  subst e
  exact .inl ⟨⟨xs, q, Nat.le_refl _⟩, hd σ H p⟩
theorem Fg {lo : Int} {n : Nat} {g : TG} {tb : TS} {D : Ends} {σ : St} {H : Hp} (Pv : Nat → St → Hp → Prop) (h0 : Pv 0 σ H)
  (hs : ∀ i σ H, i < n → Pv i σ H → g (.int (lo + i)) σ H fun σ2 H2 => tb { D with nx := Pv (i + 1), ct := Pv (i + 1), bk := D.nx } σ2 H2) (hd : ∀ σ H, Pv n σ H → D.nx σ H) :
  ∃ W : Nat → Nat → St → Hp → Prop, (∃ m, W 0 m σ H) ∧ ∀ i m σ H, W i m σ H →
   ((Itr lo n).stop i H ∧ D.nx σ H) ∨ ((Itr lo n).go i H ∧ ∃ N : St → Hp → Prop, (∀ σ' H', N σ' H' → ∃ m', m' < m ∧ W (i + 1) m' σ' H') ∧ ∀ x H', (Itr lo n).yld i H x H' → g x σ H' fun σ2 H2 => tb { D with nx := N, ct := N, bk := D.nx } σ2 H2) := by
 refine ⟨fun i m σ H => m = n - i ∧ i ≤ n ∧ Pv i σ H, ⟨n, by simp, Nat.zero_le _, h0⟩, ?_⟩
 rintro i m σ H ⟨rfl, hi, p⟩
 by_cases hlt : i < n
 ·refine .inr ⟨hlt, Pv (i + 1), fun σ' H' p' => ⟨n - (i + 1), by omega, rfl, hlt, p'⟩, fun x H' y => ?_⟩
  obtain ⟨e, y⟩ := y
  subst e y
  exact hs i σ _ hlt p
 ·have e : i = n := by omega
  subst e
  exact .inl ⟨Nat.le_refl _, hd σ H p⟩
end L2
namespace L2
open PySem PySem.Spec PyProof.Rows
noncomputable abbrev R2 := V → V → Hp → VK → Prop
noncomputable def OpR (X : Cx) (f : Value → Value → Sem Value) (r : R2) : Prop :=
 ∀ (pins : List (Addr × Obj)) (s : Shared) (σ : St) (H : Hp) (x y : V) (v u : Value) (Q : VK), Inv X pins σ H s → RelV x v → RelV y u → r x y H Q →
  wpAny (model X.prog X.w) X.A (f v u) (EP X pins σ Q) X.xe s
noncomputable def UnR (X : Cx) (f : Value → Sem Value) (r : V → Hp → VK → Prop) : Prop :=
 ∀ (pins : List (Addr × Obj)) (s : Shared) (σ : St) (H : Hp) (x : V) (v : Value) (Q : VK), Inv X pins σ H s → RelV x v → r x H Q →
  wpAny (model X.prog X.w) X.A (f v) (EP X pins σ Q) X.xe s
noncomputable def VX (X : Cx) (f : Value) (r : List V → Hp → VK → Prop) : Prop :=
 ∀ (pins : List (Addr × Obj)) (s : Shared) (σ : St) (H : Hp) (xs : List V) (us : List Value) (Q : VK), Inv X pins σ H s → Vals xs us → r xs H Q →
  wpAny (model X.prog X.w) X.A (call f us) (EP X pins σ Q) X.xe s
noncomputable def Zfg (X : Cx) (r : V → Hp → (Bool → Hp → Prop) → Prop) : Prop :=
 ∀ (pins : List (Addr × Obj)) (s : Shared) (σ : St) (H : Hp) (x : V) (v : Value) (Q : Bool → Hp → Prop), Inv X pins σ H s → RelV x v → r x H Q →
  wpAny (model X.prog X.w) X.A (truthy v) (TP X pins σ Q) X.xe s
noncomputable def tOp (r : R2) (ta tb : TE) : TE := fun σ H Q => ta σ H fun x H1 => tb σ H1 fun y H2 => r x y H2 Q
noncomputable def tUn (r : V → Hp → VK → Prop) (ta : TE) : TE := fun σ H Q => ta σ H fun x H1 => r x H1 Q
noncomputable def rI (C : Int → Int → Prop) (g : Int → Int → V) : R2 := fun x y H Q => ∃ i j, x = .int i ∧ y = .int j ∧ C i j ∧ Q (g i j) H
noncomputable def rI0 (g : Int → Int → V) : R2 := fun x y H Q => ∃ i j, x = .int i ∧ y = .int j ∧ Q (g i j) H
noncomputable def rU (g : Int → V) : V → Hp → VK → Prop := fun x H Q => ∃ i, x = .int i ∧ Q (g i) H
section
variable {X : Cx} {a b c : Expr} {ta tb tc : TE} {pos : Pos}
theorem ZdI (ha : PE X a ta) (hb : PE X b tb) {pins : List (Addr × Obj)} {s : Shared} {σ : St} {H : Hp} {R : V → V → Hp → Prop} (I : Inv X pins σ H s)
  (h : ta σ H fun x H1 => tb σ H1 fun y H2 => R x y H2) {Q : Value → Shared → Prop} {f : Value → Value → Sem Value}
  (hf : ∀ v u s2 x y H2, Inv X pins σ H2 s2 → RelV x v → RelV y u → R x y H2 → wpAny (model X.prog X.w) X.A (f v u) Q X.xe s2) :
  wpAny (model X.prog X.w) X.A (eval a X.env) (fun v s₁ => wpAny (model X.prog X.w) X.A (eval b X.env) (fun u s₂ => wpAny (model X.prog X.w) X.A (f v u) Q X.xe s₂) X.xe s₁) X.xe s := by
 refine thn (ha pins s σ H _ I h) fun v s1 ⟨x, H1, I1, r1, q1⟩ => ?_
 refine thn (hb pins s1 σ H1 _ I1 q1) fun u s2 ⟨y, H2, I2, r2, q2⟩ => ?_
 exact hf v u s2 x y H2 I2 r1 r2 q2
theorem Zdz {op : Operator} {r : R2} (ho : OpR X (binaryOp op) r) (ha : PE X a ta) (hb : PE X b tb) : PE X (.BinOp a op b pos) (tOp r ta tb) := by
 intro pins s σ H Q I h
 exact wpAny_BinOp (ZdI ha hb I h fun v u s2 x y H2 I2 rx ry q => ho pins s2 σ H2 x y v u Q I2 rx ry q)
theorem ZdC {op : UnaryOp} {r : V → Hp → VK → Prop} (ho : UnR X (unaryOp op) r) (ha : PE X a ta) : PE X (.UnaryOp op a pos) (tUn r ta) := by
 intro pins s σ H Q I h
 exact UnaryOp_ (thn (ha pins s σ H _ I h) fun v s1 ⟨x, H1, I1, r1, q1⟩ => ho pins s1 σ H1 x v Q I1 r1 q1)
theorem opI {f : Value → Value → Sem Value} {C : Int → Int → Prop} {g : Int → Int → Int}
  (rule : ∀ (i j : Int) (t u : Tok) (s : Shared) (Q : Value → Shared → Prop) (E : Value → Shared → Prop), C i j → Q (.int (g i j) s.toks) { s with toks := s.toks + 1 } → wpAny (model X.prog X.w) X.A (f (.int i t) (.int j u)) Q E s) :
  OpR X f (rI C fun i j => .int (g i j)) := by
 intro pins s σ H x y v u Q I rx ry h
 obtain ⟨i, j, rfl, rfl, hc, q⟩ := h
 obtain ⟨t, rfl⟩ := rx
 obtain ⟨t', rfl⟩ := ry
 exact rule i j t t' s _ _ hc ⟨.int (g i j), H, I.tok _, ⟨_, rfl⟩, q⟩
theorem ZeO {f : Value → Value → Sem Value} {g : Int → Int → Int}
  (rule : ∀ (i j : Int) (t u : Tok) (s : Shared) (Q : Value → Shared → Prop) (E : Value → Shared → Prop), Q (.int (g i j) s.toks) { s with toks := s.toks + 1 } → wpAny (model X.prog X.w) X.A (f (.int i t) (.int j u)) Q E s) :
  OpR X f (rI0 fun i j => .int (g i j)) := by
 intro pins s σ H x y v u Q I rx ry h
 obtain ⟨i, j, rfl, rfl, q⟩ := h
 obtain ⟨t, rfl⟩ := rx
 obtain ⟨t', rfl⟩ := ry
 exact rule i j t t' s _ _ ⟨.int (g i j), H, I.tok _, ⟨_, rfl⟩, q⟩
theorem ZcL {f : Value → Value → Sem Value} {g : Int → Int → Bool}
  (rule : ∀ (i j : Int) (t u : Tok) (s : Shared) (Q : Value → Shared → Prop) (E : Value → Shared → Prop), Q (.bool (g i j)) s → wpAny (model X.prog X.w) X.A (f (.int i t) (.int j u)) Q E s) :
  OpR X f (rI0 fun i j => .bl (g i j)) := by
 intro pins s σ H x y v u Q I rx ry h
 obtain ⟨i, j, rfl, rfl, q⟩ := h
 obtain ⟨t, rfl⟩ := rx
 obtain ⟨t', rfl⟩ := ry
 exact rule i j t t' s _ _ ⟨.bl (g i j), H, I, rfl, q⟩
noncomputable def Zd5 (i j : Int) : Prop := 0 < j ∧ j < 1073741824
noncomputable def ZfM (i j : Int) : Prop := j ≠ 0 ∧ j.natAbs < 1073741824
noncomputable def Zed (i j : Int) : Prop := 0 ≤ j ∧ j ≤ 1000000 ∧ i.natAbs < 2 ^ 64
noncomputable def T1 (i j : Int) : Prop := (-(2 ^ 64) < i ∧ i < 2 ^ 64) ∨ (-(2 ^ 64) < j ∧ j < 2 ^ 64)
theorem T1.ok {i j : Int} (h : T1 i j) : IntMulOk i j := by
 rcases h with ⟨h1, h2⟩ | ⟨h1, h2⟩
 ·exact .of_left (intBits_le_64 h1 h2)
 ·exact .of_right (intBits_le_64 h1 h2)
theorem Za9 : OpR X (binaryOp .Add) (rI0 fun i j => .int (i + j)) := ZeO fun _ _ _ _ _ _ _ q => add_int q
theorem ZaQ : OpR X (binaryOp .Sub) (rI0 fun i j => .int (i - j)) := ZeO fun _ _ _ _ _ _ _ q => sub_int q
theorem ZcK : OpR X (binaryOp .Mult) (rI T1 fun i j => .int (i * j)) := opI fun _ _ _ _ _ _ _ hc q => mul_int q hc.ok
theorem Rx : OpR X (binaryOp .FloorDiv) (rI Zd5 fun i j => .int (i / j)) := opI fun i j _ _ _ _ _ hc q => by
 have h1 : (0 : Int) < j := hc.1
 have h2 : j < 1073741824 := hc.2
 exact floordiv_int (by omega) (by rw [Int.fdiv_eq_ediv_of_nonneg i (by omega)]; exact q) (.inl (PyProof.noPylong_small (by omega)))
theorem ZbF : OpR X (binaryOp .Mod) (rI (fun _ j => 0 < j) fun i j => .int (i % j)) := opI fun i j _ _ _ _ _ hc q => by
 have h1 : (0 : Int) < j := hc
 exact mod_int' (by omega) (by rw [Int.fmod_eq_emod_of_nonneg i (by omega)]; exact q)
theorem ZaL : OpR X (binaryOp .Pow) (rI Zed fun i j => .int (i ^ j.toNat)) := opI fun _ _ _ _ _ _ _ hc q => pow_int_small hc.1 hc.2.1 hc.2.2 q
theorem unI {f : Value → Sem Value} {g : Int → Int}
  (rule : ∀ (i : Int) (t : Tok) (s : Shared) (Q : Value → Shared → Prop) (E : Value → Shared → Prop), Q (.int (g i) s.toks) { s with toks := s.toks + 1 } → wpAny (model X.prog X.w) X.A (f (.int i t)) Q E s) :
  UnR X f (rU fun i => .int (g i)) := by
 intro pins s σ H x v Q I rx h
 obtain ⟨i, rfl, q⟩ := h
 obtain ⟨t, rfl⟩ := rx
 exact rule i t s _ _ ⟨.int (g i), H, I.tok _, ⟨_, rfl⟩, q⟩
theorem Zca : UnR X (unaryOp .USub) (rU fun i => .int (-i)) := unI fun _ _ _ _ _ q => neg_int q
end
noncomputable def ZeC : V → V → Bool
 | .non, .non => true | .non, .int _ => true | .int _, .non => true | .non, .bl _ => true | .bl _, .non => true | .non, .str _ => true | .str _, .non => true
 | .int _, .int _ => true | .bl _, .bl _ => true | .str _, .str _ => true | .byt _, .byt _ => true
 | .int _, .str _ => true | .str _, .int _ => true | .bl _, .str _ => true | .str _, .bl _ => true
 | _, _ => false
noncomputable def rEq : R2 := fun x y H Q => ZeC x y = true ∧ Q (.bl (decide (x = y))) H
noncomputable def rNe : R2 := fun x y H Q => ZeC x y = true ∧ Q (.bl (!decide (x = y))) H
theorem LP {i j : Int} : decide (V.int i = V.int j) = (i == j) := by
 rw [Bool.eq_iff_iff]
 simp
theorem Pe {i j : Bool} : decide (V.bl i = V.bl j) = (i == j) := by
 rw [Bool.eq_iff_iff]
 simp
theorem WX {i j : Str} : decide (V.str i = V.str j) = (i == j) := by
 rw [Bool.eq_iff_iff]
 simp
theorem Hn {i j : Array UInt8} : decide (V.byt i = V.byt j) = (i.toList == j.toList) := by
 rw [Bool.eq_iff_iff]
 cases i
 cases j
 simp
section
variable {X : Cx} {a b c : Expr} {ta tb tc : TE} {pos : Pos}
theorem Z2 {pins : List (Addr × Obj)} {σ : St} {H : Hp} {s : Shared} {Q : VK} {k k' : Bool} (I : Inv X pins σ H s) (q : Q (.bl k) H) (e : k = k') : EP X pins σ Q (.bool k') s := by
 subst e
 exact ⟨.bl k, H, I, rfl, q⟩
theorem Zdo : OpR X (compareOp .Eq) rEq := by
 intro pins s σ H x y v u Q I rx ry h
 obtain ⟨hs, q⟩ := h
 cases x with
 | non =>
  cases rx
  cases y with
  | non => cases ry; exact PySem.EqNone.eq_none_none (Z2 I q (by simp))
  | bl j => cases ry; exact PySem.EqNone.eq_none_bool (Z2 I q (by simp))
  | int j => obtain ⟨t', rfl⟩ := ry; exact PySem.EqNone.eq_none_int (Z2 I q (by simp))
  | str j => obtain ⟨t', rfl⟩ := ry; exact PySem.EqNone.eq_none_str (Z2 I q (by simp))
  | _ => exact absurd (show false = true from hs) Bool.false_ne_true
 | bl i =>
  cases rx
  cases y with
  | non => cases ry; exact PySem.EqNone.eq_bool_none (Z2 I q (by simp))
  | bl j => cases ry; exact eq_bool (Z2 I q Pe)
  | str j => obtain ⟨t', rfl⟩ := ry; exact PySem.EqMixed.eq_bool_str (Z2 I q (by simp))
  | _ => exact absurd (show false = true from hs) Bool.false_ne_true
 | int i =>
  obtain ⟨t, rfl⟩ := rx
  cases y with
  | non => cases ry; exact PySem.EqNone.eq_int_none (Z2 I q (by simp))
  | int j => obtain ⟨t', rfl⟩ := ry; exact eq_int (Z2 I q LP)
  | str j => obtain ⟨t', rfl⟩ := ry; exact PySem.EqMixed.eq_int_str (Z2 I q (by simp))
  | _ => exact absurd (show false = true from hs) Bool.false_ne_true
 | str i =>
  obtain ⟨t, rfl⟩ := rx
  cases y with
  | non => cases ry; exact PySem.EqNone.eq_str_none (Z2 I q (by simp))
  | bl j => cases ry; exact PySem.EqMixed.eq_str_bool (Z2 I q (by simp))
  | int j => obtain ⟨t', rfl⟩ := ry; exact PySem.EqMixed.eq_str_int (Z2 I q (by simp))
  | str j => obtain ⟨t', rfl⟩ := ry; exact eq_str (Z2 I q WX)
  | _ => exact absurd (show false = true from hs) Bool.false_ne_true
 | byt i =>
  obtain ⟨t, rfl⟩ := rx
  cases y with
  | byt j => obtain ⟨t', rfl⟩ := ry; exact PySem.W.eq_bytes (Z2 I q Hn)
  | _ => exact absurd (show false = true from hs) Bool.false_ne_true
 | _ => cases y <;> exact absurd (show false = true from hs) Bool.false_ne_true
theorem Zd9 : OpR X (compareOp .NotEq) rNe := by
 intro pins s σ H x y v u Q I rx ry h
 obtain ⟨hs, q⟩ := h
 cases x with
 | non =>
  cases rx
  cases y with
  | non => cases ry; exact PySem.EqNone.ne_none_none (Z2 I q (by simp))
  | bl j => cases ry; exact PySem.EqNone.ne_none_bool (Z2 I q (by simp))
  | int j => obtain ⟨t', rfl⟩ := ry; exact PySem.EqNone.ne_none_int (Z2 I q (by simp))
  | str j => obtain ⟨t', rfl⟩ := ry; exact PySem.EqNone.ne_none_str (Z2 I q (by simp))
  | _ => exact absurd (show false = true from hs) Bool.false_ne_true
 | bl i =>
  cases rx
  cases y with
  | non => cases ry; exact PySem.EqNone.ne_bool_none (Z2 I q (by simp))
  | bl j => cases ry; exact ne_bool (Z2 I q (congrArg not Pe))
  | str j => obtain ⟨t', rfl⟩ := ry; exact PySem.EqMixed.ne_bool_str (Z2 I q (by simp))
  | _ => exact absurd (show false = true from hs) Bool.false_ne_true
 | int i =>
  obtain ⟨t, rfl⟩ := rx
  cases y with
  | non => cases ry; exact PySem.EqNone.ne_int_none (Z2 I q (by simp))
  | int j => obtain ⟨t', rfl⟩ := ry; exact ne_int (Z2 I q (congrArg not LP))
  | str j => obtain ⟨t', rfl⟩ := ry; exact PySem.EqMixed.ne_int_str (Z2 I q (by simp))
  | _ => exact absurd (show false = true from hs) Bool.false_ne_true
 | str i =>
  obtain ⟨t, rfl⟩ := rx
  cases y with
  | non => cases ry; exact PySem.EqNone.ne_str_none (Z2 I q (by simp))
  | bl j => cases ry; exact PySem.EqMixed.ne_str_bool (Z2 I q (by simp))
  | int j => obtain ⟨t', rfl⟩ := ry; exact PySem.EqMixed.ne_str_int (Z2 I q (by simp))
  | str j => obtain ⟨t', rfl⟩ := ry; exact ne_str (Z2 I q (congrArg not WX))
  | _ => exact absurd (show false = true from hs) Bool.false_ne_true
 | byt i =>
  obtain ⟨t, rfl⟩ := rx
  cases y with
  | byt j => obtain ⟨t', rfl⟩ := ry; exact PySem.W.ne_bytes (Z2 I q (congrArg not Hn))
  | _ => exact absurd (show false = true from hs) Bool.false_ne_true
 | _ => cases y <;> exact absurd (show false = true from hs) Bool.false_ne_true
theorem Zdy : OpR X (compareOp .Lt) (rI0 fun i j => .bl (decide (i < j))) := ZcL fun _ _ _ _ _ _ _ q => lt_int q
theorem Zc5 : OpR X (compareOp .LtE) (rI0 fun i j => .bl (decide (i ≤ j))) := ZcL fun _ _ _ _ _ _ _ q => le_int q
theorem ZdG : OpR X (compareOp .Gt) (rI0 fun i j => .bl (decide (j < i))) := ZcL fun _ _ _ _ _ _ _ q => gt_int q
theorem ZdN : OpR X (compareOp .GtE) (rI0 fun i j => .bl (decide (j ≤ i))) := ZcL fun _ _ _ _ _ _ _ q => ge_int q
noncomputable def isObj : HO → Bool
 | .lst _ => true
 | .ins _ _ _ => true
 | _ => false
theorem Pq (b : Expr) {op : CmpOp} (h : op ≠ .In := by decide) (h2 : op ≠ .NotIn := by decide) : behindInMarks op b = false := by
 have e1 : (op == CmpOp.In) = false := by cases op <;> first | rfl | exact absurd rfl h
 have e2 : (op == CmpOp.NotIn) = false := by cases op <;> first | rfl | exact absurd rfl h2
 cases b <;> simp [behindInMarks, e1, e2]
theorem S5 {op : CmpOp} {r : R2} (ho : OpR X (compareOp op) r) (ha : PE X a ta) (hb : PE X b tb) (hm : behindInMarks op b = false) : PE X (.Compare a [op] [b] pos) (tOp r ta tb) := by
 intro pins s σ H Q I h
 exact wpAny_Compare1 (ZdI ha hb I h fun v u s2 x y H2 I2 rx ry q => ho pins s2 σ H2 x y v u Q I2 rx ry q) hm
noncomputable def ZcA (t : TE) : TT := fun σ H Q => t σ H fun x H' => ∃ k, x = .bl k ∧ Q k H'
theorem S8 {op : CmpOp} {r : R2} (ho : OpR X (compareOp op) r) (ha : PE X a ta) (hb : PE X b tb) (hm : behindInMarks op b = false) : PT X (.Compare a [op] [b] pos) (ZcA (tOp r ta tb)) := by
 intro pins s σ H Q I h
 refine wpAny_isTrue_Compare1 (thn (ha pins s σ H _ I h) fun v s1 ⟨x, H1, I1, r1, q1⟩ => thn (hb pins s1 σ H1 _ I1 q1) fun u s2 ⟨y, H2, I2, r2, q2⟩ =>
  thn (ho pins s2 σ H2 x y v u _ I2 r1 r2 q2) fun c s3 ⟨z, H3, I3, r3, k, e, q3⟩ => ?_) hm
 subst e
 cases r3
 exact wpAny_truthy_bool ⟨H3, I3, q3⟩
noncomputable def Hq (r r' : R2) (ta tb tc : TE) : TE := fun σ H Q => ta σ H fun x H1 => tb σ H1 fun y H2 => r x y H2 fun z H3 => ∃ k, z = .bl k ∧
 (if k = true then tc σ H3 fun w' H4 => r' y w' H4 Q else Q (.bl false) H3)
theorem MT {op op' : CmpOp} {r r' : R2} (ho : OpR X (compareOp op) r) (ho' : OpR X (compareOp op') r') (ha : PE X a ta) (hb : PE X b tb) (hc : PE X c tc)
  (hm : lastMarks [op, op'] [b, c] = false := by with_unfolding_all rfl) : PE X (.Compare a [op, op'] [b, c] pos) (Hq r r' ta tb tc) := by
 intro pins s σ H Q I h
 refine Compare_chain (thn (ha pins s σ H _ I h) fun v s1 ⟨x, H1, I1, r1, q1⟩ => chain_link (thn (hb pins s1 σ H1 _ I1 q1) fun u s2 ⟨y, H2, I2, r2, q2⟩ =>
  thn (ho pins s2 σ H2 x y v u _ I2 r1 r2 q2) fun d s3 ⟨z, H3, I3, r3, k, e, q3⟩ => ?_)) hm
 subst e
 cases r3
 refine wpAny_truthy_bool ?_
 cases k with
 | false => exact ite_ff ⟨.bl false, H3, I3, rfl, q3⟩
 | true => exact ite_tt (chain_last (thn (hc pins s3 σ H3 _ I3 q3) fun w' s4 ⟨z', H4, I4, r4, q4⟩ => ho' pins s4 σ H4 y z' u w' Q I4 r2 r4 q4))
theorem NY {op op' : CmpOp} {r r' : R2} (ho : OpR X (compareOp op) r) (ho' : OpR X (compareOp op') r') (ha : PE X a ta) (hb : PE X b tb) (hc : PE X c tc)
  (hm : lastMarks [op, op'] [b, c] = false := by with_unfolding_all rfl) : PT X (.Compare a [op, op'] [b, c] pos) (ZcA (Hq r r' ta tb tc)) := by
 intro pins s σ H Q I h
 refine isTrue_chain (thn (ha pins s σ H _ I h) fun v s1 ⟨x, H1, I1, r1, q1⟩ => test_link (thn (hb pins s1 σ H1 _ I1 q1) fun u s2 ⟨y, H2, I2, r2, q2⟩ =>
  thn (ho pins s2 σ H2 x y v u _ I2 r1 r2 q2) fun d s3 ⟨z, H3, I3, r3, k, e, q3⟩ => ?_)) hm
 subst e
 cases r3
 refine wpAny_truthy_bool ?_
 cases k with
 | false =>
  obtain ⟨k', e', q'⟩ := q3
  cases e'
  exact ite_ff ⟨H3, I3, q'⟩
 | true =>
  refine ite_tt (test_last (thn (hc pins s3 σ H3 _ I3 q3) fun w' s4 ⟨z', H4, I4, r4, q4⟩ => thn (ho' pins s4 σ H4 y z' u w' _ I4 r2 r4 q4) fun d' s5 ⟨z2, H5, I5, r5, k2, e2, q5⟩ => ?_))
  subst e2
  cases r5
  exact wpAny_truthy_bool ⟨H5, I5, q5⟩
noncomputable def ZeG (K : PySem.W.Frag) (x : V) (H : Hp) (k : Bool) : Prop :=
 match x with
 | .non => k = false
 | .bl b => k = b
 | .int i => k = (i != 0)
 | .str y => y.length ≤ sizeLine ∧ k = ((y.length : Int) != 0)
 | .byt y => y.size ≤ sizeLine ∧ k = ((y.size : Int) != 0)
 | .ref p => (∃ xs, SqL K H p xs ∧ k = !xs.isEmpty) ∨ (∃ xs, SqT K H p xs ∧ k = !xs.isEmpty) ∨ ∃ kvs, H p = some (.dK kvs) ∧ k = !kvs.isEmpty
 | _ => False
theorem Eb {κ : Type} {kvs : List (κ × V)} {vs : List (κ × Value)} (r : KV kvs vs) : (!vs.isEmpty) = !kvs.isEmpty := by
 cases r <;> rfl
theorem WA {xs : List V} {its : List Value} (r : Vals xs its) : (!its.toArray.isEmpty) = !xs.isEmpty := by
 cases r <;> simp
theorem WN : (sizeLine : Nat) < 2 ^ 63 := by rw [sizeLine_eq]; decide
theorem Za2 : Zfg X (fun x H Q => ∃ k, ZeG X.K x H k ∧ Q k H) := by
 intro pins s σ H x v Q I rx h
 obtain ⟨k, e, q⟩ := h
 have hl := WN
 have hs : sizeLine = 16777216 := sizeLine_eq
 cases x with
 | non =>
  cases rx
  have e' : k = false := e
  subst e'
  exact truthy_none ⟨H, I, q⟩
 | bl b =>
  cases rx
  have e' : k = b := e
  subst e'
  exact wpAny_truthy_bool ⟨H, I, q⟩
 | int i =>
  obtain ⟨t, rfl⟩ := rx
  have e' : k = (i != 0) := e
  subst e'
  exact PySem.P.truthy_int ⟨H, I, q⟩
 | str y =>
  obtain ⟨t, rfl⟩ := rx
  obtain ⟨hy, e'⟩ : y.length ≤ sizeLine ∧ k = ((y.length : Int) != 0) := e
  subst e'
  exact PySem.P.truthy_str (by omega) ⟨H, I.tok _, q⟩
 | byt y =>
  obtain ⟨t, rfl⟩ := rx
  obtain ⟨hy, e'⟩ : y.size ≤ sizeLine ∧ k = ((y.size : Int) != 0) := e
  subst e'
  exact PySem.W.truthy_bytes (by omega) ⟨H, I.tok _, q⟩
 | ref p =>
  cases rx
  have e' : (∃ xs, SqL X.K H p xs ∧ k = !xs.isEmpty) ∨ (∃ xs, SqT X.K H p xs ∧ k = !xs.isEmpty) ∨ ∃ kvs, H p = some (.dK kvs) ∧ k = !kvs.isEmpty := e
  rcases e' with ⟨xs, hx, e'⟩ | ⟨xs, hx, e'⟩ | ⟨kvs, hx, e'⟩
  ·subst e'
   obtain ⟨its, r, pl, hz⟩ := I.list hx
   have hlen := r.length
   exact wpAny_truthy_list pl.isList (by simp only [List.size_toArray]; omega) ⟨H, I.tok _, by rw [WA r]; exact q⟩
  ·subst e'
   obtain ⟨its, r, pl, hz⟩ := I.tuple hx
   have hlen := r.length
   exact truthy_tuple pl (by simp only [List.size_toArray]; omega) ⟨H, I.tok _, by rw [WA r]; exact q⟩
  ·subst e'
   obtain ⟨hz, hS, vs, r, m⟩ : kvs.length ≤ sizeLine ∧ (p == sysModules) = false ∧ ∃ vs, KV kvs vs ∧ s.heap.DictOf (Qv X.prog X.w) p vs := I.hok p _ hx
   have hlen : kvs.length = vs.length := Paired.length r
   exact wpAny_truthy_dict hS m (by omega) ⟨H, I.tok _, by rw [Eb r]; exact q⟩
 | _ => exact (show False from e).elim
theorem Nr (ha : PE X a ta) (he : ∀ whole, isTrue a X.env whole = (do let v ← whole; standAt a.pos; holding [v] (truthy v))) :
  PT X a (fun σ H Q => ta σ H fun x H' => ∃ k, ZeG X.K x H' k ∧ Q k H') := by
 intro pins s σ H Q I h
 exact isTrue_plain (thn (ha pins s σ H _ I h) fun v s1 ⟨x, H1, I1, r1, q1⟩ => Za2 pins s1 σ H1 x v Q I1 r1 q1) (he _)
noncomputable def ZcW (b : Expr) : Prop := ∀ o i, subscripted b false o i = operate [o, i] (getItem o i)
theorem vals1 {x : V} {us : List Value} (r : Vals [x] us) : ∃ u, us = [u] ∧ RelV x u := by
 cases r with
 | cons r1 r2 => cases r2; exact ⟨_, rfl, r1⟩
theorem vals2 {x y : V} {us : List Value} (r : Vals [x, y] us) : ∃ u w', us = [u, w'] ∧ RelV x u ∧ RelV y w' := by
 cases r with
 | cons r1 r2 =>
  cases r2 with
  | cons r3 r4 => cases r4; exact ⟨_, _, rfl, r1, r3⟩
theorem Og : VX X (.builtin "abs") (fun xs H Q => ∃ i, xs = [.int i] ∧ Q (.int (if i < 0 then -i else i)) H) := by
 intro pins s σ H xs us Q I r h
 obtain ⟨i, rfl, q⟩ := h
 obtain ⟨u, rfl, t, rfl⟩ := vals1 r
 exact call_abs_int fun u tk => ⟨.int (if i < 0 then -i else i), H, I.tok _, ⟨_, rfl⟩, q⟩
theorem Fh (hc : X.calm = true) : VX X (.builtin "max") (fun xs H Q => ∃ i j, xs = [.int i, .int j] ∧ Q (.int (if j > i then j else i)) H) := by
 intro pins s σ H xs us Q I r h
 obtain ⟨i, j, rfl, q⟩ := h
 obtain ⟨u, w', rfl, ⟨t, rfl⟩, ⟨t', rfl⟩⟩ := vals2 r
 refine max_two_ints (I.ok.hd hc) fun h' tk k => ⟨_, H, I.kept k, ?_, q⟩
 by_cases hj : j > i
 ·rw [if_pos hj, if_pos hj]; exact ⟨_, rfl⟩
 ·rw [if_neg hj, if_neg hj]; exact ⟨_, rfl⟩
theorem ET (hc : X.calm = true) : VX X (.builtin "min") (fun xs H Q => ∃ i j, xs = [.int i, .int j] ∧ Q (.int (if j < i then j else i)) H) := by
 intro pins s σ H xs us Q I r h
 obtain ⟨i, j, rfl, q⟩ := h
 obtain ⟨u, w', rfl, ⟨t, rfl⟩, ⟨t', rfl⟩⟩ := vals2 r
 refine min_two_ints (I.ok.hd hc) fun h' tk k => ⟨_, H, I.kept k, ?_, q⟩
 by_cases hj : j < i
 ·rw [if_pos hj, if_pos hj]; exact ⟨_, rfl⟩
 ·rw [if_neg hj, if_neg hj]; exact ⟨_, rfl⟩
theorem Fe : VX X (.type "int") (fun xs H Q => (∃ i, xs = [.int i] ∧ Q (.int i) H) ∨ ∃ k, xs = [.bl k] ∧ Q (.int (if k then 1 else 0)) H) := by
 intro pins s σ H xs us Q I r h
 rcases h with ⟨i, rfl, q⟩ | ⟨k, rfl, q⟩
 ·obtain ⟨u, rfl, t, rfl⟩ := vals1 r
  exact call_int_int ⟨.int i, H, I, ⟨_, rfl⟩, q⟩
 ·obtain ⟨u, rfl, r1⟩ := vals1 r
  cases r1
  exact call_int_bool ⟨.int (if k then 1 else 0), H, I.tok _, ⟨_, rfl⟩, q⟩
noncomputable def Zf6 (K : PySem.W.Frag) (x : V) (H : Hp) (n : Nat) : Prop :=
 match x with
 | .str y => y.length ≤ sizeLine ∧ n = y.length
 | .byt y => y.size ≤ sizeLine ∧ n = y.size
 | .ref p => (∃ xs, SqL K H p xs ∧ n = xs.length) ∨ ∃ xs, SqT K H p xs ∧ n = xs.length
 | _ => False
end
end L2
namespace L2
open PySem PySem.Spec PyProof.Rows
structure ZeZ (h : Heap) (x dx C : Addr) (mA : Str → Option Value) : Prop where
 obj : h.get? x = some (PySem.W.instObj C dx)
 ns : h.Ns1 dx mA
 ne : dx ≠ x
section
variable {prog : Program} {w : World} {A : Around} {E : Value → Shared → Prop} {s : Shared} {K : PySem.W.Frag} {x dx C f : Addr} {mA : Str → Option Value} {name : Str} {v : Value}
end
noncomputable def Zdx (f : Str) (v : V) : List (Str × V) → List (Str × V)
 | [] => [(f, v)]
 | (g, x) :: r => if g = f then (g, v) :: r else (g, x) :: Zdx f v r
section
variable {P : Program} {w : World} {H H' : Hp} {h h' : Heap} {a C dx : Addr} {fs fs' : List (Str × V)}
end
structure Cls (K : PySem.W.Frag) (C : Addr) : Prop where
 pg : PySem.W.plainGet K C Str.empty = true
 hd : PySem.W.hasDictIn K C = true
 po : PySem.W.plainOver K C = true
 sa : PySem.W.findIn K (.ref C) "__setattr__" = some (some (.builtin "object.__setattr__"))
theorem Cls.get {K : PySem.W.Frag} {C : Addr} (c : Cls K C) (f : Str) : PySem.W.plainGet K C f = true := c.pg
noncomputable def E6 (K : PySem.W.Frag) (C : Addr) (f : Str) : Prop := PySem.W.findIn K (.ref C) f = some none
structure Con (K : PySem.W.Frag) (C : Addr) (f : Str) (v : V) (u : Value) : Prop where
 at_ : PySem.W.findIn K (.ref C) f = some (some u)
 rel : RelV v u
 get : PySem.W.specialIn K u "__get__" = some none
 cp : PySem.W.copiedNames.contains f = false
structure Meth (K : PySem.W.Frag) (C : Addr) (m : Str) (f : Addr) : Prop where
 at_ : PySem.W.findIn K (.ref C) m = some (some (.ref f))
 fn : PySem.W.isFn K (.ref f) = true
 kp : PySem.W.keepIn K (.ref f) = true
section
variable {X : Cx} {pins : List (Addr × Obj)} {σ : St} {H : Hp} {s : Shared} {a C dx : Addr} {fs : List (Str × V)} {f : Str} {v : V} {A : Around} {E : Value → Shared → Prop}
end
noncomputable def Zf9 (K : PySem.W.Frag) (ta : TE) (f : Str) : TE := fun σ H Q => ta σ H fun x H1 => ∃ a C dx fs v, x = .ref a ∧ H1 a = some (.ins C dx fs) ∧ Cls K C ∧ E6 K C f ∧ fs.lookup f = some v ∧ Q v H1
noncomputable def Zf7 (K : PySem.W.Frag) (ta : TE) (f : Str) : TE := fun σ H Q => ta σ H fun x H1 => ∃ a C dx fs v u, x = .ref a ∧ H1 a = some (.ins C dx fs) ∧ Cls K C ∧ Con K C f v u ∧ fs.lookup f = none ∧ Q v H1
noncomputable def Zgb (K : PySem.W.Frag) (ta tv : TE) (f : Str) : TS := fun D σ H => tv σ H fun y H1 => ta σ H1 fun x H2 => ∃ a C dx fs, x = .ref a ∧ H2 a = some (.ins C dx fs) ∧ Cls K C ∧ E6 K C f ∧ fs.length < 1000 ∧
 D.nx σ (upd H2 a (.ins C dx (Zdx f y fs)))
noncomputable def ZfZ (X : Cx) (op : Operator) (rd : V → V → Hp → VK → Prop) : Prop :=
 ∀ (pins : List (Addr × Obj)) (s : Shared) (σ : St) (H : Hp) (x y : V) (u v : Value) (Q : VK), Inv X pins σ H s → RelV x u → RelV y v → rd x y H Q → wpAny (model X.prog X.w) X.A (inplaceOp op u v) (EP X pins σ Q) X.xe s
noncomputable def Zea (K : PySem.W.Frag) (ta tv : TE) (rd : V → V → Hp → VK → Prop) (f : Str) : TS := fun D σ H => ta σ H fun x H1 => ∃ a C dx fs v, x = .ref a ∧ H1 a = some (.ins C dx fs) ∧ Cls K C ∧ E6 K C f ∧ fs.lookup f = some v ∧
 tv σ H1 fun y H2 => rd v y H2 fun z H3 => ∃ dx' fs', H3 a = some (.ins C dx' fs') ∧ fs'.length < 1000 ∧ D.nx σ (upd H3 a (.ins C dx' (Zdx f z fs')))
section
variable {X : Cx} {o e value : Expr} {f : Str} {pos pos' tpos : Pos} {ta tv : TE}
noncomputable def Zf1 : V → V → Hp → VK → Prop := fun x y H Q => ∃ i j, x = .int i ∧ y = .int j ∧ Q (.int (i + j)) H
noncomputable def Zgk : V → V → Hp → VK → Prop := fun x y H Q => ∃ i j, x = .int i ∧ y = .int j ∧ Q (.int (i - j)) H
end
section
variable {X : Cx} {pins : List (Addr × Obj)} {σ : St} {H : Hp} {s : Shared} {A : Around} {E : Value → Shared → Prop} {Q : Value → Shared → Prop} {c : Value} {b : Bool}
inductive Lv (K : PySem.W.Frag) (H : Hp) : V → Value → Prop where
 | non : Lv K H .non (.type "NoneType")
 | bl (x : Bool) : Lv K H (.bl x) (.type "bool")
 | int (i : Int) : Lv K H (.int i) (.type "int")
 | str (x : Str) : Lv K H (.str x) (.type "str")
 | flt (x : UInt64) : Lv K H (.flt x) (.type "float")
 | lst {a : Addr} {xs : List V} (e : H a = some (.lst xs)) : Lv K H (.ref a) (.type "list")
 | frz {a : Addr} {o : Obj} {xs : List V} (e : H a = some (.frz o (.lst xs))) : Lv K H (.ref a) (.type "list")
 | tup {a : Addr} {xs : List V} (e : H a = some (.tup xs)) : Lv K H (.ref a) (.type "tuple")
 | dK {a : Addr} {kvs : List (Key × V)} (e : H a = some (.dK kvs)) : Lv K H (.ref a) (.type "dict")
 | dT {a : Addr} {kvs : List (List Key × V)} (e : H a = some (.dT kvs)) : Lv K H (.ref a) (.type "dict")
 | ins {a C dx : Addr} {fs : List (Str × V)} (e : H a = some (.ins C dx fs)) (cl : Cls K C) (ha : PySem.W.findIn K (.ref C) "__class__" = some (some (.builtin "object.__class__")))
   (hn : PySem.W.specialIn K (.builtin "object.__class__") "__get__" = some (some (.builtin "getset_descriptor.__get__"))) (htk : PySem.W.takesIn K (.builtin "object.__class__") = some true)
   (hm : PySem.W.mroIn K C (.type "object") = some true) : Lv K H (.ref a) (.ref C)
end
end L2
namespace L2
open PySem PySem.Spec PyProof.Rows
structure Xc (k : Nat) (A : Around) : Prop where
 hd : A.handled = none
 dp : A.depth + 3 * k + 5 < recursionLimit
 un : A.units + 16 * k + 200 < cLine
 gd : A.guards = some []
theorem Xc.mono {j k : Nat} {A : Around} (r : Xc k A) (h : j ≤ k) : Xc j A := ⟨r.hd, by have := r.dp; omega, by have := r.un; omega, r.gd⟩
theorem Xc.deeper {k : Nat} {A : Around} (r : Xc (k + 1) A) (env : Env) : Xc k (A.deeper env) :=
 ⟨r.hd, by have := r.dp; show A.depth + 1 + 3 * k + 5 < _; omega, by have := r.un; show A.units + 3 + 16 * k + 200 < _; omega, r.gd⟩
theorem Xc.depth {k : Nat} {A : Around} (r : Xc k A) : A.depth < recursionLimit := by have := r.dp; omega
theorem Xc.units {k : Nat} {A : Around} (r : Xc k A) : A.units + 64 < cLine := by have := r.un; omega
noncomputable def Zfq : TA := fun _ H Q => Q [] H
noncomputable def Zdj (ta : TE) (tr : TA) : TA := fun σ H Q => ta σ H fun x H1 => tr σ H1 fun xs H2 => Q (x :: xs) H2
section
variable {X : Cx} {e : Expr} {es : List Expr} {te : TE} {t : TA} {pos : Pos}
theorem Lj : PA X [] Zfq := fun _ _ _ _ H Q I h => Calls.spliced_nil ⟨[], H, I, .nil, h⟩
theorem G8 (ha : PE X e te) (hr : PA X es t) (hs : starEach (e :: es) X.env = (false, eval e X.env) :: starEach es X.env := by rfl) : PA X (e :: es) (Zdj te t) := by
 intro pos pins s σ H Q I h
 rw [hs]
 show wpAny _ _ (spliced ((false, eval e X.env) :: backTo pos (starEach es X.env))) _ _ s
 refine Calls.spliced_cons (thn (ha pins s σ H _ I h) fun u s1 ⟨x, H1, I1, r1, q1⟩ => ?_)
 exact thn (hr pos pins s1 σ H1 _ I1 q1) fun us s2 ⟨xs, H2, I2, r2, q2⟩ => ⟨x :: xs, H2, I2, .cons r1 r2, q2⟩
noncomputable def ZfK (t : TA) : TE := fun σ H Q => t σ H fun xs H1 => xs.length ≤ sizeLine ∧ ∀ p, H1 p = none → Q (.ref p) (upd H1 p (.tup xs))
noncomputable def ZfL (t : TA) : TE := fun σ H Q => t σ H fun xs H1 => xs.length ≤ sizeLine ∧ ∀ p, H1 p = none → Q (.ref p) (upd H1 p (.lst xs))
theorem O8 {x1} (h : PA X es t) : PE X (.Tuple es x1 pos) (ZfK t) := by
 intro pins s σ H Q I hq
 refine wpAny_Tuple_spliced (thn (h pos pins s σ H _ I hq) fun us s1 ⟨xs, H1, I1, r, z, q⟩ => ⟨by rw [← r.length]; exact z, ?_⟩)
 have hf : H1 s1.heap.objs.size = none := I1.hok.fresh (Nat.le_refl _)
 refine ⟨.ref s1.heap.objs.size, upd H1 s1.heap.objs.size (.tup xs), I1.laid (t' := s1.toks) (fun b u e => Heap.get?_push_of_some _ e) (Nat.le_refl _) ?_, rfl, q _ hf⟩
 exact ⟨z, us, r, ⟨_, Heap.get?_push_size _ rfl, rfl, _, rfl⟩⟩
theorem PB (h : PA X es t) : PE X (.List es pos) (ZfL t) := by
 intro pins s σ H Q I hq
 refine wpAny_List_spliced (thn (h pos pins s σ H _ I hq) fun us s1 ⟨xs, H1, I1, r, z, q⟩ => ⟨by rw [← r.length]; exact z, ?_⟩)
 have hf : H1 s1.heap.objs.size = none := I1.hok.fresh (Nat.le_refl _)
 refine ⟨.ref s1.heap.objs.size, upd H1 s1.heap.objs.size (.lst xs), I1.laid (t' := s1.toks) (fun b u e => Heap.get?_push_of_some _ e) (Nat.le_refl _) ?_, rfl, q _ hf⟩
 exact ⟨z, us, 0, r, Heap.get?_push_size _ rfl⟩
end
noncomputable abbrev Sp := List V → Hp → VK → XK → Prop
noncomputable abbrev CXT := List Env → Hp → Shared → XK → Value → Shared → Prop
structure ZcY (P : Program) (w : World) (K : PySem.W.Frag) (mg : Str → Option Value) (base : Heap) (A : Around) (outer : List Env) (s : Shared) (H : Hp) : Prop where
 frames : A.frames = some outer
 mod : Mod K mg base
 bs : ∀ b o, base.get? b = some o → s.heap.get? b = some o ∧ H b = none
 bsz : base.objs.size ≤ s.heap.objs.size
 Fq : s.heap.FunFrames base outer
 frf : ∀ b ∈ frs outer, H b = none
 hok : HOk P w H s.heap
 bare : AllBare s.gens
noncomputable def CE (outer : List Env) (P : Program) (w : World) (H : Hp) (s : Shared) (Q : VK) (u : Value) (s' : Shared) : Prop :=
 ∃ v H', s'.os = s.os ∧ AllBare s'.gens ∧ Un (frs outer) [] H H' s.heap s'.heap ∧ HOk P w H' s'.heap ∧ RelV v u ∧ Q v H'
noncomputable def CR (CX : CXT) (outer : List Env) (P : Program) (w : World) (H : Hp) (s : Shared) (Q : VK) (E : XK) (r : Result) (s' : Shared) : Prop :=
 match r with
 | .ok (.ret u) => CE outer P w H s Q u s'
 | .ok _ => False
 | .error e => CX outer H s E e s'
structure ZC (P : Program) (w : World) (K : PySem.W.Frag) (mg : Str → Option Value) (base : Heap) (CX : CXT) (k : Nat) (f : Addr) (fd : FuncData) (ps : List Str) (sp : Sp) : Prop where
 len : ∀ vs H Q E, sp vs H Q E → vs.length = ps.length
 run : ∀ (A : Around) (outer : List Env) (s : Shared) (H : Hp) (args : Args) (us : List Value) (vs : List V) (Q : VK) (E : XK), Xc k A → ZcY P w K mg base A outer s H → BindsTo s fd args (ps.zip us) → Vals vs us → sp vs H Q E →
  codeAny (model P w) A (.call (.ref f) args) (CR CX outer P w H s Q E) s
theorem ZC.imp {P : Program} {w : World} {K : PySem.W.Frag} {mg : Str → Option Value} {base : Heap} {CX : CXT} {k : Nat} {f : Addr} {fd : FuncData} {ps : List Str} {sp sp' : Sp} (F : ZC P w K mg base CX k f fd ps sp)
  (h : ∀ vs H Q E, sp' vs H Q E → sp vs H Q E) : ZC P w K mg base CX k f fd ps sp' :=
 ⟨fun vs H Q E q => F.len vs H Q E (h _ _ _ _ q), fun A outer s H args us vs Q E hr he hb hv hs => F.run A outer s H args us vs Q E hr he hb hv (h _ _ _ _ hs)⟩
section
variable {X : Cx} {pins : List (Addr × Obj)} {σ : St} {H : Hp} {s s' : Shared}
theorem Inv.Zfr (I : Inv X pins σ H s) : ZcY X.prog X.w X.K X.mg X.base X.A X.stack s H :=
 ⟨I.ok.frames, I.ok.mod, I.bs, Nat.le_trans I.ok.bsz I.sz, I.stack, I.HP, I.hok, I.bare⟩
theorem Inv.after {Q : VK} {u : Value} (I : Inv X pins σ H s) (h : CE X.stack X.prog X.w H s Q u s') : EP X pins σ Q u s' := by
 obtain ⟨v, H', os, bare, un, hok, r, q⟩ := h
 obtain ⟨hh, g, d, t, os'⟩ := s'
 obtain rfl : os' = s.os := os
 exact ⟨v, H', I.call (h' := hh) (g' := g) (d' := d) (t' := t) (ch := []) un hok bare (fun b z => absurd z (by simp)), r, q⟩
end
noncomputable def Zdp (sp : Sp) (dvs : List V) (E : XK) (t : TA) : TE := fun σ H Q => t σ H fun vs H1 => sp (vs ++ dvs) H1 Q E
noncomputable def Zfp (C : Addr) (m : Str) (sp : Sp) (dvs : List V) (E : XK) (ta : TE) (t : TA) : TE := fun σ H Q => ta σ H fun x H1 => ∃ a dx fs, x = .ref a ∧ H1 a = some (.ins C dx fs) ∧ fs.lookup m = none ∧
 t σ H1 fun vs H2 => sp (x :: (vs ++ dvs)) H2 Q E
noncomputable def ZfT (C : Addr) (sp : Sp) (dvs : List V) (E : XK) (t : TA) : TE := fun σ H Q => t σ H fun vs H1 => ∀ x dx, H1 x = none → H1 dx = none → dx ≠ x →
 sp (.ref x :: (vs ++ dvs)) (upd (upd H1 dx (.own x)) x (.ins C dx [])) (fun v H2 => v = .non ∧ Q (.ref x) H2) E
noncomputable def Binds (K : PySem.W.Frag) (fd : FuncData) (ps : List Str) (ds : List Value) : Prop :=
 ∀ (s : Shared) (us : List Value), K.In s.heap → (us ++ ds).length = ps.length → BindsTo s fd ⟨us, []⟩ (ps.zip (us ++ ds))
theorem Binds.all {K : PySem.W.Frag} {fd : FuncData} {ps : List Str} (h : ∀ us : List Value, us.length = ps.length → bindArgs fd ⟨us, []⟩ = pure (ps.zip us)) : Binds K fd ps [] := fun s us _ hl => by
 rw [List.append_nil] at hl ⊢
 exact .of_eq (h us hl)
noncomputable def Passes (CX : CXT) (X : Cx) (E : XK) : Prop := ∀ (pins : List (Addr × Obj)) (σ : St) (H : Hp) (s : Shared) (e : Value) (s' : Shared), Inv X pins σ H s → CX X.stack H s E e s' → X.xe e s'
section
variable {X : Cx} {CX : CXT} {k : Nat} {f C : Addr} {fd : FuncData} {ps : List Str} {sp : Sp} {dvs : List V} {ds : List Value} {E : XK} {x m : Str} {p pos apos : Pos} {e o : Expr} {es : List Expr} {ta : TE} {t : TA}
theorem Zbp {pins : List (Addr × Obj)} {σ : St} {H : Hp} {s : Shared} {Q : VK} {us : List Value} {vs : List V} (F : ZC X.prog X.w X.K X.mg X.base CX k f fd ps sp) (hr : Xc k X.A) (hb : Binds X.K fd ps ds) (hd : Vals dvs ds) (hx : Passes CX X E)
  (I : Inv X pins σ H s) (r : Vals vs us) (h : sp (vs ++ dvs) H Q E) : wpAny (model X.prog X.w) X.A (call (.ref f) us) (EP X pins σ Q) X.xe s := by
 have r2 : Vals (vs ++ dvs) (us ++ ds) := r.append hd
 have hl : (us ++ ds).length = ps.length := by rw [← r2.length]; exact F.len _ _ _ _ h
 refine wpAny_call (codeAny_mono (F.run X.A X.stack s H ⟨us, []⟩ (us ++ ds) (vs ++ dvs) Q E hr I.Zfr (hb s us I.kIn hl) r2 h) fun r s' hq => ?_)
 cases r with
 | error e => exact hx pins σ H s e s' I hq
 | ok fl =>
  cases fl with
  | ret u => exact I.after hq
  | next => exact False.elim hq
  | brk => exact False.elim hq
  | cont => exact False.elim hq
theorem Sh (F : ZC X.prog X.w X.K X.mg X.base CX k f fd ps sp) (hr : Xc k X.A) (hg : Gl X x) (hm : X.mg x = some (.ref f)) (hk : PySem.W.keepIn X.K (.ref f) = true) (hb : Binds X.K fd ps ds) (hd : Vals dvs ds) (hx : Passes CX X E)
  (ha : PA X (e :: es) t) (hdb : (x == ("__debug__" : Str)) = false := by decide) (he : starEach (e :: es) X.env = (false, eval e X.env) :: starEach es X.env := by rfl) (hpl : (backTo pos (starEach es X.env)).any (·.1) = false := by rfl) :
  PE X (.Call (.Name x p) (e :: es) [] pos) (Zdp sp dvs E t) := by
 intro pins s σ H Q I h
 refine wpAny_Call_Name_kw (Tq I hg hm ?_ hdb)
 refine PySem.W.callWith_K (h₀ := X.base) I.ok.mod.kin hk (thn (ha pos pins s σ H _ I h) fun us s1 ⟨vs, H1, I1, r, q⟩ => ⟨I1.kIn, ?_⟩) he hpl
 exact Zbp F hr hb hd hx I1 r q
structure Mk (K : PySem.W.Frag) (C f : Addr) : Prop where
 makes : PySem.W.makesIn K C = true
 init : PySem.W.findIn K (.ref C) "__init__" = some (some (.ref f))
 fn : PySem.W.isFn K (.ref f) = true
 kp : PySem.W.keepIn K (.ref C) = true
end
noncomputable def PK (X : Cx) (kws : List Keyword) (t : TA) : Prop :=
 ∀ (pos : Pos) (pins : List (Addr × Obj)) (s : Shared) (σ : St) (H : Hp) (Q : List V → Hp → Prop), Inv X pins σ H s → t σ H Q → wpAny (model X.prog X.w) X.A (evalAll ((backToKw pos (keywordEach kws X.env)).map (·.2))) (AP X pins σ Q) X.xe s
section
variable {X : Cx} {CX : CXT} {k : Nat} {f C : Addr} {fd : FuncData} {ps ks : List Str} {sp : Sp} {E : XK} {x m : Str} {p pos apos kpos : Pos} {e o : Expr} {es : List Expr} {kws : List Keyword} {te ta : TE} {t tk : TA} {nm : Option Str}
structure Zel (K : PySem.W.Frag) (fd : FuncData) (ps ks : List Str) (g : List Value → List Value → List Value) (gV : List V → List V → List V) : Prop where
 to : ∀ (s : Shared) (us ws : List Value), K.In s.heap → (g us ws).length = ps.length → BindsTo s fd ⟨us, ks.zip ws⟩ (ps.zip (g us ws))
 rel : ∀ {vs : List V} {us : List Value} {zs : List V} {ws : List Value}, Vals vs us → Vals zs ws → Vals (gV vs zs) (g us ws)
noncomputable def Zex (sp : Sp) (gV : List V → List V → List V) (E : XK) (t tk : TA) : TE := fun σ H Q => t σ H fun vs H1 => tk σ H1 fun zs H2 => sp (gV vs zs) H2 Q E
variable {g : List Value → List Value → List Value} {gV : List V → List V → List V}
end
structure Zu (N P : List Str) (sc : Scope) : Prop where
 kind : sc.kind = .function
 co : sc.isCoroutine = false
 gen : sc.isGenerator = false
 nd : N.Nodup
 pre : N.take P.length = P
 par : ∀ x ∈ P, sc.names.lookup x = some .local ∨ sc.names.lookup x = some .cell
 nofree : ∀ y ∈ sc.names, y.2 ≠ .free
theorem GW {kindOf : Str → Option NameKind} {x : Str} : ∀ {binds : List (Str × Value)} {m : Str → Option Value}, (∀ v, (x, v) ∉ binds) → bindL kindOf binds m x = m x
 | [], _, _ => rfl
 | (n, v) :: r, m, h => by
  unfold bindL
  rw [GW fun w hw => h w (List.mem_cons_of_mem _ hw)]
  split
  ·have : x ≠ n := by rintro rfl; exact h v List.mem_cons_self
   simp [this]
  ·rfl
theorem Gu {kindOf : Str → Option NameKind} {x : Str} : ∀ {binds : List (Str × Value)} {m : Str → Option Value}, (∀ v, (x, v) ∉ binds) → bindC kindOf binds m x = m x
 | [], _, _ => rfl
 | (n, v) :: r, m, h => by
  unfold bindC
  rw [Gu fun w hw => h w (List.mem_cons_of_mem _ hw)]
  split
  ·rfl
  ·have : x ≠ n := by rintro rfl; exact h v List.mem_cons_self
   simp [this]
theorem Gr {kindOf : Str → Option NameKind} {x : Str} {v : Value} : ∀ {P : List Str} {vs : List Value} {i : Nat} {m : Str → Option Value}, P.Nodup → P[i]? = some x → vs[i]? = some v → kindOf x = some .local →
  bindL kindOf (P.zip vs) m x = some v
 | [], _, _, _, _, h, _, _ => by simp at h
 | _ :: _, [], _, _, _, _, h, _ => by simp at h
 | p :: P, w :: vs, 0, m, nd, h1, h2, hk => by
  simp at h1 h2; subst h1; subst h2
  show bindL kindOf ((p, w) :: P.zip vs) m p = _
  unfold bindL
  rw [GW fun v hv => (List.nodup_cons.mp nd).1 (List.of_mem_zip hv).1, if_pos hk]
  simp
 | p :: P, w :: vs, i + 1, m, nd, h1, h2, hk => by
  show bindL kindOf ((p, w) :: P.zip vs) m x = _
  unfold bindL
  exact Gr (i := i) (List.nodup_cons.mp nd).2 (by simpa using h1) (by simpa using h2) hk
theorem GJ {kindOf : Str → Option NameKind} {x : Str} {v : Value} : ∀ {P : List Str} {vs : List Value} {i : Nat} {m : Str → Option Value}, P.Nodup → P[i]? = some x → vs[i]? = some v → kindOf x ≠ some .local →
  bindC kindOf (P.zip vs) m x = some v
 | [], _, _, _, _, h, _, _ => by simp at h
 | _ :: _, [], _, _, _, _, h, _ => by simp at h
 | p :: P, w :: vs, 0, m, nd, h1, h2, hk => by
  simp at h1 h2; subst h1; subst h2
  show bindC kindOf ((p, w) :: P.zip vs) m p = _
  unfold bindC
  rw [Gu fun v hv => (List.nodup_cons.mp nd).1 (List.of_mem_zip hv).1, if_neg hk]
  simp
 | p :: P, w :: vs, i + 1, m, nd, h1, h2, hk => by
  show bindC kindOf ((p, w) :: P.zip vs) m x = _
  unfold bindC
  exact GJ (i := i) (List.nodup_cons.mp nd).2 (by simpa using h1) (by simpa using h2) hk
noncomputable def start (N : List Str) (vs : List V) : St := vs.map some ++ List.replicate (N.length - vs.length) none
noncomputable def O7 (CX : CXT) (P : Program) (w : World) (K : PySem.W.Frag) (mg : Str → Option Value) (base : Heap) (N : List Str) (qual : Str) (scope : Scope) (f : Addr) (cd : Value) (A : Around) (outer : List Env) (s : Shared) (H : Hp) (E : XK) : Cx where
 prog := P
 w := w
 K := K
 mg := mg
 base := base
 A := A.deeper (envOfC qual scope s.heap.objs.size f cd)
 N := N
 s₀ := s
 H₀ := H
 env := envOfC qual scope s.heap.objs.size f cd
 outer := outer
 stack := envOfC qual scope s.heap.objs.size f cd :: outer
 ex := []
 calm := true
 fn := fun _ => true
 pn := []
 xe := fun e s' => wpAny (model P w) (A.deeper (envOfC qual scope s.heap.objs.size f cd)) (leaving (envOfC qual scope s.heap.objs.size f cd) e) (fun _ s'' => CX outer H s E e s'') (fun e' s'' => CX outer H s E e' s'') s'
theorem VF {sc : Scope} {n : Nat} {x : Str} (h : sc.names.lookup x = some .cell) : ∃ c, (cellsFrom n sc.names []).lookup x = some c := by
 have q := PySem.W.cellsFrom_some sc.names n [] (.inl h)
 exact Option.isSome_iff_exists.mp q
theorem Ft {CX : CXT} {P : Program} {w : World} {K : PySem.W.Frag} {mg : Str → Option Value} {base : Heap} {N ps : List Str} {qual : Str} {scope : Scope} {f : Addr} {cd : Value} {A : Around} {outer : List Env} {s s1 : Shared} {H : Hp} {E : XK} {us : List Value} {vs : List V}
  (S : Zu N ps scope) (hd : A.handled = none) (e0 : ZcY P w K mg base A outer s H) (hl : vs.length = ps.length) (r : Vals vs us)
  (x : InCallC s s.heap.objs.size (bindL (envOfC qual scope s.heap.objs.size f cd).kindOf (ps.zip us) fun _ => none) (cellsFrom (s.heap.objs.size + 1) scope.names []) (bindC (envOfC qual scope s.heap.objs.size f cd).kindOf (ps.zip us) fun _ => none) s1) :
  Inv (O7 CX P w K mg base N qual scope f cd A outer s H E) [] (start N vs) H s1 := by
 have hpl : ps.length ≤ N.length := by have := congrArg List.length S.pre; rw [List.length_take] at this; omega
 obtain ⟨h1, tk, rfl, hk⟩ := x.done
 have noA : ∀ b : Addr, b ∉ (O7 CX P w K mg base N qual scope f cd A outer s H E).ex := fun b z => absurd (show b ∈ ([] : List Addr) from z) (by simp)
 refine ⟨⟨e0.mod, S.kind, rfl, rfl, Nat.le_refl _, fun y z c h1 h2 => ?_, fun y hy => ?_, fun y c _ h => ?_, fun _ => hd, Around.frames_deeper e0.frames, .inr ⟨rfl, rfl⟩, fun b z => absurd z (noA b), e0.bs, e0.bsz, fun b _ _ => noA b, fun b z => absurd z (noA b), e0.Fq, e0.frf⟩,
  rfl, e0.bare, Un.kept hk, ⟨_, x.toInCall.ns, fun i y v h1 h2 h3 => ?_⟩, fun y c h => ⟨_, x.cell y c h⟩, e0.hok.fresh (Nat.le_refl _), fun y c h => ?_, fun p hp => absurd (show p ∈ ([] : List (Addr × Obj)) from hp) (by simp), e0.hok.kept hk, ?_⟩
 ·exact name_of_addr x.apart (PySem.mem_of_lookup h1) (PySem.mem_of_lookup h2)
 ·have hy : scope.names.lookup y = some .cell ∨ scope.names.lookup y = some .free := hy
  rcases hy with hy | hy
  ·exact VF hy
  ·exact absurd rfl (S.nofree _ (PySem.mem_of_lookup hy))
 ·exact Nat.le_of_lt (x.above y c (PySem.mem_of_lookup h))
 ·have hi : i < vs.length := by
   unfold start at h2
   by_cases hi : i < vs.length
   ·exact hi
   ·rw [List.getElem?_append_right (by simpa using hi)] at h2
    rw [List.getElem?_replicate] at h2
    split at h2 <;> cases h2
  have ha : vs[i]? = some v := by
   unfold start at h2
   rw [List.getElem?_append_left (by simpa using hi), List.getElem?_map] at h2
   cases e : vs[i]? with
   | none => rw [e] at h2; cases h2
   | some a => rw [e] at h2; cases h2; rfl
  obtain ⟨u, hu, rv⟩ := r.get ha
  have hp : ps[i]? = some y := by
   rw [← S.pre, List.getElem?_take_of_lt (by omega)]; exact h1
  have ndP : ps.Nodup := by rw [← S.pre]; exact S.nd.sublist (List.take_sublist _ _)
  refine ⟨u, rv, ?_⟩
  rcases S.par y (List.mem_of_getElem? hp) with k | k
  ·exact .inl ⟨k, Gr ndP hp hu k⟩
  ·obtain ⟨c, e⟩ := VF (n := s.heap.objs.size + 1) k
   refine .inr ⟨.inl k, c, e, ?_⟩
   have q := x.cell y c e
   rw [GJ ndP hp hu (by show scope.names.lookup y ≠ _; rw [k]; decide)] at q
   exact q
 ·exact e0.hok.fresh (Nat.le_of_lt (x.above y c (PySem.mem_of_lookup h)))
 ·unfold start
  show _ = N.length
  rw [List.length_append, List.length_map, List.length_replicate]
  omega
theorem Zd4 {CX : CXT} {P : Program} {w : World} {K : PySem.W.Frag} {mg : Str → Option Value} {base : Heap} {k : Nat} {f : Addr} {name qual : Str} {params : Arguments} {body : List Stmt} {scope : Scope} {dV kV doc pm cdv ct oc : Value} {an od : Option Addr}
  {osl : Array (Option Value)} {N ps : List Str} {sp : Sp} (lk : K.lookup f = some ⟨oc, od, .func (PySem.W.fnOf name qual params body scope dV kV doc pm an cdv ct), osl⟩) (hcd : PySem.W.codeIn K cdv qual = true) (S : Zu N ps scope)
  (len : ∀ vs H Q E, sp vs H Q E → vs.length = ps.length)
  (hbody : ∀ (A : Around) (outer : List Env) (s : Shared) (H : Hp) (vs : List V) (Q : VK) (E : XK), Xc k (A.deeper (envOfC qual scope s.heap.objs.size f cdv)) → sp vs H Q E →
   ∃ t, PSs (O7 CX P w K mg base N qual scope f cdv A outer s H E) body t ∧ t { nx := fun _ H' => Q .non H', rt := Q } (start N vs) H) :
  ZC P w K mg base CX (k + 1) f (PySem.W.fnOf name qual params body scope dV kV doc pm an cdv ct) ps sp := by
 refine ⟨len, fun A outer s H args us vs Q E hr e0 hb r hsp => ?_⟩
 have hl := len _ _ _ _ hsp
 have KX : K.In s.heap := e0.mod.kin.keeps fun b o e => (e0.bs b o e).1
 have lim : s.heap.NoLimit := e0.mod.nolimit.keeps fun b o e => (e0.bs b o e).1
 have hkind : ∀ y ∈ ps.zip us, scope.names.lookup y.1 = some .local ∨ (scope.names.lookup y.1 = some .cell ∧ ((cellsFrom (s.heap.objs.size + 1) scope.names []).lookup y.1).isSome = true) := fun ⟨n, v⟩ hy => by
  rcases S.par n (List.of_mem_zip hy).1 with q | q
  ·exact .inl q
  ·exact .inr ⟨q, PySem.W.cellsFrom_some _ _ _ (.inl q)⟩
 refine codeAny_call_function hr.depth (KX _ _ lk) rfl S.co S.gen rfl (PySem.W.codeRec_of KX hcd) (hb _ _ _ _ ?_)
 refine wpAny_newFunctionEnv_cells S.kind hkind fun env he s1 x => ?_
 subst he
 refine ⟨lim.keeps x.toInCall.keep, codeAny_func ?_⟩
 obtain ⟨t, ht, hq⟩ := hbody A outer s H vs Q E (hr.deeper _) hsp
 have I : Inv (O7 CX P w K mg base N qual scope f cdv A outer s H E) [] (start N vs) H s1 := Ft S hr.hd e0 hl r x
 refine wpAny_mono (ht [] s1 (start N vs) H _ I hq) (fun fl s' hs => ?_) fun e s' hs => hs
 have fin : ∀ {σ' : St} {H' : Hp} {v : V} {u : Value}, Inv (O7 CX P w K mg base N qual scope f cdv A outer s H E) [] σ' H' s' → RelV v u → Q v H' → CE outer P w H s Q u s' :=
  fun {σ' H' v u} J rv q => ⟨v, H', J.os, J.bare, J.base, J.hok, rv, q⟩
 cases fl with
 | ret u =>
  obtain ⟨v, σ', H', J, rv, q⟩ := hs
  exact fin J rv q
 | next =>
  obtain ⟨σ', H', J, q⟩ := hs
  exact fin (v := V.non) (u := Value.none) J rfl q
 | brk =>
  obtain ⟨_, _, _, q⟩ := hs
  exact False.elim q
 | cont =>
  obtain ⟨_, _, _, q⟩ := hs
  exact False.elim q
end L2
namespace L2
open PySem PySem.Spec PyProof.Rows
section
variable {X : Cx} {x : Str} {p pos : Pos} {e : Expr} {es : List Expr} {t : TA} {id T : String} {r : List V → Hp → VK → Prop}
noncomputable def tCB (r : List V → Hp → VK → Prop) (t : TA) : TE := fun σ H Q => t σ H fun vs H1 => r vs H1 Q
theorem L6 (hc : VX X (.builtin id) r) (hg : Gl X x) (hm : X.mg x = none) (hv : bootBuiltins x = some (.builtin id)) (ha : PA X (e :: es) t) (hn : x ≠ "__name__" := by decide) (hdb : (x == ("__debug__" : Str)) = false := by decide)
  (he : starEach (e :: es) X.env = (false, eval e X.env) :: starEach es X.env := by rfl) (hpl : (backTo pos (starEach es X.env)).any (·.1) = false := by rfl) : PE X (.Call (.Name x p) (e :: es) [] pos) (tCB r t) := by
 intro pins s σ H Q I h
 refine wpAny_Call_Name_kw (XX I hg hm hv ?_ hn hdb)
 exact PyProof.Rows.callWith_builtin1 (thn (ha pos pins s σ H _ I h) fun us s1 ⟨vs, H1, I1, r1, q1⟩ => hc pins s1 σ H1 vs us Q I1 r1 q1) he hpl
theorem Ll (hc : VX X (.type T) r) (hg : Gl X x) (hm : X.mg x = none) (hv : bootBuiltins x = some (.type T)) (ha : PA X (e :: es) t) (hn : x ≠ "__name__" := by decide) (hdb : (x == ("__debug__" : Str)) = false := by decide)
  (he : starEach (e :: es) X.env = (false, eval e X.env) :: starEach es X.env := by rfl) (hpl : (backTo pos (starEach es X.env)).any (·.1) = false := by rfl) : PE X (.Call (.Name x p) (e :: es) [] pos) (tCB r t) := by
 intro pins s σ H Q I h
 refine wpAny_Call_Name_kw (XX I hg hm hv ?_ hn hdb)
 exact PyProof.Rows.callWith_type1 (thn (ha pos pins s σ H _ I h) fun us s1 ⟨vs, H1, I1, r1, q1⟩ => hc pins s1 σ H1 vs us Q I1 r1 q1) he hpl
end
end L2
namespace HT
open PySem PyProof.Rows
noncomputable def lexLt : List Int → List Int → Bool
 | [], [] => false
 | [], _ :: _ => true
 | _ :: _, [] => false
 | x :: xs, y :: ys => if x = y then lexLt xs ys else decide (x < y)
section
open PySem.SeqAt
open PySem.AutoSeq1 (wpAny_loadPart')
open PySem.MeetsSeq PySem.MeetsSeq2 PySem.MeetsSeq3
end
section
variable {prog : Program} {w : World} {A : Around} {E : Value → Shared → Prop} {s : Shared}
noncomputable def sIx (n d : Nat) : Option Int → Nat
 | none => d
 | some v => if v < 0 then (v + (n : Int)).toNat else min v.toNat n
theorem ZaD (n d : Nat) (hd : d ≤ n) (o : Option Int) : sIx n d o ≤ n := by
 cases o with
 | none => exact hd
 | some v =>
  show (if v < 0 then (v + (n : Int)).toNat else min v.toNat n) ≤ n
  by_cases hv : v < 0
  ·rw [if_pos hv]; omega
  ·rw [if_neg hv]; exact Nat.min_le_right _ _
theorem FA (v : Int) (n d : Nat) : (if v < 0 then max (v + (n : Int)) 0 else min v (n : Int)) = ((sIx n d (some v) : Nat) : Int) := by
 show (if v < 0 then max (v + (n : Int)) 0 else min v (n : Int)) = (((if v < 0 then (v + (n : Int)).toNat else min v.toNat n) : Nat) : Int)
 by_cases hv : v < 0
 ·simp only [if_pos hv]; omega
 ·simp only [if_neg hv]; omega
theorem DZ (lo hi : Option Int) (n : Nat) : Builtin.Slice.sliceAdjust lo hi 1 (n : Int) = (((sIx n 0 lo : Nat) : Int), ((sIx n n hi : Nat) : Int)) := by
 have h1 : ¬ ((1 : Int) < 0) := by omega
 unfold Builtin.Slice.sliceAdjust
 simp only [h1, if_false]
 refine Prod.ext ?_ ?_
 ·cases lo with
  | none => rfl
  | some v => exact FA v n 0
 ·cases hi with
  | none => rfl
  | some v => exact FA v n n
theorem DH (i j : Nat) : Builtin.Slice.slicePlaces (i : Int) (j : Int) 1 = j - i := by
 unfold Builtin.Slice.slicePlaces
 have h1 : (1 : Int) > 0 := by omega
 simp only [h1, if_true, Int.ediv_one]
 split <;> omega
theorem Wx {v : Value} {o : Option Int} {Q : Option Int → Shared → Prop} (p : IsPart v o) (h : Q o s) : wpAny (model prog w) A (Builtin.Slice.slicePartIndex v) Q E s := by
 cases p with
 | none => exact slicePart_none h
 | int i t => exact slicePart_int h
theorem X2 {sl : Addr} {vl vu : Value} {lo hi : Option Int} {n : Nat} {Q : Int × Int × Nat → Shared → Prop} (hs : s.heap.IsSliceOf sl vl vu .none) (pl : IsPart vl lo) (pu : IsPart vu hi)
  (h : Q (((sIx n 0 lo : Nat) : Int), 1, sIx n n hi - sIx n 0 lo) s) : wpAny (model prog w) A (Builtin.Slice.sliceApplied (.ref sl) (pure (n : Int))) Q E s := by
 obtain ⟨os, hos, hcs, hds⟩ := id hs
 unfold Builtin.Slice.sliceApplied Builtin.Slice.sliceFields
 refine wpAny_bind (wpAny_bind (wpAny_field hos hds (x := vl) rfl (wpAny_bind (wpAny_field hos hds (x := vu) rfl (wpAny_bind (wpAny_field hos hds (x := .none) rfl (wpAny_pure ?_)))))))
 refine wpAny_bind (slicePart_none ?_)
 show wpAny _ _ (if ((1 : Int) == 0) = true then _ else _) _ _ s
 rw [if_neg (by decide)]
 refine wpAny_bind (Wx pl (wpAny_bind (Wx pu (wpAny_bind (wpAny_pure ?_)))))
 show wpAny _ _ (match Builtin.Slice.sliceAdjust lo hi 1 (n : Int) with | (lo, hi) => pure (lo, (1 : Int), Builtin.Slice.slicePlaces lo hi 1)) _ _ s
 rw [DZ lo hi n]
 show wpAny _ _ (pure (((sIx n 0 lo : Nat) : Int), (1 : Int), Builtin.Slice.slicePlaces ((sIx n 0 lo : Nat) : Int) ((sIx n n hi : Nat) : Int) 1)) _ _ s
 rw [DH]
 exact wpAny_pure h
theorem L1 (xs : Array Value) (i k : Nat) : ((List.range k).filterMap fun (m : Nat) => xs[((i : Int) + (m : Int) * 1).toNat]?).toArray = ((xs.toList.drop i).take k).toArray := by
 have e : (fun (m : Nat) => xs[((i : Int) + (m : Int) * 1).toNat]?) = fun m => xs[i + m]? := by
  funext m
  have : ((i : Int) + (m : Int) * 1).toNat = i + m := by omega
  rw [this]
 rw [e]
 have := pick_run xs i k
 rw [List.filterMap_map] at this
 have e2 : ((fun x => xs[x]?) ∘ fun x => i + x) = fun m => xs[i + m]? := rfl
 rw [e2] at this
 rw [this]
theorem Xm {t sl : Addr} {items : Array Value} {vl vu : Value} {lo hi : Option Int} {Q : Value → Shared → Prop} (ht : IsTup s.heap t items) (hs : s.heap.IsSliceOf sl vl vu .none) (pl : IsPart vl lo) (pu : IsPart vu hi)
  (hw : ¬ (sIx items.size 0 lo = 0 ∧ sIx items.size items.size hi = items.size))
  (h : Q (.ref s.heap.objs.size) { s with heap := s.heap.push { cls := .type "tuple", data := .seq ((items.toList.drop (sIx items.size 0 lo)).take (sIx items.size items.size hi - sIx items.size 0 lo)).toArray } })
  (hsz : items.size ≤ sizeLine) : wpAny (model prog w) A (getItem (.ref t) (.ref sl)) Q E s := by
 have htake : sizeOk (.seq ((items.toList.drop (sIx items.size 0 lo)).take (sIx items.size items.size hi - sIx items.size 0 lo)).toArray) := by
  show ((items.toList.drop (sIx items.size 0 lo)).take (sIx items.size items.size hi - sIx items.size 0 lo)).toArray.size ≤ sizeLine
  rw [List.size_toArray, List.length_take, List.length_drop, Array.length_toList]
  omega
 have hj : sIx items.size items.size hi ≤ items.size := ZaD _ _ (Nat.le_refl _) hi
 obtain ⟨os, hos, hcs, hds⟩ := id hs
 have hTs : s.TypeIs (.ref sl) "slice" := ⟨os, hos, hcs⟩
 unfold getItem
 try with_reducible refine wpAny_holding ?_
 first | refine wpAny_bind (wpAny_pure ?_) | skip
 refine wpAny_bind (wpAny_sequenceKey ht.typeIs (by decide) ?_)
 refine wpAny_bind (wpAny_callSpecial?_slot (name := Str.ofString "__getitem__") ht.typeIs PyProof.Rows.slot_tuple_getitem
  (wpAny_call_entry PyProof.Rows.slot_tuple_getitem ht.typeIs entry_tuple_getitem ?_ (args_tuple_getitem _ _)))
 show wpAny _ _ (Builtin.Tuple.tupleItemsOf (.ref t) >>= _) _ _ s
 refine wpAny_bind (tupleItemsOf_ ht ?_)
 refine wpAny_bind (wpAny_typeOf hTs ?_)
 rw [if_pos (by decide)]
 refine wpAny_bind (X2 hs pl pu ?_)
 have hno : ¬ ((((sIx items.size 0 lo : Nat) : Int) == 0 && (1 : Int) == 1 && (sIx items.size items.size hi - sIx items.size 0 lo) == items.size) = true) := by
  intro q
  rw [Bool.and_eq_true, Bool.and_eq_true] at q
  have q1 : ((sIx items.size 0 lo : Nat) : Int) = 0 := eq_of_beq q.1.1
  have q2 : sIx items.size items.size hi - sIx items.size 0 lo = items.size := eq_of_beq q.2
  exact hw ⟨by omega, by omega⟩
 show wpAny _ _ (if (((sIx items.size 0 lo : Nat) : Int) == 0 && (1 : Int) == 1 && (sIx items.size items.size hi - sIx items.size 0 lo) == items.size) = true then _ else _) _ _ s
 rw [if_neg hno, L1]
 first
  | exact wpAny_bind (m := Builtin.Tuple.tupleExact _) (wpAny_newObj_type (wpAny_pure ⟨_, rfl, wpAny_pure h⟩) htake)
  | exact wpAny_bind (m := Builtin.Tuple.tupleExact _) (wpAny_newObj_type (wpAny_bind (wpAny_pure (wpAny_pure ⟨_, rfl, wpAny_pure h⟩))) htake)
  | exact wpAny_bind (wpAny_bind (m := Builtin.Tuple.tupleExact _) (wpAny_newObj_type (wpAny_pure (wpAny_pure ⟨_, rfl, wpAny_pure h⟩)) htake))
  | exact wpAny_bind (wpAny_bind (m := Builtin.Tuple.tupleExact _) (wpAny_newObj_type (wpAny_pure ⟨_, rfl, wpAny_pure h⟩) htake))
end
end HT
namespace L2
open PySem PySem.Spec PyProof.Rows
noncomputable abbrev TO := St → Hp → (Option Int → Hp → Prop) → Prop
noncomputable def PO (X : Cx) (e : Option Expr) (t : TO) : Prop :=
 ∀ (pins : List (Addr × Obj)) (s : Shared) (σ : St) (H : Hp) (Q : Option Int → Hp → Prop), Inv X pins σ H s → t σ H Q →
  wpAny (model X.prog X.w) X.A (evalPart e X.env) (fun u s' => ∃ o H', Inv X pins σ H' s' ∧ IsPart u o ∧ Q o H') X.xe s
noncomputable def ZdE : TO := fun _ H Q => Q none H
noncomputable def ZdD (t : TE) : TO := fun σ H Q => t σ H fun x H1 => ∃ i, x = .int i ∧ Q (some i) H1
theorem intsAre_of {ns : List Int} : ∀ {us : List Value}, Vals (ns.map V.int) us → IntsAre us ns := by
 induction ns with
 | nil => intro us r; rw [List.map_nil] at r; cases r; exact .nil
 | cons n ns ih =>
  intro us r
  rw [List.map_cons] at r
  cases r with
  | cons r1 r2 =>
   obtain ⟨t, e⟩ := r1
   subst e
   exact .cons n t (ih r2)
section
variable {X : Cx} {e : Expr} {te : TE} {lo hi : Option Expr} {tl th : TO} {pos p2 : Pos}
theorem SD (h : PE X e te) : PO X (some e) (ZdD te) := by
 intro pins s σ H Q I hw
 rw [evalPart_some]
 refine thn (h pins s σ H _ I hw) fun u s1 ⟨x, H1, I1, r1, q1⟩ => ?_
 obtain ⟨i, rfl, q⟩ := q1
 obtain ⟨t, rfl⟩ := r1
 exact ⟨some i, H1, I1, .int i t, q⟩
noncomputable def SlR (X : Cx) (r : V → Option Int → Option Int → Hp → VK → Prop) : Prop :=
 ∀ (pins : List (Addr × Obj)) (s : Shared) (σ : St) (H : Hp) (x : V) (v vl vu : Value) (lo hi : Option Int) (sl : Addr) (Q : VK), Inv X pins σ H s → RelV x v → s.heap.IsSliceOf sl vl vu .none → IsPart vl lo → IsPart vu hi → r x lo hi H Q →
  ∃ T id, typeLookup (.type T) "__getitem__" = pure (some (.builtin id)) ∧ s.TypeIs v T ∧ wpAny (model X.prog X.w) X.A (getItem v (.ref sl)) (EP X pins σ Q) X.xe s
noncomputable def tSl (r : V → Option Int → Option Int → Hp → VK → Prop) (te : TE) (tl th : TO) : TE := fun σ H Q => te σ H fun x H1 => tl σ H1 fun l H2 => th σ H2 fun u H3 => r x l u H3 Q
theorem OJ {r : V → Option Int → Option Int → Hp → VK → Prop} (hr : SlR X r) (he : PE X e te) (hl : PO X lo tl) (hu : PO X hi th) : PE X (.Subscript e (.Slice lo hi none p2) pos) (tSl r te tl th) := by
 intro pins s σ H Q I h
 refine Subscript_ (thn (he pins s σ H _ I h) fun v s1 ⟨x, H1, I1, r1, q1⟩ => ?_)
 refine wpAny_Slice (thn (hl pins s1 σ H1 _ I1 q1) fun vl s2 ⟨l, H2, I2, pl, q2⟩ => thn (hu pins s2 σ H2 _ I2 q2) fun vu s3 ⟨u, H3, I3, pu, q3⟩ => ?_)
 rw [evalPart_none]
 refine wpAny_pure ?_
 have I4 : Inv X pins σ H3 { s3 with heap := s3.heap.push { cls := .type "slice", data := .fields #[vl, vu, .none] } } := I3.kept (t' := s3.toks) fun b ob q => Heap.get?_push_of_some _ q
 obtain ⟨T, id, hT, ht, hg⟩ := hr pins { s3 with heap := s3.heap.push { cls := .type "slice", data := .fields #[vl, vu, .none] } } σ H3 x v vl vu l u s3.heap.objs.size Q I4 r1 (Heap.IsSliceOf.new ..) pl pu q3
 show wpAny (model X.prog X.w) X.A (subscriptTail e (.Slice lo hi none p2) v (.ref s3.heap.objs.size)) (EP X pins σ Q) X.xe { s3 with heap := s3.heap.push { cls := .type "slice", data := .fields #[vl, vu, .none] } }
 exact tail_any (ops := [.ref s3.heap.objs.size, v]) ht hT hg (by with_unfolding_all rfl)
noncomputable def Sj (xs : List V) (lo hi : Option Int) : List V := (xs.drop (HT.sIx xs.length 0 lo)).take (HT.sIx xs.length xs.length hi - HT.sIx xs.length 0 lo)
theorem BX (xs : List V) (lo hi : Option Int) : (Sj xs lo hi).length ≤ xs.length := by
 unfold Sj
 rw [List.length_take, List.length_drop]
 omega
noncomputable def Zfa (K : PySem.W.Frag) : V → Option Int → Option Int → Hp → VK → Prop := fun x lo hi H Q => ∃ a xs, x = .ref a ∧ SqT K H a xs ∧
 ¬ (HT.sIx xs.length 0 lo = 0 ∧ HT.sIx xs.length xs.length hi = xs.length) ∧ ∀ p, H p = none → Q (.ref p) (upd H p (.tup (Sj xs lo hi)))
theorem Zcq : SlR X (Zfa X.K) := by
 intro pins s σ H x v vl vu lo hi sl Q I rx hs pl pu h
 obtain ⟨a, xs, rfl, hx, hw, q⟩ := h
 cases rx
 obtain ⟨its, r, ht, hz⟩ := I.tuple hx
 have hlen : its.toArray.size = xs.length := by rw [List.size_toArray]; exact r.length.symm
 refine ⟨"tuple", _, PyProof.Rows.slot_tuple_getitem.lookup, ht.typeIs, ?_⟩
 refine HT.Xm ht hs pl pu (by rw [hlen]; exact hw) ?_ (by rw [hlen]; exact hz)
 rw [hlen]
 refine ⟨.ref s.heap.objs.size, _, I.laid (t' := s.toks) (o := .tup (Sj xs lo hi)) (fun b ob q => Heap.get?_push_of_some _ q) (Nat.le_refl _) ?_, rfl, q _ (I.hok.fresh (Nat.le_refl _))⟩
 exact ⟨Nat.le_trans (BX xs lo hi) hz, _, (r.drop (HT.sIx xs.length 0 lo)).take (HT.sIx xs.length xs.length hi - HT.sIx xs.length 0 lo), IsTup.new _ _⟩
noncomputable def Zgi (K : PySem.W.Frag) : R2 := fun x y H Q => ∃ a b ns ms, x = .ref a ∧ y = .ref b ∧ SqT K H a (ns.map V.int) ∧ SqT K H b (ms.map V.int) ∧ Q (.bl (HT.lexLt ns ms)) H
noncomputable def Zfc (K : PySem.W.Frag) : R2 := fun x y H Q => ∃ a b xs ys, x = .ref a ∧ y = .ref b ∧ SqT K H a xs ∧ SqT K H b ys ∧ xs ≠ [] ∧ xs.length + ys.length ≤ sizeLine ∧
 (ys = [] → Q (.ref a) H) ∧ (ys ≠ [] → ∀ p, H p = none → Q (.ref p) (upd H p (.tup (xs ++ ys))))
end
end L2
namespace L2
open PySem PySem.Spec PyProof.Rows
noncomputable def ixN (n : Nat) (i : Int) : Option Nat := if 0 ≤ i then (if i < n then some i.toNat else none) else if -(n : Int) ≤ i then some (i + n).toNat else none
noncomputable def atI {α : Type} (xs : List α) (i : Int) : Option α := (ixN xs.length i).bind fun j => xs[j]?
theorem FN {n : Nat} {i : Int} {j : Nat} (h : ixN n i = some j) : seqIndex? i n = some j ∧ j < n ∧ -(n : Int) ≤ i ∧ i < n := by
 unfold ixN at h
 by_cases h0 : 0 ≤ i
 ·rw [if_pos h0] at h
  by_cases h1 : i < n
  ·rw [if_pos h1] at h
   have e : i.toNat = j := Option.some.inj h
   exact ⟨by rw [seqIndex_of h0 h1, e], by omega, by omega, h1⟩
  ·rw [if_neg h1] at h; cases h
 ·rw [if_neg h0] at h
  by_cases h1 : -(n : Int) ≤ i
  ·rw [if_pos h1] at h
   have e : (i + n).toNat = j := Option.some.inj h
   exact ⟨by rw [seqIndex_neg (by omega) h1, e], by omega, h1, by omega⟩
  ·rw [if_neg h1] at h; cases h
theorem BN {α : Type} {xs : List α} {i : Int} {v : α} (h : atI xs i = some v) : ∃ j, seqIndex? i xs.length = some j ∧ xs[j]? = some v ∧ j < xs.length ∧ -(xs.length : Int) ≤ i ∧ i < xs.length := by
 unfold atI at h
 cases e : ixN xs.length i with
 | none => rw [e] at h; cases h
 | some j =>
  rw [e] at h
  obtain ⟨h1, h2, h3, h4⟩ := FN e
  exact ⟨j, h1, h, h2, h3, h4⟩
theorem Vy {α : Type} {xs : List α} {j : Nat} {v : α} (h : xs[j]? = some v) : atI xs (j : Int) = some v := by
 have hj : j < xs.length := (List.getElem?_eq_some_iff.mp h).1
 have e : ixN xs.length (j : Int) = some j := by
  unfold ixN
  rw [if_pos (by omega), if_pos (by omega)]; simp
 unfold atI; rw [e]; exact h
noncomputable def Fp (b : Expr) : Prop := ∀ o i, subscripted b false o i = operate [o, i] (getItem o i)
noncomputable def IxR (X : Cx) (r : R2) : Prop :=
 ∀ (value slice : Expr) (pins : List (Addr × Obj)) (s : Shared) (σ : St) (H : Hp) (x y : V) (v u : Value) (Q : VK), Inv X pins σ H s → RelV x v → RelV y u → r x y H Q →
  subscripted slice false v u = operate [v, u] (getItem v u) → wpAny (model X.prog X.w) X.A (subscriptTail value slice v u) (EP X pins σ Q) X.xe s
noncomputable def MtR (X : Cx) (id : String) (r : V → List V → Hp → VK → Prop) : Prop :=
 ∀ (pins : List (Addr × Obj)) (s : Shared) (σ : St) (H : Hp) (x : V) (xs : List V) (v : Value) (us : List Value) (Q : VK), Inv X pins σ H s → RelV x v → Vals xs us → r x xs H Q →
  wpAny (model X.prog X.w) X.A (call (.builtin id) (v :: us)) (EP X pins σ Q) X.xe s
section
variable {X : Cx} {a b : Expr} {ta tb : TE} {pos : Pos}
theorem IxR.or {r r' : R2} (h : IxR X r) (h' : IxR X r') : IxR X (fun x y H Q => r x y H Q ∨ r' x y H Q) := by
 intro value slice pins s σ H x y v u Q I rx ry q hs
 rcases q with q | q
 ·exact h value slice pins s σ H x y v u Q I rx ry q hs
 ·exact h' value slice pins s σ H x y v u Q I rx ry q hs
theorem Zeh {r : R2} (hr : IxR X r) (ha : PE X a ta) (hb : PE X b tb) (hs : Fp b) : PE X (.Subscript a b pos) (tOp r ta tb) := by
 intro pins s σ H Q I h
 exact Subscript_ (ZdI ha hb I h fun v u s2 x y H2 I2 rx ry q => hr a b pins s2 σ H2 x y v u Q I2 rx ry q (hs _ _))
noncomputable def Zey (K : PySem.W.Frag) : R2 := fun x y H Q => ∃ p xs i v, x = .ref p ∧ y = .int i ∧ SqL K H p xs ∧ atI xs i = some v ∧ Q v H
noncomputable def ZeD (K : PySem.W.Frag) : R2 := fun x y H Q => ∃ p xs i v, x = .ref p ∧ y = .int i ∧ SqT K H p xs ∧ atI xs i = some v ∧ Q v H
noncomputable def ZeN : R2 := fun x y H Q => ∃ z i c, x = .str z ∧ y = .int i ∧ z.length ≤ sizeLine ∧ atI z.cps.toList i = some c ∧ Q (.str ⟨#[c]⟩) H
theorem RJ : IxR X (Zey X.K) := by
 intro value slice pins s σ H x y v u Q I rx ry h hs
 obtain ⟨p, xs, i, z, rfl, rfl, hq, he, q⟩ := h
 cases rx
 obtain ⟨t, rfl⟩ := ry
 obtain ⟨its, r, pl, hz⟩ := I.list hq
 obtain ⟨j, h1, h2, h3, h4, h5⟩ := BN he
 obtain ⟨w, ew, rw'⟩ := r.get h2
 have hl := r.length
 have hn := WN
 have fin : EP X pins σ Q w s := ⟨z, H, I, rw', q⟩
 by_cases h0 : 0 ≤ i
 ·have hj : i.toNat = j := by
   rw [seqIndex_of h0 h5] at h1
   exact Option.some.inj h1
  exact item_listR pl.isList h0 (by omega) (by rw [hj]; simpa using ew) fin hs
 ·have hj : (i + (its.toArray.size : Int)).toNat = j := by
   rw [seqIndex_neg (by omega) h4] at h1
   rw [List.size_toArray, ← hl]
   exact Option.some.inj h1
  exact subscriptTail_builtinR (x := w) pl.isList.typeIs slot_list_getitem.lookup
   (wpAny_getItem_list_neg (Q := fun r s' => r = w ∧ EP X pins σ Q r s') pl.isList (by omega) (by rw [List.size_toArray] <;> omega) (by omega) (by rw [hj]; simpa using ew) ⟨rfl, fin⟩) hs
theorem Zbw : IxR X (ZeD X.K) := by
 intro value slice pins s σ H x y v u Q I rx ry h hs
 obtain ⟨p, xs, i, z, rfl, rfl, hq, he, q⟩ := h
 cases rx
 obtain ⟨t, rfl⟩ := ry
 obtain ⟨its, r, pl, hz⟩ := I.tuple hq
 obtain ⟨j, h1, h2, h3, h4, h5⟩ := BN he
 obtain ⟨w, ew, rw'⟩ := r.get h2
 have hl := r.length
 have hn := WN
 have fin : EP X pins σ Q w s := ⟨z, H, I, rw', q⟩
 exact subscriptTail_builtinR (x := w) pl.typeIs slot_tuple_getitem.lookup
  (getItem_tuple (j := j) (Q := fun r s' => r = w ∧ EP X pins σ Q r s') pl (by omega) (by omega) (by rw [List.size_toArray, ← hl]; exact h1) (by simpa using ew) ⟨rfl, fin⟩) hs
theorem ZbP : IxR X ZeN := by
 intro value slice pins s σ H x y v u Q I rx ry h hs
 obtain ⟨z, i, c, rfl, rfl, hz, he, q⟩ := h
 obtain ⟨t, rfl⟩ := rx
 obtain ⟨t', rfl⟩ := ry
 obtain ⟨j, h1, h2, h3, h4, h5⟩ := BN he
 have hl : z.cps.toList.length = z.length := by simp [Str.length]
 rw [hl] at h1 h4 h5
 have hn := WN
 exact tail_any (typeIs_str s z t) slot_str_getitem.lookup (getItem_str (c := c) (by
  have e1 : decide (i < -(2 ^ 63 : Int)) = false := decide_eq_false (by omega)
  have e2 : decide (i ≥ 2 ^ 63) = false := decide_eq_false (by omega)
  rw [e1, e2, Bool.or_false]) (by rw [h1]; simpa using h2) ⟨.str ⟨#[c]⟩, H, I.tok _, ⟨_, rfl⟩, q⟩) hs
noncomputable def rIx (K : PySem.W.Frag) : R2 := fun x y H Q => Zey K x y H Q ∨ ZeD K x y H Q ∨ ZeN x y H Q
theorem T5 : IxR X (rIx X.K) := RJ.or (Zbw.or ZbP)
theorem Ez (its : List Value) (n j : Nat) (u : Value) : Obj.mapSeq (·.setIfInBounds j u) { cls := .type "list", data := .seq its.toArray n } = { cls := .type "list", data := .seq (its.set j u).toArray n } := by
 simp [Obj.mapSeq]
theorem Inv.lst {pins : List (Addr × Obj)} {σ : St} {H : Hp} {s : Shared} {p : Addr} {xs : List V} (I : Inv X pins σ H s) (h : H p = some (.lst xs)) :
  ∃ (its : List Value) (n : Nat), Vals xs its ∧ s.heap.get? p = some { cls := .type "list", data := .seq its.toArray n } ∧ xs.length ≤ sizeLine := by
 obtain ⟨z, its, n, r, e⟩ := I.hok p _ h
 exact ⟨its, n, r, e, z⟩
theorem Inv.ZbN {pins : List (Addr × Obj)} {σ : St} {H : Hp} {s : Shared} {p : Addr} {xs ys : List V} {its its' : List Value} {n n' : Nat} {f : Obj → Obj} (I : Inv X pins σ H s) (h : H p = some (.lst xs))
  (ho : s.heap.get? p = some { cls := .type "list", data := .seq its.toArray n }) (hf : f { cls := .type "list", data := .seq its.toArray n } = { cls := .type "list", data := .seq its'.toArray n' }) (r : Vals ys its') (hz : ys.length ≤ sizeLine) (t : Nat) :
  Inv X pins σ (upd H p (.lst ys)) { s with heap := s.heap.update p f, toks := t } := by
 have e : (s.heap.update p f).get? p = some { cls := .type "list", data := .seq its'.toArray n' } := by
  rw [Heap.get?_update_self f ho (by rw [hf] <;> rfl), hf]
 refine I.write (x := p) (e := p) (by rw [h]; trivial) (.inl rfl) (fun b u hb q => (Heap.get?_update_other _ _ (Ne.symm hb)).trans q) ⟨_, e⟩ ?_
 exact ⟨hz, its', n', r, e⟩
noncomputable def Zd8 : V → V → V → Hp → (Hp → Prop) → Prop := fun o i v H Q => ∃ p xs k j, o = .ref p ∧ i = .int k ∧ H p = some (.lst xs) ∧ ixN xs.length k = some j ∧ Q (upd H p (.lst (xs.set j v)))
theorem set_list : Ze2 X Zd8 := by
 intro pins s σ H o i v ov iv u Q I ro ri rv h
 obtain ⟨p, xs, k, j, rfl, rfl, hp, hj, q⟩ := h
 cases ro
 obtain ⟨t, rfl⟩ := ri
 obtain ⟨its, n, r, ho, hz⟩ := I.lst hp
 obtain ⟨h1, h2, h3, h4⟩ := FN hj
 have hl := r.length
 have hn := WN
 have I' : Inv X pins σ (upd H p (.lst (xs.set j v))) { s with heap := s.heap.update p (Obj.mapSeq (·.setIfInBounds j u)) } :=
  I.ZbN hp ho (Ez its n j u) (r.set rv j) (by rw [List.length_set]; exact hz) s.toks
 by_cases h0 : 0 ≤ k
 ·have hk : k.toNat = j := by
   rw [seqIndex_of h0 h4] at h1
   exact Option.some.inj h1
  exact PySem.W.ki_setAt ho h0 (by omega) (by rw [List.size_toArray, ← hl]; exact h4) (by rw [hk]; exact ⟨_, I', q⟩)
 ·have hk : (k + (its.toArray.size : Int)).toNat = j := by
   rw [seqIndex_neg (by omega) h3] at h1
   rw [List.size_toArray, ← hl]
   exact Option.some.inj h1
  exact PySem.W.ki_setBack ho (by omega) (by rw [List.size_toArray, ← hl]; exact h3) (by omega) (by rw [hk]; exact ⟨_, I', q⟩)
noncomputable def Zgm (K : PySem.W.Frag) : V → Option Int → Option Int → Hp → VK → Prop := fun x lo hi H Q => ∃ a xs, x = .ref a ∧ SqL K H a xs ∧ ∀ p, H p = none → Q (.ref p) (upd H p (.lst (Sj xs lo hi)))
noncomputable def Za5 : V → Bool
 | .non => true
 | .bl _ => true
 | .int _ => true
 | .str _ => true
 | _ => false
noncomputable def eqV : V → V → Bool
 | .non, .non => true
 | .bl a, .bl b => a == b
 | .bl a, .int b => (if a then 1 else 0) == b
 | .int a, .bl b => a == (if b then 1 else 0)
 | .int a, .int b => a == b
 | .str a, .str b => a == b
 | _, _ => false
noncomputable def eqU (x : V) (u : Value) : Bool := match u with
 | .none => eqV .non x
 | .bool b => eqV (.bl b) x
 | .int i _ => eqV (.int i) x
 | .str z _ => eqV (.str z) x
 | _ => false
noncomputable def inV (x : V) (xs : List V) : Bool := xs.any fun y => eqV y x
noncomputable def rIn (K : PySem.W.Frag) (neg : Bool) : R2 := fun x y H Q => ∃ p xs, y = .ref p ∧ (SqL K H p xs ∨ SqT K H p xs) ∧ Za5 x = true ∧ xs.all Za5 = true ∧ Q (.bl (if neg then !inV x xs else inV x xs)) H
theorem Gj : VX X (.builtin "len") (fun xs H Q => ∃ p ys, xs = [.ref p] ∧ (SqL X.K H p ys ∨ SqT X.K H p ys) ∧ Q (.int ys.length) H) := by
 intro pins s σ H xs us Q I r h
 obtain ⟨p, ys, rfl, hq, q⟩ := h
 obtain ⟨u, rfl, rx⟩ := vals1 r
 cases rx
 have hn := WN
 rcases hq with hq | hq
 ·obtain ⟨its, r', pl, hz⟩ := I.list hq
  have hlen := r'.length
  exact Calls.call_len_list pl.isList (by simp only [List.size_toArray] <;> omega) ⟨.int ys.length, H, I.tok _, ⟨s.toks + 1, by rw [List.size_toArray, hlen]⟩, q⟩
 ·obtain ⟨its, r', pl, hz⟩ := I.tuple hq
  have hlen := r'.length
  exact len_tuple pl (by simp only [List.size_toArray] <;> omega) ⟨.int ys.length, H, I.tok _, ⟨s.toks + 1, by rw [List.size_toArray, hlen]⟩, q⟩
theorem U3 : VX X (.type "list") (fun xs H Q => ∃ p ys, xs = [.ref p] ∧ (SqL X.K H p ys ∨ SqT X.K H p ys) ∧ ∀ l, H l = none → Q (.ref l) (upd H l (.lst ys))) := by
 intro pins s σ H xs us Q I r h
 obtain ⟨p, ys, rfl, hq, q⟩ := h
 obtain ⟨u, rfl, rx⟩ := vals1 r
 cases rx
 have fin : ∀ (its : List Value), Vals ys its → ys.length ≤ sizeLine → ∀ (h' : Heap) (c' : Nat), (∀ b o', s.heap.get? b = some o' → h'.get? b = some o') →
   h'.get? s.heap.objs.size = some { cls := .type "list", dict := none, data := .seq its.toArray c', slots := #[] } → EP X pins σ Q (.ref s.heap.objs.size) { s with heap := h' } := fun its r' hz h' c' kp e =>
  ⟨.ref s.heap.objs.size, _, I.laid (t' := s.toks) kp (Nat.le_refl _) (show Jc X.prog X.w _ h' _ (.lst ys) from ⟨hz, its, c', r', e⟩), rfl, q _ (I.hok.fresh (Nat.le_refl _))⟩
 rcases hq with hq | hq
 ·obtain ⟨its, r', pl, hz⟩ := I.list hq
  have hlen := r'.length
  obtain ⟨o, ho, hc, n, hd⟩ := pl.isList
  exact call_list_seq p (.inl rfl) ho hc hd (fun h' c' kp e => fin its r' hz h' c' kp e) (by simp only [List.size_toArray] <;> omega)
 ·obtain ⟨its, r', pl, hz⟩ := I.tuple hq
  have hlen := r'.length
  obtain ⟨o, ho, hc, n, hd⟩ := pl
  exact call_list_seq p (.inr rfl) ho hc hd (fun h' c' kp e => fin its r' hz h' c' kp e) (by simp only [List.size_toArray] <;> omega)
theorem Uu : VX X (.type "tuple") (fun xs H Q => ∃ p ys, xs = [.ref p] ∧ ((SqL X.K H p ys ∧ ∀ l, H l = none → Q (.ref l) (upd H l (.tup ys))) ∨ (SqT X.K H p ys ∧ Q (.ref p) H))) := by
 intro pins s σ H xs us Q I r h
 obtain ⟨p, ys, rfl, h⟩ := h
 obtain ⟨u, rfl, rx⟩ := vals1 r
 cases rx
 rcases h with ⟨hq, q⟩ | ⟨hq, q⟩
 ·obtain ⟨its, r', pl, hz⟩ := I.list hq
  have hlen := r'.length
  refine call_tuple_list pl.isList (fun h' kp => ?_) (by simp only [List.size_toArray] <;> omega)
  have I1 : Inv X pins σ H { s with heap := h' } := I.kept (t' := s.toks) kp
  have I2 : Inv X pins σ (upd H h'.objs.size (.tup ys)) { s with heap := h'.push { cls := .type "tuple", data := .seq its.toArray } } :=
   I1.laid (t' := s.toks) (fun b o e => Heap.get?_push_of_some _ e) (Nat.le_refl _) (show Jc X.prog X.w _ _ _ (.tup ys) from ⟨hz, its, r', IsTup.new _ _⟩)
  exact ⟨.ref h'.objs.size, _, I2, rfl, q _ (I1.hok.fresh (Nat.le_refl _))⟩
 ·obtain ⟨its, r', pl, hz⟩ := I.tuple hq
  exact call_tuple_same pl ⟨.ref p, H, I, rfl, q⟩
noncomputable def tyV (K : PySem.W.Frag) (T : String) (x : V) (H : Hp) : Prop := match x with
 | .str _ => T = "str"
 | .int _ => T = "int"
 | .ref p => (T = "list" ∧ ∃ xs, SqL K H p xs) ∨ (T = "tuple" ∧ ∃ o, K.lookup p = some o ∧ o.cls = .type "tuple" ∧ o.dict = none) ∨
   (T = "dict" ∧ ((∃ kvs, H p = some (.dK kvs)) ∨ ∃ kvs, H p = some (.dT kvs))) ∨ (T = "set" ∧ ∃ S n, H p = some (.set S n))
 | _ => False
theorem PR {pins : List (Addr × Obj)} {σ : St} {H : Hp} {s : Shared} {T : String} {x : V} {v : Value} (I : Inv X pins σ H s) (r : RelV x v) (ty : tyV X.K T x H) :
  s.TypeIs v T ∧ ∀ a, v = .ref a → ∃ ob, s.heap.get? a = some ob ∧ ob.dict = none := by
 cases x with
 | str z =>
  obtain ⟨t, rfl⟩ := r
  cases (show T = "str" from ty)
  exact ⟨typeIs_str s z t, fun _ e => nomatch e⟩
 | int i =>
  obtain ⟨t, rfl⟩ := r
  cases (show T = "int" from ty)
  exact ⟨typeIs_int s i t, fun _ e => nomatch e⟩
 | ref p =>
  cases r
  rcases ty with ⟨rfl, xs, hq⟩ | ⟨rfl, o, hk, hc, hd⟩ | ⟨rfl, hk⟩ | ⟨rfl, S, n, hk⟩
  ·obtain ⟨its, _, pl, _⟩ := I.list hq
   refine ⟨pl.isList.typeIs, fun a e => ?_⟩
   cases e
   obtain ⟨o, n, e, c, hd, _⟩ := pl
   exact ⟨o, e, hd⟩
  ·refine ⟨⟨o, I.kIn p o hk, hc⟩, fun a e => ?_⟩
   cases e
   exact ⟨o, I.kIn _ o hk, hd⟩
  ·have z : ∃ o, s.heap.get? p = some o ∧ o.ExactDict := by
    rcases hk with ⟨kvs, hk⟩ | ⟨kvs, hk⟩
    ·obtain ⟨_, _, _, _, o, _, _, e, ex, _⟩ := I.hok p _ hk
     exact ⟨o, e, ex⟩
    ·obtain ⟨_, _, _, _, o, _, _, e, ex, _⟩ := I.hok p _ hk
     exact ⟨o, e, ex⟩
   obtain ⟨o, e, ex⟩ := z
   refine ⟨⟨o, e, ex.1⟩, fun a e2 => ?_⟩
   cases e2
   exact ⟨o, e, ex.2.1⟩
  ·obtain ⟨o, _, _, _, e, ex, _⟩ := I.hok p _ hk
   refine ⟨⟨o, e, ex.1⟩, fun a e2 => ?_⟩
   cases e2
   exact ⟨o, e, ex.2.1⟩
 | _ => exact False.elim ty
noncomputable def Zfl (K : PySem.W.Frag) (T : String) (r : V → List V → Hp → VK → Prop) (to : TE) : TE := fun σ H Q => to σ H fun x H1 => tyV K T x H1 ∧ r x [] H1 Q
noncomputable def tBM (K : PySem.W.Frag) (T : String) (r : V → List V → Hp → VK → Prop) (to : TE) (t : TA) : TE := fun σ H Q => to σ H fun x H1 => tyV K T x H1 ∧ t σ H1 fun xs H2 => r x xs H2 Q
variable {o e : Expr} {es : List Expr} {to : TE} {t : TA} {name : Str} {apos cpos : Pos} {T id : String} {r : V → List V → Hp → VK → Prop}
theorem ZaT (pa : PlainAttrs T) (slot : Slot T name id) (hty : typeOf (.builtin id) = pure (.type "method_descriptor")) (hm : MtR X id r) (ho : PE X o to)
  (hbase : attributeBase o name X.env (eval o X.env) = eval o X.env := by rfl) (hline : (apos.endLine == cpos.line) = true := by rfl) : PE X (.Call (.Attribute o name apos) [] [] cpos) (Zfl X.K T r to) := by
 intro pins s σ H Q I h
 refine wpAny_Call_method0_late hbase hline (thn (ho pins s σ H _ I h) fun v s1 ⟨x, H1, I1, r1, ty, q1⟩ => ?_)
 obtain ⟨h1, h2⟩ := PR I1 r1 ty
 exact ⟨T, id, pa, slot, hty, h1, h2, Calls.callWith_builtin rfl (PySem.evalArgs_none (hm pins s1 σ H1 x [] v [] Q I1 r1 .nil q1))⟩
theorem Zbv (pa : PlainAttrs T) (slot : Slot T name id) (hty : typeOf (.builtin id) = pure (.type "method_descriptor")) (hm : MtR X id r) (ho : PE X o to) (ha : PA X (e :: es) t)
  (hbase : attributeBase o name X.env (eval o X.env) = eval o X.env := by rfl)
  (hfew : ((backTo cpos (starEach (e :: es) X.env)).all (fun x => !x.1) && (backToKw cpos (keywordEach [] X.env)).all (fun x => x.1.isSome)
   && decide ((e :: es).length + ([] : List Keyword).length + (if ([] : List Keyword).isEmpty then 0 else 1) < 30)) = true := by rfl)
  (hline : (apos.endLine == cpos.line) = true := by rfl) (hs : starEach (e :: es) X.env = (false, eval e X.env) :: starEach es X.env := by rfl) (hplain : (backTo cpos (starEach es X.env)).any (·.1) = false := by rfl) :
  PE X (.Call (.Attribute o name apos) (e :: es) [] cpos) (tBM X.K T r to t) := by
 intro pins s σ H Q I h
 refine wpAny_Call_method_late hbase hfew hline rfl (thn (ho pins s σ H _ I h) fun v s1 ⟨x, H1, I1, r1, ty, q1⟩ => ?_)
 obtain ⟨h1, h2⟩ := PR I1 r1 ty
 refine ⟨T, id, pa, slot, hty, h1, h2, ?_⟩
 have hA := ha cpos pins s1 σ H1 _ I1 q1
 rw [hs] at hA ⊢
 refine Calls.callWith_builtin (by show (false || (backTo cpos (starEach es X.env)).any (·.1)) = false; rw [hplain] <;> rfl) (Calls.evalArgs_plain ?_)
 exact thn hA fun us s2 ⟨vs, H2, I2, r2, q2⟩ => hm pins s2 σ H2 x vs v us Q I2 r1 r2 q2
end
end L2
namespace L2
open PySem PySem.Spec PyProof.Rows
noncomputable def MtM (X : Cx) (id : String) (r : V → List V → Hp → VK → Prop) : Prop :=
 ∀ (pins : List (Addr × Obj)) (s : Shared) (σ : St) (H : Hp) (x : V) (xs : List V) (v : Value) (us : List Value) (Q : VK), Inv X pins σ H s → RelV x v → Vals xs us → r x xs H Q →
  wpAny (model X.prog X.w) X.A (call (.builtin id) (v :: us)) (EP X pins σ Q) X.xe s
theorem Vals.one : ∀ {x : V} {us : List Value}, Vals [x] us → ∃ u, us = [u] ∧ RelV x u
 | _, _, .cons r .nil => ⟨_, rfl, r⟩
theorem Vals.two : ∀ {x y : V} {us : List Value}, Vals [x, y] us → ∃ u v, us = [u, v] ∧ RelV x u ∧ RelV y v
 | _, _, _, .cons r (.cons q .nil) => ⟨_, _, rfl, r, q⟩
theorem Vals.zero : ∀ {us : List Value}, Vals [] us → us = []
 | _, .nil => rfl
theorem Vals.dropLast {xs : List V} {us : List Value} (h : Vals xs us) : Vals xs.dropLast us.dropLast := by
 induction h with
 | nil => exact .nil
 | cons r t ih =>
  cases t with
  | nil => exact .nil
  | cons q t' => exact .cons r ih
theorem Ey {α : Type} (l : List α) : l.eraseIdx (l.length - 1) = l.dropLast := by
 induction l with
 | nil => rfl
 | cons a r ih =>
  cases r with
  | nil => rfl
  | cons b r =>
   have e : (a :: b :: r).length - 1 = ((b :: r).length - 1) + 1 := by
    have h1 : (a :: b :: r).length = r.length + 2 := rfl
    have h2 : (b :: r).length = r.length + 1 := rfl
    omega
   rw [e, List.eraseIdx_cons_succ, ih]
   all_goals rfl
section
variable {X : Cx} {pins : List (Addr × Obj)} {σ : St} {H : Hp} {s : Shared} {l b : Addr} {xs ys zs : List V}
theorem Inv.ZdB {its its' : List Value} {n : Nat} {f : Array Value → Array Value} {t' : Nat} (I : Inv X pins σ H s) (hH : H l = some (.lst xs))
  (e : s.heap.get? l = some { cls := .type "list", data := .seq its.toArray n }) (hf : f its.toArray = its'.toArray) (hv : Vals ys its') (hz : ys.length ≤ sizeLine) :
  Inv X pins σ (upd H l (.lst ys)) { s with heap := s.heap.update l (Obj.mapSeq f), toks := t' } := by
 have q := PySem.IsL.update e f
 rw [hf] at q
 refine I.write (x := l) (e := l) (by rw [hH]; exact trivial) (.inl rfl) (fun b' u hb hu => (Heap.get?_update_other s.heap (Obj.mapSeq f) (Ne.symm hb)).trans hu) ⟨_, q⟩ ?_
 exact ⟨hz, its', _, hv, q⟩
theorem Inv.Zfz {its : List Value} {t' : Nat} (I : Inv X pins σ H s) (hv : Vals ys its) (hz : ys.length ≤ sizeLine) :
  Inv X pins σ (upd H s.heap.objs.size (.lst ys)) { s with heap := s.heap.push { cls := .type "list", data := .seq its.toArray }, toks := t' } :=
 I.laid (fun _ _ q => Heap.get?_push_of_some _ q) (Nat.le_refl _) ⟨hz, its, 0, hv, Heap.get?_push_size _ rfl⟩
theorem Inv.fresh (I : Inv X pins σ H s) : H s.heap.objs.size = none := I.hok.fresh (Nat.le_refl _)
theorem Inv.ZcM (I : Inv X pins σ H s) (hH : H l = some (.lst xs)) : xs.length ≤ sizeLine ∧ ∃ (its : List Value) (n : Nat), Vals xs its ∧ xs.length = its.length ∧ s.heap.get? l = some { cls := .type "list", data := .seq its.toArray n } := by
 obtain ⟨z, its, n, r, e⟩ := I.hok l _ hH
 exact ⟨z, its, n, r, r.length, e⟩
theorem Mn {n : Nat} (h : n ≤ sizeLine) : Builtin.List.listTooLong n = false := by
 unfold Builtin.List.listTooLong
 exact decide_eq_false (by omega)
end
section
variable {X : Cx}
noncomputable def Rh : V → List V → Hp → VK → Prop := fun x vs H Q => ∃ l xs y, x = .ref l ∧ vs = [y] ∧ H l = some (.lst xs) ∧ xs.length < sizeLine ∧ Q .non (upd H l (.lst (xs ++ [y])))
theorem Li : MtM X "list.append" Rh := by
 intro pins s σ H x vs v us Q I rx rv h
 obtain ⟨l, xs, y, rfl, rfl, hH, hz, q⟩ := h
 cases rx
 obtain ⟨u, rfl, ru⟩ := rv.one
 obtain ⟨z, its, n, r, hl, e⟩ := I.ZcM hH
 refine call_meets F.slot_list_append ⟨_, e, rfl⟩ F.entry_list_append (F.args_list_append_2 _ _) (PySem.list_append l its.toArray n u (by rw [List.size_toArray]; omega)) ⟨e, ?_⟩
 refine ⟨.non, _, I.ZdB (its' := its ++ [u]) hH e (by simp) (r.append (.cons ru .nil)) ?_, rfl, q⟩
 rw [List.length_append, List.length_singleton]
 omega
noncomputable def SE : V → List V → Hp → VK → Prop := fun x vs H Q => ∃ l b xs zs, x = .ref l ∧ vs = [.ref b] ∧ H l = some (.lst xs) ∧ H b = some (.lst zs) ∧ xs.length + zs.length ≤ sizeLine ∧ Q .non (upd H l (.lst (xs ++ zs)))
theorem HF : MtM X "list.extend" SE := by
 intro pins s σ H x vs v us Q I rx rv h
 obtain ⟨l, b, xs, zs, rfl, rfl, hH, hB, hz, q⟩ := h
 cases rx
 obtain ⟨u, rfl, ru⟩ := rv.one
 cases ru
 obtain ⟨z, its, n, r, hl, e⟩ := I.ZcM hH
 obtain ⟨z2, its2, n2, r2, hl2, e2⟩ := I.ZcM hB
 have hsz : its.toArray.size + its2.toArray.size ≤ sizeLine := by rw [List.size_toArray, List.size_toArray]; omega
 have hlong : ¬ (!its.toArray.isEmpty && Builtin.List.listTooLong (its.toArray.size + its2.toArray.size)) = true := by
  rw [Mn hsz, Bool.and_false]
  exact Bool.false_ne_true
 refine call_meets F.slot_list_extend ⟨_, e, rfl⟩ F.entry_list_extend (F.args_list_extend_2 _ _)
  (AutoSeq1.list_extend_list_list_0 l its.toArray n b its2.toArray n2 hlong (by rw [List.size_toArray]; omega) (by omega)) ⟨e, e2, ?_⟩
 refine ⟨.non, _, I.ZdB (its' := its ++ its2) hH e (by simp) (r.append r2) ?_, rfl, q⟩
 rw [List.length_append]
 omega
noncomputable def Zfn : V → List V → Hp → VK → Prop := fun x vs H Q => ∃ l xs y, x = .ref l ∧ vs = [] ∧ H l = some (.lst xs) ∧ xs[xs.length - 1]? = some y ∧ Q y (upd H l (.lst xs.dropLast))
theorem Zcb : MtM X "list.pop" Zfn := by
 intro pins s σ H x vs v us Q I rx rv h
 obtain ⟨l, xs, y, rfl, rfl, hH, hy, q⟩ := h
 cases rx
 have hus := rv.zero
 subst hus
 obtain ⟨z, its, n, r, hl, e⟩ := I.ZcM hH
 obtain ⟨u, hu, ru⟩ := r.get hy
 have hy' : its.toArray[its.toArray.size - 1]? = some u := by
  show its.toArray[its.length - 1]? = some u
  rw [← Array.getElem?_toList, ← hl]
  exact hu
 refine call_meets F.slot_list_pop ⟨_, e, rfl⟩ F.entry_list_pop (F.args_list_pop_1 _) (MeetsSeq.list_pop_last l its.toArray n u hy' (by rw [List.size_toArray]; omega)) ⟨e, ?_⟩
 refine ⟨y, _, I.ZdB (its' := its.dropLast) hH e ?_ r.dropLast ?_, ru, q⟩
 ·show its.toArray.eraseIdxIfInBounds (its.toArray.size - 1) = its.dropLast.toArray
  rw [List.size_toArray, List.eraseIdxIfInBounds_toArray, Ey]
 ·rw [List.length_dropLast]
  omega
noncomputable def ZeL : V → List V → Hp → VK → Prop := fun x vs H Q => ∃ l xs i k y, x = .ref l ∧ vs = [.int i] ∧ H l = some (.lst xs) ∧ -(2 ^ 63) ≤ i ∧ i < 2 ^ 63 ∧ seqIndex? i xs.length = some k ∧ xs[k]? = some y ∧ Q y (upd H l (.lst (xs.eraseIdx k)))
noncomputable def Zc2 : V → List V → Hp → VK → Prop := fun x vs H Q => ∃ l xs, x = .ref l ∧ vs = [] ∧ H l = some (.lst xs) ∧ Q .non (upd H l (.lst xs.reverse))
noncomputable def ZeP : V → List V → Hp → VK → Prop := fun x vs H Q => ∃ l xs, x = .ref l ∧ vs = [] ∧ H l = some (.lst xs) ∧ Q .non (upd H l (.lst []))
noncomputable def Zge : R2 := fun x y H Q => ∃ l b xs zs, x = .ref l ∧ y = .ref b ∧ H l = some (.lst xs) ∧ H b = some (.lst zs) ∧ xs.length + zs.length ≤ sizeLine ∧ ∀ p, H p = none → Q (.ref p) (upd H p (.lst (xs ++ zs)))
noncomputable def Zgg : R2 := fun x y H Q => ∃ l k xs, x = .ref l ∧ y = .int k ∧ H l = some (.lst xs) ∧ -(2 ^ 63) ≤ k ∧ k < 2 ^ 63 ∧ xs.length * k.toNat ≤ sizeLine ∧
 ∀ p, H p = none → Q (.ref p) (upd H p (.lst (List.replicate k.toNat xs).flatten))
end
section
variable {prog : Program} {w : World} {A : Around} {E : Value → Shared → Prop} {s : Shared}
set_option maxRecDepth 100000 in
end
section
variable {X : Cx}
end
end L2
namespace L2
open PySem PySem.Spec PyProof.Rows
section
variable {κ : Type} [DecidableEq κ]
noncomputable def UW (kvs : List (κ × V)) (k : κ) : Option V := (kvs.find? fun kv => decide (kv.1 = k)).map (·.2)
noncomputable def putK (kvs : List (κ × V)) (k : κ) (v : V) : List (κ × V) :=
 if (kvs.any fun kv => decide (kv.1 = k)) = true then kvs.map (fun kv => if kv.1 = k then (kv.1, v) else kv) else kvs ++ [(k, v)]
noncomputable def FV (kvs : List (κ × V)) (k : κ) : List (κ × V) := kvs.filter fun kv => decide (kv.1 ≠ k)
theorem C4 {p : κ × V} {r : List (κ × V)} {k : κ} (e : p.1 = k) : UW (p :: r) k = some p.2 := by simp [UW, List.find?_cons, e]
theorem C1 {p : κ × V} {r : List (κ × V)} {k : κ} (e : ¬ p.1 = k) : UW (p :: r) k = UW r k := by simp [UW, List.find?_cons, e]
theorem X5 (k : κ) : ∀ kvs : List (κ × V), (kvs.any fun kv => decide (kv.1 = k)) = (UW kvs k).isSome
 | [] => rfl
 | p :: r => by
  rw [List.any_cons]
  by_cases e : p.1 = k
  ·simp only [C4 e, decide_eq_true e, Bool.true_or, Option.isSome_some]
  ·rw [C1 e, decide_eq_false e, Bool.false_or]; exact X5 k r
theorem K5 (kvs : List (κ × V)) (k : κ) (v : V) : (putK kvs k v).length ≤ kvs.length + 1 := by
 unfold putK
 split
 ·rw [List.length_map]; omega
 ·rw [List.length_append, List.length_cons, List.length_nil]; omega
theorem Zcw.UZ {o : Option V} {u : Option Value} (r : Zcw o u) : o.isSome = u.isSome := by
 cases o with
 | none => cases u with
  | none => rfl
  | some _ => exact (show False from r).elim
 | some _ => cases u with
  | none => exact (show False from r).elim
  | some _ => rfl
theorem KV.any {kvs : List (κ × V)} {vs : List (κ × Value)} (r : KV kvs vs) (k : κ) : (kvs.any fun kv => decide (kv.1 = k)) = vs.any fun kv => decide (kv.1 = k) := by
 unfold KV at r
 induction r with
 | nil => rfl
 | cons h t ih => rw [List.any_cons, List.any_cons, ih, h.1]
theorem KV.Zdt {kvs : List (κ × V)} {vs : List (κ × Value)} (r : KV kvs vs) (k : κ) {y : V} {u : Value} (ry : RelV y u) :
  KV (kvs.map fun kv => if kv.1 = k then (kv.1, y) else kv) (vs.map fun kv => if kv.1 = k then (kv.1, u) else kv) := by
 unfold KV at r ⊢
 induction r with
 | nil => exact .nil
 | @cons p q ps qs h t ih =>
  rw [List.map_cons, List.map_cons]
  refine .cons ?_ ih
  obtain ⟨h1, h2⟩ := h
  by_cases e : p.1 = k
  ·rw [if_pos e, if_pos (h1.symm.trans e)]; exact ⟨h1, ry⟩
  ·rw [if_neg e, if_neg (fun z => e (h1.trans z))]; exact ⟨h1, h2⟩
theorem KV.put {kvs : List (κ × V)} {vs : List (κ × Value)} (r : KV kvs vs) (k : κ) {y : V} {u : Value} (ry : RelV y u) : KV (putK kvs k y) (stored vs k u) := by
 unfold putK stored
 rw [r.any k]
 by_cases e : (vs.any fun kv => decide (kv.1 = k)) = true
 ·rw [if_pos e, if_pos e]; exact r.Zdt k ry
 ·rw [if_neg e, if_neg e]; exact Paired.snoc r ⟨rfl, ry⟩
theorem KV.drop {kvs : List (κ × V)} {vs : List (κ × Value)} (r : KV kvs vs) (k : κ) : KV (FV kvs k) (without vs k) := by
 unfold KV at r ⊢
 unfold FV without
 induction r with
 | nil => exact .nil
 | @cons p q ps qs h t ih =>
  obtain ⟨h1, h2⟩ := h
  rw [List.filter_cons, List.filter_cons]
  by_cases e : p.1 = k
  ·have a : ¬ decide (p.1 ≠ k) = true := by simp [e]
   have b : ¬ decide (q.1 ≠ k) = true := by simp [h1.symm.trans e]
   rw [if_neg a, if_neg b]; exact ih
  ·have e' : ¬ q.1 = k := fun z => e (h1.trans z)
   have a : decide (p.1 ≠ k) = true := by simp [e]
   have b : decide (q.1 ≠ k) = true := by simp [e']
   rw [if_pos a, if_pos b]; exact .cons ⟨h1, h2⟩ ih
theorem KV.length {kvs : List (κ × V)} {vs : List (κ × Value)} (r : KV kvs vs) : kvs.length = vs.length := Paired.length r
end
theorem T6 {P : Program} {w : World} {k : Key} {u : Value} (r : RelV (kV k) u) : (Qv P w).is k u = true := by
 cases k with
 | inl i => obtain ⟨t, e⟩ := (show ∃ t, u = Value.int i t from r); subst e; exact BG P w i t
 | inr x => obtain ⟨t, e⟩ := (show ∃ t, u = Value.str x t from r); subst e; exact B8 P w x t
theorem KZ {P : Program} {w : World} : ∀ {ks : List Key} {us : List Value}, Vals (ks.map kV) us → ItemsAre (Qv P w) ks us
 | [], _, r => by rw [List.map_nil] at r; cases r; exact .nil
 | k :: ks, _, r => by
  rw [List.map_cons] at r
  cases r with
  | cons h t => exact .cons (T6 h) (KZ t)
noncomputable abbrev KT (H : Hp) : List (List Key × V) → List (List Key × Addr × Value) → Prop := Paired fun p q => p.1 = q.1 ∧ H q.2.1 = some (.tup (p.1.map kV)) ∧ RelV p.2 q.2.2
theorem KT.val {H : Hp} {kvs : List (List Key × V)} {xs : List (List Key × Addr × Value)} (r : KT H kvs xs) (k : List Key) : Zcw (UW kvs k) ((atKey xs k).map (·.2)) := by
 induction r with
 | nil => exact True.intro
 | @cons p q ps qs h t ih =>
  obtain ⟨h1, _, h2⟩ := h
  by_cases e : p.1 = k
  ·have e' : q.1 = k := h1.symm.trans e
   have b : atKey (q :: qs) k = some q.2 := by simp [atKey, List.find?_cons, e']
   rw [C4 e, b]; exact h2
  ·have e' : ¬ q.1 = k := fun z => e (h1.trans z)
   have b : atKey (q :: qs) k = atKey qs k := by simp [atKey, List.find?_cons, e']
   rw [C1 e, b]; exact ih
theorem KT.Zdt {H : Hp} {kvs : List (List Key × V)} {xs : List (List Key × Addr × Value)} (r : KT H kvs xs) (k : List Key) {y : V} {u : Value} (ry : RelV y u) :
  KT H (kvs.map fun kv => if kv.1 = k then (kv.1, y) else kv) (xs.map (putAt k u)) := by
 induction r with
 | nil => exact .nil
 | @cons p q ps qs h t ih =>
  rw [List.map_cons, List.map_cons]
  refine .cons ?_ ih
  obtain ⟨h1, h2, h3⟩ := h
  unfold putAt
  by_cases e : p.1 = k
  ·rw [if_pos e, if_pos (h1.symm.trans e)]; exact ⟨h1, h2, ry⟩
  ·rw [if_neg e, if_neg (fun z => e (h1.trans z))]; exact ⟨h1, h2, h3⟩
theorem KT.put {H : Hp} {kvs : List (List Key × V)} {xs : List (List Key × Addr × Value)} (r : KT H kvs xs) (k : List Key) {b : Addr} {y : V} {u : Value} (hb : H b = some (.tup (k.map kV))) (ry : RelV y u) :
  KT H (putK kvs k y) (storedH xs k b u) := by
 have e : (kvs.any fun kv => decide (kv.1 = k)) = (atKey xs k).isSome := by
  rw [X5, (r.val k).UZ, Option.isSome_map]
 unfold putK storedH
 rw [e]
 by_cases q : (atKey xs k).isSome = true
 ·rw [if_pos q, if_pos q]; exact r.Zdt k ry
 ·rw [if_neg q, if_neg q]; exact Paired.snoc r ⟨rfl, hb, ry⟩
theorem KT.keeps {H H' : Hp} {kvs : List (List Key × V)} {xs : List (List Key × Addr × Value)} (r : KT H kvs xs) (ht : ∀ b ys, H b = some (.tup ys) → H' b = some (.tup ys)) : KT H' kvs xs :=
 Paired.Zc3 r fun _ _ z => ⟨z.1, ht _ _ z.2.1, z.2.2⟩
section
variable {P : Program} {w : World} {H : Hp} {h : Heap} {a : Addr}
theorem Zao {u : HO} (ok : HOk P w H h) (e : Rd H a u) : Jc P w H h a u := e.ok ok
theorem Zdn {kvs : List (Key × V)} (ok : HOk P w H h) (e : Rd H a (.dK kvs)) : kvs.length ≤ sizeLine ∧ (a == sysModules) = false ∧ ∃ vs, KV kvs vs ∧ h.DictOf (Qv P w) a vs :=
 show Jc P w H h a (.dK kvs) from Zao ok e
theorem Zdl {kvs : List (Key × V)} (ok : HOk P w H h) (e : H a = some (.dK kvs)) : kvs.length ≤ sizeLine ∧ (a == sysModules) = false ∧ ∃ vs, KV kvs vs ∧ h.DictOf (Qv P w) a vs := Zdn ok (.inl e)
theorem PX {ks : List Key} (ok : HOk P w H h) (e : H a = some (.tup (ks.map kV))) : (tupleKind (Qv P w)).is h ks a := by
 obtain ⟨_, its, r, o, h1, h2, n, h3⟩ := (show Jc P w H h a (.tup (ks.map kV)) from ok a _ e)
 exact ⟨o, its.toArray, n, h1, h2, h3, by simpa using KZ r⟩
theorem T3 {kvs : List (List Key × V)} (ok : HOk P w H h) (e : Rd H a (.dT kvs)) : kvs.length ≤ sizeLine ∧ (a == sysModules) = false ∧
  ∃ xs, KT H kvs xs ∧ h.DictOfH (tupleKind (Qv P w)) a xs := by
 obtain ⟨z, y, xs, r, o, es, ep, h1, h2, h3, h4, h5⟩ := (show Jc P w H h a (.dT kvs) from Zao ok e)
 refine ⟨z, y, xs, r, o, es, ep, h1, h2, h3, h4, fun x hx => ?_, h5⟩
 have all : ∀ {l : List (List Key × V)} {m : List (List Key × Addr × Value)}, KT H l m → ∀ x ∈ m, (tupleKind (Qv P w)).is h x.1 x.2.1 := by
  intro l m q
  induction q with
  | nil => intro x hx; exact nomatch hx
  | @cons p q ps qs hq t ih =>
   intro x hx
   rcases List.mem_cons.mp hx with e | hx
   ·subst e
    exact PX ok (by rw [← hq.1]; exact hq.2.1)
   ·exact ih x hx
 exact all r x hx
theorem ZdO {kvs : List (List Key × V)} (ok : HOk P w H h) (e : H a = some (.dT kvs)) : kvs.length ≤ sizeLine ∧ (a == sysModules) = false ∧
  ∃ xs, KT H kvs xs ∧ h.DictOfH (tupleKind (Qv P w)) a xs := T3 ok (.inl e)
end
noncomputable def LW (H : Hp) (a : Addr) (y : V) (r : Option V) : Prop :=
 (∃ kvs k, Rd H a (.dK kvs) ∧ y = kV k ∧ r = UW kvs k) ∨ ∃ kvs k b, Rd H a (.dT kvs) ∧ y = .ref b ∧ H b = some (.tup (k.map kV)) ∧ r = UW kvs k
noncomputable def PM (H : Hp) (a : Addr) (y v : V) (H' : Hp) : Prop :=
 (∃ kvs k, H a = some (.dK kvs) ∧ y = kV k ∧ kvs.length < sizeLine ∧ H' = upd H a (.dK (putK kvs k v))) ∨
 ∃ kvs k b, H a = some (.dT kvs) ∧ y = .ref b ∧ H b = some (.tup (k.map kV)) ∧ kvs.length < sizeLine ∧ H' = upd H a (.dT (putK kvs k v))
theorem LW.k {H : Hp} {a : Addr} {kvs : List (Key × V)} {k : Key} (e : H a = some (.dK kvs)) : LW H a (kV k) (UW kvs k) := .inl ⟨kvs, k, .inl e, rfl, rfl⟩
theorem LW.t {H : Hp} {a b : Addr} {kvs : List (List Key × V)} {k : List Key} (e : H a = some (.dT kvs)) (eb : H b = some (.tup (k.map kV))) : LW H a (.ref b) (UW kvs k) := .inr ⟨kvs, k, b, .inl e, rfl, eb, rfl⟩
theorem PM.k {H : Hp} {a : Addr} {kvs : List (Key × V)} {k : Key} {v : V} (e : H a = some (.dK kvs)) (hl : kvs.length < sizeLine) : PM H a (kV k) v (upd H a (.dK (putK kvs k v))) := .inl ⟨kvs, k, e, rfl, hl, rfl⟩
theorem PM.t {H : Hp} {a b : Addr} {kvs : List (List Key × V)} {k : List Key} {v : V} (e : H a = some (.dT kvs)) (eb : H b = some (.tup (k.map kV))) (hl : kvs.length < sizeLine) :
  PM H a (.ref b) v (upd H a (.dT (putK kvs k v))) := .inr ⟨kvs, k, b, e, rfl, eb, hl, rfl⟩
section
variable {X : Cx} {pins : List (Addr × Obj)} {σ : St} {H : Hp} {s : Shared} {a : Addr} {y v : V} {u r : Value} {o : Option V} {A : Around} {E : Value → Shared → Prop}
theorem Inv.big (I : Inv X pins σ H s) : sysModules < s.heap.objs.size := by
 have h : mainGlobals < s.heap.objs.size := (I.mod.glob.keeps I.bk).lt
 exact Nat.lt_trans (by decide) h
theorem EO {h' : Heap} {t' : Nat} {ob : HO} (I : Inv X pins σ H s) (mu : Mut (H a)) (hs : Heap.SameBut a s.heap h') (he : ∃ q, h'.get? a = some q) (new : Jc X.prog X.w (upd H a ob) h' a ob) :
  Inv X pins σ (upd H a ob) { s with heap := h', toks := t' } :=
 I.write (x := a) (e := a) mu (.inl rfl) (fun b q hb z => (hs.2 b hb).trans z) he new
theorem ZbA {P : Program} {w : World} {H' : Hp} {h' : Heap} {kvs : List (Key × V)} {vs : List (Key × Value)} (z : kvs.length ≤ sizeLine) (hd : (a == sysModules) = false) (rel : KV kvs vs) (dd : h'.DictOf (Qv P w) a vs) :
  Jc P w H' h' a (.dK kvs) := ⟨z, hd, vs, rel, dd⟩
theorem LA {H' : Hp} {Q : Unit → Shared → Prop} (hu : A.units + 1 < cLine) (I : Inv X pins σ H s) (g : PM H a y v H') (ry : RelV y u) (rv : RelV v r) (h : ∀ s', Inv X pins σ H' s' → Q () s') :
  wpAny (model X.prog X.w) A (setItem (.ref a) u r) Q E s := by
 rcases g with ⟨kvs, k, e, ey, l, eH⟩ | ⟨kvs, k, b, e, ey, eb, l, eH⟩
 ·subst ey eH
  obtain ⟨z, hd, vs, rel, dd⟩ := Zdl I.hok e
  have hz : vs.length ≤ sizeLine := by rw [← rel.length]; exact z
  have hl : (putK kvs k v).length ≤ sizeLine := by have := K5 kvs k v; omega
  refine wpAny_setItem_pairs (hsz := hz) (T6 ry) dd fun h' dd' hs => h _ ?_
  have he : ∃ q, h'.get? a = some q := let ⟨q, _, _, hq, _⟩ := dd'; ⟨q, hq⟩
  exact EO I (by rw [e]; exact True.intro) hs he (ZbA hl hd (rel.put k rv) dd')
 ·subst ey eH
  cases (show u = Value.ref b from ry)
  obtain ⟨z, hd, xs, rel, dd⟩ := ZdO I.hok e
  have hz : xs.length ≤ sizeLine := by rw [← Paired.length rel]; exact z
  have hl : (putK kvs k v).length ≤ sizeLine := by have := K5 kvs k v; omega
  refine wpAny_setItem_heap (hsz := hz) (tupleKind_room_in1 hu) (PX I.hok eb) dd fun h' dd' hs => h _ ?_
  obtain ⟨q, es, ep, hq, h2, h3, h4, _, h5⟩ := dd'
  refine EO I (by rw [e]; exact True.intro) hs ⟨q, hq⟩ ⟨hl, hd, _, (rel.put k eb rv).keeps fun c ys ec => ?_, q, es, ep, hq, h2, h3, h4, h5⟩
  rw [ZZ (Zd1 ec e (fun z => nomatch z))]
  exact ec
end
section
variable {X : Cx} {pins : List (Addr × Obj)} {σ : St} {H : Hp} {s : Shared} {a : Addr} {kvs : List (Key × V)} {k : Key} {u : Value} {A : Around} {E : Value → Shared → Prop}
end
noncomputable def Zf2 (i : Expr) : Prop := ∀ ov iv, subscripted i false ov iv = operate [ov, iv] (getItem ov iv)
noncomputable def ZfG (td ty : TE) : TE := fun σ H Q => td σ H fun x H1 => ty σ H1 fun y H2 => ∃ a v, x = .ref a ∧ LW H2 a y (some v) ∧ Q v H2
noncomputable def Zf8 (ty td : TE) : TE := fun σ H Q => ty σ H fun y H1 => td σ H1 fun x H2 => ∃ a o, x = .ref a ∧ LW H2 a y o ∧ Q (.bl o.isSome) H2
noncomputable def Zc4 (ty td : TE) : TE := fun σ H Q => ty σ H fun y H1 => td σ H1 fun x H2 => ∃ a o, x = .ref a ∧ LW H2 a y o ∧ Q (.bl (!o.isSome)) H2
noncomputable def ZdV (td ty tv : TE) : TS := fun D σ H => tv σ H fun v H1 => td σ H1 fun x H2 => ty σ H2 fun y H3 => ∃ a H4, x = .ref a ∧ PM H3 a y v H4 ∧ D.nx σ H4
noncomputable def ZfU (td ty tv : TE) (rd : V → V → Hp → VK → Prop) : TS := fun D σ H => td σ H fun x H1 => ty σ H1 fun y H2 => ∃ a v, x = .ref a ∧ LW H2 a y (some v) ∧
 tv σ H2 fun y2 H3 => rd v y2 H3 fun z H4 => ∃ H5, PM H4 a y z H5 ∧ D.nx σ H5
noncomputable def Zfe (td ty : TE) : TS := fun D σ H => td σ H fun x H1 => ty σ H1 fun y H2 => ∃ a kvs k, x = .ref a ∧ H2 a = some (.dK kvs) ∧ y = kV k ∧ (UW kvs k).isSome = true ∧ D.nx σ (upd H2 a (.dK (FV kvs k)))
section
variable {X : Cx} {o i e value : Expr} {pos pos' tpos : Pos} {td ty tv : TE}
theorem Rn (hu : X.A.units + 1 < cLine) (ho : PE X o td) (hi : PE X i ty) (hv : PE X value tv) (hs : swapsWith value (some (.Subscript o i pos')) pos.line X.env = pure false) :
  PS X (.Assign [.Subscript o i pos'] value pos) (ZdV td ty tv) := by
 intro pins s σ H D I h
 refine wpAny_Assign_Subscript (thn (hv pins s σ H _ I h) fun r s1 ⟨v, H1, I1, rv, q1⟩ => thn (ho pins s1 σ H1 _ I1 q1) fun u s2 ⟨x, H2, I2, rx, q2⟩ => thn (hi pins s2 σ H2 _ I2 q2) fun iv s3 ⟨y, H3, I3, ry, a, H4, ex, g, q3⟩ => ?_) hs
 subst ex
 obtain rfl : u = Value.ref a := rx
 exact LA hu I3 g ry rv fun s4 I4 => ⟨σ, H4, I4, q3⟩
end
theorem Mg {P : Program} {w : World} {H : Hp} (h : Heap) (hb : sysModules < h.objs.size) : Jc P w H (h.push { cls := .type "dict", data := .dict #[] }) h.objs.size (.dT []) :=
 ⟨Nat.zero_le _, beq_eq_false_iff_ne.mpr (Ne.symm (Nat.ne_of_lt hb)), [], .nil, _, #[], 0, Heap.get?_push_size _ rfl, ⟨rfl, rfl, rfl⟩, rfl, rfl, List.nodup_nil⟩
noncomputable def Zew : TE := fun _ H Q => ∀ p, H p = none → Q (.ref p) (upd H p (.dK []))
noncomputable def Zcz : TE := fun _ H Q => ∀ p, H p = none → Q (.ref p) (upd H p (.dT []))
section
variable {X : Cx} {pos : Pos}
theorem MX : PE X (.Dict [] [] pos) Zcz := fun pins s σ H Q I h =>
 wpAny_Dict_empty ⟨.ref s.heap.objs.size, _, I.laid (a := s.heap.objs.size) (o := .dT []) (t' := s.toks) (fun _ _ q => Heap.get?_push_of_some _ q) (Nat.le_refl _) (Mg s.heap I.big), rfl, h _ (I.hok.fresh (Nat.le_refl _))⟩
end
noncomputable def Hi : List (TE × TE) → St → Hp → (List (V × V) → Hp → Prop) → Prop
 | [], _, H, Q => Q [] H
 | (tk, tv) :: r, σ, H, Q => tk σ H fun x H1 => tv σ H1 fun y H2 => Hi r σ H2 fun ps H3 => Q ((x, y) :: ps) H3
noncomputable abbrev VV : List (V × V) → List (Value × Value) → Prop := Paired fun p q => RelV p.1 q.1 ∧ RelV p.2 q.2
noncomputable def PPs (X : Cx) (pos : Pos) (keys : List (Option Expr)) (values : List Expr) (trs : List (TE × TE)) : Prop :=
 ∀ (pins : List (Addr × Obj)) (s : Shared) (σ : St) (H : Hp) (Q : List (V × V) → Hp → Prop), Inv X pins σ H s → Hi trs σ H Q →
  wpAny (model X.prog X.w) X.A (evalPairs (pairTrees keys values X.env pos)) (fun vs s' => ∃ ps H', Inv X pins σ H' s' ∧ VV ps vs ∧ Q ps H') X.xe s
noncomputable def ZcJ (kvs more : List (Key × V)) : List (Key × V) := more.foldl (fun acc kv => putK acc kv.1 kv.2) kvs
noncomputable def ZfQ (trs : List (TE × TE)) : TE := fun σ H Q => ∀ p, H p = none → Hi trs σ (upd H p (.dK [])) fun ps H2 => H2 p = some (.dK []) ∧ ∃ kvs : List (Key × V), ps = kvs.map (fun kv => (kV kv.1, kv.2)) ∧ kvs.length ≤ 15 ∧ Q (.ref p) (upd H2 p (.dK (ZcJ [] kvs)))
structure M1 (X : Cx) (o : Expr) (m : Str) (apos : Pos) (e : Expr) (cpos : Pos) : Prop where
 base : attributeBase o m X.env (eval o X.env) = eval o X.env
 few : ((backTo cpos (starEach [e] X.env)).all (fun x => !x.1) && (backToKw cpos (keywordEach [] X.env)).all (fun x => x.1.isSome)
  && decide (([e] : List Expr).length + ([] : List Keyword).length + (if ([] : List Keyword).isEmpty then 0 else 1) < 30)) = true
 line : (apos.endLine == cpos.line) = true
 trees : backTo cpos (starEach [e] X.env) = [(false, eval e X.env)]
structure M2 (X : Cx) (o : Expr) (m : Str) (apos : Pos) (e f : Expr) (cpos : Pos) : Prop where
 base : attributeBase o m X.env (eval o X.env) = eval o X.env
 few : ((backTo cpos (starEach [e, f] X.env)).all (fun x => !x.1) && (backToKw cpos (keywordEach [] X.env)).all (fun x => x.1.isSome)
  && decide (([e, f] : List Expr).length + ([] : List Keyword).length + (if ([] : List Keyword).isEmpty then 0 else 1) < 30)) = true
 line : (apos.endLine == cpos.line) = true
 trees : backTo cpos (starEach [e, f] X.env) = [(false, eval e X.env), (false, eval f X.env)]
noncomputable def IsD (H : Hp) (a : Addr) : Prop := (∃ kvs, Rd H a (.dK kvs)) ∨ ∃ kvs, Rd H a (.dT kvs)
section
variable {X : Cx} {pins : List (Addr × Obj)} {σ : St} {H : Hp} {s : Shared} {a : Addr} {y d : V} {u r : Value} {o : Option V} {A : Around} {E : Value → Shared → Prop}
end
noncomputable def ZeW (td ty : TE) : TE := fun σ H Q => td σ H fun x H1 => ∃ a, x = .ref a ∧ IsD H1 a ∧ ty σ H1 fun y H2 => ∃ o, LW H2 a y o ∧ Q (o.getD .non) H2
noncomputable def ZeA (td ty tx : TE) : TE := fun σ H Q => td σ H fun x H1 => ∃ a, x = .ref a ∧ IsD H1 a ∧ ty σ H1 fun y H2 => tx σ H2 fun z H3 => ∃ o, LW H3 a y o ∧ Q (o.getD z) H3
noncomputable def ZeM (td ty : TE) : TE := fun σ H Q => td σ H fun x H1 => ∃ a, x = .ref a ∧ IsD H1 a ∧ ty σ H1 fun y H2 => ∃ kvs k v, H2 a = some (.dK kvs) ∧ y = kV k ∧ UW kvs k = some v ∧ Q v (upd H2 a (.dK (FV kvs k)))
noncomputable def ZeQ (td ty tx : TE) : TE := fun σ H Q => td σ H fun x H1 => ∃ a, x = .ref a ∧ IsD H1 a ∧ ty σ H1 fun y H2 => tx σ H2 fun z H3 => ∃ kvs k, H3 a = some (.dK kvs) ∧ y = kV k ∧
 (∀ v, UW kvs k = some v → Q v (upd H3 a (.dK (FV kvs k)))) ∧ (UW kvs k = none → Q z H3)
section
variable {X : Cx} {o e f : Expr} {apos cpos : Pos} {td ty tx : TE}
end
section
variable {X : Cx} {pins : List (Addr × Obj)} {σ : St} {H : Hp} {s : Shared} {a : Addr} {kvs : List (Key × V)} {A : Around} {E : Value → Shared → Prop}
end
section
variable {X : Cx} {pins : List (Addr × Obj)} {σ : St} {H : Hp} {s : Shared} {a : Addr} {y : V} {u : Value} {A : Around} {E : Value → Shared → Prop}
end
end L2
namespace Att
open PySem PySem.W PySem.Calls PyProof.Rows
theorem Wa {P : Params} {h : Heap} : ∀ (ns : List Int) (vs : List Value), WellAll P h vs (ns.map WData.int) → IntsAre vs ns := by
 intro ns
 induction ns with
 | nil =>
  intro vs w
  rw [List.map_nil] at w
  cases w
  exact .nil
 | cons n ns ih =>
  intro vs w
  rw [List.map_cons] at w
  cases w with
  | cons a b =>
   cases a
   exact .cons _ _ (ih _ b)
theorem Hx {l : OpenLaw} {n : Nat} (hn : l.most = some n) {P : Params} {h : Heap} {args : List WData} {vals : List Value}
  (hpre : l.row.toRowW.claim.pre args = true) (hwl : WellAll P h vals args) :
  ∃ a vs ns, vals = [Value.ref a] ∧ args = [WData.list (ns.map WData.int)] ∧ h.get? a = some { cls := .type "list", data := .seq vs.toArray } ∧ IntsAre vs ns ∧ ns.length ≤ n := by
 have hsh : WShape.hasAll [] args [.list .int] = true := (pre_splitW hpre).1
 have hc : l.pre.holds [] { args := args } = true := (pre_splitW hpre).2
 obtain ⟨d, r, rfl, h1, h2⟩ := hasAllW_cons hsh
 obtain rfl := hasAllW_nil h2
 obtain ⟨xs, rfl, h3⟩ := hasW_list h1
 obtain ⟨ns, rfl⟩ := items_int h3
 have hlen : ns.length ≤ n := by
  unfold OpenLaw.pre at hc
  have h4 : (WTm.not (.lt (.lit (.int (n : Int))) (.len (.arg 0)))).holds [] { args := [.list (ns.map .int)] } = true := by
   have h4 := (holds_andW hc).1
   rw [hn] at h4
   exact h4
  have h5 := condW_of h4 (w_not (w_lt w_lit (w_len_list (w_arg rfl))))
  rw [List.length_map] at h5
  refine Nat.le_of_not_lt fun q => ?_
  have q' : (n : Int) < ((ns.length : Nat) : Int) := by omega
  first
   | (rw [decide_eq_true q'] at h5; exact absurd h5 (by decide))
   | (simp at h5; omega)
 cases hwl with
 | cons w1 w2 =>
  cases w2
  cases w1 with
  | list ho hall => exact ⟨_, _, ns, rfl, rfl, ho, Wa ns _ hall, hlen⟩
theorem LB (l : OpenLaw) (args : List WData) : l.row.toRowW.claim.post args (.bool true) args = true :=
 postW_of (r := l.row.toRowW) (X := (true == true))
  (show WShape.has [] (.bool true) .bool = true by first | rfl | decide | simp [WShape.has, WShape.arms, WShape.armsAll])
  (show (WTm.eq .res (.lit (.bool true))).value [] { args := args, res := some (.bool true), after := args } = some (.bool (true == true)) from w_eq_bool (w_res rfl) w_lit) rfl
theorem BL {l : OpenLaw} {n : Nat} {q : Program} {loose : List Str} {XP : (Str → Option Value) → Heap → Prop} {YP : World → Heap → Prop} {d : DefRec}
  (hn : l.most = some n) (hdf : d.params.defaults = [])
  (call : ∀ (w : World) (s₀ s₁ : Shared) (mg mb : Str → Option Value) (fa : Addr) (o : Obj) (pm cd doc : Value) (a : Addr) (vs : List Value) (ns : List Int),
   Ground q loose [] XP w s₀ mg mb s₁.heap → YP w s₁.heap →
   s₁.heap.get? fa = some o → o.data = .func (docDef d.name d.params d.body d.scope pm cd doc) → s₁.heap.CodeRec cd d.name → mg d.name = some (.ref fa) →
   s₁.heap.get? a = some { cls := .type "list", data := .seq vs.toArray } → IntsAre vs ns → ns.length ≤ n → s₁.gens = #[] →
   codeAny (model l.prog w) callerA (.call (.ref fa) ⟨[.ref a], []⟩) (fun r s' => r = .ok (.ret (.bool true)) ∧ OldK s₁.heap s'.heap ∧ s'.os = s₁.os ∧ AllBare s'.gens) s₁) :
  WalkO q loose XP YP l.row.toRowW d [] (fun f vs => PySem.call f vs) := by
 intro w s₀ s₁ mg mb G Y fa o pm cd doc dV kV ho hd hcd hD hmg hg args vals as hpre hlay hrd hwl hlo
 obtain rfl : dV = .none := Dflts.none hD hdf
 obtain rfl : kV = .none := Dflts.noKw hD
 obtain ⟨a, vs, ns, rfl, rfl, hobj, hints, hlen⟩ := Hx hn hpre hwl
 refine enter_call (codeAny_mono (call w s₀ s₁ mg mb fa o pm cd doc a vs ns G Y ho (fd_plain hd) hcd hmg hobj hints hlen hg) fun r s' hq => ?_)
 obtain ⟨rfl, h2, h3, h4⟩ := hq
 exact ⟨.inl ⟨.bool true, .bool true, [], rfl, fun _ => rfl, .bool true, LB l _, fun _ => ⟨List.Pairwise.nil, fun _ hm => (nomatch hm)⟩⟩, h2, h3, h4⟩
section
variable {prog : Program} {w : World} {A : Around} {E : Value → Shared → Prop} {s : Shared} {K : Frag}
noncomputable def Ze6 (h : Heap) : Heap := { h with objs := #[] }
noncomputable def ledger (h : Heap) (L d : Addr) : List (Addr × Obj) := (List.range h.objs.size).filterMap fun a => if a = L ∨ a = d then none else (h.get? a).map fun o => (a, o)
end
end Att
namespace L2
open PySem PySem.Spec PyProof.Rows
theorem Kv : ∀ {vs : List Value} {ns : List Int}, IntsAre vs ns → Vals (ns.map V.int) vs
 | _, _, .nil => .nil
 | _, _, .cons n t h => .cons ⟨t, rfl⟩ (Kv h)
noncomputable def ZcO (H : Hp) : Prop := ∀ b, H b = none ∨ ∃ o xs, H b = some (.frz o (.lst xs))
theorem NU {P : Program} {w : World} {K : PySem.W.Frag} {mg mb : Str → Option Value} {CX : CXT} {k : Nat} {fa a : Addr} {fd : FuncData} {x : Str} {sp : Sp} {s₁ : Shared} {vs : List Value} {ns : List Int}
  (KX : K.In s₁.heap) (hns : s₁.heap.Ns mainGlobals mg) (hb : s₁.heap.Ns builtinsNs mb) (hbb : ∀ x : Str, x ≠ "__name__" → mb x = bootBuiltins x) (hlim : s₁.heap.NoLimit) (hg : s₁.gens = #[])
  (ha : s₁.heap.get? a = some { cls := .type "list", data := .seq vs.toArray }) (hi : IntsAre vs ns) (hl : ns.length ≤ sizeLine) (hr : Xc k callerA)
  (F : ∀ base : Heap, K.In base → base.Ns mainGlobals mg → ZC P w K mg base CX k fa fd [x] sp) (hbind : ∀ (s : Shared) (u : Value), BindsTo s fd ⟨[u], []⟩ [(x, u)])
  (hsp : ∀ H : Hp, ZcO H → SqL K H a (ns.map V.int) → sp [.ref a] H (fun v _ => v = .bl true) fun _ _ _ => False)
  (hCX : ∀ H e s', CX [] H s₁ (fun _ _ _ => False) e s' → False) :
  codeAny (model P w) callerA (.call (.ref fa) ⟨[.ref a], []⟩) (fun r s' => r = .ok (.ret (.bool true)) ∧ OldK s₁.heap s'.heap ∧ s'.os = s₁.os ∧ AllBare s'.gens) s₁ := by
 have rv := Kv hi
 have lenV := hi.length
 have core : ∀ H : Hp, ZcO H → SqL K H a (ns.map V.int) → HOk P w H s₁.heap → (∀ b, H b ≠ none → b = a) → (H a ≠ none → K.lookup a = none) →
   codeAny (model P w) callerA (.call (.ref fa) ⟨[.ref a], []⟩) (fun r s' => r = .ok (.ret (.bool true)) ∧ OldK s₁.heap s'.heap ∧ s'.os = s₁.os ∧ AllBare s'.gens) s₁ := by
  intro H hO hS hok hA hK
  have base_of : ∀ {b : Addr} {o : Obj}, s₁.heap.get? b = some o → H b = none → (Oc s₁.heap H).get? b = some o := fun e n => MV e n
  have noA : ∀ {b : Addr} {o : Obj} {es : Array DictEntry} {ep : Nat}, s₁.heap.get? b = some o → o.data = .dict es ep → H b = none := fun {b o es ep} e d => by
   cases q : H b with
   | none => rfl
   | some u =>
    have e' : b = a := hA b (by rw [q]; simp)
    subst e'
    rw [ha] at e; cases e
    have d' : Data.seq vs.toArray _ = Data.dict es ep := d
    cases d'
  have nsK : ∀ {b : Addr} {m : Str → Option Value}, s₁.heap.Ns b m → (Oc s₁.heap H).Ns b m := fun {b m} ⟨o, es, ep, e, d, r⟩ => ⟨o, es, ep, base_of e (noA e d), d, r⟩
  have hKb : K.In (Oc s₁.heap H) := fun b o e => base_of (KX b o e) (by
   cases q : H b with
   | none => rfl
   | some u =>
    have e' : b = a := hA b (by rw [q]; simp)
    subst e'
    rw [hK (by rw [q]; simp)] at e; cases e)
  have hM : Mod K mg (Oc s₁.heap H) := ⟨hKb, nsK hns, ⟨mb, nsK hb, hbb⟩, let ⟨mc, h1, h2⟩ := hlim; ⟨mc, nsK h1, h2⟩⟩
  have e0 : ZcY P w K mg (Oc s₁.heap H) callerA [] s₁ H := ⟨rfl, hM, fun b o e => RM e, Nat.le_of_eq (Ly _ _), trivial, fun b hb => absurd (show b ∈ ([] : List Addr) from hb) (by simp), hok, .of_eq hg⟩
  refine codeAny_mono ((F _ hKb (nsK hns)).run callerA [] s₁ H ⟨[.ref a], []⟩ [.ref a] [.ref a] _ _ hr e0 (hbind s₁ (.ref a)) (.cons rfl .nil) (hsp H hO hS)) fun r s' h => ?_
  cases r with
  | error e => exact (hCX H e s' h).elim
  | ok fl =>
   cases fl with
   | next => exact False.elim h
   | brk => exact False.elim h
   | cont => exact False.elim h
   | ret u =>
    obtain ⟨v, H', os, bare, un, hok', r', q⟩ := h
    have q' : v = .bl true := q
    subst q'
    obtain rfl : u = Value.bool true := r'
    refine ⟨rfl, OldK.of_keep fun b o e => ?_, os, bare⟩
    cases q : H b with
    | none => exact un.keep b o e q (by intro z; exact absurd (show b ∈ ([] : List Addr) from z) (by simp)) (by simp)
    | some u =>
     rcases hO b with z | ⟨ob, xs, z⟩
     ·rw [q] at z; cases z
     ·have z2 := un.frzs b ob _ z
      obtain ⟨e1, _⟩ := hok b _ z
      obtain ⟨e2, _⟩ := hok' b _ z2
      rw [e] at e1; cases e1
      exact e2
 cases hk : K.lookup a with
 | some o =>
  have e := KX a o hk
  rw [ha] at e
  cases e
  refine core (fun _ => none) (fun _ => .inl rfl) (.inr ⟨_, vs.toArray, _, hk, rfl, rfl, rfl, by rw [List.size_toArray, lenV]; exact hl, by simpa using rv⟩) (fun b u z => by have z' : (none : Option HO) = some u := z; cases z') (fun b z => absurd rfl z) fun z => absurd rfl z
 | none =>
  refine core (fun b => if b = a then some (.frz { cls := .type "list", data := .seq vs.toArray } (.lst (ns.map V.int))) else none) (fun b => ?_) (.inl (.inr ⟨{ cls := .type "list", data := .seq vs.toArray }, if_pos rfl⟩)) (fun b u z => ?_) (fun b z => ?_) fun _ => hk
  ·by_cases hb : b = a
   ·exact .inr ⟨_, _, if_pos hb⟩
   ·exact .inl (if_neg hb)
  ·by_cases hb : b = a
   ·have z' := (if_pos hb).symm.trans z
    cases z'
    subst hb
    exact ⟨ha, by rw [List.length_map]; exact hl, vs, _, rv, ha⟩
   ·have z' := (if_neg hb).symm.trans z
    cases z'
  ·by_cases hb : b = a
   ·exact hb
   ·exact absurd (if_neg hb) z
end L2
namespace L2
open PySem PySem.Spec PyProof.Rows
noncomputable abbrev KOf {K : PySem.W.Frag} {h : Heap} (_ : K.In h) : PySem.W.Frag := K
theorem Rg {l : PySem.W.OpenLaw} {n k : Nat} {q : Program} {loose : List Str} {XP : (Str → Option Value) → Heap → Prop} {YP : World → Heap → Prop} {d : DefRec} {K : Params → PySem.W.Frag} {CX : World → CXT} {sp : World → Sp} {x : Str}
  (hn : l.most = some n) (hn2 : n ≤ sizeLine) (hdf : d.params.defaults = []) (hr : Xc k callerA)
  (hY : ∀ (w : World) (h : Heap), YP w h → (K w.params).In h)
  (F : ∀ (w : World) (mg : Str → Option Value) (fa : Addr) (h : Heap), (K w.params).In h → h.Ns mainGlobals mg → mg d.name = some (.ref fa) →
   ∃ fd : FuncData, (∀ (s : Shared) (u : Value), BindsTo s fd ⟨[u], []⟩ [(x, u)]) ∧
    ∀ base : Heap, (K w.params).In base → base.Ns mainGlobals mg → ZC l.prog w (K w.params) mg base (CX w) k fa fd [x] (sp w))
  (hsp : ∀ (w : World) (H : Hp) (a : Addr) (ns : List Int), ns.length ≤ n → ZcO H → SqL (K w.params) H a (ns.map V.int) → sp w [.ref a] H (fun v _ => v = .bl true) fun _ _ _ => False)
  (hCX : ∀ (w : World) (H : Hp) (s : Shared) (e : Value) (s' : Shared), CX w [] H s (fun _ _ _ => False) e s' → False) :
  PySem.W.WalkO q loose XP YP l.row.toRowW d [] (fun f vs => PySem.call f vs) := by
 refine Att.BL hn hdf fun w s₀ s₁ mg mb fa o pm cd doc a vs ns G Y ho hd hcd hmg hobj hints hlen hg => ?_
 have KX := hY w _ Y
 obtain ⟨fd, hb, hF⟩ := F w mg fa _ KX G.T.g hmg
 exact NU KX G.T.g G.T.b G.T.builtins G.T.nolimit hg hobj hints (Nat.le_trans hlen hn2) hr hF hb (fun H hO hS => hsp w H a ns hlen hO hS) fun H e s' => hCX w H s₁ e s'
end L2
namespace L2
open PySem PySem.Spec PyProof.Rows
noncomputable def inClass (s : Stmt) (j : Nat) : Stmt := match s with
 | .ClassDef _ _ _ body _ _ _ _ _ _ _ => body.getD j (.Pass ⟨0, 0, 0, 0⟩)
 | _ => .Pass ⟨0, 0, 0, 0⟩
noncomputable def Zv (s : Stmt) : Arguments := match s with
 | .FunctionDef _ a _ _ _ _ _ _ _ _ => a
 | _ => { posonlyargs := [], args := [], vararg := none, kwonlyargs := [], kw_defaults := [], kwarg := none, defaults := [] }
noncomputable def Zt (s : Stmt) : List Stmt := match s with
 | .FunctionDef _ _ b _ _ _ _ _ _ _ => b
 | _ => []
noncomputable def Zf (s : Stmt) : Scope := match s with
 | .FunctionDef _ _ _ _ _ _ sc _ _ _ => sc
 | _ => { kind := .function, names := [], isGenerator := false, isCoroutine := false }
noncomputable abbrev CX0 : CXT := fun _ _ _ _ _ _ => False
noncomputable abbrev E0 : XK := fun _ _ _ => False
theorem Zr {X : Cx} : Passes CX0 X E0 := fun _ _ _ _ _ _ _ h => h.elim
structure Fun (K : PySem.W.Frag) (x qual : Str) (st : Stmt) (f : Addr) (fd : FuncData) : Prop where
 ex : ∃ (oc : Value) (od : Option Addr) (kV doc pm : Value) (an : Option Addr) (cdv ct : Value) (osl : Array (Option Value)),
  fd = PySem.W.fnOf x qual (Zv st) (Zt st) (Zf st) .none kV doc pm an cdv ct ∧ K.lookup f = some ⟨oc, od, .func fd, osl⟩ ∧ PySem.W.codeIn K cdv qual = true
 kp : PySem.W.keepIn K (.ref f) = true
section
variable {P : Program} {w : World} {K : PySem.W.Frag} {mg : Str → Option Value} {base : Heap}
theorem Fun.ok {x qual : Str} {st : Stmt} {f : Addr} {fd : FuncData} {N ps : List Str} {k : Nat} {sp : Sp} (F : Fun K x qual st f fd) (S : Zu N ps (Zf st)) (len : ∀ vs H Q E, sp vs H Q E → vs.length = ps.length)
  (hbody : ∀ (cdv : Value) (A : Around) (outer : List Env) (s : Shared) (H : Hp) (vs : List V) (Q : VK) (E : XK), Xc k (A.deeper (envOfC qual (Zf st) s.heap.objs.size f cdv)) → sp vs H Q E →
   ∃ t, PSs (O7 CX0 P w K mg base N qual (Zf st) f cdv A outer s H E).nox (Zt st) t ∧ t { nx := fun _ H' => Q .non H', rt := Q } (start N vs) H) : ZC P w K mg base CX0 (k + 1) f fd ps sp := by
 obtain ⟨oc, od, kV, doc, pm, an, cdv, ct, osl, rfl, lk, hcd⟩ := F.ex
 refine Zd4 lk hcd S len fun A outer s H vs Q E hr hsp => ?_
 obtain ⟨t, h, q⟩ := hbody cdv A outer s H vs Q E hr hsp
 exact ⟨t, h.nox, q⟩
theorem Fun.binds {x qual : Str} {st : Stmt} {f : Addr} {fd : FuncData} {ps : List Str} (F : Fun K x qual st f fd)
  (h : ∀ (kV doc pm : Value) (an : Option Addr) (cdv ct : Value) (us : List Value), us.length = ps.length → bindArgs (PySem.W.fnOf x qual (Zv st) (Zt st) (Zf st) .none kV doc pm an cdv ct) ⟨us, []⟩ = pure (ps.zip us)) : Binds K fd ps [] := by
 obtain ⟨oc, od, kV, doc, pm, an, cdv, ct, osl, rfl, lk, hcd⟩ := F.ex
 exact .all (h kV doc pm an cdv ct)
theorem Zz {x qual : Str} {st : Stmt} {f : Addr} {oc : Value} {od an : Option Addr} {osl : Array (Option Value)} {kV doc pm cdv ct : Value} (l : K.lookup f = some ⟨oc, od, .func (PySem.W.fnOf x qual (Zv st) (Zt st) (Zf st) .none kV doc pm an cdv ct), osl⟩)
  (c : PySem.W.codeIn K cdv qual = true) (k : PySem.W.keepIn K (.ref f) = true) : Fun K x qual st f (PySem.W.fnOf x qual (Zv st) (Zt st) (Zf st) .none kV doc pm an cdv ct) := ⟨⟨oc, od, kV, doc, pm, an, cdv, ct, osl, rfl, l, c⟩, k⟩
end
section
variable {X : Cx}
end
noncomputable def TB (H H' : Hp) : Prop := ∀ b o, H b = some o → H' b = some o
theorem TB.refl (H : Hp) : TB H H := fun _ _ h => h
theorem TB.trans {H H1 H2 : Hp} (a : TB H H1) (b : TB H1 H2) : TB H H2 := fun c o h => b c o (a c o h)
end L2
namespace DL
open PySem PySem.Spec PyProof.Rows L2
inductive OO where
 | lst (ds : List PyData)
  | dct (ks : List (List Key))
  | dtv (kvs : List (List Key × PyData))
  | dkv (kvs : List (Key × PyData))
  | ext (φ : Heap → Prop)
noncomputable abbrev Mp := Addr → Option OO
noncomputable def Z3 (M : Mp) (a : Addr) (o : OO) : Mp := fun b => if b = a then some o else M b
noncomputable def Ke (M : Mp) (a : Addr) : Mp := fun b => if b = a then none else M b
theorem ZH {M : Mp} {a : Addr} {o : OO} : Z3 M a o a = some o := by unfold Z3; rw [if_pos rfl]
theorem Qh {M : Mp} {a b : Addr} {o : OO} (h : b ≠ a) : Z3 M a o b = M b := by unfold Z3; rw [if_neg h]
theorem HZ {M : Mp} {a : Addr} {o u : OO} : Z3 (Z3 M a o) a u = Z3 M a u := by
 funext b; unfold Z3; split <;> rfl
theorem GO {M : Mp} {a : Addr} : Ke M a a = none := by unfold Ke; rw [if_pos rfl]
theorem UD {M : Mp} {a b : Addr} (h : b ≠ a) : Ke M a b = M b := by unfold Ke; rw [if_neg h]
noncomputable def kD : Key → PyData
 | .inl i => .int i
 | .inr x => .str x
noncomputable def KTu (K : PySem.W.Frag) (a : Addr) (xs : List V) : Prop :=
 ∃ (o : Obj) (its : Array Value) (n : Nat), K.lookup a = some o ∧ o.cls = .type "tuple" ∧ o.data = .seq its n ∧ its.size ≤ sizeLine ∧ Vals xs its.toList
noncomputable def KLs (K : PySem.W.Frag) (a : Addr) (xs : List V) : Prop :=
 ∃ (o : Obj) (its : Array Value) (n : Nat), K.lookup a = some o ∧ o.cls = .type "list" ∧ o.dict = none ∧ o.data = .seq its n ∧ its.size ≤ sizeLine ∧ Vals xs its.toList
noncomputable def TupAt (K : PySem.W.Frag) (M : Mp) (H : Hp) (a : Addr) (xs : List V) : Prop := (M a = none ∧ Rd H a (.tup xs)) ∨ KTu K a xs
noncomputable def LstAt (K : PySem.W.Frag) (M : Mp) (H : Hp) (a : Addr) (xs : List V) : Prop := (M a = none ∧ Rd H a (.lst xs)) ∨ KLs K a xs
theorem TupAt.sq {K : PySem.W.Frag} {M : Mp} {H : Hp} {a : Addr} {xs : List V} (h : TupAt K M H a xs) : SqT K H a xs := by
 rcases h with ⟨_, h⟩ | h
 ·exact .inl h
 ·exact .inr h
theorem LstAt.sq {K : PySem.W.Frag} {M : Mp} {H : Hp} {a : Addr} {xs : List V} (h : LstAt K M H a xs) : SqL K H a xs := by
 rcases h with ⟨_, h⟩ | h
 ·exact .inl h
 ·exact .inr h
mutual
inductive Dt (K : PySem.W.Frag) (M : Mp) (H : Hp) : V → PyData → Prop
 | non : Dt K M H .non .none
 | bl (b : Bool) : Dt K M H (.bl b) (.bool b)
 | int (i : Int) : Dt K M H (.int i) (.int i)
 | str (x : Str) : Dt K M H (.str x) (.str x)
 | tup {a : Addr} {xs : List V} {ds : List PyData} : TupAt K M H a xs → Dts K M H xs ds → Dt K M H (.ref a) (.tuple ds)
 | lst {a : Addr} {xs : List V} {ds : List PyData} : LstAt K M H a xs → Dts K M H xs ds → Dt K M H (.ref a) (.list ds)
 | dK {a : Addr} {kvs : List (Key × V)} {ds : List PyData} : M a = none → H a = some (.dK kvs) → Dts K M H (kvs.map (·.2)) ds → Dt K M H (.ref a) (.dict ((kvs.map fun kv => kD kv.1).zip ds))
 | dT {a : Addr} {kvs : List (List Key × V)} {ds : List PyData} : M a = none → H a = some (.dT kvs) → Dts K M H (kvs.map (·.2)) ds → Dt K M H (.ref a) (.dict ((kvs.map fun kv => PyData.tuple (kv.1.map kD)).zip ds))
 | dX {a b : Addr} {φ : Heap → Prop} {v : V} {dk d : PyData} : M a = none → H a = some (.ext φ) → (a == sysModules) = false →
   (∀ h, φ h → ∃ o es n u, h.get? a = some o ∧ o.cls = .type "dict" ∧ o.data = .dict es n ∧ es.toList.map (·.key) = [.ref b] ∧ es.toList.map (·.val) = [u] ∧ RelV v u) → Dt K M H (.ref b) dk → Dt K M H v d → Dt K M H (.ref a) (.dict [(dk, d)])
inductive Dts (K : PySem.W.Frag) (M : Mp) (H : Hp) : List V → List PyData → Prop
 | nil : Dts K M H [] []
 | cons {x : V} {xs : List V} {d : PyData} {ds : List PyData} : Dt K M H x d → Dts K M H xs ds → Dts K M H (x :: xs) (d :: ds)
end
structure Step (M : Mp) (H : Hp) (M' : Mp) (H' : Hp) : Prop where
 keep : ∀ b o, M b = none → H b = some o → H' b = some o
 free : ∀ b o, M b = none → H b = some o → M' b = none
theorem Step.refl {M : Mp} {H : Hp} : Step M H M H := ⟨fun _ _ _ h => h, fun _ _ h _ => h⟩
theorem Step.trans {M M1 M2 : Mp} {H H1 H2 : Hp} (a : Step M H M1 H1) (b : Step M1 H1 M2 H2) : Step M H M2 H2 :=
 ⟨fun c o h1 h2 => b.keep c o (a.free c o h1 h2) (a.keep c o h1 h2), fun c o h1 h2 => b.free c o (a.free c o h1 h2) (a.keep c o h1 h2)⟩
section
variable {K : PySem.W.Frag} {M M' : Mp} {H H' : Hp}
theorem FD {a : Addr} {u : HO} (st : Step M H M' H') (hm : M a = none) (h : Rd H a u) : M' a = none ∧ Rd H' a u := by
 rcases h with h | ⟨o, h⟩
 ·exact ⟨st.free _ _ hm h, .inl (st.keep _ _ hm h)⟩
 ·exact ⟨st.free _ _ hm h, .inr ⟨o, st.keep _ _ hm h⟩⟩
theorem TupAt.step {a : Addr} {xs : List V} (h : TupAt K M H a xs) (st : Step M H M' H') : TupAt K M' H' a xs := by
 rcases h with ⟨h1, h2⟩ | h
 ·exact .inl (FD st h1 h2)
 ·exact .inr h
theorem LstAt.step {a : Addr} {xs : List V} (h : LstAt K M H a xs) (st : Step M H M' H') : LstAt K M' H' a xs := by
 rcases h with ⟨h1, h2⟩ | h
 ·exact .inl (FD st h1 h2)
 ·exact .inr h
mutual
theorem Dt.step (st : Step M H M' H') : ∀ {v : V} {d : PyData}, Dt K M H v d → Dt K M' H' v d
 | _, _, .non => .non
 | _, _, .bl b => .bl b
 | _, _, .int i => .int i
 | _, _, .str x => .str x
 | _, _, .tup h1 h2 => .tup (h1.step st) (Dts.step st h2)
 | _, _, .lst h1 h2 => .lst (h1.step st) (Dts.step st h2)
 | _, _, .dK h0 h1 h2 => .dK (st.free _ _ h0 h1) (st.keep _ _ h0 h1) (Dts.step st h2)
 | _, _, .dT h0 h1 h2 => .dT (st.free _ _ h0 h1) (st.keep _ _ h0 h1) (Dts.step st h2)
 | _, _, .dX h0 h1 h2 h3 h4 h5 => .dX (st.free _ _ h0 h1) (st.keep _ _ h0 h1) h2 h3 (Dt.step st h4) (Dt.step st h5)
theorem Dts.step (st : Step M H M' H') : ∀ {vs : List V} {ds : List PyData}, Dts K M H vs ds → Dts K M' H' vs ds
 | _, _, .nil => .nil
 | _, _, .cons h1 h2 => .cons (Dt.step st h1) (Dts.step st h2)
end
theorem Dts.length : ∀ {vs : List V} {ds : List PyData}, Dts K M H vs ds → vs.length = ds.length
 | _, _, .nil => rfl
 | _, _, .cons _ h => by rw [List.length_cons, List.length_cons, Dts.length h]
theorem Dts.get : ∀ {vs : List V} {ds : List PyData} {i : Nat} {d : PyData}, Dts K M H vs ds → ds[i]? = some d → ∃ v, vs[i]? = some v ∧ Dt K M H v d
 | _, _, _, _, .nil, e => by simp at e
 | _, _, 0, _, .cons h _, e => by simp at e; subst e; exact ⟨_, rfl, h⟩
 | _, _, i + 1, d, .cons _ h, e => by
  obtain ⟨v, h1, h2⟩ := Dts.get (i := i) (d := d) h (by simpa using e)
  exact ⟨v, by simpa using h1, h2⟩
theorem Dts.Tw : ∀ {vs : List V} {ds : List PyData} {i : Nat} {v : V}, Dts K M H vs ds → vs[i]? = some v → ∃ d, ds[i]? = some d ∧ Dt K M H v d
 | _, _, _, _, .nil, e => by simp at e
 | _, _, 0, _, .cons h _, e => by simp at e; subst e; exact ⟨_, rfl, h⟩
 | _, _, i + 1, v, .cons _ h, e => by
  obtain ⟨d, h1, h2⟩ := Dts.Tw (i := i) (v := v) h (by simpa using e)
  exact ⟨d, by simpa using h1, h2⟩
theorem Dts.append : ∀ {vs ws : List V} {ds es : List PyData}, Dts K M H vs ds → Dts K M H ws es → Dts K M H (vs ++ ws) (ds ++ es)
 | _, _, _, _, .nil, h => h
 | _, _, _, _, .cons h1 h2, h => .cons h1 (Dts.append h2 h)
theorem Dts.take : ∀ {vs : List V} {ds : List PyData} (n : Nat), Dts K M H vs ds → Dts K M H (vs.take n) (ds.take n)
 | _, _, 0, _ => .nil
 | _, _, _ + 1, .nil => .nil
 | _, _, n + 1, .cons h1 h2 => .cons h1 (Dts.take n h2)
theorem Dts.drop : ∀ {vs : List V} {ds : List PyData} (n : Nat), Dts K M H vs ds → Dts K M H (vs.drop n) (ds.drop n)
 | _, _, 0, h => h
 | _, _, _ + 1, .nil => .nil
 | _, _, n + 1, .cons _ h2 => Dts.drop n h2
theorem Dts.set {v : V} {d : PyData} (h : Dt K M H v d) : ∀ {vs : List V} {ds : List PyData} (i : Nat), Dts K M H vs ds → Dts K M H (vs.set i v) (ds.set i d)
 | _, _, _, .nil => .nil
 | _, _, 0, .cons _ t => .cons h t
 | _, _, i + 1, .cons q t => .cons q (Dts.set h i t)
theorem Dts.ints : ∀ (ns : List Int), Dts K M H (ns.map V.int) (ns.map PyData.int)
 | [] => .nil
 | n :: ns => .cons (.int n) (Dts.ints ns)
theorem Xt : ∀ {vs : List V} {ns : List Int}, Dts K M H vs (ns.map PyData.int) → vs = ns.map V.int
 | vs, [], h => by
  rw [List.map_nil] at h
  cases h
  rfl
 | vs, n :: ns, h => by
  rw [List.map_cons] at h
  cases h with
  | cons h1 h2 =>
   cases h1
   rw [Xt h2, List.map_cons]
noncomputable def OOk (K : PySem.W.Frag) (M : Mp) (H : Hp) (a : Addr) : OO → Prop
 | .lst ds => ∃ vs, H a = some (.lst vs) ∧ Dts K M H vs ds
 | .dct ks => ∃ kvs, H a = some (.dT kvs) ∧ kvs.map (·.1) = ks
 | .dtv ps => ∃ kvs, H a = some (.dT kvs) ∧ kvs.map (·.1) = ps.map (·.1) ∧ Dts K M H (kvs.map (·.2)) (ps.map (·.2))
 | .dkv ps => ∃ kvs, H a = some (.dK kvs) ∧ kvs.map (·.1) = ps.map (·.1) ∧ Dts K M H (kvs.map (·.2)) (ps.map (·.2))
 | .ext φ => H a = some (.ext φ)
theorem OOk.step {a : Addr} {o : OO} (h : OOk K M H a o) (st : Step M H M' H') (e : ∀ u, H a = some u → H' a = some u) : OOk K M' H' a o := by
 cases o with
 | lst ds => obtain ⟨vs, e1, e2⟩ := h; exact ⟨vs, e _ e1, e2.step st⟩
 | dct ks => obtain ⟨vs, e1, e2⟩ := h; exact ⟨vs, e _ e1, e2⟩
 | dtv ps => obtain ⟨vs, e1, e2, e3⟩ := h; exact ⟨vs, e _ e1, e2, e3.step st⟩
 | dkv ps => obtain ⟨vs, e1, e2, e3⟩ := h; exact ⟨vs, e _ e1, e2, e3.step st⟩
 | ext φ => exact e _ h
theorem OOk.some {a : Addr} {o : OO} (h : OOk K M H a o) : ∃ u, H a = some u := by
 cases o with
 | lst ds => obtain ⟨vs, e1, _⟩ := h; exact ⟨_, e1⟩
 | dct ks => obtain ⟨vs, e1, _⟩ := h; exact ⟨_, e1⟩
 | dtv ps => obtain ⟨vs, e1, _⟩ := h; exact ⟨_, e1⟩
 | dkv ps => obtain ⟨vs, e1, _⟩ := h; exact ⟨_, e1⟩
 | ext φ => exact ⟨_, h⟩
structure Z8 (K : PySem.W.Frag) (M : Mp) (H : Hp) : Prop where
 ok : ∀ a o, M a = some o → OOk K M H a o
theorem Z8.ls (r : Z8 K M H) (a : Addr) (ds : List PyData) (h : M a = some (.lst ds)) : ∃ vs, H a = some (.lst vs) ∧ Dts K M H vs ds := r.ok a _ h
theorem Z8.dc (r : Z8 K M H) (a : Addr) (ks : List (List Key)) (h : M a = some (.dct ks)) : ∃ kvs, H a = some (.dT kvs) ∧ kvs.map (·.1) = ks := r.ok a _ h
theorem Z8.tracked (r : Z8 K M H) {a : Addr} (h : H a = none) : M a = none := by
 cases q : M a with
 | none => rfl
 | some o =>
  obtain ⟨u, e⟩ := (r.ok a o q).some
  rw [h] at e
  cases e
theorem Step.new {p : Addr} {o : HO} (h : H p = none) : Step M H M (upd H p o) :=
 ⟨fun b u _ e => by rw [ZZ (ZK e h)]; exact e, fun _ _ h _ => h⟩
theorem Z8.step_same (r : Z8 K M H) (st : Step M H M H') (hk : ∀ a u, M a ≠ none → H a = some u → H' a = some u) : Z8 K M H' :=
 ⟨fun a o e => (r.ok a o e).step st fun u hu => hk a u (by rw [e]; simp) hu⟩
theorem Z8.new (r : Z8 K M H) {p : Addr} {o : HO} (h : H p = none) : Z8 K M (upd H p o) :=
 r.step_same (Step.new h) fun a vs _ e => by rw [ZZ (ZK e h)]; exact e
theorem Step.Yx {p : Addr} {o : HO} {q : OO} (h : H p = none) : Step M H (Z3 M p q) (upd H p o) :=
 ⟨fun b u _ e => by rw [ZZ (ZK e h)]; exact e, fun b u hm e => by rw [Qh (ZK e h)]; exact hm⟩
theorem Step.Ga {p : Addr} {o : HO} {q q' : OO} (h : M p = some q) : Step M H (Z3 M p q') (upd H p o) := by
 have ne : ∀ b, M b = none → b ≠ p := fun b hb e => by rw [e, h] at hb; cases hb
 exact ⟨fun b u hb e => by rw [ZZ (ne b hb)]; exact e, fun b u hb e => by rw [Qh (ne b hb)]; exact hb⟩
theorem Z8.Pl (r : Z8 K M H) {p : Addr} {u : HO} {o : OO} (st : Step M H (Z3 M p o) (upd H p u)) (h : OOk K (Z3 M p o) (upd H p u) p o) : Z8 K (Z3 M p o) (upd H p u) := by
 refine ⟨fun a q e => ?_⟩
 by_cases ha : a = p
 ·subst ha
  rw [ZH] at e
  cases e
  exact h
 ·rw [Qh ha] at e
  exact (r.ok a q e).step st fun v hv => by rw [ZZ ha]; exact hv
theorem Z8.XM (r : Z8 K M H) {p : Addr} {vs : List V} {ds : List PyData} (st : Step M H (Z3 M p (.lst ds)) (upd H p (.lst vs))) (hv : Dts K M H vs ds) :
  Z8 K (Z3 M p (.lst ds)) (upd H p (.lst vs)) := r.Pl st ⟨vs, J9, hv.step st⟩
theorem Z8.Pa (r : Z8 K M H) {p : Addr} {kvs : List (List Key × V)} {ks : List (List Key)} (st : Step M H (Z3 M p (.dct ks)) (upd H p (.dT kvs))) (hv : kvs.map (·.1) = ks) :
  Z8 K (Z3 M p (.dct ks)) (upd H p (.dT kvs)) := r.Pl st ⟨kvs, J9, hv⟩
theorem Step.frz {p : Addr} : Step M H (Ke M p) H :=
 ⟨fun _ _ _ h => h, fun b o hb _ => by unfold Ke; split <;> first | rfl | exact hb⟩
theorem Z8.frz (r : Z8 K M H) {p : Addr} : Z8 K (Ke M p) H := by
 refine ⟨fun a o e => ?_⟩
 have hne : a ≠ p := fun z => by rw [z, GO] at e; cases e
 rw [UD hne] at e
 exact (r.ok a o e).step Step.frz fun _ h => h
inductive DV where
 | dat (d : PyData)
 | own (a : Addr)
 | ty (n : String)
noncomputable def Q1 (K : PySem.W.Frag) (M : Mp) (H : Hp) (v : V) : DV → Prop
 | .dat d => Dt K M H v d
 | .own a => v = .ref a
 | .ty n => v = .ty n
theorem Q1.step {v : V} {x : DV} (h : Q1 K M H v x) (st : Step M H M' H') : Q1 K M' H' v x := by
 cases x with
 | dat d => exact Dt.step st h
 | own a => exact h
 | ty n => exact h
noncomputable abbrev YT (K : PySem.W.Frag) (M : Mp) (H : Hp) : List V → List DV → Prop := Paired (Q1 K M H)
theorem YT.step {vs : List V} {xs : List DV} (h : YT K M H vs xs) (st : Step M H M' H') : YT K M' H' vs xs := Paired.Zc3 h fun _ _ q => Q1.step q st
theorem YT.ZcR : ∀ {vs : List V} {ds : List PyData}, YT K M H vs (ds.map DV.dat) → Dts K M H vs ds
 | vs, [], h => by rw [List.map_nil] at h; cases h; exact .nil
 | vs, d :: ds, h => by
  rw [List.map_cons] at h
  cases h with
  | cons h1 h2 => exact .cons h1 (YT.ZcR h2)
noncomputable def onV (o : Option (Option DV)) (P : DV → Prop) : Prop := match o with | some (some x) => P x | _ => False
theorem T9 {o : Option (Option DV)} {P : DV → Prop} (h : onV o P) : ∃ x, o = some (some x) ∧ P x := by
 unfold onV at h
 split at h
 ·exact ⟨_, rfl, h⟩
 ·exact h.elim
noncomputable def onI (x : DV) (P : Int → Prop) : Prop := match x with | .dat (.int i) => P i | _ => False
theorem ZM {x : DV} {P : Int → Prop} (h : onI x P) : ∃ i, x = .dat (.int i) ∧ P i := by
 unfold onI at h
 split at h
 ·exact ⟨_, rfl, h⟩
 ·exact h.elim
noncomputable def onB (x : DV) (P : Bool → Prop) : Prop := match x with | .dat (.bool i) => P i | _ => False
theorem XQ {x : DV} {P : Bool → Prop} (h : onB x P) : ∃ i, x = .dat (.bool i) ∧ P i := by
 unfold onB at h
 split at h
 ·exact ⟨_, rfl, h⟩
 ·exact h.elim
noncomputable def onS (x : DV) (P : Str → Prop) : Prop := match x with | .dat (.str i) => P i | _ => False
noncomputable def onT (x : DV) (P : List PyData → Prop) : Prop := match x with | .dat (.tuple i) => P i | _ => False
theorem WT {x : DV} {P : List PyData → Prop} (h : onT x P) : ∃ i, x = .dat (.tuple i) ∧ P i := by
 unfold onT at h
 split at h
 ·exact ⟨_, rfl, h⟩
 ·exact h.elim
noncomputable def onL (x : DV) (P : List PyData → Prop) : Prop := match x with | .dat (.list i) => P i | _ => False
theorem HE {x : DV} {P : List PyData → Prop} (h : onL x P) : ∃ i, x = .dat (.list i) ∧ P i := by
 unfold onL at h
 split at h
 ·exact ⟨_, rfl, h⟩
 ·exact h.elim
noncomputable def onD (x : DV) (P : PyData → Prop) : Prop := match x with | .dat i => P i | _ => False
theorem Q8 {x : DV} {P : PyData → Prop} (h : onD x P) : ∃ i, x = .dat i ∧ P i := by
 unfold onD at h
 split at h
 ·exact ⟨_, rfl, h⟩
 ·exact h.elim
noncomputable def onO (x : DV) (P : Addr → Prop) : Prop := match x with | .own i => P i | _ => False
theorem Q7 {x : DV} {P : Addr → Prop} (h : onO x P) : ∃ i, x = .own i ∧ P i := by
 unfold onO at h
 split at h
 ·exact ⟨_, rfl, h⟩
 ·exact h.elim
noncomputable def Kd (o : Option OO) (P : List PyData → Prop) : Prop := match o with | some (.lst ds) => P ds | _ => False
theorem Vw {o : Option OO} {P : List PyData → Prop} (h : Kd o P) : ∃ ds, o = some (.lst ds) ∧ P ds := by
 unfold Kd at h
 split at h
 ·exact ⟨_, rfl, h⟩
 ·exact h.elim
noncomputable def MO (o : Option OO) (P : List (List Key) → Prop) : Prop := match o with | some (.dct ks) => P ks | _ => False
theorem Lh {o : Option OO} {P : List (List Key) → Prop} (h : MO o P) : ∃ ks, o = some (.dct ks) ∧ P ks := by
 unfold MO at h
 split at h
 ·exact ⟨_, rfl, h⟩
 ·exact h.elim
noncomputable def onQ (x : DV) (M : Mp) (P : List PyData → Prop) : Prop := match x with | .dat (.tuple ds) => P ds | .dat (.list ds) => P ds | .own l => Kd (M l) P | _ => False
theorem Gb {x : DV} {M : Mp} {P : List PyData → Prop} (h : onQ x M P) : ∃ ds, (x = .dat (.tuple ds) ∨ x = .dat (.list ds) ∨ ∃ l, x = .own l ∧ M l = some (.lst ds)) ∧ P ds := by
 unfold onQ at h
 split at h
 ·exact ⟨_, .inl rfl, h⟩
 ·exact ⟨_, .inr (.inl rfl), h⟩
 ·replace h := Vw h
  obtain ⟨ds, e, h⟩ := h
  exact ⟨ds, .inr (.inr ⟨_, rfl, e⟩), h⟩
 ·exact h.elim
noncomputable def onK (x : DV) (M : Mp) (P : List PyData → Prop) : Prop := match x with | .dat (.list ds) => P ds | .own l => Kd (M l) P | _ => False
theorem WM {x : DV} {M : Mp} {P : List PyData → Prop} (h : onK x M P) : ∃ ds, (x = .dat (.list ds) ∨ ∃ l, x = .own l ∧ M l = some (.lst ds)) ∧ P ds := by
 unfold onK at h
 split at h
 ·exact ⟨_, .inl rfl, h⟩
 ·replace h := Vw h
  obtain ⟨ds, e, h⟩ := h
  exact ⟨ds, .inr ⟨_, rfl, e⟩, h⟩
 ·exact h.elim
noncomputable def on1 (xs : List DV) (P : DV → Prop) : Prop := match xs with | [x] => P x | _ => False
theorem Z6 {xs : List DV} {P : DV → Prop} (h : on1 xs P) : ∃ x, xs = [x] ∧ P x := by
 unfold on1 at h
 split at h
 ·exact ⟨_, rfl, h⟩
 ·exact h.elim
noncomputable def on2 (xs : List DV) (P : DV → DV → Prop) : Prop := match xs with | [x, y] => P x y | _ => False
theorem Zy {xs : List DV} {P : DV → DV → Prop} (h : on2 xs P) : ∃ x y, xs = [x, y] ∧ P x y := by
 unfold on2 at h
 split at h
 ·exact ⟨_, _, rfl, h⟩
 ·exact h.elim
noncomputable def on3 (xs : List DV) (P : DV → DV → DV → Prop) : Prop := match xs with | [x, y, z] => P x y z | _ => False
theorem Z1 {xs : List DV} {P : DV → DV → DV → Prop} (h : on3 xs P) : ∃ x y z, xs = [x, y, z] ∧ P x y z := by
 unfold on3 at h
 split at h
 ·exact ⟨_, _, _, rfl, h⟩
 ·exact h.elim
noncomputable def on4 (xs : List DV) (P : DV → DV → DV → DV → Prop) : Prop := match xs with | [x0, x1, x2, x3] => P x0 x1 x2 x3 | _ => False
theorem Kl {xs : List DV} {P : DV → DV → DV → DV → Prop} (h : on4 xs P) : ∃ x0 x1 x2 x3, xs = [x0, x1, x2, x3] ∧ P x0 x1 x2 x3 := by
 unfold on4 at h
 split at h
 ·exact ⟨_, _, _, _, rfl, h⟩
 ·exact h.elim
noncomputable def on5 (xs : List DV) (P : DV → DV → DV → DV → DV → Prop) : Prop := match xs with | [x0, x1, x2, x3, x4] => P x0 x1 x2 x3 x4 | _ => False
theorem PV {xs : List DV} {P : DV → DV → DV → DV → DV → Prop} (h : on5 xs P) : ∃ x0 x1 x2 x3 x4, xs = [x0, x1, x2, x3, x4] ∧ P x0 x1 x2 x3 x4 := by
 unfold on5 at h
 split at h
 ·exact ⟨_, _, _, _, _, rfl, h⟩
 ·exact h.elim
noncomputable def on6 (xs : List DV) (P : DV → DV → DV → DV → DV → DV → Prop) : Prop := match xs with | [x0, x1, x2, x3, x4, x5] => P x0 x1 x2 x3 x4 x5 | _ => False
noncomputable def Mj : List DV → Option (List PyData)
 | [] => some []
 | .dat d :: r => match Mj r with | some ds => some (d :: ds) | none => none
 | _ :: _ => none
theorem CZ : ∀ {xs : List DV} {ds : List PyData}, Mj xs = some ds → xs = ds.map DV.dat
 | [], _, h => by cases h; rfl
 | .dat d :: r, ds, h => by
  rw [Mj] at h
  split at h
  ·rename_i es e
   cases h
   rw [List.map_cons, ← CZ e]
  ·cases h
 | .own _ :: _, _, h => by cases h
 | .ty _ :: _, _, h => by cases h
noncomputable def Wo (xs : List DV) (P : List PyData → Prop) : Prop := match Nat.ble xs.length 100 with
 | true => (match Mj xs with | some ds => P ds | none => False)
 | false => False
theorem Cp {xs : List DV} {P : List PyData → Prop} (h : Wo xs P) : ∃ ds, xs = ds.map DV.dat ∧ ds.length ≤ 100 ∧ P ds := by
 unfold Wo at h
 split at h
 ·rename_i e
  split at h
  ·rename_i ds e2
   have e3 := CZ e2
   refine ⟨ds, e3, ?_, h⟩
   have e4 := Nat.le_of_ble_eq_true e
   rwa [e3, List.length_map] at e4
  ·exact h.elim
 ·exact h.elim
noncomputable abbrev DSt := List (Option DV)
structure J6 (K : PySem.W.Frag) (M : Mp) (H : Hp) (σ : L2.St) (Δ : DSt) : Prop where
 len : σ.length = Δ.length
 at' : ∀ (i : Nat) (x : DV), Δ[i]? = some (some x) → ∃ v, σ[i]? = some (some v) ∧ Q1 K M H v x
theorem J6.step {σ : L2.St} {Δ : DSt} (h : J6 K M H σ Δ) (st : Step M H M' H') : J6 K M' H' σ Δ :=
 ⟨h.len, fun i x e => let ⟨v, e1, e2⟩ := h.at' i x e; ⟨v, e1, e2.step st⟩⟩
theorem J6.set {σ : L2.St} {Δ : DSt} {i : Nat} {v : V} {x : DV} (h : J6 K M H σ Δ) (r : Q1 K M H v x) : J6 K M H (σ.set i (some v)) (Δ.set i (some x)) := by
 refine ⟨by rw [List.length_set, List.length_set, h.len], fun j y e => ?_⟩
 by_cases hj : i = j
 ·subst hj
  by_cases hl : i < Δ.length
  ·rw [List.getElem?_set_self hl] at e
   cases e
   exact ⟨v, List.getElem?_set_self (by rw [h.len]; exact hl), r⟩
  ·rw [List.getElem?_eq_none (by rw [List.length_set]; omega)] at e
   cases e
 ·rw [List.getElem?_set_ne hj] at e
  rw [List.getElem?_set_ne hj]
  exact h.at' j y e
noncomputable def XW (N : List Str) (xs : List DV) : DSt := xs.map some ++ List.replicate (N.length - xs.length) none
theorem Paired.Zeo {α β : Type} {F : α → β → Prop} : ∀ {l : List α} {m : List β} {i : Nat} {b : β}, Paired F l m → m[i]? = some b → ∃ a, l[i]? = some a ∧ F a b
 | _, _, _, _, .nil, e => by simp at e
 | _, _, 0, _, .cons h _, e => by simp at e; subst e; exact ⟨_, rfl, h⟩
 | _, _, i + 1, b, .cons _ h, e => by
  obtain ⟨a, h1, h2⟩ := Paired.Zeo (i := i) (b := b) h (by simpa using e)
  exact ⟨a, by simpa using h1, h2⟩
theorem J6.start {N : List Str} {vs : List V} {xs : List DV} (h : YT K M H vs xs) : J6 K M H (start N vs) (XW N xs) := by
 have hl : vs.length = xs.length := Paired.length h
 refine ⟨by unfold L2.start XW; simp [hl], fun i x e => ?_⟩
 unfold XW at e
 unfold L2.start
 by_cases hi : i < xs.length
 ·rw [List.getElem?_append_left (by simpa using hi), List.getElem?_map] at e
  cases q : xs[i]? with
  | none => rw [q] at e; cases e
  | some y =>
   rw [q] at e
   cases e
   obtain ⟨v, h1, h2⟩ := Paired.Zeo h q
   exact ⟨v, by rw [List.getElem?_append_left (by simpa [hl] using hi), List.getElem?_map, h1]; rfl, h2⟩
 ·rw [List.getElem?_append_right (by simpa using hi), List.getElem?_replicate] at e
  split at e <;> cases e
end
noncomputable abbrev DK := DV → Mp → Prop
noncomputable abbrev DTE := DSt → Mp → DK → Prop
noncomputable abbrev DTT := DSt → Mp → (Bool → Mp → Prop) → Prop
noncomputable abbrev DTA := DSt → Mp → (List DV → Mp → Prop) → Prop
structure Q0 where
 nx : DSt → Mp → Prop
 rt : DK
 bk : DSt → Mp → Prop := fun _ _ => False
 ct : DSt → Mp → Prop := fun _ _ => False
noncomputable abbrev DTS := Q0 → DSt → Mp → Prop
noncomputable def Rch (K : PySem.W.Frag) (M : Mp) (H : Hp) (Φ : DK) (Q : VK) : Prop := ∀ v H' x M', Z8 K M' H' → Step M H M' H' → Q1 K M' H' v x → Φ x M' → Q v H'
theorem Rch.step {K : PySem.W.Frag} {M M' : Mp} {H H' : Hp} {Φ : DK} {Q : VK} (h : Rch K M H Φ Q) (st : Step M H M' H') : Rch K M' H' Φ Q := fun v H2 x M2 r s2 q f => h v H2 x M2 r (st.trans s2) q f
theorem Rch.dat {K : PySem.W.Frag} {M M' : Mp} {H H' : Hp} {Φ : DK} {Q : VK} {v : V} {d : PyData} (h : Rch K M H Φ Q) (r : Z8 K M' H') (st : Step M H M' H') (hd : Dt K M' H' v d) (f : Φ (.dat d) M') : Q v H' := h v H' (.dat d) M' r st hd f
noncomputable def DE (X : Cx) (e : Expr) (τ : DTE) : Prop := ∃ t, PE X e t ∧ ∀ σ H Δ M Φ Q, Z8 X.K M H → J6 X.K M H σ Δ → τ Δ M Φ → Rch X.K M H Φ Q → t σ H Q
noncomputable def DT (X : Cx) (e : Expr) (τ : DTT) : Prop := ∃ t, PT X e t ∧ ∀ σ H Δ M Φ (Q : Bool → Hp → Prop), Z8 X.K M H → J6 X.K M H σ Δ → τ Δ M Φ →
 (∀ b H' M', Z8 X.K M' H' → Step M H M' H' → Φ b M' → Q b H') → t σ H Q
noncomputable def DW (X : Cx) (e : Expr) (τ : DTT) : Prop := ∃ t, PW X e t ∧ ∀ σ H Δ M Φ (Q : Bool → Hp → Prop), Z8 X.K M H → J6 X.K M H σ Δ → τ Δ M Φ →
 (∀ b H' M', Z8 X.K M' H' → Step M H M' H' → Φ b M' → Q b H') → t σ H Q
noncomputable def DA (X : Cx) (es : List Expr) (τ : DTA) : Prop := ∃ t, PA X es t ∧ ∀ σ H Δ M Φ (Q : List V → Hp → Prop), Z8 X.K M H → J6 X.K M H σ Δ → τ Δ M Φ →
 (∀ vs H' xs M', Z8 X.K M' H' → Step M H M' H' → YT X.K M' H' vs xs → Φ xs M' → Q vs H') → t σ H Q
structure KN (K : PySem.W.Frag) (M : Mp) (H : Hp) (D : Q0) (E : Ends) : Prop where
 nx : ∀ σ' H' Δ' M', Z8 K M' H' → Step M H M' H' → J6 K M' H' σ' Δ' → D.nx Δ' M' → E.nx σ' H'
 rt : Rch K M H D.rt E.rt
 bk : ∀ σ' H' Δ' M', Z8 K M' H' → Step M H M' H' → J6 K M' H' σ' Δ' → D.bk Δ' M' → E.bk σ' H'
 ct : ∀ σ' H' Δ' M', Z8 K M' H' → Step M H M' H' → J6 K M' H' σ' Δ' → D.ct Δ' M' → E.ct σ' H'
theorem KN.step {K : PySem.W.Frag} {M M' : Mp} {H H' : Hp} {D : Q0} {E : Ends} (h : KN K M H D E) (st : Step M H M' H') : KN K M' H' D E :=
 ⟨fun a b c d r s => h.nx a b c d r (st.trans s), h.rt.step st, fun a b c d r s => h.bk a b c d r (st.trans s), fun a b c d r s => h.ct a b c d r (st.trans s)⟩
noncomputable def DS (X : Cx) (st : Stmt) (τ : DTS) : Prop := ∃ t, PS X st t ∧ ∀ σ H Δ M D E, Z8 X.K M H → J6 X.K M H σ Δ → τ D Δ M → KN X.K M H D E → t E σ H
noncomputable def DSs (X : Cx) (st : List Stmt) (τ : DTS) : Prop := ∃ t, PSs X st t ∧ ∀ σ H Δ M D E, Z8 X.K M H → J6 X.K M H σ Δ → τ D Δ M → KN X.K M H D E → t E σ H
section
variable {X : Cx} {a b c : Expr} {ta tb tc : DTE} {pos : Pos}
noncomputable def ZeH (i : Nat) : DTE := fun Δ M Φ => onV Δ[i]? fun x => Φ x M
noncomputable def dC (d : PyData) : DTE := fun _ M Φ => Φ (.dat d) M
theorem Zb (i : Nat) {x : Str} {pos : Pos} (hN : X.N[i]? = some x := by rfl) (hv : Vis X.env.scope x := by first | exact Or.inl rfl | exact Or.inr (Or.inl rfl) | exact Or.inr (Or.inr rfl)) (hd : (x == ("__debug__" : Str)) = false := by decide)
  (hcd : (x == ("__classdict__" : Str)) = false := by decide) : DE X (.Name x pos) (ZeH i) := by
 refine ⟨_, Zbz hN hv hd hcd, fun σ H Δ M Φ Q r e h k => ?_⟩
 replace h := T9 h
 obtain ⟨x, e1, h⟩ := h
 obtain ⟨v, e2, q⟩ := e.at' i x e1
 exact ⟨v, e2, k v H x M r Step.refl q h⟩
theorem Ua {e : Expr} {v : V} {d : PyData} (h : PE X e (tC v)) (q : ∀ M H, Dt X.K M H v d) : DE X e (dC d) :=
 ⟨_, h, fun _ H _ M _ _ r _ h k => k v H (.dat d) M r Step.refl (q M H) h⟩
theorem Zc {i j pos} : DE X (.Constant (.int i) j pos) (dC (.int i)) := Ua Zat fun _ _ => .int i
theorem Js {b j pos} : DE X (.Constant (.bool b) j pos) (dC (.bool b)) := Ua ZdJ fun _ _ => .bl b
theorem Q9 {x j pos} : DE X (.Constant (.str x) j pos) (dC (.str x)) := Ua Zak fun _ _ => .str x
noncomputable def dTy (n : String) : DTE := fun _ M Φ => Φ (.ty n) M
theorem Kr {x : Str} {n : String} {pos : Pos} (hg : Gl X x) (hm : X.mg x = none) (hv : bootBuiltins x = some (.type n)) (hn : x ≠ "__name__" := by decide) (hdb : (x == ("__debug__" : Str)) = false := by decide) : DE X (.Name x pos) (dTy n) :=
 ⟨_, Sn (v := .ty n) hg hm hv rfl hn hdb, fun _ H _ M _ _ r _ h k => k (.ty n) H (.ty n) M r Step.refl rfl h⟩
end
end DL
namespace DL
open PySem PySem.Spec PyProof.Rows L2
section
variable {K : PySem.W.Frag} {M M' : Mp} {H H' : Hp} {v : V}
theorem Q1.bool {b : Bool} (h : Q1 K M H v (.dat (.bool b))) : v = .bl b := by cases (show Dt K M H v (.bool b) from h); rfl
theorem Q1.int {i : Int} (h : Q1 K M H v (.dat (.int i))) : v = .int i := by cases (show Dt K M H v (.int i) from h); rfl
theorem Q1.str {x : Str} (h : Q1 K M H v (.dat (.str x))) : v = .str x := by cases (show Dt K M H v (.str x) from h); rfl
theorem Q1.tup {ds : List PyData} (h : Q1 K M H v (.dat (.tuple ds))) : ∃ a xs, v = .ref a ∧ TupAt K M H a xs ∧ Dts K M H xs ds := by
 cases (show Dt K M H v (.tuple ds) from h) with
 | tup h1 h2 => exact ⟨_, _, rfl, h1, h2⟩
theorem Q1.lst {ds : List PyData} (h : Q1 K M H v (.dat (.list ds))) : ∃ a xs, v = .ref a ∧ LstAt K M H a xs ∧ Dts K M H xs ds := by
 cases (show Dt K M H v (.list ds) from h) with
 | lst h1 h2 => exact ⟨_, _, rfl, h1, h2⟩
theorem Dt.Gy {p : Addr} {xs : List V} {ds : List PyData} (r : Z8 K M H) (hp : H p = none) (h : Dts K M H xs ds) : Dt K M (upd H p (.tup xs)) (.ref p) (.tuple ds) :=
 .tup (.inl ⟨r.tracked hp, .inl J9⟩) (h.step (Step.new hp))
theorem Dt.XU {p : Addr} {xs : List V} {ds : List PyData} (r : Z8 K M H) (hp : H p = none) (h : Dts K M H xs ds) : Dt K M (upd H p (.lst xs)) (.ref p) (.list ds) :=
 .lst (.inl ⟨r.tracked hp, .inl J9⟩) (h.step (Step.new hp))
end
noncomputable def Snd (K : PySem.W.Frag) (t : TE) (τ : DTE) : Prop := ∀ σ H Δ M Φ Q, Z8 K M H → J6 K M H σ Δ → τ Δ M Φ → Rch K M H Φ Q → t σ H Q
theorem Snd.bin {K : PySem.W.Frag} {ta tb : TE} {τa τb : DTE} (qa : Snd K ta τa) (qb : Snd K tb τb) {M : Mp} {H : Hp} {σ : L2.St} {Δ : DSt} {S : DV → DV → Mp → Prop} {R : V → V → Hp → Prop} (r : Z8 K M H) (e : J6 K M H σ Δ)
  (h : τa Δ M fun x M1 => τb Δ M1 fun y M2 => S x y M2)
  (k : ∀ v u H2 x y M2, Z8 K M2 H2 → Step M H M2 H2 → Q1 K M2 H2 v x → Q1 K M2 H2 u y → S x y M2 → R v u H2) : ta σ H fun v H1 => tb σ H1 fun u H2 => R v u H2 :=
 qa σ H Δ M _ _ r e h fun v H1 x M1 r1 st rv hx => qb σ H1 Δ M1 _ _ r1 (e.step st) hx fun u H2 y M2 r2 st2 ru hy => k v u H2 x y M2 r2 (st.trans st2) (rv.step st2) ru hy
noncomputable abbrev D2 := DV → DV → Mp → DK → Prop
noncomputable def OpD (X : Cx) (f : Value → Value → Sem Value) (δ : D2) : Prop := ∃ r : R2, OpR X f r ∧ ∀ v u H x y M Φ Q, Z8 X.K M H → Q1 X.K M H v x → Q1 X.K M H u y → δ x y M Φ → Rch X.K M H Φ Q → r v u H Q
noncomputable def dOp (δ : D2) (ta tb : DTE) : DTE := fun Δ M Φ => ta Δ M fun x M1 => tb Δ M1 fun y M2 => δ x y M2 Φ
section
variable {X : Cx} {a b c : Expr} {ta tb tc : DTE} {pos : Pos} {op op' : CmpOp} {δ δ' : D2}
theorem Snd.opn {ta' tb' : TE} {r : R2} (ha : Snd X.K ta' ta) (hb : Snd X.K tb' tb) (q : ∀ v u H x y M Φ Q, Z8 X.K M H → Q1 X.K M H v x → Q1 X.K M H u y → δ x y M Φ → Rch X.K M H Φ Q → r v u H Q) : Snd X.K (tOp r ta' tb') (dOp δ ta tb) :=
 fun _ _ _ _ _ _ dr e h k => Snd.bin ha hb dr e h fun v u H2 x y M2 r2 st rv ru hs => q v u H2 x y M2 _ _ r2 rv ru hs (k.step st)
theorem Zl {bop : Operator} (ho : OpD X (binaryOp bop) δ) (ha : DE X a ta) (hb : DE X b tb) : DE X (.BinOp a bop b pos) (dOp δ ta tb) := by
 obtain ⟨ta', pa, qa⟩ := ha
 obtain ⟨tb', pb, qb⟩ := hb
 obtain ⟨r, hr, q⟩ := ho
 exact ⟨_, Zdz hr pa pb, Snd.opn qa qb q⟩
theorem J4 (ho : OpD X (compareOp op) δ) (ha : DE X a ta) (hb : DE X b tb) (hm : behindInMarks op b = false := by first | exact Pq _ | rfl) : DE X (.Compare a [op] [b] pos) (dOp δ ta tb) := by
 obtain ⟨ta', pa, qa⟩ := ha
 obtain ⟨tb', pb, qb⟩ := hb
 obtain ⟨r, hr, q⟩ := ho
 exact ⟨_, S5 hr pa pb hm, Snd.opn qa qb q⟩
noncomputable def dB (t : DTE) : DTT := fun Δ M Φ => t Δ M fun x M1 => onB x fun c => Φ c M1
theorem Snd.test {t : TE} {τ : DTE} (h : Snd X.K t τ) {σ : L2.St} {H : Hp} {Δ : DSt} {M : Mp} {Φ : Bool → Mp → Prop} {Q : Bool → Hp → Prop} (r : Z8 X.K M H) (e : J6 X.K M H σ Δ) (hw : dB τ Δ M Φ)
  (k : ∀ b H' M', Z8 X.K M' H' → Step M H M' H' → Φ b M' → Q b H') : t σ H fun x H1 => ∃ c, x = .bl c ∧ Q c H1 := by
 refine h σ H Δ M _ _ r e hw fun v H1 x M1 r1 st rv hx => ?_
 replace hx := XQ hx
 obtain ⟨c, rfl, hx⟩ := hx
 exact ⟨c, rv.bool, k c H1 M1 r1 st hx⟩
theorem ZE (ho : OpD X (compareOp op) δ) (ha : DE X a ta) (hb : DE X b tb) (hm : behindInMarks op b = false := by first | exact Pq _ | rfl) : DT X (.Compare a [op] [b] pos) (dB (dOp δ ta tb)) := by
 obtain ⟨ta', pa, qa⟩ := ha
 obtain ⟨tb', pb, qb⟩ := hb
 obtain ⟨r, hr, q⟩ := ho
 exact ⟨_, S8 hr pa pb hm, fun _ _ _ _ _ _ dr e h k => Snd.test (Snd.opn qa qb q) dr e h k⟩
theorem QO {e : Expr} {τ : DTE} (h : DE X e τ) (he : ∀ whole, isTrue e X.env whole = (do let v ← whole; standAt e.pos; holding [v] (truthy v)) := by intro _; rfl) : DT X e (dB τ) := by
 obtain ⟨t, p, q⟩ := h
 exact ⟨_, Zb6 p he, fun _ _ _ _ _ _ dr e h k => Snd.test q dr e h k⟩
noncomputable def CV (δ δ' : D2) (ta tb tc : DTE) : DTE := fun Δ M Φ => ta Δ M fun x M1 => tb Δ M1 fun y M2 => δ x y M2 fun z M3 => onB z fun k => (if k = true then tc Δ M3 fun w' M4 => δ' y w' M4 Φ else Φ (.dat (.bool false)) M3)
theorem Snd.chain {ta' tb' tc' : TE} {r r' : R2} (ha : Snd X.K ta' ta) (hb : Snd X.K tb' tb) (hc : Snd X.K tc' tc) (q : ∀ v u H x y M Φ Q, Z8 X.K M H → Q1 X.K M H v x → Q1 X.K M H u y → δ x y M Φ → Rch X.K M H Φ Q → r v u H Q)
  (q' : ∀ v u H x y M Φ Q, Z8 X.K M H → Q1 X.K M H v x → Q1 X.K M H u y → δ' x y M Φ → Rch X.K M H Φ Q → r' v u H Q) : Snd X.K (Hq r r' ta' tb' tc') (CV δ δ' ta tb tc) := by
 intro σ H Δ M Φ Q dr e h k
 refine Snd.bin ha hb dr e h fun v u H2 x y M2 r2 st rv ru hs => ?_
 refine q v u H2 x y M2 _ _ r2 rv ru hs fun z H3 zd M3 r3 st3 rz hz => ?_
 replace hz := XQ hz
 obtain ⟨kb, rfl, hz⟩ := hz
 refine ⟨kb, rz.bool, ?_⟩
 cases kb with
 | true =>
  have hz' : tc Δ M3 fun w' M4 => δ' y w' M4 Φ := by simpa using hz
  rw [if_pos rfl]
  refine hc σ H3 Δ M3 _ _ r3 (e.step (st.trans st3)) hz' fun w' H4 wd M4 r4 st4 rw4 hw4 => ?_
  exact q' u w' H4 y wd M4 _ _ r4 (ru.step (st3.trans st4)) rw4 hw4 (k.step (st.trans (st3.trans st4)))
 | false =>
  have hz' : Φ (.dat (.bool false)) M3 := by simpa using hz
  rw [if_neg Bool.false_ne_true]
  exact k.dat r3 (st.trans st3) (Dt.bl false) hz'
theorem UO (ho : OpD X (compareOp op) δ) (ho' : OpD X (compareOp op') δ') (ha : DE X a ta) (hb : DE X b tb) (hc : DE X c tc) (hm : lastMarks [op, op'] [b, c] = false := by with_unfolding_all rfl) :
  DE X (.Compare a [op, op'] [b, c] pos) (CV δ δ' ta tb tc) := by
 obtain ⟨ta', pa, qa⟩ := ha
 obtain ⟨tb', pb, qb⟩ := hb
 obtain ⟨tc', pc, qc⟩ := hc
 obtain ⟨r, hr, q⟩ := ho
 obtain ⟨r', hr', q'⟩ := ho'
 exact ⟨_, MT hr hr' pa pb pc hm, Snd.chain qa qb qc q q'⟩
theorem X6 (ho : OpD X (compareOp op) δ) (ho' : OpD X (compareOp op') δ') (ha : DE X a ta) (hb : DE X b tb) (hc : DE X c tc) (hm : lastMarks [op, op'] [b, c] = false := by with_unfolding_all rfl) :
  DT X (.Compare a [op, op'] [b, c] pos) (dB (CV δ δ' ta tb tc)) := by
 obtain ⟨ta', pa, qa⟩ := ha
 obtain ⟨tb', pb, qb⟩ := hb
 obtain ⟨tc', pc, qc⟩ := hc
 obtain ⟨r, hr, q⟩ := ho
 obtain ⟨r', hr', q'⟩ := ho'
 exact ⟨_, NY hr hr' pa pb pc hm, fun _ _ _ _ _ _ dr e h k => Snd.test (Snd.chain qa qb qc q q') dr e h k⟩
variable {tA tB' : DTT} {rest : List Expr}
noncomputable def Ze1 (t u : DTT) : DTT := fun Δ M Φ => t Δ M fun c M1 => if c = true then u Δ M1 Φ else Φ false M1
noncomputable def dOr (t u : DTT) : DTT := fun Δ M Φ => t Δ M fun c M1 => if c = true then Φ true M1 else u Δ M1 Φ
noncomputable def Zet (t : DTT) : DTT := fun Δ M Φ => t Δ M fun c M1 => Φ (!c) M1
theorem DW.dt {e : Expr} {τ : DTT} (h : DW X e τ) : DT X e τ := by
 obtain ⟨t, p, q⟩ := h
 exact ⟨t, p.pt, q⟩
theorem YH (ha : DT X a tA) : DW X (.BoolOp .And [a] pos) tA := by
 obtain ⟨t, p, q⟩ := ha
 exact ⟨t, Rm p, q⟩
theorem Yv (ha : DT X a tA) : DW X (.BoolOp .Or [a] pos) tA := by
 obtain ⟨t, p, q⟩ := ha
 exact ⟨t, Zcp p, q⟩
theorem XG (ha : DT X a tA) (hb : DW X (.BoolOp .And (b :: rest) pos) tB') : DW X (.BoolOp .And (a :: b :: rest) pos) (Ze1 tA tB') := by
 obtain ⟨t, p, q⟩ := ha
 obtain ⟨u, p2, q2⟩ := hb
 refine ⟨_, Zbg p p2, fun σ H Δ M Φ Q r e h k => ?_⟩
 refine q σ H Δ M _ _ r e h fun c H1 M1 r1 st hc => ?_
 cases c with
 | true => rw [if_pos rfl]; exact q2 σ H1 Δ M1 Φ Q r1 (e.step st) (by simpa using hc) fun b H2 M2 r2 st2 hb => k b H2 M2 r2 (st.trans st2) hb
 | false => rw [if_neg Bool.false_ne_true]; exact k false H1 M1 r1 st (by simpa using hc)
theorem Ya (ha : DT X a tA) (hb : DW X (.BoolOp .Or (b :: rest) pos) tB') : DW X (.BoolOp .Or (a :: b :: rest) pos) (dOr tA tB') := by
 obtain ⟨t, p, q⟩ := ha
 obtain ⟨u, p2, q2⟩ := hb
 refine ⟨_, ZdT p p2, fun σ H Δ M Φ Q r e h k => ?_⟩
 refine q σ H Δ M _ _ r e h fun c H1 M1 r1 st hc => ?_
 cases c with
 | false => rw [if_neg Bool.false_ne_true]; exact q2 σ H1 Δ M1 Φ Q r1 (e.step st) (by simpa using hc) fun b H2 M2 r2 st2 hb => k b H2 M2 r2 (st.trans st2) hb
 | true => rw [if_pos rfl]; exact k true H1 M1 r1 st (by simpa using hc)
theorem Jn (ha : DT X a tA) : DT X (.UnaryOp .Not a pos) (Zet tA) := by
 obtain ⟨t, p, q⟩ := ha
 exact ⟨_, ZbM p, fun σ H Δ M Φ Q r e h k => q σ H Δ M _ _ r e h fun c H1 M1 r1 st hc => k _ H1 M1 r1 st hc⟩
noncomputable def Zau (ta tb : DTE) : DTE := fun Δ M Φ => ta Δ M fun x M1 => onB x fun c => if c = true then tb Δ M1 Φ else Φ (.dat (.bool false)) M1
noncomputable def ZeF (ta tb : DTE) : DTE := fun Δ M Φ => ta Δ M fun x M1 => onB x fun c => if c = true then Φ (.dat (.bool true)) M1 else tb Δ M1 Φ
noncomputable def ZbZ (ta : DTE) : DTE := fun Δ M Φ => ta Δ M fun x M1 => onB x fun c => Φ (.dat (.bool (!c))) M1
theorem JX {bop} (h : DE X a ta) : DE X (.BoolOp bop [a] pos) ta := by
 obtain ⟨t, p, q⟩ := h
 exact ⟨t, Zbs p, q⟩
theorem QK (ha : DE X a ta) (hb : DE X (.BoolOp .And (b :: rest) pos) tb) : DE X (.BoolOp .And (a :: b :: rest) pos) (Zau ta tb) := by
 obtain ⟨t, p, q⟩ := ha
 obtain ⟨u, p2, q2⟩ := hb
 refine ⟨_, T7 p p2, fun σ H Δ M Φ Q r e h k => ?_⟩
 refine q σ H Δ M _ _ r e h fun v H1 x M1 r1 st rv hx => ?_
 replace hx := XQ hx
 obtain ⟨c, rfl, hx⟩ := hx
 refine ⟨c, rv.bool, ?_⟩
 cases c with
 | true => rw [if_pos rfl]; exact q2 σ H1 Δ M1 Φ Q r1 (e.step st) (by simpa using hx) (k.step st)
 | false => rw [if_neg Bool.false_ne_true]; exact k.dat r1 st (Dt.bl false) (by simpa using hx)
theorem ZdY (ha : DE X a ta) (hb : DE X (.BoolOp .Or (b :: rest) pos) tb) : DE X (.BoolOp .Or (a :: b :: rest) pos) (ZeF ta tb) := by
 obtain ⟨t, p, q⟩ := ha
 obtain ⟨u, p2, q2⟩ := hb
 refine ⟨_, Zd2 p p2, fun σ H Δ M Φ Q r e h k => ?_⟩
 refine q σ H Δ M _ _ r e h fun v H1 x M1 r1 st rv hx => ?_
 replace hx := XQ hx
 obtain ⟨c, rfl, hx⟩ := hx
 refine ⟨c, rv.bool, ?_⟩
 cases c with
 | false => rw [if_neg Bool.false_ne_true]; exact q2 σ H1 Δ M1 Φ Q r1 (e.step st) (by simpa using hx) (k.step st)
 | true => rw [if_pos rfl]; exact k.dat r1 st (Dt.bl true) (by simpa using hx)
theorem CU (ha : DE X a ta) : DE X (.UnaryOp .Not a pos) (ZbZ ta) := by
 obtain ⟨t, p, q⟩ := ha
 refine ⟨_, ZaW p, fun σ H Δ M Φ Q r e h k => ?_⟩
 refine q σ H Δ M _ _ r e h fun v H1 x M1 r1 st rv hx => ?_
 replace hx := XQ hx
 obtain ⟨c, rfl, hx⟩ := hx
 exact ⟨c, rv.bool, k.dat r1 st (Dt.bl (!c)) hx⟩
noncomputable def dIf (t : DTT) (ta tb : DTE) : DTE := fun Δ M Φ => t Δ M fun c M1 => if c = true then ta Δ M1 Φ else tb Δ M1 Φ
theorem HU (hc : DT X c tA) (ha : DE X a ta) (hb : DE X b tb) : DE X (.IfExp c a b pos) (dIf tA ta tb) := by
 obtain ⟨t, p, q⟩ := hc
 obtain ⟨u, p2, q2⟩ := ha
 obtain ⟨w, p3, q3⟩ := hb
 refine ⟨_, Nx p p2 p3, fun σ H Δ M Φ Q r e h k => ?_⟩
 refine q σ H Δ M _ _ r e h fun c H1 M1 r1 st hc => ?_
 cases c with
 | true => rw [if_pos rfl]; exact q2 σ H1 Δ M1 Φ Q r1 (e.step st) (by simpa using hc) (k.step st)
 | false => rw [if_neg Bool.false_ne_true]; exact q3 σ H1 Δ M1 Φ Q r1 (e.step st) (by simpa using hc) (k.step st)
noncomputable def Ze4 (g : Int → Int) (ta : DTE) : DTE := fun Δ M Φ => ta Δ M fun x M1 => onI x fun i => Φ (.dat (.int (g i))) M1
theorem Gs (ha : DE X a ta) : DE X (.UnaryOp .USub a pos) (Ze4 (fun i => -i) ta) := by
 obtain ⟨t, p, q⟩ := ha
 refine ⟨_, ZdC Zca p, fun σ H Δ M Φ Q r e h k => ?_⟩
 refine q σ H Δ M _ _ r e h fun v H1 x M1 r1 st rv hx => ?_
 replace hx := ZM hx
 obtain ⟨i, rfl, hx⟩ := hx
 exact ⟨i, rv.int, k.dat r1 st (Dt.int (-i)) hx⟩
noncomputable def δI (C : Int → Int → Prop) (g : Int → Int → PyData) : D2 := fun x y M Φ => onI x fun i => onI y fun j => C i j ∧ Φ (.dat (g i j)) M
noncomputable def δI0 (g : Int → Int → PyData) : D2 := fun x y M Φ => onI x fun i => onI y fun j => Φ (.dat (g i j)) M
theorem Zav {f : Value → Value → Sem Value} {C : Int → Int → Prop} {g : Int → Int → Int} (h : OpR X f (rI C fun i j => .int (g i j))) : OpD X f (δI C fun i j => .int (g i j)) :=
 ⟨_, h, fun v u H x y M Φ Q r rv ru h k => by
  replace h := ZM h
  obtain ⟨i, e1, h⟩ := h
  replace h := ZM h
  obtain ⟨j, e2, hc, q⟩ := h
  subst e1 e2
  exact ⟨i, j, rv.int, ru.int, hc, k.dat r Step.refl (Dt.int _) q⟩⟩
theorem Za7 {f : Value → Value → Sem Value} {g : Int → Int → Int} (h : OpR X f (rI0 fun i j => .int (g i j))) : OpD X f (δI0 fun i j => .int (g i j)) :=
 ⟨_, h, fun v u H x y M Φ Q r rv ru h k => by
  replace h := ZM h
  obtain ⟨i, e1, h⟩ := h
  replace h := ZM h
  obtain ⟨j, e2, q⟩ := h
  subst e1 e2
  exact ⟨i, j, rv.int, ru.int, k.dat r Step.refl (Dt.int _) q⟩⟩
theorem NI {f : Value → Value → Sem Value} {g : Int → Int → Bool} (h : OpR X f (rI0 fun i j => .bl (g i j))) : OpD X f (δI0 fun i j => .bool (g i j)) :=
 ⟨_, h, fun v u H x y M Φ Q r rv ru h k => by
  replace h := ZM h
  obtain ⟨i, e1, h⟩ := h
  replace h := ZM h
  obtain ⟨j, e2, q⟩ := h
  subst e1 e2
  exact ⟨i, j, rv.int, ru.int, k.dat r Step.refl (Dt.bl _) q⟩⟩
theorem ZA : OpD X (binaryOp .Add) (δI0 fun i j => .int (i + j)) := Za7 Za9
theorem ZG : OpD X (binaryOp .Sub) (δI0 fun i j => .int (i - j)) := Za7 ZaQ
theorem JA : OpD X (binaryOp .Mult) (δI T1 fun i j => .int (i * j)) := Zav ZcK
theorem E9 : OpD X (binaryOp .FloorDiv) (δI Zd5 fun i j => .int (i / j)) := Zav Rx
theorem YY : OpD X (binaryOp .Mod) (δI (fun _ j => 0 < j) fun i j => .int (i % j)) := Zav ZbF
theorem K8 : OpD X (binaryOp .Pow) (δI Zed fun i j => .int (i ^ j.toNat)) := Zav ZaL
theorem Xo : OpD X (compareOp .Lt) (δI0 fun i j => .bool (decide (i < j))) := NI Zdy
theorem XZ : OpD X (compareOp .LtE) (δI0 fun i j => .bool (decide (i ≤ j))) := NI Zc5
theorem Mi : OpD X (compareOp .Gt) (δI0 fun i j => .bool (decide (j < i))) := NI ZdG
theorem NK : OpD X (compareOp .GtE) (δI0 fun i j => .bool (decide (j ≤ i))) := NI ZdN
noncomputable def δB (g : Bool → Bool → Bool) : D2 := fun x y M Φ => onB x fun c => onB y fun d => Φ (.dat (.bool (g c d))) M
theorem U2 : OpD X (compareOp .IsNot) (δB fun c d => c != d) :=
 ⟨fun x y H Q => ∃ c d, x = .bl c ∧ y = .bl d ∧ Q (.bl (c != d)) H, fun pins s σ H x y v u Q I rx ry ⟨c, d, e1, e2, q⟩ => by
  subst e1 e2
  cases rx
  cases ry
  exact isnot_bool ⟨.bl _, H, I, rfl, q⟩, fun v u H x y M Φ Q r rv ru h k => by
  replace h := XQ h
  obtain ⟨c, e1, h⟩ := h
  replace h := XQ h
  obtain ⟨d, e2, q⟩ := h
  subst e1 e2
  exact ⟨c, d, rv.bool, ru.bool, k.dat r Step.refl (Dt.bl _) q⟩⟩
noncomputable def ZaJ : D2 := fun x y M Φ => onT x fun ds => onT y fun es => ds ≠ [] ∧ ds.length + es.length ≤ sizeLine ∧ Φ (.dat (.tuple (ds ++ es))) M
theorem CD : OpR X (binaryOp .Add) (fun x y H Q => ∃ l b xs zs, x = .ref l ∧ y = .ref b ∧ SqL X.K H l xs ∧ SqL X.K H b zs ∧ xs.length + zs.length ≤ sizeLine ∧ ∀ p, H p = none → Q (.ref p) (upd H p (.lst (xs ++ zs)))) := by
 intro pins s σ H x y v u Q I rx ry h
 obtain ⟨l, b, xs, zs, rfl, rfl, hl, hb, hz, q⟩ := h
 cases rx
 cases ry
 obtain ⟨its, r1, p1, _⟩ := I.list hl
 obtain ⟨its2, r2, p2, _⟩ := I.list hb
 obtain ⟨⟨cls, dd, data, sl⟩, ho, hc, n, hd⟩ := p1.isList
 obtain ⟨⟨cls2, dd2, data2, sl2⟩, ho2, hc2, n2, hd2⟩ := p2.isList
 simp only at hc hd hc2 hd2
 subst hc hd hc2 hd2
 have e : its.toArray ++ its2.toArray = (its ++ its2).toArray := by simp
 have hsz : its.toArray.size + its2.toArray.size ≤ sizeLine := by rw [List.size_toArray, List.size_toArray, ← r1.length, ← r2.length]; exact hz
 refine concat_meets ⟨_, ho, rfl⟩ ⟨_, ho2, rfl⟩ noFill_list_add seq_list_add PySem.F.slot_list_add PySem.F.entry_list_add (PySem.F.args_list_add_2 _ _) (list_addW l b its.toArray its2.toArray n n2 dd dd2 sl sl2 hsz) ⟨ho, ho2, ?_⟩
 rw [e]
 exact ⟨.ref _, _, I.Zfz (t' := s.toks) (r1.append r2) (by rw [List.length_append]; exact hz), rfl, q _ I.fresh⟩
noncomputable def Zbe : D2 := fun x y M Φ => onL x fun ds => onL y fun es => ds.length + es.length ≤ sizeLine ∧ Φ (.dat (.list (ds ++ es))) M
noncomputable def Sr : D2 := fun x y M Φ => onL x fun ds => onL y fun es => ds.length + es.length ≤ sizeLine ∧ ∀ p, M p = none → Φ (.own p) (Z3 M p (.lst (ds ++ es)))
end
noncomputable def Zem : DTA := fun _ M Φ => Φ [] M
noncomputable def Zan (ta : DTE) (tr : DTA) : DTA := fun Δ M Φ => ta Δ M fun x M1 => tr Δ M1 fun xs M2 => Φ (x :: xs) M2
section
variable {X : Cx} {e : Expr} {es : List Expr} {te : DTE} {t : DTA} {pos : Pos}
theorem Zd : DA X [] Zem := ⟨_, Lj, fun _ H _ M _ _ r _ h k => k [] H [] M r Step.refl .nil h⟩
theorem Za (ha : DE X e te) (hr : DA X es t) (hs : starEach (e :: es) X.env = (false, eval e X.env) :: starEach es X.env := by rfl) : DA X (e :: es) (Zan te t) := by
 obtain ⟨u, p, q⟩ := ha
 obtain ⟨w, p2, q2⟩ := hr
 refine ⟨_, G8 p p2 hs, fun σ H Δ M Φ Q r e h k => ?_⟩
 refine q σ H Δ M _ _ r e h fun v H1 x M1 r1 st rv hx => ?_
 exact q2 σ H1 Δ M1 _ _ r1 (e.step st) hx fun vs H2 xs M2 r2 st2 rvs hxs => k (v :: vs) H2 (x :: xs) M2 r2 (st.trans st2) (.cons (rv.step st2) rvs) hxs
noncomputable def ZeJ (t : DTA) : DTE := fun Δ M Φ => t Δ M fun xs M1 => Wo xs fun ds => Φ (.dat (.tuple ds)) M1
noncomputable def ZeR (t : DTA) : DTE := fun Δ M Φ => t Δ M fun xs M1 => Wo xs fun ds => Φ (.dat (.list ds)) M1
noncomputable def T2 (t : DTA) : DTE := fun Δ M Φ => t Δ M fun xs M1 => Wo xs fun ds => ∀ p, M1 p = none → Φ (.own p) (Z3 M1 p (.lst ds))
theorem Zq {x1} (h : DA X es t) : DE X (.Tuple es x1 pos) (ZeJ t) := by
 obtain ⟨u, p, q⟩ := h
 refine ⟨_, O8 p, fun σ H Δ M Φ Q r e h k => ?_⟩
 refine q σ H Δ M _ _ r e h fun vs H1 xs M1 r1 st rv hx => ?_
 replace hx := Cp hx
 obtain ⟨ds, rfl, hz', hx⟩ := hx
 have hz : ds.length ≤ sizeLine := by rw [sizeLine_eq]; omega
 have hd := rv.ZcR
 refine ⟨by rw [hd.length]; exact hz, fun p hp => ?_⟩
 exact k.dat (r1.new hp) (st.trans (Step.new hp)) (Dt.Gy r1 hp hd) hx
theorem QZ (h : DA X es t) : DE X (.List es pos) (ZeR t) := by
 obtain ⟨u, p, q⟩ := h
 refine ⟨_, PB p, fun σ H Δ M Φ Q r e h k => ?_⟩
 refine q σ H Δ M _ _ r e h fun vs H1 xs M1 r1 st rv hx => ?_
 replace hx := Cp hx
 obtain ⟨ds, rfl, hz', hx⟩ := hx
 have hz : ds.length ≤ sizeLine := by rw [sizeLine_eq]; omega
 have hd := rv.ZcR
 refine ⟨by rw [hd.length]; exact hz, fun p hp => ?_⟩
 exact k.dat (r1.new hp) (st.trans (Step.new hp)) (Dt.XU r1 hp hd) hx
theorem Qz (h : DA X es t) : DE X (.List es pos) (T2 t) := by
 obtain ⟨u, p, q⟩ := h
 refine ⟨_, PB p, fun σ H Δ M Φ Q r e h k => ?_⟩
 refine q σ H Δ M _ _ r e h fun vs H1 xs M1 r1 st rv hx => ?_
 replace hx := Cp hx
 obtain ⟨ds, rfl, hz', hx⟩ := hx
 have hz : ds.length ≤ sizeLine := by rw [sizeLine_eq]; omega
 have hd := rv.ZcR
 refine ⟨by rw [hd.length]; exact hz, fun p hp => ?_⟩
 exact k _ _ (.own p) _ (r1.XM (Step.Yx hp) hd) (st.trans (Step.Yx hp)) rfl (hx p (r1.tracked hp))
noncomputable def ZeS (t : DTE) : DTE := fun Δ M Φ => t Δ M fun x M1 => onO x fun l => Kd (M1 l) fun ds => Φ (.dat (.list ds)) (Ke M1 l)
theorem CP (h : DE X e te) : DE X e (ZeS te) := by
 obtain ⟨u, p, q⟩ := h
 refine ⟨u, p, fun σ H Δ M Φ Q r e h k => ?_⟩
 refine q σ H Δ M _ _ r e h fun v H1 x M1 r1 st rv hx => ?_
 replace hx := Q7 hx
 obtain ⟨l, rfl, hx⟩ := hx
 replace hx := Vw hx
 obtain ⟨ds, hm, hx⟩ := hx
 obtain ⟨vs, e1, e2⟩ := r1.ls l ds hm
 cases (show v = .ref l from rv)
 exact k.dat r1.frz (st.trans Step.frz) (Dt.lst (.inl ⟨GO, .inl e1⟩) (e2.step Step.frz)) hx
noncomputable def Dw : List PyData → Nat → (PyData → Prop) → Prop
 | [], _, _ => False
 | d :: _, 0, P => P d
 | _ :: r, n + 1, P => Dw r n P
noncomputable def X4 (ds : List PyData) (i : Int) (P : PyData → Prop) : Prop := match i with
 | Int.ofNat n => Dw ds n P
 | Int.negSucc n => Dw ds.reverse n P
theorem UJ : ∀ {ds : List PyData} {n : Nat} {P : PyData → Prop}, Dw ds n P → ∃ d, ds[n]? = some d ∧ P d
 | [], _, _, h => h.elim
 | d :: _, 0, _, h => ⟨d, rfl, h⟩
 | _ :: r, n + 1, _, h => by
  obtain ⟨d, e, hp⟩ := UJ (ds := r) (n := n) h
  exact ⟨d, by rw [List.getElem?_cons_succ]; exact e, hp⟩
theorem W0 : ∀ {ds : List PyData} {n : Nat} {P : PyData → Prop} {d : PyData}, ds[n]? = some d → P d → Dw ds n P
 | [], _, _, _, e, _ => by simp at e
 | d :: _, 0, _, _, e, h => by simp at e; subst e; exact h
 | _ :: r, n + 1, _, _, e, h => W0 (ds := r) (n := n) (by rw [List.getElem?_cons_succ] at e; exact e) h
theorem Rv {ds : List PyData} {i : Int} {P : PyData → Prop} (h : X4 ds i P) : ∃ d, atI ds i = some d ∧ P d := by
 unfold X4 at h
 split at h
 ·rename_i n
  replace h := UJ h
  obtain ⟨d, e, hp⟩ := h
  exact ⟨d, Vy e, hp⟩
 ·rename_i n
  replace h := UJ h
  obtain ⟨d, e, hp⟩ := h
  refine ⟨d, ?_, hp⟩
  have hl := (List.getElem?_eq_some_iff.mp e).1
  rw [List.length_reverse] at hl
  rw [List.getElem?_reverse hl] at e
  unfold L2.atI ixN
  have e1 : ¬ (0 ≤ Int.negSucc n) := by omega
  rw [if_neg e1]
  have e2 : -(ds.length : Int) ≤ Int.negSucc n := by omega
  rw [if_pos e2]
  have e3 : (Int.negSucc n + (ds.length : Int)).toNat = ds.length - 1 - n := by omega
  simp only [e3]
  exact e
theorem JZ {ds : List PyData} {i : Int} {P : PyData → Prop} {d : PyData} (e : atI ds i = some d) (h : P d) : X4 ds i P := by
 unfold L2.atI at e
 cases i with
 | ofNat n =>
  have hh : ixN ds.length (Int.ofNat n) = if n < ds.length then some n else none := by
   unfold ixN
   rw [if_pos (show (0 : Int) ≤ Int.ofNat n from Int.natCast_nonneg n)]
   by_cases hn : n < ds.length
   ·rw [if_pos hn, if_pos (show Int.ofNat n < _ by show ((n : Nat) : Int) < _; omega)]
    rfl
   ·rw [if_neg hn, if_neg (show ¬ Int.ofNat n < _ by show ¬ ((n : Nat) : Int) < _; omega)]
  rw [hh] at e
  split at e
  ·exact W0 (by exact e) h
  ·cases e
 | negSucc n =>
  unfold ixN at e
  rw [if_neg (by omega)] at e
  by_cases hn : -(ds.length : Int) ≤ Int.negSucc n
  ·rw [if_pos hn] at e
   have e3 : (Int.negSucc n + (ds.length : Int)).toNat = ds.length - 1 - n := by omega
   simp only [e3] at e
   refine W0 (d := d) ?_ h
   rw [List.getElem?_reverse (by omega)]
   exact e
  ·rw [if_neg hn] at e
   cases e
theorem H0 (l : List PyData) (a : PyData) (P : PyData → Prop) : X4 (l ++ [a]) (-1) P = P a := by
 show Dw (l ++ [a]).reverse 0 P = P a
 rw [List.reverse_append]
 rfl
noncomputable def δIx : D2 := fun x y M Φ => onQ x M fun ds => onI y fun i => X4 ds i fun d => Φ (.dat d) M
theorem Dts.atI {K : PySem.W.Frag} {M : Mp} {H : Hp} {vs : List V} {ds : List PyData} {i : Int} {d : PyData} (h : Dts K M H vs ds) (e : L2.atI ds i = some d) : ∃ v, L2.atI vs i = some v ∧ Dt K M H v d := by
 unfold L2.atI at e ⊢
 rw [h.length]
 cases q : ixN ds.length i with
 | none => rw [q] at e; cases e
 | some j =>
  rw [q] at e
  exact h.get e
theorem Zg {a b : Expr} {ta tb : DTE} (ha : DE X a ta) (hb : DE X b tb) (hs : Fp b := by intro _ _; rfl) : DE X (.Subscript a b pos) (dOp δIx ta tb) := by
 obtain ⟨ta', pa, qa⟩ := ha
 obtain ⟨tb', pb, qb⟩ := hb
 refine ⟨_, Zeh T5 pa pb hs, Snd.opn qa qb fun v u H x y M Φ Q r rv ru h k => ?_⟩
 replace h := Gb h
 obtain ⟨ds, hx, h⟩ := h
 replace h := ZM h
 obtain ⟨i, rfl, h⟩ := h
 replace h := Rv h
 obtain ⟨d, hd, q⟩ := h
 cases ru.int
 rcases hx with rfl | rfl | ⟨l, rfl, hm⟩
 ·obtain ⟨p, xs, rfl, h1, h2⟩ := rv.tup
  obtain ⟨w', e1, e2⟩ := h2.atI hd
  exact .inr (.inl ⟨p, xs, i, w', rfl, rfl, h1.sq, e1, k.dat r Step.refl e2 q⟩)
 ·obtain ⟨p, xs, rfl, h1, h2⟩ := rv.lst
  obtain ⟨w', e1, e2⟩ := h2.atI hd
  exact .inl ⟨p, xs, i, w', rfl, rfl, h1.sq, e1, k.dat r Step.refl e2 q⟩
 ·cases (show v = .ref l from rv)
  obtain ⟨vs, g1, g2⟩ := r.ls l ds hm
  obtain ⟨w', e1, e2⟩ := g2.atI hd
  exact .inl ⟨l, vs, i, w', rfl, rfl, SqL.of g1, e1, k.dat r Step.refl e2 q⟩
end
noncomputable abbrev D1 := List DV → Mp → DK → Prop
noncomputable def Ys (X : Cx) (f : Value) (δ : D1) : Prop := ∃ r, VX X f r ∧ ∀ vs H xs M Φ Q, Z8 X.K M H → YT X.K M H vs xs → δ xs M Φ → Rch X.K M H Φ Q → r vs H Q
noncomputable def dCB (δ : D1) (t : DTA) : DTE := fun Δ M Φ => t Δ M fun xs M1 => δ xs M1 Φ
section
variable {X : Cx} {e : Expr} {es : List Expr} {t : DTA} {pos p : Pos} {x : Str} {id : String} {δ : D1}
theorem Zj (hc : Ys X (.builtin id) δ) (hg : Gl X x) (hm : X.mg x = none) (hv : bootBuiltins x = some (.builtin id)) (ha : DA X (e :: es) t) (hn : x ≠ "__name__" := by decide) (hdb : (x == ("__debug__" : Str)) = false := by decide)
  (he : starEach (e :: es) X.env = (false, eval e X.env) :: starEach es X.env := by rfl) (hpl : (backTo pos (starEach es X.env)).any (·.1) = false := by rfl) : DE X (.Call (.Name x p) (e :: es) [] pos) (dCB δ t) := by
 obtain ⟨u, p, q⟩ := ha
 obtain ⟨r, hr, qr⟩ := hc
 refine ⟨_, L6 hr hg hm hv p hn hdb he hpl, fun σ H Δ M Φ Q r e h k => ?_⟩
 exact q σ H Δ M _ _ r e h fun vs H1 xs M1 r1 st rv hx => qr vs H1 xs M1 _ _ r1 rv hx (k.step st)
theorem Qw (hc : Ys X (.type id) δ) (hg : Gl X x) (hm : X.mg x = none) (hv : bootBuiltins x = some (.type id)) (ha : DA X (e :: es) t) (hn : x ≠ "__name__" := by decide) (hdb : (x == ("__debug__" : Str)) = false := by decide)
  (he : starEach (e :: es) X.env = (false, eval e X.env) :: starEach es X.env := by rfl) (hpl : (backTo pos (starEach es X.env)).any (·.1) = false := by rfl) : DE X (.Call (.Name x p) (e :: es) [] pos) (dCB δ t) := by
 obtain ⟨u, p, q⟩ := ha
 obtain ⟨r, hr, qr⟩ := hc
 refine ⟨_, Ll hr hg hm hv p hn hdb he hpl, fun σ H Δ M Φ Q r e h k => ?_⟩
 exact q σ H Δ M _ _ r e h fun vs H1 xs M1 r1 st rv hx => qr vs H1 xs M1 _ _ r1 rv hx (k.step st)
theorem Paired.one {α β : Type} {F : α → β → Prop} {l : List α} {b : β} (h : Paired F l [b]) : ∃ a, l = [a] ∧ F a b := by
 cases h with
 | cons h1 h2 => cases h2; exact ⟨_, rfl, h1⟩
theorem Paired.two {α β : Type} {F : α → β → Prop} {l : List α} {b c : β} (h : Paired F l [b, c]) : ∃ a a', l = [a, a'] ∧ F a b ∧ F a' c := by
 cases h with
 | cons h1 h2 =>
  obtain ⟨a, rfl, h3⟩ := Paired.one h2
  exact ⟨_, a, rfl, h1, h3⟩
noncomputable def Zar : D1 := fun xs M Φ => on1 xs fun x => onQ x M fun ds => Φ (.dat (.int ds.length)) M
theorem QD : Ys X (.builtin "len") Zar := by
 refine ⟨_, Gj, fun vs H xs M Φ Q r rv h k => ?_⟩
 replace h := Z6 h
 obtain ⟨x, rfl, h⟩ := h
 replace h := Gb h
 obtain ⟨ds, hx, q⟩ := h
 have fin : Q (.int ds.length) H := k.dat r Step.refl (Dt.int _) q
 rcases hx with rfl | rfl | ⟨l, rfl, hm⟩
 ·obtain ⟨v, rfl, h1⟩ := Paired.one rv
  obtain ⟨p, ys, rfl, g1, g2⟩ := Q1.tup h1
  exact ⟨p, ys, rfl, .inr g1.sq, by rw [g2.length]; exact fin⟩
 ·obtain ⟨v, rfl, h1⟩ := Paired.one rv
  obtain ⟨p, ys, rfl, g1, g2⟩ := Q1.lst h1
  exact ⟨p, ys, rfl, .inl g1.sq, by rw [g2.length]; exact fin⟩
 ·obtain ⟨v, rfl, h1⟩ := Paired.one rv
  cases (show v = .ref l from h1)
  obtain ⟨ws, g1, g2⟩ := r.ls l ds hm
  exact ⟨l, ws, rfl, .inl (SqL.of g1), by rw [g2.length]; exact fin⟩
noncomputable def ZaU : D1 := fun xs M Φ => on1 xs fun x => onS x fun z => z.length ≤ sizeLine ∧ Φ (.dat (.int z.length)) M
noncomputable def ZaM : D1 := fun xs M Φ => on1 xs fun x => onI x fun i => i.natAbs.log2 < 1920 ∧ Φ (.dat (.str (toString i))) M
noncomputable def ZcB : D1 := fun xs M Φ => on1 xs fun x => onI x fun i => Φ (.dat (.int (if i < 0 then -i else i))) M
theorem WH : Ys X (.builtin "abs") ZcB := by
 refine ⟨_, Og, fun vs H xs M Φ Q r rv h k => ?_⟩
 replace h := Z6 h
 obtain ⟨x, rfl, h⟩ := h
 replace h := ZM h
 obtain ⟨i, rfl, q⟩ := h
 obtain ⟨v, rfl, h1⟩ := Paired.one rv
 exact ⟨i, by rw [Q1.int h1], k.dat r Step.refl (Dt.int _) q⟩
noncomputable def δ2I (g : Int → Int → Int) : D1 := fun xs M Φ => on2 xs fun x y => onI x fun i => onI y fun j => Φ (.dat (.int (g i j))) M
theorem JY (hc : X.calm = true) : Ys X (.builtin "max") (δ2I fun i j => max i j) := by
 refine ⟨_, Fh hc, fun vs H xs M Φ Q r rv h k => ?_⟩
 replace h := Zy h
 obtain ⟨x, y, rfl, h⟩ := h
 replace h := ZM h
 obtain ⟨i, rfl, h⟩ := h
 replace h := ZM h
 obtain ⟨j, rfl, q⟩ := h
 obtain ⟨v, u, rfl, h1, h2⟩ := Paired.two rv
 have e : (if j > i then j else i) = max i j := by rw [Int.max_def]; split <;> split <;> omega
 exact ⟨i, j, by rw [Q1.int h1, Q1.int h2], by rw [e]; exact k.dat r Step.refl (Dt.int _) q⟩
theorem VD (hc : X.calm = true) : Ys X (.builtin "min") (δ2I fun i j => min i j) := by
 refine ⟨_, ET hc, fun vs H xs M Φ Q r rv h k => ?_⟩
 replace h := Zy h
 obtain ⟨x, y, rfl, h⟩ := h
 replace h := ZM h
 obtain ⟨i, rfl, h⟩ := h
 replace h := ZM h
 obtain ⟨j, rfl, q⟩ := h
 obtain ⟨v, u, rfl, h1, h2⟩ := Paired.two rv
 have e : (if j < i then j else i) = min i j := by rw [Int.min_def]; split <;> split <;> omega
 exact ⟨i, j, by rw [Q1.int h1, Q1.int h2], by rw [e]; exact k.dat r Step.refl (Dt.int _) q⟩
noncomputable def Di : D1 := fun xs M Φ => on1 xs fun x => onQ x M fun ds => Φ (.dat (.list ds)) M
theorem EY : Ys X (.type "list") Di := by
 refine ⟨_, U3, fun vs H xs M Φ Q r rv h k => ?_⟩
 replace h := Z6 h
 obtain ⟨x, rfl, h⟩ := h
 replace h := Gb h
 obtain ⟨ds, hx, q⟩ := h
 rcases hx with rfl | rfl | ⟨l0, rfl, hm⟩
 ·obtain ⟨v, rfl, h1⟩ := Paired.one rv
  obtain ⟨p, ys, rfl, g1, g2⟩ := Q1.tup h1
  exact ⟨p, ys, rfl, .inr g1.sq, fun l hl => k.dat (r.new hl) (Step.new hl) (Dt.XU r hl g2) q⟩
 ·obtain ⟨v, rfl, h1⟩ := Paired.one rv
  obtain ⟨p, ys, rfl, g1, g2⟩ := Q1.lst h1
  exact ⟨p, ys, rfl, .inl g1.sq, fun l hl => k.dat (r.new hl) (Step.new hl) (Dt.XU r hl g2) q⟩
 ·obtain ⟨v, rfl, h1⟩ := Paired.one rv
  cases (show v = .ref l0 from h1)
  obtain ⟨ws, g1, g2⟩ := r.ls l0 ds hm
  exact ⟨l0, ws, rfl, .inl (SqL.of g1), fun l hl => k.dat (r.new hl) (Step.new hl) (Dt.XU r hl g2) q⟩
end
end DL
namespace DL
open PySem PySem.Spec PyProof.Rows L2
mutual
noncomputable def Ju : PyData → Bool
 | .none | .bool _ | .int _ | .str _ => false
 | .list _ => true
 | .tuple xs => QS xs
 | .dict kvs => Yg kvs
noncomputable def QS : List PyData → Bool
 | [] => false
 | x :: xs => Ju x || QS xs
noncomputable def Yg : List (PyData × PyData) → Bool
 | [] => false
 | (k, v) :: r => Ju k || Ju v || Yg r
end
theorem V4 : ∀ (ks ds : List PyData), ks.length = ds.length → Yg (ks.zip ds) = false → QS ds = false
 | [], [], _, _ => by simp [QS]
 | k :: ks, d :: ds, h, e => by
  rw [List.zip_cons_cons, Yg] at e
  have e' : (Ju k = false ∧ Ju d = false) ∧ Yg (ks.zip ds) = false := by simpa using e
  rw [QS, e'.1.2, V4 ks ds (by simpa using h) e'.2]; rfl
 | [], _ :: _, h, _ => by simp at h
 | _ :: _, [], h, _ => by simp at h
section
variable {X : Cx} {pins : List (Addr × Obj)} {σ : L2.St} {H : Hp} {s : Shared} {M : Mp}
theorem GK {h : Heap} {P : Program} {w : World} : ∀ {es : List DictEntry} {kvs : List (Key × Value)}, Pairs (Qv P w) es kvs → ReadsAll h (es.map (·.key)) (kvs.map fun kv => kD kv.1) []
 | _, _, .nil => .nil
 | _, _, .cons (e := e) (kv := kv) h1 _ h3 => by
  rw [List.map_cons, List.map_cons]
  have hk : Reads h e.key (kD kv.1) [] := by
   rcases Z4 (k := kv.1) (v := e.key) h1 with ⟨i, t, e1, e2⟩ | ⟨x, t, e1, e2⟩
   ·rw [e1, e2]; exact .int i t
   ·rw [e1, e2]; exact .str x t
  exact .cons (as := []) (bs := []) hk (GK h3)
theorem WC {P : Program} {w : World} : ∀ {es : List DictEntry} {kvs : List (Key × Value)}, Pairs (Qv P w) es kvs → es.map (·.val) = kvs.map (·.2)
 | _, _, .nil => rfl
 | _, _, .cons h1 h2 h3 => by rw [List.map_cons, List.map_cons, h2, WC h3]
theorem KV.vals {kvs : List (Key × V)} {vs : List (Key × Value)} (r : KV kvs vs) : Vals (kvs.map (·.2)) (vs.map (·.2)) ∧ (kvs.map fun kv => kD kv.1) = vs.map fun kv => kD kv.1 := by
 unfold KV at r
 induction r with
 | nil => exact ⟨.nil, rfl⟩
 | cons h _ ih => exact ⟨.cons h.2 ih.1, by rw [List.map_cons, List.map_cons, h.1, ih.2]⟩
theorem HR {h : Heap} : ∀ {ks : List Key} {us : List Value}, Vals (ks.map kV) us → ReadsAll h us (ks.map kD) []
 | [], _, r => by rw [List.map_nil] at r; cases r; exact .nil
 | k :: ks, _, r => by
  rw [List.map_cons] at r
  cases r with
  | cons r1 r2 =>
   rw [List.map_cons]
   refine .cons (as := []) (bs := []) ?_ (HR r2)
   cases k with
   | inl i => obtain ⟨t, rfl⟩ := r1; exact .int i t
   | inr x => obtain ⟨t, rfl⟩ := r1; exact .str x t
theorem KT.read (I : Inv X pins σ H s) {kvs : List (List Key × V)} {xs : List (List Key × Addr × Value)} (r : KT H kvs xs) :
  ReadsAll s.heap (xs.map fun x => Value.ref x.2.1) (kvs.map fun kv => PyData.tuple (kv.1.map kD)) [] ∧ Vals (kvs.map (·.2)) (xs.map fun x => x.2.2) := by
 induction r with
 | nil => exact ⟨.nil, .nil⟩
 | @cons p q ps qs h _ ih =>
  obtain ⟨its, r, ⟨o, ho, hc, n, hd⟩, _⟩ := I.tuple (SqT.of (K := X.K) h.2.1)
  rw [List.map_cons, List.map_cons, List.map_cons, List.map_cons]
  exact ⟨.cons (as := []) (bs := []) (.tuple ho hc hd (by simpa using HR r)) ih.1, .cons h.2.2 ih.2⟩
mutual
theorem Dt.reads (I : Inv X pins σ H s) : ∀ {v : V} {d : PyData}, Dt X.K M H v d → ∀ {u : Value}, RelV v u → ∃ as, Reads s.heap u d as ∧ (Ju d = false → sysModules ∉ as)
 | _, _, .non, _, r => by cases r; exact ⟨[], .none, fun _ h => nomatch h⟩
 | _, _, .bl b, _, r => by cases r; exact ⟨[], .bool b, fun _ h => nomatch h⟩
 | _, _, .int i, _, r => by obtain ⟨t, rfl⟩ := r; exact ⟨[], .int i t, fun _ h => nomatch h⟩
 | _, _, .str x, _, r => by obtain ⟨t, rfl⟩ := r; exact ⟨[], .str x t, fun _ h => nomatch h⟩
 | _, _, .tup h1 h2, _, r => by
  cases r
  obtain ⟨its, rv, ⟨o, ho, hc, n, hd⟩, _⟩ := I.tuple h1.sq
  obtain ⟨as, ra, hs⟩ := Dts.reads I h2 rv
  exact ⟨as, .tuple ho hc hd (by simpa using ra), fun h => hs (by simpa [Ju] using h)⟩
 | _, _, .lst h1 h2, _, r => by
  cases r
  obtain ⟨its, rv, ⟨o, n, ho, hc, _, hd⟩, _⟩ := I.list h1.sq
  obtain ⟨as, ra, hs⟩ := Dts.reads I h2 rv
  exact ⟨_, .list ho hc hd (by simpa using ra), fun h => by simp [Ju] at h⟩
 | _, _, .dK (a := a) (kvs := kvs) (ds := ds) h0 h1 h2, _, r => by
  cases r
  obtain ⟨_, hsys, vs, rel, o, es, ep, ho, hc, hd, _, hp, _⟩ := (show Jc X.prog X.w H s.heap a (.dK kvs) from I.hok a _ h1)
  obtain ⟨rv, hk⟩ := KV.vals rel
  obtain ⟨bs, rb, hs⟩ := Dts.reads I h2 rv
  have hl : (kvs.map fun kv => kD kv.1).length = ds.length := by rw [List.length_map, ← h2.length, List.length_map]
  refine ⟨a :: [] ++ bs, .dict (as := []) ho hc.1 hd ?_ ?_, fun h => ?_⟩
  ·rw [List.map_fst_zip (Nat.le_of_eq hl), hk]
   exact GK hp
  ·rw [List.map_snd_zip (Nat.le_of_eq hl.symm), WC hp]
   exact rb
  ·have h' : QS ds = false := V4 _ _ hl (by rw [Ju] at h; exact h)
   intro hm
   rcases List.mem_cons.mp hm with e | hm
   ·rw [← e] at hsys
    simp at hsys
   ·exact hs h' hm
 | _, _, .dT (a := a) (kvs := kvs) (ds := ds) h0 h1 h2, _, r => by
  cases r
  obtain ⟨_, hsys, xs, rel, o, es, ep, ho, hc, hd, he, _⟩ := (show Jc X.prog X.w H s.heap a (.dT kvs) from I.hok a _ h1)
  obtain ⟨rk, rv⟩ := KT.read I rel
  obtain ⟨bs, rb, hs⟩ := Dts.reads I h2 rv
  have hl : (kvs.map fun kv => PyData.tuple (kv.1.map kD)).length = ds.length := by rw [List.length_map, ← h2.length, List.length_map]
  refine ⟨a :: [] ++ bs, .dict (as := []) ho hc.1 hd ?_ ?_, fun h => ?_⟩
  ·rw [List.map_fst_zip (Nat.le_of_eq hl), he, List.map_map]
   exact rk
  ·rw [List.map_snd_zip (Nat.le_of_eq hl.symm), he, List.map_map]
   exact rb
  ·have h' : QS ds = false := V4 _ _ hl (by rw [Ju] at h; exact h)
   intro hm
   rcases List.mem_cons.mp hm with e | hm
   ·rw [← e] at hsys
    simp at hsys
   ·exact hs h' hm
 | _, _, .dX (a := a) (dk := dk) (d := d) h0 h1 hsys h3 h4 h5, _, r => by
  cases r
  obtain ⟨hφ, _⟩ := (show Jc X.prog X.w H s.heap a (.ext _) from I.hok a _ h1)
  obtain ⟨o, es, n, u, ho, hc, hd, ek, ev, ru⟩ := h3 s.heap hφ
  obtain ⟨as, ra, ha⟩ := Dt.reads I h4 (u := .ref _) rfl
  obtain ⟨bs, rb, hb⟩ := Dt.reads I h5 ru
  refine ⟨a :: (as ++ []) ++ (bs ++ []), .dict ho hc hd ?_ ?_, fun h => ?_⟩
  ·rw [ek]; exact .cons ra .nil
  ·rw [ev]; exact .cons rb .nil
  ·have h' : Ju dk = false ∧ Ju d = false := by simpa [Ju, Yg] using h
   intro hm
   rw [List.append_nil, List.append_nil, List.cons_append] at hm
   rcases List.mem_cons.mp hm with e | hm
   ·rw [← e] at hsys
    simp at hsys
   ·rcases List.mem_append.mp hm with hm | hm
    ·exact ha h'.1 hm
    ·exact hb h'.2 hm
theorem Dts.reads (I : Inv X pins σ H s) : ∀ {vs : List V} {ds : List PyData}, Dts X.K M H vs ds → ∀ {us : List Value}, Vals vs us → ∃ as, ReadsAll s.heap us ds as ∧ (QS ds = false → sysModules ∉ as)
 | _, _, .nil, _, r => by cases r; exact ⟨[], .nil, fun _ h => nomatch h⟩
 | _, _, .cons (d := d) (ds := ds) h1 h2, _, r => by
  cases r with
  | cons r1 r2 =>
   obtain ⟨as, ra, ha⟩ := Dt.reads I h1 r1
   obtain ⟨bs, rb, hb⟩ := Dts.reads I h2 r2
   refine ⟨as ++ bs, .cons ra rb, fun h hm => ?_⟩
   have h' : Ju d = false ∧ QS ds = false := by simpa [QS] using h
   rcases List.mem_append.mp hm with hm | hm
   ·exact ha h'.1 hm
   ·exact hb h'.2 hm
end
end
section
variable {X : Cx}
structure Shw (d : PyData) : Prop where
 s : d.showable = true
 m : (d.hasDict && Ju d) = false
 dp : d.depth ≤ 64
 z : d.shown.length ≤ sizeLine
noncomputable def ZaZ : D1 := fun xs M Φ => on1 xs fun x => onD x fun d => Shw d ∧ Φ (.dat (.str d.shown)) M
noncomputable def tyN : PyData → String
 | .none => "NoneType"
 | .bool _ => "bool"
 | .int _ => "int"
 | .str _ => "str"
 | .list _ => "list"
 | .tuple _ => "tuple"
 | .dict _ => "dict"
theorem Hc : VX X (.builtin "isinstance") (fun xs H Q => ∃ v d M T b, xs = [v, .ty T] ∧ Dt X.K M H v d ∧ PySem.W.kitOne X.K (.type (tyN d)) (.type T) = some b ∧ Q (.bl b) H) := by
 intro pins s σ H xs us Q I r h
 obtain ⟨v, d, M, T, b, rfl, hd, e, q⟩ := h
 obtain ⟨u, w', rfl, ru, rt⟩ := vals2 r
 cases (show w' = Value.type T from rt)
 have fin : ∀ tk, EP X pins σ Q (.bool b) { s with toks := tk } := fun tk => ⟨.bl b, H, I.tok tk, rfl, q⟩
 cases hd with
 | non => cases ru; exact PySem.W.kia_one PySem.W.kitx_none I.kIn True.intro e (fun z => nomatch z) fin
 | bl y => cases ru; exact PySem.W.kia_one PySem.W.kitx_bool I.kIn True.intro e (fun z => nomatch z) fin
 | int i => obtain ⟨t, rfl⟩ := ru; exact PySem.W.kia_one PySem.W.kitx_int I.kIn True.intro e (fun z => nomatch z) fin
 | str y => obtain ⟨t, rfl⟩ := ru; exact PySem.W.kia_one PySem.W.kitx_str I.kIn True.intro e (fun z => nomatch z) fin
 | tup h1 _ =>
  cases ru
  obtain ⟨_, _, ⟨o, ho, hc, _⟩, _⟩ := I.tuple h1.sq
  exact PySem.W.kia_one PySem.W.kitx_tuple I.kIn ⟨o, ho, hc⟩ e (fun z => nomatch z) fin
 | lst h1 _ =>
  cases ru
  obtain ⟨_, _, ⟨o, n, ho, hc, _⟩, _⟩ := I.list h1.sq
  exact PySem.W.kia_one PySem.W.kitx_list I.kIn ⟨o, ho, hc⟩ e (fun z => nomatch z) fin
 | dK _ h1 _ =>
  cases ru
  obtain ⟨_, _, vs, _, p⟩ := (show Jc X.prog X.w H s.heap _ (.dK _) from I.hok _ _ h1)
  obtain ⟨o, es, ep, g1, g2, _⟩ := p
  exact PySem.W.kia_one PySem.W.kitx_dict I.kIn ⟨o, g1, g2.1⟩ e (fun z => nomatch z) fin
 | dT _ h1 _ =>
  cases ru
  obtain ⟨_, _, xs, _, o, es, ep, g1, g2, _⟩ := (show Jc X.prog X.w H s.heap _ (.dT _) from I.hok _ _ h1)
  exact PySem.W.kia_one PySem.W.kitx_dict I.kIn ⟨o, g1, g2.1⟩ e (fun z => nomatch z) fin
 | dX _ h1 _ h3 _ _ =>
  cases ru
  obtain ⟨hφ, _⟩ := (show Jc X.prog X.w H s.heap _ (.ext _) from I.hok _ _ h1)
  obtain ⟨o, es, n, u, ho, hc, _⟩ := h3 s.heap hφ
  exact PySem.W.kia_one PySem.W.kitx_dict I.kIn ⟨o, ho, hc⟩ e (fun z => nomatch z) fin
noncomputable def ZX (T : String) (d : PyData) : Bool := tyN d == T || (T == "int" && tyN d == "bool")
theorem EV (K : PySem.W.Frag) (d : PyData) : PySem.W.kitOne K (.type (tyN d)) (.type "int") = some (ZX "int" d) := by cases d <;> rfl
theorem UN (K : PySem.W.Frag) (d : PyData) : PySem.W.kitOne K (.type (tyN d)) (.type "bool") = some (ZX "bool" d) := by cases d <;> rfl
theorem kit_tuple (K : PySem.W.Frag) (d : PyData) : PySem.W.kitOne K (.type (tyN d)) (.type "tuple") = some (ZX "tuple" d) := by cases d <;> rfl
noncomputable def Si (T : String) : D1 := fun xs M Φ => match xs with | [.dat d, .ty t] => t = T ∧ Φ (.dat (.bool (ZX T d))) M | _ => False
theorem V2 {T : String} (ht : ∀ d, PySem.W.kitOne X.K (.type (tyN d)) (.type T) = some (ZX T d)) : Ys X (.builtin "isinstance") (Si T) := by
 refine ⟨_, Hc, fun vs H xs M Φ Q r rv h k => ?_⟩
 replace h : ∃ d, xs = [.dat d, .ty T] ∧ Φ (.dat (.bool (ZX T d))) M := by
  unfold Si at h
  split at h
  ·exact ⟨_, by rw [h.1], h.2⟩
  ·exact h.elim
 obtain ⟨d, rfl, q⟩ := h
 obtain ⟨v, u, rfl, h1, h2⟩ := Paired.two rv
 cases (show u = .ty T from h2)
 exact ⟨v, d, M, T, _, rfl, h1, ht d, k.dat r Step.refl (Dt.bl _) q⟩
theorem Zbf (hu : X.A.units + 64 < cLine) : OpR X (compareOp .Eq) (fun x y H Q => ∃ M d e, Dt X.K M H x d ∧ Dt X.K M H y e ∧ d.canLay0 = true ∧ e.canLay0 = true ∧ min d.depth e.depth ≤ 64 ∧ Q (.bl (PyData.eqv d e)) H) := by
 intro pins s σ H x y v u Q I rx ry h
 obtain ⟨M, d, e, h1, h2, c1, c2, hdp, q⟩ := h
 obtain ⟨as, ra, _⟩ := h1.reads I rx
 obtain ⟨bs, rb, _⟩ := h2.reads I ry
 exact PySem.SeqAt.compareEq_reads ra rb c1 c2 (by omega) ⟨.bl _, H, I, rfl, q⟩
theorem ZbL (hu : X.A.units + 64 < cLine) : OpR X (compareOp .NotEq) (fun x y H Q => ∃ M d e, Dt X.K M H x d ∧ Dt X.K M H y e ∧ d.canLay0 = true ∧ e.canLay0 = true ∧ min d.depth e.depth ≤ 64 ∧ Q (.bl (!PyData.eqv d e)) H) := by
 intro pins s σ H x y v u Q I rx ry h
 obtain ⟨M, d, e, h1, h2, c1, c2, hdp, q⟩ := h
 obtain ⟨as, ra, _⟩ := h1.reads I rx
 obtain ⟨bs, rb, _⟩ := h2.reads I ry
 exact PySem.SeqAt.compareNe_reads ra rb c1 c2 (by omega) ⟨.bl _, H, I, rfl, q⟩
noncomputable def TC (d e : PyData) : Bool := d.canLay0 && e.canLay0 && Nat.ble (min d.depth e.depth) 64
noncomputable def eqD : PyData → PyData → (Bool → Prop) → Prop
 | .int i, .int j, P => P (decide (i = j))
 | .str s, .str t, P => P (decide (s = t))
 | .bool a, .bool b, P => P (a == b)
 | d, e, P => TC d e = true ∧ P (PyData.eqv d e)
theorem PN {d e : PyData} {P : Bool → Prop} (h : TC d e = true) (p : P (PyData.eqv d e)) : eqD d e P := by
 unfold eqD
 split
 ·simp only [PyData.eqv] at p
  rw [show decide (_ = _) = (_ == _) from (Bool.beq_eq_decide_eq _ _).symm] at *
  exact p
 ·simp only [PyData.eqv] at p
  rw [show decide (_ = _) = (_ == _) from (Bool.beq_eq_decide_eq _ _).symm] at *
  exact p
 ·simp only [PyData.eqv] at p
  exact p
 ·exact ⟨h, p⟩
theorem P0 {d e : PyData} {P : Bool → Prop} (h : eqD d e P) : (d.canLay0 = true ∧ e.canLay0 = true ∧ min d.depth e.depth ≤ 64 ∧ P (PyData.eqv d e)) ∨ ∃ s t, d = .str s ∧ e = .str t ∧ P (decide (s = t)) := by
 unfold eqD at h
 split at h
 ·refine .inl ⟨by simp [PyData.canLay0], by simp [PyData.canLay0], by simp [PyData.depth], ?_⟩
  simp only [PyData.eqv]
  rw [Bool.beq_eq_decide_eq]
  exact h
 ·exact .inr ⟨_, _, rfl, rfl, h⟩
 ·refine .inl ⟨by simp [PyData.canLay0], by simp [PyData.canLay0], by simp [PyData.depth], ?_⟩
  simp only [PyData.eqv]
  exact h
 ·have h1 := h.1
  unfold TC at h1
  simp only [Bool.and_eq_true] at h1
  exact .inl ⟨h1.1.1, h1.1.2, Nat.le_of_ble_eq_true h1.2, h.2⟩
theorem ZcH {f : Value → Value → Sem Value} {r1 r2 : R2} (h1 : OpR X f r1) (h2 : OpR X f r2) : OpR X f (fun x y H Q => r1 x y H Q ∨ r2 x y H Q) :=
 fun pins s σ H x y v u Q I rx ry h => h.elim (h1 pins s σ H x y v u Q I rx ry) (h2 pins s σ H x y v u Q I rx ry)
noncomputable def δEq : D2 := fun x y M Φ => onD x fun d => onD y fun e => eqD d e fun b => Φ (.dat (.bool b)) M
noncomputable def δNe : D2 := fun x y M Φ => onD x fun d => onD y fun e => eqD d e fun b => Φ (.dat (.bool (!b))) M
theorem Jf {k : Nat} (hr : Xc k X.A) : OpD X (compareOp .Eq) δEq :=
 ⟨_, ZcH (Zbf hr.units) Zdo, fun v u H x y M Φ Q r rv ru h k => by
  obtain ⟨d, e1, h⟩ := Q8 h
  obtain ⟨e, e2, h⟩ := Q8 h
  subst e1 e2
  rcases P0 h with ⟨c1, c2, hdp, q⟩ | ⟨s, t, rfl, rfl, q⟩
  ·exact .inl ⟨M, d, e, rv, ru, c1, c2, hdp, k.dat r Step.refl (Dt.bl _) q⟩
  ·have q' : Q (.bl (decide (s = t))) H := k.dat r Step.refl (Dt.bl _) q
   refine .inr ⟨by rw [rv.str, ru.str]; rfl, ?_⟩
   rw [rv.str, ru.str, WX, Bool.beq_eq_decide_eq]
   exact q'⟩
theorem W2 {k : Nat} (hr : Xc k X.A) : OpD X (compareOp .NotEq) δNe :=
 ⟨_, ZcH (ZbL hr.units) Zd9, fun v u H x y M Φ Q r rv ru h k => by
  obtain ⟨d, e1, h⟩ := Q8 h
  obtain ⟨e, e2, h⟩ := Q8 h
  subst e1 e2
  rcases P0 h with ⟨c1, c2, hdp, q⟩ | ⟨s, t, rfl, rfl, q⟩
  ·exact .inl ⟨M, d, e, rv, ru, c1, c2, hdp, k.dat r Step.refl (Dt.bl _) q⟩
  ·have q' : Q (.bl (!decide (s = t))) H := k.dat r Step.refl (Dt.bl _) q
   refine .inr ⟨by rw [rv.str, ru.str]; rfl, ?_⟩
   rw [rv.str, ru.str, WX, Bool.beq_eq_decide_eq]
   exact q'⟩
noncomputable def Zej : D2 := fun x y M Φ => onS x fun s => onS y fun t => Φ (.dat (.bool (!decide (s = t)))) M
noncomputable def Zdh : D2 := fun x y M Φ => onS x fun s => onS y fun t => Φ (.dat (.bool (decide (s = t)))) M
noncomputable abbrev DTO := DSt → Mp → (Option Int → Mp → Prop) → Prop
noncomputable def DO (X : Cx) (e : Option Expr) (τ : DTO) : Prop := ∃ t, PO X e t ∧ ∀ σ H Δ M Φ (Q : Option Int → Hp → Prop), Z8 X.K M H → J6 X.K M H σ Δ → τ Δ M Φ → (∀ o H' M', Z8 X.K M' H' → Step M H M' H' → Φ o M' → Q o H') → t σ H Q
noncomputable def Rr : DTO := fun _ M Φ => Φ none M
noncomputable def ZaN (t : DTE) : DTO := fun Δ M Φ => t Δ M fun x M1 => onI x fun i => Φ (some i) M1
theorem LJ {e : Expr} {te : DTE} (h : DE X e te) : DO X (some e) (ZaN te) := by
 obtain ⟨t, p, q⟩ := h
 refine ⟨_, SD p, fun σ H Δ M Φ Q r e h k => ?_⟩
 refine q σ H Δ M _ _ r e h fun v H1 x M1 r1 st rv hx => ?_
 replace hx := ZM hx
 obtain ⟨i, rfl, hx⟩ := hx
 exact ⟨i, rv.int, k _ H1 M1 r1 st hx⟩
noncomputable def cutD (xs : List PyData) (lo hi : Option Int) : List PyData := (xs.drop (HT.sIx xs.length 0 lo)).take (HT.sIx xs.length xs.length hi - HT.sIx xs.length 0 lo)
theorem Dts.cut {K : PySem.W.Frag} {M : Mp} {H : Hp} {vs : List V} {ds : List PyData} (h : Dts K M H vs ds) (lo hi : Option Int) : Dts K M H (Sj vs lo hi) (cutD ds lo hi) := by
 unfold Sj cutD
 rw [h.length]
 exact (h.drop _).take _
noncomputable def ZeK (te : DTE) (tl th : DTO) : DTE := fun Δ M Φ => te Δ M fun x M1 => tl Δ M1 fun l M2 => th Δ M2 fun u M3 => onT x fun ds => ¬ (HT.sIx ds.length 0 l = 0 ∧ HT.sIx ds.length ds.length u = ds.length) ∧ Φ (.dat (.tuple (cutD ds l u))) M3
theorem Hj {e : Expr} {te : DTE} {lo hi : Option Expr} {tl th : DTO} {p2 pos : Pos} (he : DE X e te) (hl : DO X lo tl) (hu : DO X hi th) : DE X (.Subscript e (.Slice lo hi none p2) pos) (ZeK te tl th) := by
 obtain ⟨t1, p1, q1⟩ := he
 obtain ⟨t2, p2, q2⟩ := hl
 obtain ⟨t3, p3, q3⟩ := hu
 refine ⟨_, OJ Zcq p1 p2 p3, fun σ H Δ M Φ Q r e h k => ?_⟩
 refine q1 σ H Δ M _ _ r e h fun v H1 x M1 r1 st rv hx => ?_
 refine q2 σ H1 Δ M1 _ _ r1 (e.step st) hx fun l H2 M2 r2 st2 hl => ?_
 refine q3 σ H2 Δ M2 _ _ r2 (e.step (st.trans st2)) hl fun u H3 M3 r3 st3 hu => ?_
 replace hu := WT hu
 obtain ⟨ds, rfl, hw, hu⟩ := hu
 obtain ⟨a, xs, rfl, h1, h2⟩ := (rv.step (st2.trans st3)).tup
 refine ⟨a, xs, rfl, h1.sq, by rw [h2.length]; exact hw, fun p hp => ?_⟩
 exact k.dat (r3.new hp) ((st.trans (st2.trans st3)).trans (Step.new hp)) (Dt.Gy r3 hp (h2.cut l u)) hu
end
end DL
namespace DL
open PySem PySem.Spec PyProof.Rows L2
noncomputable def Zbk : DTS := fun D Δ M => D.nx Δ M
noncomputable def Zc1 (t u : DTS) : DTS := fun D Δ M => t { D with nx := u D } Δ M
section
variable {X : Cx} {st : Stmt} {rest : List Stmt} {t u : DTS} {e : Expr} {te : DTE} {pos : Pos}
theorem ZD : DSs X [] Zbk := ⟨_, P5, fun σ H Δ M D E r e h k => k.nx σ H Δ M r Step.refl e h⟩
theorem Ze (h1 : DS X st t) (h2 : DSs X rest u) : DSs X (st :: rest) (Zc1 t u) := by
 obtain ⟨t1, p1, q1⟩ := h1
 obtain ⟨t2, p2, q2⟩ := h2
 refine ⟨_, NW p1 p2, fun σ H Δ M D E r e h k => ?_⟩
 refine q1 σ H Δ M { D with nx := u D } { E with nx := t2 E } r e h ⟨fun σ' H' Δ' M' r' st' e' hn => ?_, k.rt, k.bk, k.ct⟩
 exact q2 σ' H' Δ' M' D E r' e' hn (k.step st')
theorem Zi (h1 : DS X st t) : DSs X [st] t := by
 obtain ⟨t1, p1, q1⟩ := h1
 exact ⟨_, Se p1, q1⟩
noncomputable def TQ : DTS := fun D Δ M => D.bk Δ M
noncomputable def ZdZ : DTS := fun D Δ M => D.ct Δ M
noncomputable def ZaF (te : DTE) : DTS := fun D Δ M => te Δ M fun _ M1 => D.nx Δ M1
theorem Jb (he : DE X e te) (hs : swapsWith e none pos.line X.env = pure false := by rfl) : DS X (.Expr e pos) (ZaF te) := by
 obtain ⟨t, p, q⟩ := he
 refine ⟨_, Sy p hs, fun σ H Δ M D E r e h k => ?_⟩
 exact q σ H Δ M _ _ r e h fun v H1 x M1 r1 st rv hx => k.nx σ H1 Δ M1 r1 st (e.step st) hx
noncomputable def Zer (te : DTE) : DTS := fun D Δ M => te Δ M D.rt
theorem Zo (he : DE X e te) : DS X (.Return (some e) pos) (Zer te) := by
 obtain ⟨t, p, q⟩ := he
 exact ⟨_, Zbr p, fun σ H Δ M D E r e h k => q σ H Δ M _ _ r e h k.rt⟩
noncomputable def Zek : DTS := fun D _ M => D.rt (.dat .none) M
noncomputable def ZcU (c : DTT) (t u : DTS) : DTS := fun D Δ M => c Δ M fun b M1 => if b = true then t D Δ M1 else u D Δ M1
theorem Ql {c : Expr} {a b : List Stmt} {tc : DTT} (hc : DT X c tc) (ha : DSs X a t) (hb : DSs X b u) : DS X (.If c a b pos) (ZcU tc t u) := by
 obtain ⟨t0, p0, q0⟩ := hc
 obtain ⟨t1, p1, q1⟩ := ha
 obtain ⟨t2, p2, q2⟩ := hb
 refine ⟨_, ZdR p0 p1 p2, fun σ H Δ M D E r e h k => ?_⟩
 refine q0 σ H Δ M _ _ r e h fun c H1 M1 r1 st hc => ?_
 cases c with
 | true => rw [if_pos rfl]; exact q1 σ H1 Δ M1 D E r1 (e.step st) (by simpa using hc) (k.step st)
 | false => rw [if_neg Bool.false_ne_true]; exact q2 σ H1 Δ M1 D E r1 (e.step st) (by simpa using hc) (k.step st)
noncomputable abbrev DTG := DV → DSt → Mp → (DSt → Mp → Prop) → Prop
noncomputable abbrev EA := List DV → DSt → Mp → (DSt → Mp → Prop) → Prop
noncomputable def DG (X : Cx) (tg : Expr) (τ : DTG) : Prop := ∃ t, PG X tg t ∧ ∀ v σ H x Δ M Φ (Q : L2.St → Hp → Prop), Z8 X.K M H → J6 X.K M H σ Δ → Q1 X.K M H v x → τ x Δ M Φ →
 (∀ σ' H' Δ' M', Z8 X.K M' H' → Step M H M' H' → J6 X.K M' H' σ' Δ' → Φ Δ' M' → Q σ' H') → t v σ H Q
noncomputable def DGs (X : Cx) (ts : List Expr) (τ : EA) : Prop := ∃ t, PGs X ts t ∧ ∀ vs σ H xs Δ M Φ (Q : L2.St → Hp → Prop), Z8 X.K M H → J6 X.K M H σ Δ → YT X.K M H vs xs → τ xs Δ M Φ →
 (∀ σ' H' Δ' M', Z8 X.K M' H' → Step M H M' H' → J6 X.K M' H' σ' Δ' → Φ Δ' M' → Q σ' H') → t vs σ H Q
noncomputable def Wi (i : Nat) : DTG := fun x Δ M Φ => Φ (Δ.set i (some x)) M
theorem Zk (i : Nat) {x : Str} (hN : X.N.Nodup) (hi : X.N[i]? = some x := by rfl) (hx : Loc X.env.scope x := by first | exact Or.inl rfl | exact Or.inr rfl) (hf : X.fn x = true ∨ X.env.scope.names.lookup x = some .local := by first | exact .inl rfl | exact .inr rfl | assumption) :
  DG X (.Name x pos) (Wi i) :=
 ⟨_, HN hN hi hx hf, fun v σ H x Δ M Φ Q r e rv h k => k _ H _ M r Step.refl (e.set rv) h⟩
noncomputable def RA : EA := fun xs Δ M Φ => match xs with | [] => Φ Δ M | _ => False
noncomputable def CS (t : DTG) (u : EA) : EA := fun xs Δ M Φ => match xs with | x :: r => t x Δ M fun Δ' M' => u r Δ' M' Φ | [] => False
theorem QA : DGs X [] RA := ⟨_, S6, fun vs σ H xs Δ M Φ Q r e rv h k => by
 cases xs with
 | cons x r => exact h.elim
 | nil =>
 have h2 : Φ Δ M := h
 cases rv
 exact ⟨rfl, k σ H Δ M r Step.refl e h2⟩⟩
theorem Zw {es : List Expr} {t : DTG} {u : EA} (h1 : DG X e t) (h2 : DGs X es u)
  (hs : (assignEach (e :: es) X.env).map (·.2) = assign e X.env :: (assignEach es X.env).map (·.2) := by rfl) : DGs X (e :: es) (CS t u) := by
 obtain ⟨t1, p1, q1⟩ := h1
 obtain ⟨t2, p2, q2⟩ := h2
 refine ⟨_, Mb p1 p2 hs, fun vs σ H xs Δ M Φ Q r e rv h k => ?_⟩
 obtain ⟨x, xr, e1, h⟩ : ∃ x xr, xs = x :: xr ∧ t x Δ M fun Δ' M' => u xr Δ' M' Φ := by
  cases xs with
  | nil => exact h.elim
  | cons x xr => exact ⟨x, xr, rfl, h⟩
 subst e1
 cases rv with
 | cons ra rr =>
  refine ⟨_, _, rfl, q1 _ σ H x Δ M _ _ r e ra h fun σ' H' Δ' M' r' st e' h' => ?_⟩
  exact q2 _ σ' H' xr Δ' M' Φ Q r' e' (YT.step rr st) h' fun σ2 H2 Δ2 M2 r2 st2 e2 hΦ => k σ2 H2 Δ2 M2 r2 (st.trans st2) e2 hΦ
noncomputable def LZ : Nat → List PyData → (List DV → Prop) → Prop
 | 0, [], P => P []
 | n + 1, d :: r, P => LZ n r fun xs => P (.dat d :: xs)
 | 0, _ :: _, _ => False
 | _ + 1, [], _ => False
theorem BF : ∀ {n : Nat} {ds : List PyData} {P : List DV → Prop}, LZ n ds P → ds.length = n ∧ P (ds.map DV.dat)
 | 0, [], _, h => ⟨rfl, h⟩
 | n + 1, d :: r, P, h => by
  obtain ⟨a, b⟩ := BF (n := n) (ds := r) h
  exact ⟨by rw [List.length_cons, a], b⟩
 | 0, _ :: _, _, h => h.elim
 | _ + 1, [], _, h => h.elim
noncomputable def Hs (n : Nat) (t : EA) : DTG := fun x Δ M Φ => onT x fun ds => LZ n ds fun xs => t xs Δ M Φ
theorem Dts.Rq {K : PySem.W.Frag} {M : Mp} {H : Hp} : ∀ {vs : List V} {ds : List PyData}, Dts K M H vs ds → YT K M H vs (ds.map DV.dat)
 | _, _, .nil => .nil
 | _, _, .cons h1 h2 => .cons h1 (Dts.Rq h2)
theorem Jy {es : List Expr} {k : Nat} {t : EA} {n : Nat} (hc : X.calm = true) (h : DGs X es t) (hn : (assignEach es X.env).length = n := by rfl) (hst : (assignEach es X.env).findIdx? (·.1) = none := by rfl) : DG X (.Tuple es k pos) (Hs n t) := by
 obtain ⟨t1, p1, q1⟩ := h
 refine ⟨_, T4 hc p1 hn hst, fun v σ H x Δ M Φ Q r e rv h k => ?_⟩
 replace h := WT h
 obtain ⟨ds, rfl, h⟩ := h
 replace h := BF h
 obtain ⟨hl, h⟩ := h
 obtain ⟨a, xs, rfl, h1, h2⟩ := rv.tup
 exact ⟨a, xs, rfl, h1.sq, by rw [h2.length]; exact hl, q1 xs σ H _ Δ M Φ Q r e h2.Rq h k⟩
noncomputable def ZaK (to ti : DTE) : DTG := fun x Δ M Φ => to Δ M fun o M1 => ti Δ M1 fun i M2 => onO o fun l => onI i fun k => onD x fun d => Kd (M2 l) fun ds => ∃ j, ixN ds.length k = some j ∧ Φ Δ (Z3 M2 l (.lst (ds.set j d)))
theorem LO {o i : Expr} {to ti : DTE} (ho : DE X o to) (hi : DE X i ti)
  (ha : ∀ v, assign (.Subscript o i pos) X.env v = (do
   let ov ← holding [v] (eval o X.env)
   let iv ← holding [v, ov] (eval i X.env)
   standAt pos
   holding [v, ov, iv] (setItem ov iv v)
   release [v, ov, iv] []) := by intro _; rfl) : DG X (.Subscript o i pos) (ZaK to ti) := by
 obtain ⟨t1, p1, q1⟩ := ho
 obtain ⟨t2, p2, q2⟩ := hi
 refine ⟨_, ZaI p1 p2 set_list ha, fun v σ H x Δ M Φ Q r e rv h k => ?_⟩
 refine Snd.bin q1 q2 r e h fun w1 w2 H2 o' i' M2 r2 st ro ri hs => ?_
 replace hs := Q7 hs
 obtain ⟨l, rfl, hs⟩ := hs
 replace hs := ZM hs
 obtain ⟨kk, rfl, hs⟩ := hs
 replace hs := Q8 hs
 obtain ⟨d, rfl, hs⟩ := hs
 replace hs := Vw hs
 obtain ⟨ds, hm, j, hj, hΦ⟩ := hs
 obtain ⟨vs, g1, g2⟩ := r2.ls l ds hm
 cases (show w1 = .ref l from ro)
 have rv2 : Dt X.K M2 H2 v d := Dt.step st rv
 have st2 : Step M2 H2 (Z3 M2 l (.lst (ds.set j d))) (upd H2 l (.lst (vs.set j v))) := Step.Ga hm
 refine ⟨l, vs, kk, j, rfl, ri.int, g1, by rw [g2.length]; exact hj, ?_⟩
 exact k σ _ Δ _ (r2.XM st2 (g2.set rv2 j)) (st.trans st2) (e.step (st.trans st2)) hΦ
noncomputable def Zaj (te : DTE) (g : DTG) : DTS := fun D Δ M => te Δ M fun x M1 => g x Δ M1 D.nx
theorem J2 {tg : Expr} {g : DTG} (he : DE X e te) (hg : DG X tg g) (hs : swapsWithSole [tg] e pos.line X.env = pure false := by rfl) (hw : swappedStores [tg] e X.env = pure none := by rfl)
  (h1 : (assignEach [tg] X.env).map (·.2) = [assign tg X.env] := by rfl) : DS X (.Assign [tg] e pos) (Zaj te g) := by
 obtain ⟨t1, p1, q1⟩ := he
 obtain ⟨t2, p2, q2⟩ := hg
 refine ⟨_, ZaR p1 p2 hs hw h1, fun σ H Δ M D E r e h k => ?_⟩
 refine q1 σ H Δ M _ _ r e h fun v H1 x M1 r1 st rv hx => ?_
 exact q2 v σ H1 x Δ M1 _ _ r1 (e.step st) rv hx fun σ' H' Δ' M' r' st' e' hn => k.nx σ' H' Δ' M' r' (st.trans st') e' hn
theorem Zn (i : Nat) {x : Str} {pos' : Pos} (hN : X.N.Nodup) (he : DE X e te) (hi : X.N[i]? = some x := by rfl) (hx : Loc X.env.scope x := by first | exact Or.inl rfl | exact Or.inr rfl) (hs : swapsWith e (some (.Name x pos')) pos.line X.env = pure false := by rfl)
  (hf : X.fn x = true ∨ X.env.scope.names.lookup x = some .local := by first | exact .inl rfl | exact .inr rfl | assumption) : DS X (.Assign [.Name x pos'] e pos) (Zaj te (Wi i)) := by
 obtain ⟨t1, p1, q1⟩ := he
 refine ⟨_, ZcE hN hi hx p1 hs hf, fun σ H Δ M D E r e h k => ?_⟩
 refine q1 σ H Δ M _ _ r e h fun v H1 x M1 r1 st rv hx => ?_
 exact k.nx _ H1 _ M1 r1 st ((e.step st).set rv) hx
noncomputable def HS (to te : DTE) : DTE := fun Δ M Φ => to Δ M fun x M1 => onO x fun l => Kd (M1 l) fun _ => te Δ M1 fun y M2 => onD y fun d => Kd (M2 l) fun ds => ds.length < sizeLine ∧ Φ (.dat .none) (Z3 M2 l (.lst (ds ++ [d])))
theorem QN {o : Expr} {to : DTE} {apos cpos : Pos} (ho : DE X o to) (he : DE X e te) (hbase : attributeBase o "append" X.env (eval o X.env) = eval o X.env := by rfl)
  (hfew : ((backTo cpos (starEach [e] X.env)).all (fun x => !x.1) && (backToKw cpos (keywordEach [] X.env)).all (fun x => x.1.isSome)
   && decide ([e].length + ([] : List Keyword).length + (if ([] : List Keyword).isEmpty then 0 else 1) < 30)) = true := by rfl)
  (hline : (apos.endLine == cpos.line) = true := by rfl) (hs : starEach [e] X.env = (false, eval e X.env) :: starEach [] X.env := by rfl) (hplain : (backTo cpos (starEach [] X.env)).any (·.1) = false := by rfl) :
  DE X (.Call (.Attribute o "append" apos) [e] [] cpos) (HS to te) := by
 obtain ⟨t1, p1, q1⟩ := ho
 obtain ⟨t2, p2, q2⟩ := he
 refine ⟨_, Zbv PySem.F.plainAttrs_list PySem.F.slot_list_append PySem.F.type_list_append Li p1 (G8 p2 Lj hs) hbase hfew hline hs hplain, fun σ H Δ M Φ Q r e h k => ?_⟩
 refine q1 σ H Δ M _ _ r e h fun v H1 x M1 r1 st rv hx => ?_
 replace hx := Q7 hx
 obtain ⟨l, rfl, hx⟩ := hx
 replace hx := Vw hx
 obtain ⟨oo, ho, hx⟩ := hx
 cases (show v = .ref l from rv)
 have ty : tyV X.K "list" (.ref l) H1 := by
  obtain ⟨vs, g1, _⟩ := r1.ls l oo ho
  exact .inl ⟨rfl, vs, SqL.of g1⟩
 refine ⟨ty, q2 σ H1 Δ M1 _ _ r1 (e.step st) hx fun w H2 y M2 r2 st2 rw2 hy => ?_⟩
 replace hy := Q8 hy
 obtain ⟨d, rfl, hy⟩ := hy
 replace hy := Vw hy
 obtain ⟨ds, hm, hz, hy⟩ := hy
 obtain ⟨vs, g1, g2⟩ := r2.ls l ds hm
 have st3 : Step M2 H2 (Z3 M2 l (.lst (ds ++ [d]))) (upd H2 l (.lst (vs ++ [w]))) := Step.Ga hm
 refine ⟨l, vs, w, rfl, rfl, g1, by rw [g2.length]; exact hz, ?_⟩
 exact k.dat (r2.XM st3 (g2.append (.cons rw2 .nil))) (st.trans (st2.trans st3)) Dt.non hy
end
section
variable {X : Cx} {tg iter : Expr} {body : List Stmt} {g : DTG} {tb : DTS} {pos : Pos}
noncomputable def EH (g : DTG) (tb : DTS) (D : Q0) (ds : List PyData) (Δ : DSt) (M : Mp) : Prop :=
 ∃ J : Nat → DSt → Mp → Prop, J 0 Δ M ∧ (∀ i d Δ M, ds[i]? = some d → J i Δ M → g (.dat d) Δ M fun Δ2 M2 => tb { D with nx := J (i + 1), ct := J (i + 1), bk := D.nx } Δ2 M2) ∧ ∀ Δ M, J ds.length Δ M → D.nx Δ M
noncomputable def T8 (te : DTE) (g : DTG) (tb : DTS) : DTS := fun D Δ M => te Δ M fun x M1 => onL x fun ds => EH g tb D ds Δ M1
noncomputable def Zbj (te : DTE) (g : DTG) (tb : DTS) : DTS := fun D Δ M => te Δ M fun x M1 => onT x fun ds => EH g tb D ds Δ M1
theorem Bk {te : DTE} (he : DE X iter te) (hg : DG X tg g) (hb : DSs X body tb) (hp : PassesOwn (model X.prog X.w) X.A X.env X.xe) (hc : X.calm = true) (hs : ∀ x, foldedSetIterable iter X.env x = pure x := by intro _; rfl) :
  DS X (.For tg iter body [] pos) (T8 te g tb) := by
 obtain ⟨t1, p1, q1⟩ := he
 obtain ⟨t2, p2, q2⟩ := hg
 obtain ⟨t3, p3, q3⟩ := hb
 refine ⟨_, Cy hp hc (Lz p1) p2 p3 hs, fun σ H Δ M D E r e h k => ?_⟩
 refine q1 σ H Δ M _ _ r e h fun v H1 x M1 r1 st rv hx => ?_
 replace hx := HE hx
 obtain ⟨ds, rfl, J, j0, jt, jd⟩ := hx
 obtain ⟨a, xs, rfl, h1, h2⟩ := rv.lst
 refine ⟨a, rfl, ⟨xs, h1.sq⟩, Of (xs := xs) (fun i σ H => ∃ Δ M, Z8 X.K M H ∧ Step M1 H1 M H ∧ J6 X.K M H σ Δ ∧ J i Δ M) ⟨Δ, M1, r1, Step.refl, e.step st, j0⟩
  (fun i σ H _ ⟨Δ, M, _, st', _, _⟩ => (h1.step st').sq) (fun i y σ H hi ⟨Δ, M, r', st', e', j⟩ => ?_) (fun σ H ⟨Δ, M, r', st', e', j⟩ => ?_)⟩
 ·obtain ⟨d, hd, hy⟩ := h2.Tw hi
  refine q2 y σ H (.dat d) Δ M _ _ r' e' (Dt.step st' hy) (jt i d Δ M hd j) fun σ2 H2 Δ2 M2 r2 st2 e2 hb2 => ?_
  refine q3 σ2 H2 Δ2 M2 _ _ r2 e2 hb2 ?_
  have s12 : Step M1 H1 M2 H2 := st'.trans st2
  exact ⟨fun σ' H' Δ' M' a b c d => ⟨Δ', M', a, s12.trans b, c, d⟩, k.rt.step (st.trans s12), fun σ' H' Δ' M' a b c d => k.nx σ' H' Δ' M' a ((st.trans s12).trans b) c d,
   fun σ' H' Δ' M' a b c d => ⟨Δ', M', a, s12.trans b, c, d⟩⟩
 ·rw [h2.length] at j
  exact k.nx σ H Δ M r' (st.trans st') e' (jd Δ M j)
theorem BA {te : DTE} (he : DE X iter te) (hg : DG X tg g) (hb : DSs X body tb) (hp : PassesOwn (model X.prog X.w) X.A X.env X.xe) (hc : X.calm = true) (hs : ∀ x, foldedSetIterable iter X.env x = pure x := by intro _; rfl) :
  DS X (.For tg iter body [] pos) (Zbj te g tb) := by
 obtain ⟨t1, p1, q1⟩ := he
 obtain ⟨t2, p2, q2⟩ := hg
 obtain ⟨t3, p3, q3⟩ := hb
 refine ⟨_, Cy hp hc (Po p1) p2 p3 hs, fun σ H Δ M D E r e h k => ?_⟩
 refine q1 σ H Δ M _ _ r e h fun v H1 x M1 r1 st rv hx => ?_
 replace hx := WT hx
 obtain ⟨ds, rfl, J, j0, jt, jd⟩ := hx
 obtain ⟨a, xs, rfl, h1, h2⟩ := rv.tup
 refine ⟨a, rfl, ⟨xs, h1.sq⟩, RO (xs := xs) (fun i σ H => ∃ Δ M, Z8 X.K M H ∧ Step M1 H1 M H ∧ J6 X.K M H σ Δ ∧ J i Δ M) ⟨Δ, M1, r1, Step.refl, e.step st, j0⟩
  (fun i σ H _ ⟨Δ, M, _, st', _, _⟩ => (h1.step st').sq) (fun i y σ H hi ⟨Δ, M, r', st', e', j⟩ => ?_) (fun σ H ⟨Δ, M, r', st', e', j⟩ => ?_)⟩
 ·obtain ⟨d, hd, hy⟩ := h2.Tw hi
  refine q2 y σ H (.dat d) Δ M _ _ r' e' (Dt.step st' hy) (jt i d Δ M hd j) fun σ2 H2 Δ2 M2 r2 st2 e2 hb2 => ?_
  refine q3 σ2 H2 Δ2 M2 _ _ r2 e2 hb2 ?_
  have s12 : Step M1 H1 M2 H2 := st'.trans st2
  exact ⟨fun σ' H' Δ' M' a b c d => ⟨Δ', M', a, s12.trans b, c, d⟩, k.rt.step (st.trans s12), fun σ' H' Δ' M' a b c d => k.nx σ' H' Δ' M' a ((st.trans s12).trans b) c d,
   fun σ' H' Δ' M' a b c d => ⟨Δ', M', a, s12.trans b, c, d⟩⟩
 ·rw [h2.length] at j
  exact k.nx σ H Δ M r' (st.trans st') e' (jd Δ M j)
noncomputable def WJ (g : DTG) (tb : DTS) (D : Q0) (lo : Int) (n : Nat) (Δ : DSt) (M : Mp) : Prop :=
 ∃ J : Nat → DSt → Mp → Prop, J 0 Δ M ∧ (∀ i Δ M, i < n → J i Δ M → g (.dat (.int (lo + i))) Δ M fun Δ2 M2 => tb { D with nx := J (i + 1), ct := J (i + 1), bk := D.nx } Δ2 M2) ∧ ∀ Δ M, J n Δ M → D.nx Δ M
theorem O4 {g' : TG} {tb' : TS} {lo : Int} {n : Nat} (q2 : ∀ v σ H x Δ M Φ (Q : L2.St → Hp → Prop), Z8 X.K M H → J6 X.K M H σ Δ → Q1 X.K M H v x → g x Δ M Φ →
  (∀ σ' H' Δ' M', Z8 X.K M' H' → Step M H M' H' → J6 X.K M' H' σ' Δ' → Φ Δ' M' → Q σ' H') → g' v σ H Q)
  (q3 : ∀ σ H Δ M D E, Z8 X.K M H → J6 X.K M H σ Δ → tb D Δ M → KN X.K M H D E → tb' E σ H) {D : Q0} {E : Ends} {σ : L2.St} {H : Hp} {Δ : DSt} {M : Mp} (r : Z8 X.K M H) (e : J6 X.K M H σ Δ) (h : WJ g tb D lo n Δ M) (k : KN X.K M H D E) :
  ∃ W : Nat → Nat → L2.St → Hp → Prop, (∃ m, W 0 m σ H) ∧ ∀ i m σ H, W i m σ H →
   ((Itr lo n).stop i H ∧ E.nx σ H) ∨ ((Itr lo n).go i H ∧ ∃ N : L2.St → Hp → Prop, (∀ σ' H', N σ' H' → ∃ m', m' < m ∧ W (i + 1) m' σ' H') ∧ ∀ x H', (Itr lo n).yld i H x H' → g' x σ H' fun σ2 H2 => tb' { E with nx := N, ct := N, bk := E.nx } σ2 H2) := by
 obtain ⟨J, j0, jt, jd⟩ := h
 refine Fg (fun i σ' H' => ∃ Δ' M', Z8 X.K M' H' ∧ Step M H M' H' ∧ J6 X.K M' H' σ' Δ' ∧ J i Δ' M') ⟨Δ, M, r, Step.refl, e, j0⟩ (fun i σ1 H1 hi ⟨Δ1, M1, r', st', e', j⟩ => ?_) (fun σ1 H1 ⟨Δ1, M1, r', st', e', j⟩ => ?_)
 ·refine q2 _ σ1 H1 (.dat (.int (lo + i))) Δ1 M1 _ _ r' e' (Dt.int _) (jt i Δ1 M1 hi j) fun σ2 H2 Δ2 M2 r2 st2 e2 hb2 => ?_
  refine q3 σ2 H2 Δ2 M2 _ _ r2 e2 hb2 ?_
  have s12 : Step M H M2 H2 := st'.trans st2
  exact ⟨fun σ' H' Δ' M' a b c d => ⟨Δ', M', a, s12.trans b, c, d⟩, k.rt.step s12, fun σ' H' Δ' M' a b c d => k.nx σ' H' Δ' M' a (s12.trans b) c d,
   fun σ' H' Δ' M' a b c d => ⟨Δ', M', a, s12.trans b, c, d⟩⟩
 ·exact k.nx σ1 H1 Δ1 M1 r' st' e' (jd Δ1 M1 j)
noncomputable def InR (j : Int) : Prop := -(2 ^ 62) ≤ j ∧ j < 2 ^ 62
noncomputable def Pu (ta : DTA) (g : DTG) (tb : DTS) : DTS := fun D Δ M => ta Δ M fun xs M1 => on1 xs fun x => onI x fun j => InR j ∧ WJ g tb D 0 j.toNat Δ M1
theorem Jl {a : Expr} {ta : DTA} {p p2 : Pos} (hg0 : Gl X "range") (hm : X.mg "range" = none) (ha : DA X [a] ta) (hg : DG X tg g) (hb : DSs X body tb) (hp : PassesOwn (model X.prog X.w) X.A X.env X.xe) (hc : X.calm = true)
  (hs : starEach [a] X.env = [(false, eval a X.env)] := by rfl) (hs2 : ∀ x, foldedSetIterable (.Call (.Name "range" p) [a] [] p2) X.env x = pure x := by intro _; rfl) : DS X (.For tg (.Call (.Name "range" p) [a] [] p2) body [] pos) (Pu ta g tb) := by
 obtain ⟨t1, p1, q1⟩ := ha
 obtain ⟨t2, p2, q2⟩ := hg
 obtain ⟨t3, p3, q3⟩ := hb
 refine ⟨_, Cy hp hc (GB hg0 hm p1 hs) p2 p3 hs2, fun σ H Δ M D E r e h k => ?_⟩
 refine q1 σ H Δ M _ _ r e h fun vs H1 xs M1 r1 st rv hx => ?_
 replace hx := Z6 hx
 obtain ⟨x, rfl, hx⟩ := hx
 replace hx := ZM hx
 obtain ⟨j, rfl, ⟨h1, h2⟩, hx⟩ := hx
 obtain ⟨v, rfl, hv⟩ := Paired.one rv
 exact ⟨j, by rw [Q1.int hv], h1, h2, O4 q2 q3 r1 (e.step st) hx (k.step st)⟩
noncomputable def PH (ta : DTA) (g : DTG) (tb : DTS) : DTS := fun D Δ M => ta Δ M fun xs M1 => on2 xs fun x y => onI x fun i => onI y fun j => (InR i ∧ InR j) ∧ WJ g tb D i (j - i).toNat Δ M1
end
noncomputable abbrev DSp := List DV → Mp → DK → Prop
noncomputable def lift (K : PySem.W.Frag) (S : DSp) : Sp := fun vs H Q _ => ∃ xs M Φ, Z8 K M H ∧ YT K M H vs xs ∧ S xs M Φ ∧ Rch K M H Φ Q
noncomputable def TJ (S : DSp) (t : DTA) : DTE := fun Δ M Φ => t Δ M fun xs M1 => S xs M1 Φ
section
variable {X : Cx} {CX : CXT} {k : Nat} {f : Addr} {fd : FuncData} {ps : List Str} {S : DSp} {E : XK} {x : Str} {p pos : Pos} {e : Expr} {es : List Expr} {t : DTA}
theorem Zh (F : ZC X.prog X.w X.K X.mg X.base CX k f fd ps (lift X.K S)) (hr : Xc k X.A) (hg : Gl X x) (hm : X.mg x = some (.ref f)) (hk : PySem.W.keepIn X.K (.ref f) = true) (hb : Binds X.K fd ps []) (hx : Passes CX X E)
  (ha : DA X (e :: es) t) (hdb : (x == ("__debug__" : Str)) = false := by decide) (he : starEach (e :: es) X.env = (false, eval e X.env) :: starEach es X.env := by rfl) (hpl : (backTo pos (starEach es X.env)).any (·.1) = false := by rfl) :
  DE X (.Call (.Name x p) (e :: es) [] pos) (TJ S t) := by
 obtain ⟨t1, p1, q1⟩ := ha
 refine ⟨_, Sh F hr hg hm hk hb .nil hx p1 hdb he hpl, fun σ H Δ M Φ Q r e h k => ?_⟩
 refine q1 σ H Δ M _ _ r e h fun vs H1 xs M1 r1 st rv hx => ?_
 show lift X.K S (vs ++ []) H1 Q E
 rw [List.append_nil]
 exact ⟨xs, M1, Φ, r1, rv, hx, k.step st⟩
end
section
variable {P : Program} {w : World} {K : PySem.W.Frag} {mg : Str → Option Value} {base : Heap}
theorem okD {x qual : Str} {st : Stmt} {f : Addr} {fd : FuncData} {N ps : List Str} {k : Nat} {S : DSp} (F : Fun K x qual st f fd) (Sc : Zu N ps (Zf st)) (len : ∀ xs M Φ, S xs M Φ → xs.length = ps.length)
  (hbody : ∀ (cdv : Value) (A : Around) (outer : List Env) (s : Shared) (H : Hp) (E : XK), Xc k (A.deeper (envOfC qual (Zf st) s.heap.objs.size f cdv)) →
   ∃ τ, DSs (O7 CX0 P w K mg base N qual (Zf st) f cdv A outer s H E).nox (Zt st) τ ∧ ∀ xs M Φ, S xs M Φ → τ { nx := fun _ M' => Φ (.dat .none) M', rt := Φ } (XW N xs) M) : ZC P w K mg base CX0 (k + 1) f fd ps (lift K S) := by
 refine F.ok Sc (fun vs H Q E h => ?_) fun cdv A outer s H vs Q E hr h => ?_
 ·obtain ⟨xs, M, Φ, _, rv, hs, _⟩ := h
  rw [Paired.length rv]
  exact len xs M Φ hs
 ·obtain ⟨xs, M, Φ, r, rv, hs, kk⟩ := h
  obtain ⟨τ, ⟨t, p, q⟩, hτ⟩ := hbody cdv A outer s H E hr
  refine ⟨t, p, q (start N vs) H (XW N xs) M _ _ r (J6.start rv) (hτ xs M Φ hs) ⟨fun σ' H' Δ' M' r' st' e' hn => ?_, kk, fun _ _ _ _ _ _ _ h => h.elim, fun _ _ _ _ _ _ _ h => h.elim⟩⟩
  exact kk.dat r' st' Dt.non hn
end
end DL
namespace DL
open PySem PySem.Spec PyProof.Rows L2
section
variable {X : Cx} {k v : Expr} {pos : Pos}
noncomputable def At (X : Cx) (e : Expr) (τ : DTE) : Prop := ∃ t, PE X e t ∧ ∀ σ H Δ M Φ, J6 X.K M H σ Δ → τ Δ M Φ → ∃ v x, Q1 X.K M H v x ∧ Φ x M ∧ ∀ (H' : Hp) (Q : VK), Q v H' → t σ H' Q
noncomputable def Zbc : DTE := fun _ M Φ => Φ (.dat (.dict [])) M
noncomputable def GH (x : DV) (P : Key → Prop) : Prop := match x with | .dat (.int i) => P (.inl i) | .dat (.str s) => P (.inr s) | _ => False
noncomputable def Nl : List PyData → Option (List Key)
 | [] => some []
 | .int i :: r => (Nl r).map (.inl i :: ·)
 | .str s :: r => (Nl r).map (.inr s :: ·)
 | _ :: _ => none
noncomputable def ZdF (ds : List PyData) (P : List Key → Prop) : Prop := match Nl ds with | some ks => P ks | none => False
noncomputable def Zbb (tk tv : DTE) : DTE := fun Δ M Φ => tk Δ M fun x M1 => tv Δ M1 fun y M2 => GH x fun k => onD y fun d => Φ (.dat (.dict [(kD k, d)])) M2
noncomputable def Zb0 (tk tv tk' tv' : DTE) : DTE := fun Δ M Φ => tk Δ M fun x M1 => tv Δ M1 fun y M2 => tk' Δ M2 fun x' M3 => tv' Δ M3 fun y' M4 => GH x fun k => onD y fun d => GH x' fun k' => onD y' fun d' => k ≠ k' ∧ Φ (.dat (.dict [(kD k, d), (kD k', d')])) M4
noncomputable def Zf5 (a b : Addr) (v : V) (h : Heap) : Prop := ∃ o es n u, h.get? a = some o ∧ o.cls = .type "dict" ∧ o.data = .dict es n ∧ es.toList.map (·.key) = [.ref b] ∧ es.toList.map (·.val) = [u] ∧ RelV v u
noncomputable def Te (tk tv : DTE) : DTE := fun Δ M Φ => tk Δ M fun x M1 => tv Δ M1 fun y M2 => onT x fun ds => ZdF ds fun ks => onD y fun d => Φ (.dat (.dict [(.tuple (ks.map kD), d)])) M2
theorem SqT.new {K : PySem.W.Frag} {H : Hp} {a p : Addr} {xs : List V} {o : HO} (h : SqT K H a xs) (hp : H p = none) : SqT K (upd H p o) a xs := by
 rcases h with (h | ⟨ob, h⟩) | h
 ·exact .inl (.inl (by rw [ZZ (ZK h hp)]; exact h))
 ·exact .inl (.inr ⟨ob, by rw [ZZ (ZK h hp)]; exact h⟩)
 ·exact .inr h
end
end DL
namespace DL
open PySem PySem.Spec PyProof.Rows L2
mutual
noncomputable def cost : PyData → Nat
 | .none => 4
 | .bool _ => 5
 | .int _ => 1921
 | .str x => (reprText x).length
 | .list xs => Xe xs + 2
 | .tuple xs => Xe xs + 3
 | .dict kvs => Gk kvs + 2
noncomputable def Xe : List PyData → Nat
 | [] => 0
 | x :: xs => cost x + 2 + Xe xs
noncomputable def Gk : List (PyData × PyData) → Nat
 | [] => 0
 | (k, v) :: r => cost k + 2 + cost v + 2 + Gk r
end
theorem Kk : ∀ (ts : List Str) (k : Nat) (acc : Str), (textFrom k acc ts).length ≤ acc.length + piled ts
 | [], k, acc => Nat.le_add_right _ _
 | t :: r, k, acc => by
  have h := Kk r (k + 1) (acc ++ (if k > 0 then ", " else "" : String) ++ t)
  have e : (acc ++ (if k > 0 then ", " else "" : String) ++ t).length = acc.length + (if k > 0 then 2 else 0) + t.length := by
   rw [strLen_append, strLen_append]
   split <;> rfl
  have d1 : (if k > 0 then 2 else 0 : Nat) ≤ 2 := by split <;> omega
  rw [e] at h
  rw [piled_cons]
  show (textFrom (k + 1) _ r).length ≤ _
  omega
theorem Ht (ts : List Str) : (Str.join ", " ts).length ≤ piled ts := by
 by_cases h : ts = []
 ·subst h; exact Nat.le_of_eq rfl
 ·have := join_length_add ts h
  omega
mutual
theorem Yo : ∀ d : PyData, d.showable = true → d.shown.length ≤ cost d
 | .none, _ => by simp only [PyData.shown, cost]; exact Nat.le_of_eq rfl
 | .bool b, _ => by
  simp only [PyData.shown, cost]
  cases b
  ·exact Nat.le_of_eq rfl
  ·exact (by decide : 4 ≤ 5)
 | .int i, h => by
  simp only [PyData.shown, cost]
  exact int_text_len_1921 (by simpa [PyData.showable] using h)
 | .str x, _ => by simp only [PyData.shown, cost]; exact Nat.le_refl _
 | .list xs, h => by
  have h1 := VC xs (by simpa [PyData.showable] using h)
  have h2 := Kk (PyData.shownAll xs) 0 "["
  have e1 : ((("[" : String) : Str)).length = 1 := rfl
  have e2 : ((("]" : String) : Str)).length = 1 := rfl
  simp only [PyData.shown, cost]
  unfold listText
  rw [strLen_append, e2]
  rw [e1] at h2
  omega
 | .tuple xs, h => by
  have h1 := VC xs (by simpa [PyData.showable] using h)
  have h2 := Ht (PyData.shownAll xs)
  have e1 : ((("(" : String) : Str)).length = 1 := rfl
  have e3 : (((if (PyData.shownAll xs).length == 1 then ",)" else ")" : String) : Str)).length ≤ 2 := by split <;> decide
  simp only [PyData.shown, cost]
  unfold tupleText
  rw [strLen_append, strLen_append, e1]
  omega
 | .dict kvs, h => by
  have h1 := XO kvs (by simpa [PyData.showable] using h)
  have h2 := Ht (PyData.shownKv kvs)
  have e : (dictText (PyData.shownKv kvs)).length = 1 + (Str.join ", " (PyData.shownKv kvs)).length + 1 := by
   unfold dictText
   rw [strLen_append, strLen_append]; rfl
  simp only [PyData.shown, cost]
  omega
theorem VC : ∀ xs : List PyData, PyData.showableAll xs = true → piled (PyData.shownAll xs) ≤ Xe xs
 | [], _ => by simp only [PyData.shownAll, Xe]; exact Nat.le_of_eq rfl
 | x :: xs, h => by
  have h' : x.showable = true ∧ PyData.showableAll xs = true := by simpa [PyData.showableAll] using h
  have h1 := Yo x h'.1
  have h2 := VC xs h'.2
  simp only [PyData.shownAll, Xe]
  rw [piled_cons]
  omega
theorem XO : ∀ kvs : List (PyData × PyData), PyData.showableKv kvs = true → piled (PyData.shownKv kvs) ≤ Gk kvs
 | [], _ => by simp only [PyData.shownKv, Gk]; exact Nat.le_of_eq rfl
 | (k, v) :: r, h => by
  have h' : (k.showable = true ∧ v.showable = true) ∧ PyData.showableKv r = true := by simpa [PyData.showableKv] using h
  have h1 := Yo k h'.1.1
  have h2 := Yo v h'.1.2
  have h3 := XO r h'.2
  have e : ((k.shown ++ ": " ++ v.shown : Str)).length = k.shown.length + 2 + v.shown.length := by rw [strLen_append, strLen_append]; rfl
  simp only [PyData.shownKv, Gk]
  rw [piled_cons, e]
  omega
end
theorem Shw.of {d : PyData} (s : d.showable = true) (m : (d.hasDict && Ju d) = false) (dp : d.depth ≤ 64) (z : cost d ≤ 1000000) : Shw d :=
 ⟨s, m, dp, Nat.le_trans (Yo d s) (Nat.le_trans z (by rw [sizeLine_eq]; decide))⟩
structure Own (K : PySem.W.Frag) (mg : Str → Option Value) (x : Str) (st : Stmt) (ps : List Str) (f : Addr) (fd : FuncData) : Prop where
 F : Fun K x x st f fd
 m : mg x = some (.ref f)
 b : Binds K fd ps []
noncomputable def E7 : DSp := fun xs M Φ => ∃ ns : List Int, xs = [.dat (.list (ns.map PyData.int))] ∧ ns.length ≤ 63 ∧ ∀ M', Φ (.dat (.bool true)) M'
theorem HM {K : PySem.W.Frag} {H : Hp} {a : Addr} {ns : List Int} (hl : ns.length ≤ 63) (_ : ZcO H) (hS : SqL K H a (ns.map V.int)) : lift K E7 [.ref a] H (fun v _ => v = .bl true) fun _ _ _ => False := by
 refine ⟨[.dat (.list (ns.map PyData.int))], fun _ => none, fun x _ => x = .dat (.bool true), (show Z8 K (fun _ => none) H from ⟨fun b o e => (by cases e)⟩), Paired.cons (Dt.lst ?_ (Dts.ints ns)) Paired.nil, ⟨ns, rfl, hl, fun _ => rfl⟩, fun v H' x M' _ _ rv hx => ?_⟩
 ·rcases hS with h | h
  ·exact .inl ⟨rfl, h⟩
  ·exact .inr h
 ·subst hx
  exact rv.bool
end DL
namespace DL
open PySem PySem.Spec PyProof.Rows L2
theorem LU {α : Type} {l : List α} {i : Int} (h0 : 0 ≤ i) (h1 : i < l.length) : ∃ d, atI l i = some d ∧ d ∈ l := by
 have hl : i.toNat < l.length := by omega
 refine ⟨l[i.toNat], ?_, List.getElem_mem hl⟩
 have q : atI l ((i.toNat : Nat) : Int) = some l[i.toNat] := Vy (by simp [hl])
 rw [show ((i.toNat : Nat) : Int) = i by omega] at q
 exact q
theorem Zay : ixN 3 0 = some 0 := rfl
theorem ZbJ : ixN 3 1 = some 1 := rfl
theorem Zcm : ixN 3 2 = some 2 := rfl
theorem RR {ns : List Int} {j : Int} (h0 : 0 ≤ j) (h1 : j < ns.length) : ∃ c : Int, atI (ns.map PyData.int) j = some (.int c) := by
 obtain ⟨d, e, hm⟩ := LU (l := ns.map PyData.int) h0 (by rw [List.length_map]; exact h1)
 obtain ⟨c, _, rfl⟩ := List.mem_map.mp hm
 exact ⟨c, e⟩
theorem Ec (x : Int) {m : Int} (h : 0 < m) : 0 ≤ x % m ∧ x % m < m := ⟨Int.emod_nonneg _ (by omega), Int.emod_lt_of_pos _ h⟩
noncomputable def sp1 (f : PyData → Bool) : DSp := fun xs M Φ => ∃ d, xs = [.dat d] ∧ Φ (.dat (.bool (f d))) M
theorem R6 (k : Int) (h : 0 ≤ k ∧ k ≤ 1000000) : Zed 10 k := ⟨h.1, h.2, by decide⟩
theorem Y1 {M : Mp} {a : Addr} {o : OO} (h : M a = none) : Ke (Z3 M a o) a = M := by
 funext b
 unfold Ke Z3
 split
 ·rename_i e; rw [e, h]
 ·rfl
theorem Zm {p : Prop} [Decidable p] {A B : Prop} (h1 : p → A) (h2 : ¬ p → B) : if decide p = true then A else B := by
 by_cases h : p
 ·rw [decide_eq_true h, if_pos rfl]; exact h1 h
 ·rw [decide_eq_false h, if_neg Bool.false_ne_true]; exact h2 h
end DL
namespace DL
open PySem PySem.Spec PyProof.Rows L2
noncomputable def LX (env : Env) : List (Str × NameKind) → List (Str × Addr) → List (Str × Addr)
 | [], cs => cs
 | (n, k) :: r, cs => LX env r (if (k == NameKind.free) = true then (n, (env.cells.lookup n).getD 0) :: cs else cs)
theorem WB {env : Env} (f : Str × NameKind → List (Str × Addr) → Sem (ForInStep (List (Str × Addr)))) : ∀ (l : List (Str × NameKind)) (cs : List (Str × Addr)),
  (∀ y ∈ l, ∀ cs, f y cs = pure (.yield (if (y.2 == NameKind.free) = true then (y.1, (env.cells.lookup y.1).getD 0) :: cs else cs))) → forIn l cs f = pure (LX env l cs)
 | [], cs, _ => by rw [List.forIn_nil]; rfl
 | (n, k) :: r, cs, h => by
  rw [List.forIn_cons, h _ List.mem_cons_self, pure_bind]
  exact WB f r _ fun y hy => h y (List.mem_cons_of_mem _ hy)
theorem Wd {scope : Scope} {env : Env} (h : ∀ y ∈ scope.names, y.2 = .free → ∃ c, env.cells.lookup y.1 = some c) : closureFor scope env = pure (LX env scope.names []) := by
 simp only [closureFor]
 rw [WB (env := env) _ scope.names [] (fun y hy cs => by
  obtain ⟨n, k⟩ := y
  by_cases hk : k = .free
  ·subst hk
   obtain ⟨c, e⟩ := h _ hy rfl
   have e' : env.cells.lookup n = some c := e
   simp only [beq_self_eq_true, if_true, cellOf, e', Option.getD_some, pure_bind]
  ·have : (k == NameKind.free) = false := by simpa using hk
   simp only [this, Bool.false_eq_true, if_false])]
 rfl
theorem C6 {env : Env} : ∀ {l : List (Str × NameKind)} {cs : List (Str × Addr)} {x : Str} {c : Addr}, (x, c) ∈ LX env l cs → (x, c) ∈ cs ∨ ((x, NameKind.free) ∈ l ∧ c = (env.cells.lookup x).getD 0)
 | [], _, _, _, h => .inl h
 | (n, k) :: r, cs, x, c, h => by
  rcases C6 (l := r) h with h | ⟨h1, h2⟩
  ·by_cases hk : k = .free
   ·subst hk
    rw [if_pos (by simp)] at h
    rcases List.mem_cons.mp h with h | h
    ·cases h
     exact .inr ⟨List.mem_cons_self, rfl⟩
    ·exact .inl h
   ·have : (k == NameKind.free) = false := by simpa using hk
    rw [if_neg (by rw [this]; exact Bool.false_ne_true)] at h
    exact .inl h
  ·exact .inr ⟨List.mem_cons_of_mem _ h1, h2⟩
theorem CK {env : Env} : ∀ {l : List (Str × NameKind)} {cs : List (Str × Addr)} {x : Str}, ((x, NameKind.free) ∈ l ∨ ∃ c, (x, c) ∈ cs) → ∃ c, (x, c) ∈ LX env l cs
 | [], _, _, h => h.elim (fun z => nomatch z) id
 | (n, k) :: r, cs, x, h => by
  refine CK (l := r) ?_
  rcases h with h | ⟨c, h⟩
  ·rcases List.mem_cons.mp h with h | h
   ·cases h
    exact .inr ⟨_, by rw [if_pos (by simp)]; exact List.mem_cons_self⟩
   ·exact .inl h
  ·refine .inr ⟨c, ?_⟩
   split
   ·exact List.mem_cons_of_mem _ h
   ·exact h
theorem KR {β : Type} : ∀ {l : List (Str × β)} {x : Str} {c : β}, (x, c) ∈ l → ∃ c', l.lookup x = some c'
 | [], _, _, h => nomatch h
 | (n, d) :: r, x, c, h => by
  rw [List.lookup_cons]
  cases e : x == n with
  | true => exact ⟨d, rfl⟩
  | false =>
   rcases List.mem_cons.mp h with h | h
   ·cases h
    simp at e
   ·exact KR h
theorem Ja {env : Env} {names : List (Str × NameKind)} (hf : ∀ y ∈ names, y.2 = .free → ∃ c, env.cells.lookup y.1 = some c) {x : Str} {c : Addr} (h : (LX env names []).lookup x = some c) :
  env.cells.lookup x = some c ∧ (x, NameKind.free) ∈ names := by
 rcases C6 (PySem.mem_of_lookup h) with h | ⟨h1, h2⟩
 ·exact nomatch h
 ·obtain ⟨c', e⟩ := hf _ h1 rfl
  have e' : env.cells.lookup x = some c' := e
  rw [e', Option.getD_some] at h2
  subst h2
  exact ⟨e', h1⟩
theorem Df {env : Env} {names : List (Str × NameKind)} (hf : ∀ y ∈ names, y.2 = .free → ∃ c, env.cells.lookup y.1 = some c) {x : Str} (h : (x, NameKind.free) ∈ names) : ∃ c, (LX env names []).lookup x = some c ∧ env.cells.lookup x = some c := by
 obtain ⟨c, hm⟩ := CK (env := env) (cs := []) (.inl h)
 obtain ⟨c', e⟩ := KR hm
 exact ⟨c', e, (Ja hf e).1⟩
noncomputable def Z7 (X : Cx) (scope : Scope) (C : Addr) (N : List Str) (ex : List Addr) (s : Shared) (H : Hp) : Cx :=
 { X with N := N, s₀ := s, H₀ := H, env := compEnvC scope (LX X.env scope.names []) C X.env, outer := X.stack, ex := ex, fn := fun _ => false, pn := [], xe := fun _ _ => False }
noncomputable def VW (ix : List (Option Nat)) (σ : L2.St) : L2.St := ix.map fun o => o.bind fun i => (σ[i]?).join
noncomputable def HV (ix : List (Option Nat)) (Δ : DSt) : DSt := ix.map fun o => o.bind fun i => (Δ[i]?).join
structure Xa (X : Cx) (scope : Scope) (N : List Str) (ix : List (Option Nat)) : Prop where
 kind : scope.kind = .function
 cellF : ∀ y ∈ scope.names, y.2 ≠ .cell
 names : ∀ y ∈ scope.names, y.2 = .local → scope.names.lookup y.1 = some .local
 free : ∀ y ∈ scope.names, y.2 = .free → X.env.kindOf y.1 = some .cell
 len : N.length = ix.length
 cap : ∀ (j : Nat) (x : Str) (i : Nat), N[j]? = some x → ix[j]? = some (some i) → X.N[i]? = some x ∧ (x, NameKind.free) ∈ scope.names ∧ (relabel scope X.env).names.lookup x = some .cell
theorem Lq {ix : List (Option Nat)} {σ : L2.St} {j : Nat} {v : V} (h : (VW ix σ)[j]? = some (some v)) : ∃ i, ix[j]? = some (some i) ∧ σ[i]? = some (some v) := by
 unfold VW at h
 rw [List.getElem?_map] at h
 cases e : ix[j]? with
 | none => rw [e] at h; cases h
 | some o =>
  rw [e] at h
  cases o with
  | none => simp at h
  | some i =>
   refine ⟨i, rfl, ?_⟩
   have h' : (σ[i]?).join = some v := by simpa using h
   cases q : σ[i]? with
   | none => rw [q] at h'; cases h'
   | some o' => rw [q] at h'; exact congrArg some h'
theorem J6.cap {K : PySem.W.Frag} {M : Mp} {H : Hp} {σ : L2.St} {Δ : DSt} (h : J6 K M H σ Δ) (ix : List (Option Nat)) : J6 K M H (VW ix σ) (HV ix Δ) := by
 refine ⟨by unfold VW HV; rw [List.length_map, List.length_map], fun j x e => ?_⟩
 unfold HV at e
 rw [List.getElem?_map] at e
 cases q : ix[j]? with
 | none => rw [q] at e; cases e
 | some o =>
  rw [q] at e
  cases o with
  | none => simp at e
  | some i =>
   have e' : (Δ[i]?).join = some x := by simpa using e
   have e2 : Δ[i]? = some (some x) := by
    cases q2 : Δ[i]? with
    | none => rw [q2] at e'; cases e'
    | some o' => rw [q2] at e'; exact congrArg some e'
   obtain ⟨v, hv, rv⟩ := h.at' i x e2
   refine ⟨v, ?_, rv⟩
   unfold VW
   rw [List.getElem?_map, q]
   simp [hv]
section
variable {X : Cx} {pins : List (Addr × Obj)} {σ : L2.St} {H2 : Hp} {s2 : Shared} {scope : Scope} {N : List Str} {ix : List (Option Nat)} {C : Addr} {fp : List Addr}
theorem ZcC (ok : Xa X scope N ix) (I2 : Inv X pins σ H2 s2) : ∀ y ∈ scope.names, y.2 = .free → ∃ c, X.env.cells.lookup y.1 = some c := fun y hy hk => I2.ok.has y.1 (.inl (ok.free y hy hk))
theorem Et (ok : Xa X scope N ix) (I2 : Inv X pins σ H2 s2) (f2 : ∀ b ∈ fp, Ew X pins H2 b) (ex : ∀ b ∈ fp, ∃ o, s2.heap.get? b = some o) (hC : s2.heap.objs.size ≤ C) : (Z7 X scope C N fp s2 H2).Ok := by
 have hf := ZcC ok I2
 refine ⟨I2.ok.mod, ok.kind, I2.ok.glob, I2.ok.blt, hC, fun x y c h1 h2 => I2.ok.inj x y c (Ja hf h1).1 (Ja hf h2).1, fun x hx => ?_, fun x c h => absurd h Bool.false_ne_true, I2.ok.hd, I2.ok.frames, .inl rfl, fun b hb => ?_, fun b o e => I2.bs b o e, Nat.le_trans I2.ok.bsz I2.sz,
  fun b o e hb => ?_, fun b hb z => ?_, I2.stack, I2.HP⟩
 ·have hx' : (relabel scope X.env).names.lookup x = some .cell ∨ (relabel scope X.env).names.lookup x = some .free := hx
  have key : (x, NameKind.free) ∈ scope.names := by
   have go : ∀ k', (relabel scope X.env).names.lookup x = some k' → (k' = .cell ∨ k' = .free) → (x, NameKind.free) ∈ scope.names := fun k' e hk => by
    have hm := PySem.mem_of_lookup e
    obtain ⟨⟨n, k⟩, hn, q⟩ := List.mem_map.mp hm
    by_cases hr : (k == NameKind.free && X.env.scope.kind == .function && X.env.kindOf n == some .cell) = true
    ·have q' : (n, NameKind.cell) = (x, k') := by rw [← q]; simp [hr]
     cases q'
     have : k = .free := by simp only [Bool.and_eq_true] at hr; simpa using hr.1.1
     subst this
     exact hn
    ·have q' : (n, k) = (x, k') := by rw [← q]; simp [hr]
     cases q'
     rcases hk with rfl | rfl
     ·exact absurd rfl (ok.cellF _ hn)
     ·exact hn
   rcases hx' with h | h
   ·exact go _ h (.inl rfl)
   ·exact go _ h (.inr rfl)
  obtain ⟨c, h1, _⟩ := Df hf key
  exact ⟨c, h1⟩
 ·obtain ⟨o, e⟩ := ex b hb
  exact ⟨Nat.ne_of_lt (Nat.lt_of_lt_of_le (Heap.lt_size e) hC), fun x c h => (f2 b hb).2.2.2.2.1 x c (Ja hf h).1⟩
 ·rcases (f2 b hb).2.2.2.1 with z | z
  ·exact I2.ok.noex b o e z
  ·exact absurd (Nat.lt_of_lt_of_le (Heap.lt_size e) (Nat.le_trans I2.ok.bsz z)) (Nat.lt_irrefl _)
 ·rcases List.mem_cons.mp (I2.ES b z) with z | z
  ·exact (f2 b hb).2.1 z
  ·exact (f2 b hb).2.2.1 z
theorem CB (ok : Xa X scope N ix) (I2 : Inv X pins σ H2 s2) (f2 : ∀ b ∈ fp, Ew X pins H2 b) {s : Shared} {H : Hp} {m : Str → Option Value} (u : Un (frs X.stack) fp H2 H s2.heap s.heap) :
  ∀ (i : Nat) (x : Str) (v : V), N[i]? = some x → (VW ix σ)[i]? = some (some v) → ∃ w, RelV v w ∧ Look (Z7 X scope C N fp s2 H2).env s.heap m x w := fun j x v hN hv => by
 obtain ⟨i, hi, hs⟩ := Lq hv
 obtain ⟨hx, hm, hr⟩ := ok.cap j x i hN hi
 have hk : X.env.kindOf x = some .cell := ok.free _ hm rfl
 obtain ⟨m0, _, hl⟩ := I2.loc
 obtain ⟨w, r, l⟩ := hl i x v hx hs (.inr (.inl hk))
 refine ⟨w, r, .inr ⟨.inl hr, ?_⟩⟩
 rcases l with ⟨z, _⟩ | ⟨_, c, e, hc⟩
 ·rw [hk] at z; cases z
 ·obtain ⟨c', h1, h2⟩ := Df (ZcC ok I2) hm
  rw [e] at h2
  cases h2
  refine ⟨c, h1, ?_⟩
  obtain ⟨o, ho, hd⟩ := hc
  obtain ⟨sl, q⟩ := u.any ho (I2.freeC x c e) fun z => (f2 c z).2.2.2.2.1 x c e rfl
  exact ⟨_, q, hd⟩
end
end DL
namespace DL
open PySem PySem.Spec PyProof.Rows L2
section
variable {prog : Program} {w : World} {A : Around} {R : Result → Shared → Prop} {s : Shared}
theorem U7 {elt target iter : Expr} {ifs : List Expr} {scope : Scope} {pos : Pos} {it acc : Value} {env : Env} (I : Nat → Shared → Prop)
  (turn : ∀ n s, I n s → wpAny (model prog w) A (pyNext it) (fun r s₁ => match r with
   | none => R (.ok .next) s₁
   | some v => wpAny (model prog w) A (letOwnedTupleGo target it v) (fun _ s₁' => wpAny (model prog w) A (assign target env v) (fun _ s₂ =>
     wpAny (model prog w) A (forIn ifs true fun c r => if r = true then do let ok ← isTrue c env (eval c env); pure (ForInStep.yield ok) else pure (ForInStep.yield r)) (fun ok s₃ =>
      if ok = true then wpAny (model prog w) A (eval elt env) (fun x s₄ =>
       wpAny (model prog w) A (call (.builtin "list.append") [acc, x]) (fun _ s₅ => ∃ m, m < n ∧ I m s₅) (fun _ _ => False) s₄) (fun _ _ => False) s₃
      else ∃ m, m < n ∧ I m s₃) (fun _ _ => False) s₂) (fun _ _ => False) s₁') (fun _ _ => False) s₁) (fun _ _ => False) s)
  (n : Nat) (h : I n s) : codeAny (model prog w) A (.compLoop (.ListComp elt [⟨target, iter, ifs, 0⟩] scope pos) 0 it acc env) R s := by
 refine codeAny_loop rfl I (fun n s hI => ?_) n h
 show wpAny _ A ((compTurn (.ListComp elt [⟨target, iter, ifs, 0⟩] scope pos) 0 it acc env).onRaise (fun x => do noteFrame x env; theTreesLotGoes x)) _ _ s
 refine wpAny_noted ?_
 rw [compTurn_list]
 refine wpAny_bind (wpAny_standAt (wpAny_bind (wpAny_mono (turn n s hI) (fun r s₁ h₁ => ?_) fun _ _ h' => h'.elim)))
 cases r with
 | none => exact wpAny_pure h₁
 | some v =>
  refine wpAny_bind (wpAny_mono h₁ (fun _ s₁' h₁' => ?_) fun _ _ h' => h'.elim)
  refine wpAny_bind (wpAny_mono h₁' (fun _ s₂ h₂ => wpAny_bind (wpAny_mono h₂ (fun ok s₃ h₃ => ?_) fun _ _ h' => h'.elim)) fun _ _ h' => h'.elim)
  cases ok with
  | false => exact wpAny_pure ⟨rfl, h₃⟩
  | true =>
   exact wpAny_bind (wpAny_bind (wpAny_mono h₃ (fun x s₄ h₄ => wpAny_bind (wpAny_mono h₄ (fun _ s₅ h₅ => wpAny_pure (wpAny_pure ⟨rfl, h₅⟩)) fun _ _ h' => h'.elim)) fun _ _ h' => h'.elim))
end
noncomputable def Yl (K : PySem.W.Frag) (J : It) (ds : List PyData) (M : Mp) (H : Hp) : Prop := ∀ M2 H2, Step M H M2 H2 → ∀ i,
 (i < ds.length → J.go i H2 ∧ ∀ x H', J.yld i H2 x H' → Z8 K M2 H2 → Z8 K M2 H' ∧ Step M2 H2 M2 H' ∧ ∃ d, ds[i]? = some d ∧ Dt K M2 H' x d) ∧ (ds.length ≤ i → J.stop i H2)
noncomputable abbrev WI := DSt → Mp → (List PyData → Mp → Prop) → Prop
noncomputable def DI (X : Cx) (tg iter : Expr) (src : WI) : Prop := ∃ wi, PI X tg iter wi ∧ ∀ σ H Δ M Ψ (R : It → Hp → Prop), Z8 X.K M H → J6 X.K M H σ Δ → src Δ M Ψ →
 (∀ J H' M' ds, Z8 X.K M' H' → Step M H M' H' → Yl X.K J ds M' H' → Ψ ds M' → R J H') → wi σ H R
section
variable {X : Cx} {tg iter : Expr}
noncomputable def ZeX (te : DTE) : WI := fun Δ M Ψ => te Δ M fun x M1 => onL x fun ds => Ψ ds M1
noncomputable def ZeT (te : DTE) : WI := fun Δ M Ψ => te Δ M fun x M1 => onT x fun ds => Ψ ds M1
theorem Vf {te : DTE} (he : DE X iter te) : DI X tg iter (ZeX te) := by
 obtain ⟨t, p, q⟩ := he
 refine ⟨_, Lz p, fun σ H Δ M Ψ R dr er h k => ?_⟩
 refine q σ H Δ M _ _ dr er h fun v H1 x M1 r1 st rv hx => ?_
 replace hx := HE hx
 obtain ⟨ds, rfl, hΨ⟩ := hx
 obtain ⟨a, xs, rfl, h1, h2⟩ := rv.lst
 refine ⟨a, rfl, ⟨xs, h1.sq⟩, k _ H1 M1 ds r1 st (fun M2 H2 st2 i => ⟨fun hi => ?_, fun hi => ?_⟩) hΨ⟩
 ·have hx : i < xs.length := by rw [h2.length]; exact hi
  refine ⟨⟨xs, xs[i], (h1.step st2).sq, by simp [hx]⟩, fun x H' y => ?_⟩
  obtain ⟨e, y⟩ := y
  obtain ⟨d, hd, hy⟩ := (h2.step st2).Tw (y xs (h1.step st2).sq)
  subst e
  exact fun r => ⟨r, Step.refl, d, hd, hy⟩
 ·exact ⟨xs, (h1.step st2).sq, by rw [h2.length]; exact hi⟩
theorem XR {te : DTE} (he : DE X iter te) : DI X tg iter (ZeT te) := by
 obtain ⟨t, p, q⟩ := he
 refine ⟨_, Po p, fun σ H Δ M Ψ R dr er h k => ?_⟩
 refine q σ H Δ M _ _ dr er h fun v H1 x M1 r1 st rv hx => ?_
 replace hx := WT hx
 obtain ⟨ds, rfl, hΨ⟩ := hx
 obtain ⟨a, xs, rfl, h1, h2⟩ := rv.tup
 refine ⟨a, rfl, ⟨xs, h1.sq⟩, k _ H1 M1 ds r1 st (fun M2 H2 st2 i => ⟨fun hi => ?_, fun hi => ?_⟩) hΨ⟩
 ·have hx : i < xs.length := by rw [h2.length]; exact hi
  refine ⟨⟨xs, xs[i], (h1.step st2).sq, by simp [hx]⟩, fun x H' y => ?_⟩
  obtain ⟨e, y⟩ := y
  obtain ⟨d, hd, hy⟩ := (h2.step st2).Tw (y xs (h1.step st2).sq)
  subst e
  exact fun r => ⟨r, Step.refl, d, hd, hy⟩
 ·exact ⟨xs, (h1.step st2).sq, by rw [h2.length]; exact hi⟩
noncomputable def WG (lo : Int) (n : Nat) : List PyData := (List.range n).map fun (i : Nat) => PyData.int (lo + (i : Int))
theorem Cu (lo : Int) (n : Nat) : (WG lo n).length = n := by unfold WG; rw [List.length_map, List.length_range]
theorem C5 {lo : Int} {n i : Nat} (h : i < n) : (WG lo n)[i]? = some (.int (lo + (i : Int))) := by
 unfold WG
 rw [List.getElem?_map, List.getElem?_range h]
 rfl
theorem Nw {K : PySem.W.Frag} {M : Mp} {H : Hp} (lo : Int) (n : Nat) : Yl K (Itr lo n) (WG lo n) M H := fun M2 H2 st2 i => by
 rw [Cu]
 refine ⟨fun hi => ⟨hi, fun x H' y => ?_⟩, fun hi => hi⟩
 obtain ⟨e, y⟩ := y
 subst y e
 exact fun r => ⟨r, Step.refl, _, C5 hi, Dt.int _⟩
noncomputable def Zcn (ta : DTA) : WI := fun Δ M Ψ => ta Δ M fun xs M1 => on1 xs fun x => onI x fun j => InR j ∧ Ψ (WG 0 j.toNat) M1
theorem Fw {a : Expr} {ta : DTA} {p p2 : Pos} (hg0 : Gl X "range") (hm : X.mg "range" = none) (ha : DA X [a] ta) (hs : starEach [a] X.env = [(false, eval a X.env)] := by rfl) : DI X tg (.Call (.Name "range" p) [a] [] p2) (Zcn ta) := by
 obtain ⟨t1, p1, q1⟩ := ha
 refine ⟨_, GB hg0 hm p1 hs, fun σ H Δ M Ψ R dr er h k => ?_⟩
 refine q1 σ H Δ M _ _ dr er h fun vs H1 xs M1 r1 st rv hx => ?_
 replace hx := Z6 hx
 obtain ⟨x, rfl, hx⟩ := hx
 replace hx := ZM hx
 obtain ⟨j, rfl, ⟨h1, h2⟩, hΨ⟩ := hx
 obtain ⟨v, rfl, hv⟩ := Paired.one rv
 exact ⟨j, by rw [Q1.int hv], h1, h2, k _ H1 M1 _ r1 st (Nw 0 j.toNat) hΨ⟩
noncomputable def Zec (ta : DTA) : WI := fun Δ M Ψ => ta Δ M fun xs M1 => on2 xs fun x y => onI x fun i => onI y fun j => (InR i ∧ InR j) ∧ Ψ (WG i (j - i).toNat) M1
end
noncomputable def D8 (ow : Bool) (Φ : DK) (acc : List PyData) (M : Mp) : Prop := match ow with | true => ∀ p, M p = none → Φ (.own p) (Z3 M p (.lst acc)) | false => Φ (.dat (.list acc)) M
noncomputable def OW (ow : Bool) (src : WI) (ix : List (Option Nat)) (g : DTG) (tc : DTT) (te : DTE) : DTE := fun Δ M Φ => src Δ M fun ds M1 => ds.length ≤ sizeLine ∧ ∃ J : Nat → List PyData → Mp → Prop, J 0 [] M1 ∧
 (∀ i d acc M', ds[i]? = some d → J i acc M' → g (.dat d) (HV ix Δ) M' fun Δ2 M2 => tc Δ2 M2 fun b M3 => if b = true then te Δ2 M3 fun y M4 => onD y fun e => J (i + 1) (acc ++ [e]) M4 else J (i + 1) acc M3) ∧
 ∀ acc M', J ds.length acc M' → D8 ow Φ acc M'
noncomputable def DTs (X : Cx) (ifs : List Expr) (τ : DTT) : Prop := ∀ (pins : List (Addr × Obj)) (s : Shared) (σ : L2.St) (H : Hp) (Δ : DSt) (M : Mp) (Φ : Bool → Mp → Prop), L2.Inv X pins σ H s → Z8 X.K M H → J6 X.K M H σ Δ → τ Δ M Φ →
 wpAny (model X.prog X.w) X.A (forIn ifs true fun c r => if r = true then do let ok ← isTrue c X.env (eval c X.env); pure (ForInStep.yield ok) else pure (ForInStep.yield r))
  (fun b s' => ∃ H' M', L2.Inv X pins σ H' s' ∧ Z8 X.K M' H' ∧ Step M H M' H' ∧ Φ b M') X.xe s
noncomputable def ZeV : DTT := fun _ M Φ => Φ true M
theorem Q4 {X : Cx} : DTs X [] ZeV := fun pins s σ H Δ M Φ I dr er h => wpAny_tests_nil ⟨H, M, I, dr, Step.refl, h⟩
theorem XE {X : Cx} {c : Expr} {τ : DTT} (hc : DT X c τ) : DTs X [c] τ := fun pins s σ H Δ M Φ I dr er h => by
 obtain ⟨t, p, q⟩ := hc
 refine wpAny_tests_one (thn (p pins s σ H (fun b H' => ∃ M', Z8 X.K M' H' ∧ Step M H M' H' ∧ Φ b M') I (q σ H Δ M Φ _ dr er h fun b H' M' a c d => ⟨M', a, c, d⟩)) fun b s' h => ?_)
 obtain ⟨H', I', M', a, c, d⟩ := h
 exact ⟨H', M', I', a, c, d⟩
end DL
namespace DL
open PySem PySem.Spec PyProof.Rows L2
section
variable {X : Cx}
noncomputable abbrev CompSrc (ds : List PyData) (M1 : Mp) (Δ : DSt) (ix : List (Option Nat)) (g : DTG) (tc : DTT) (te : DTE) (ψ : List PyData → Mp → Prop) : Prop := ds.length ≤ sizeLine ∧ ∃ J : Nat → List PyData → Mp → Prop, J 0 [] M1 ∧
 (∀ i d acc M', ds[i]? = some d → J i acc M' → g (.dat d) (HV ix Δ) M' fun Δ2 M2 => tc Δ2 M2 fun b M3 => if b = true then te Δ2 M3 fun y M4 => onD y fun e => J (i + 1) (acc ++ [e]) M4 else J (i + 1) acc M3) ∧ ∀ acc M', J ds.length acc M' → ψ acc M'
set_option maxHeartbeats 2000000 in
theorem GN {elt tg iter : Expr} {ifs : List Expr} {scope : Scope} {pos ps : Pos} {src : WI} {N : List Str} {ix : List (Option Nat)} {g : DTG} {tc : DTT} {te : DTE} {use : Option (Value → Sem Unit)} {QQ : Value → Shared → Prop} {ψ : List PyData → Mp → Prop} (ok : Xa X scope N ix) (hi : DI X tg iter src)
  (hg : ∀ C ex s H, DG (Z7 X scope C N ex s H) tg g) (ht : ∀ C ex s H, DTs (Z7 X scope C N ex s H) ifs tc) (he : ∀ C ex s H, DE (Z7 X scope C N ex s H) elt te) (hc : X.calm = true)
  (hs : ∀ x, foldedSetIterable iter X.env x = pure x) {σ : L2.St} {H : Hp} {Δ : DSt} {M : Mp} {pins : List (Addr × Obj)} {s : Shared} (dr : Z8 X.K M H) (er : J6 X.K M H σ Δ) (h : src Δ M fun ds M1 => CompSrc ds M1 Δ ix g tc te ψ) (I : L2.Inv X pins σ H s)
  (hfin : ∀ (s4 : Shared) (C D : Addr) (H' : Hp) (M' : Mp) (vs : List V) (acc : List PyData), L2.Inv X pins σ (upd H' D (.lst vs)) s4 → H' D = none → Z8 X.K M' H' → Step M H M' H' → Dts X.K M' H' vs acc → ψ acc M' → (∃ m, s4.heap.Ns C m) → Ew X pins (upd H' D (.lst vs)) C →
   compPost (model X.prog X.w) X.A X.xe use QQ (.ref D) C (.ok .next) s4) :
  wpAny (model X.prog X.w) X.A (comprehension (.ListComp elt [⟨tg, iter, ifs, 0⟩] scope pos) scope X.env ps (newList []) false (eval iter X.env) use) QQ X.xe s := by
 obtain ⟨wi, pi, qi⟩ := hi
 refine wpAny_comprehension_free (use := use) (cl := LX X.env scope.names []) rfl hs (Wd (ZcC ok I)) ok.kind ok.names ?_
 show wpAny _ _ (eval iter X.env) _ _ s
 refine thn (pi pins s σ H (fun J H' => ∃ M' ds, Z8 X.K M' H' ∧ Step M H M' H' ∧ Yl X.K J ds M' H' ∧ ds.length ≤ sizeLine ∧ ∃ W : Nat → List PyData → Mp → Prop, W 0 [] M' ∧
   (∀ i d acc M', ds[i]? = some d → W i acc M' → g (.dat d) (HV ix Δ) M' fun Δ2 M2 => tc Δ2 M2 fun b M3 => if b = true then te Δ2 M3 fun y M4 => onD y fun e => W (i + 1) (acc ++ [e]) M4 else W (i + 1) acc M3) ∧
   ∀ acc M', W ds.length acc M' → ψ acc M') I (qi σ H Δ M _ _ dr er h fun J H' M' ds a b c d => ⟨M', ds, a, b, c, d⟩)) fun x s1 h1 => thn h1 fun itv s2 h2 => ?_
 obtain ⟨it, fp, tn, J, H2, e, I2, T, st2, f2, M1, ds, dr1, stp, yl, hz, W, w0, wt, wd⟩ := h2
 subst e
 have exo : ∀ b ∈ fp, ∃ o, s2.heap.get? b = some o := fun b hb => let ⟨o, q, _⟩ := T.obj 0 _ st2 b hb; ⟨o, q⟩
 refine wpAny_newObj_type (wpAny_newFunctionEnv ok.cellF (by intro y hy; simp at hy) (fun h₁ hns₁ hsb₁ => ?_) ok.kind)
 dsimp only at hns₁ hsb₁ ⊢
 generalize hH2 : s2.heap.push { cls := .type "list", dict := none, data := .seq ([] : List Value).toArray } = HH at hns₁ hsb₁ ⊢
 have hC : HH.objs.size = s2.heap.objs.size + 1 := by rw [← hH2, Heap.size_push]
 have hDC : s2.heap.objs.size ≠ HH.objs.size := by rw [hC]; exact Nat.ne_of_lt (Nat.lt_succ_self _)
 have hCle : s2.heap.objs.size ≤ HH.objs.size := by rw [hC]; exact Nat.le_succ _
 have below : ∀ b, b < s2.heap.objs.size → b ≠ HH.objs.size ∧ b ≠ s2.heap.objs.size := fun b hb => ⟨by rw [hC]; exact Nat.ne_of_lt (Nat.lt_succ_of_lt hb), Nat.ne_of_lt hb⟩
 have old : ∀ b o, s2.heap.get? b = some o → h₁.get? b = some o := fun b o e => hsb₁.extBut b o (below b (Heap.lt_size e)).1 (Heap.get?_push_of_some _ (hH2 ▸ Heap.get?_push_of_some _ e))
 have hacc : h₁.get? s2.heap.objs.size = some { cls := .type "list", data := .seq ([] : List Value).toArray } := hsb₁.extBut _ _ hDC (Heap.get?_push_of_some _ (hH2 ▸ Heap.get?_push_size _ rfl))
 generalize hCC : HH.objs.size = C at *
 generalize hDD : s2.heap.objs.size = D at hDC hacc below hCle
 have hDs : s2.heap.objs.size ≤ D := Nat.le_of_eq hDD
 have hCs : s2.heap.objs.size ≤ C := by rw [hDD]; exact hCle
 have fD : ∀ b ∈ fp, b ≠ D ∧ b ≠ C := fun b hb => by
  obtain ⟨o, q⟩ := exo b hb
  exact ⟨(below b (by rw [← hDD]; exact Heap.lt_size q)).2, (below b (by rw [← hDD]; exact Heap.lt_size q)).1⟩
 have okY : (Z7 X scope C N fp s2 H2).Ok := Et ok I2 f2 exo hCs
 have fsD : ∀ b ∈ frs X.stack, b < s2.heap.objs.size := fun b hb => by
  obtain ⟨_, o, ho, _⟩ := I2.stack.mem hb
  exact Heap.lt_size ho
 have cellD : ∀ x c, (Z7 X scope C N fp s2 H2).env.cells.lookup x = some c → c < s2.heap.objs.size ∧ H2 c = none := fun x c e => by
  have e' := (Ja (ZcC ok I2) e).1
  obtain ⟨v, q⟩ := I2.cell x c e'
  exact ⟨q.lt, I2.freeC x c e'⟩
 have fpY : ∀ {H' : Hp} {ps : List (Addr × Obj)}, (∀ b ∈ fp, H' b = none) → (∀ p ∈ ps, p.1 = D) → ∀ b ∈ fp, Ew (Z7 X scope C N fp s2 H2) ps H' b := fun {H' ps} hn hp b hb =>
  ⟨hn b hb, (fD b hb).2, okY.exfs b hb, .inl hb, (okY.exf b hb).2, fun p hp' z => by
   have q : p ∈ ps := hp'
   rw [hp p q] at z
   exact (fD b hb).1 z.symm⟩
 have onlyD : ∀ (o : Obj), ∀ p ∈ [(D, o)], p.1 = D := fun o p hp => by
  have q : p = (D, o) := by simpa using hp
  rw [q]
 have reloc : ∀ {ps : List (Addr × Obj)} {σ' : L2.St} {H' : Hp} {s' : Shared} {o : Obj}, L2.Inv (Z7 X scope C N fp s2 H2) ps σ' H' s' → s'.heap.get? D = some o → H' D = none → (∀ v, o.data ≠ .cell v) →
   L2.Inv (Z7 X scope C N fp s2 H2) [(D, o)] (VW ix σ) H' s' := fun {ps σ' H' s' o} J' hD hn hd => by
  obtain ⟨m, hm, _⟩ := J'.loc
  refine ⟨J'.ok, J'.os, J'.bare, J'.base, ⟨m, hm, fun i x v a b _ => CB ok I2 f2 J'.base i x v a b⟩, J'.cell, J'.free, J'.freeC, fun p hp => ?_, J'.hok, ?_⟩
  ·have q : p = (D, o) := by
    have z : p ∈ ([] : List (Addr × Obj)) ++ [(D, o)] := hp
    simpa using z
   subst q
   exact ⟨hD, hn, hDC, fun z => absurd (fsD D z) (Nat.not_lt.mpr hDs), hd⟩
  ·show (VW ix σ).length = N.length
   unfold VW
   rw [List.length_map, ok.len]
 have start : L2.Inv (Z7 X scope C N fp s2 H2) [(D, { cls := .type "list", data := .seq ([] : List Value).toArray })] (VW ix σ) H2 { s2 with heap := h₁, toks := s2.toks + ([] : List (Str × Value)).length } := by
  refine ⟨okY, rfl, I2.bare, Un.kept old, ⟨_, hns₁, fun i x v a b _ => CB ok I2 f2 (Un.kept old) i x v a b⟩, fun x c e => ?_, I2.hok.fresh hCs, fun x c e => (cellD x c e).2, fun p hp => ?_, I2.hok.kept old, ?_⟩
  ·obtain ⟨v, o, ho, hd⟩ := I2.cell x c (Ja (ZcC ok I2) e).1
   exact ⟨v, o, old c o ho, hd⟩
  ·have q : p = (D, { cls := .type "list", data := .seq ([] : List Value).toArray }) := by
    have z : p ∈ ([] : List (Addr × Obj)) ++ [(D, { cls := .type "list", data := .seq ([] : List Value).toArray })] := hp
    simpa using z
   subst q
   exact ⟨hacc, I2.hok.fresh hDs, hDC, fun z => absurd (fsD D z) (Nat.not_lt.mpr hDs), fun v z => nomatch z⟩
  ·show (VW ix σ).length = N.length
   unfold VW
   rw [List.length_map, ok.len]
 have loop : ∀ s₃ : Shared, s₃ = { s2 with heap := h₁, toks := s2.toks + ([] : List (Str × Value)).length } →
   codeAny (model X.prog X.w) X.A (.compLoop (.ListComp elt [⟨tg, iter, ifs, 0⟩] scope pos) 0 (.ref it) (.ref D) (compEnvC scope (LX X.env scope.names []) C X.env)) (compPost (model X.prog X.w) X.A X.xe use QQ (.ref D) C) s₃ := by
  rintro s₃ rfl
  refine U7 (fun n s' => ∃ (i : Nat) (acc : List PyData) (vs : List V) (its : List Value) (nn : Nat) (H' : Hp) (M' : Mp), L2.Inv (Z7 X scope C N fp s2 H2) [(D, { cls := .type "list", data := .seq its.toArray nn })] (VW ix σ) H' s' ∧
   tn i s'.heap ∧ (∀ b ∈ fp, H' b = none) ∧ Z8 X.K M' H' ∧ Step M1 H2 M' H' ∧ Vals vs its ∧ Dts X.K M' H' vs acc ∧ W i acc M' ∧ i ≤ ds.length ∧ acc.length ≤ i ∧ n = ds.length - i) ?_ ds.length
   ⟨0, [], [], [], 0, H2, M1, start, T.keep _ _ _ st2 (fun b _ o e => old b o e), fun b hb => (f2 b hb).1, dr1, Step.refl, .nil, .nil, w0, Nat.zero_le _, Nat.le_refl _, rfl⟩
  rintro n s' ⟨i, acc, vs, its, nn, H', M', IY, ti, fr, dr', stp', rv, rd, wi', hil, hal, rfl⟩
  have pinD := IY.pin (D, { cls := .type "list", data := .seq its.toArray nn }) (by simp)
  have fok := fpY (ps := [(D, { cls := .type "list", data := .seq its.toArray nn })]) fr (onlyD _)
  obtain ⟨ygo, ystop⟩ := yl M' H' stp' i
  by_cases hlt : i < ds.length
  ·obtain ⟨jgo, jyl⟩ := ygo hlt
   refine thn (T.item (Z7 X scope C N fp s2 H2) rfl rfl rfl hc i _ s' (VW ix σ) H' (fun _ _ => False) IY fok ti jgo) fun r s4 ⟨u, hr, h4⟩ => ?_
   subst hr
   refine thn h4 fun _ s5 ⟨x, H5, I5, r5, y5, st5, fr5⟩ => ?_
   obtain ⟨dr5, stp5, d, hd, hxd⟩ := jyl x H5 y5 dr'
   replace dr' := dr5
   replace stp' := stp'.trans stp5
   replace rd := rd.step stp5
   have I5' := I5.pinned (fpY (ps := [(D, { cls := .type "list", data := .seq its.toArray nn })]) fr5 (onlyD _)) (T.obj _ _ st5)
   obtain ⟨tg', pg, qg⟩ := hg C fp s2 H2
   refine thn (pg _ s5 (VW ix σ) H5 x u (fun σ6 H6 => ∃ Δ6 M6, Z8 X.K M6 H6 ∧ Step M' H5 M6 H6 ∧ J6 X.K M6 H6 σ6 Δ6 ∧ tc Δ6 M6 fun b M3 => if b = true then te Δ6 M3 fun y M4 => onD y fun e => W (i + 1) (acc ++ [e]) M4 else W (i + 1) acc M3) I5' r5
    (qg x (VW ix σ) H5 (.dat d) (HV ix Δ) M' _ _ dr' ((er.step (stp.trans stp')).cap ix) hxd (wt i d acc M' hd wi') fun σ6 H6 Δ6 M6 a b c d => ⟨Δ6, M6, a, b, c, d⟩)) fun _ s6 ⟨σ6, H6, I6, Δ6, M6, dr6, stp6, er6, q6⟩ => ?_
   refine thn (ht C fp s2 H2 _ s6 σ6 H6 Δ6 M6 _ I6 dr6 er6 q6) fun b s7 ⟨H7, M7, I7, dr7, stp7, q7⟩ => ?_
   have keepD : ∀ {σz : L2.St} {Hz : Hp} {sz : Shared}, L2.Inv (Z7 X scope C N fp s2 H2) ([(D, { cls := .type "list", data := .seq its.toArray nn })] ++ UX fp s5.heap) σz Hz sz →
     sz.heap.get? D = some { cls := .type "list", data := .seq its.toArray nn } ∧ Hz D = none ∧ tn (i + 1) sz.heap ∧ ∀ b ∈ fp, Hz b = none := fun {σz Hz sz} Iz => by
    have a := Iz.pin (D, { cls := .type "list", data := .seq its.toArray nn }) (by simp)
    refine ⟨a.1, a.2.1, T.keep _ _ _ st5 fun b hb o e => (Iz.pin (b, o) (List.mem_append_right _ (List.mem_append_right _ (Yi hb e)))).1, fun b hb => ?_⟩
    obtain ⟨o, e, _⟩ := T.obj _ _ st5 b hb
    exact (Iz.pin (b, o) (List.mem_append_right _ (List.mem_append_right _ (Yi hb e)))).2.1
   cases b with
   | false =>
    have q7' : W (i + 1) acc M7 := by simpa using q7
    obtain ⟨a1, a2, a3, a4⟩ := keepD I7
    have st17 : Step M' H5 M7 H7 := stp6.trans stp7
    exact ⟨ds.length - (i + 1), by omega, i + 1, acc, vs, its, nn, H7, M7, reloc I7 a1 a2 (fun v z => nomatch z), a3, a4, dr7, stp'.trans st17, rv, rd.step st17, q7', hlt, by omega, rfl⟩
   | true =>
    have q7' : te Δ6 M7 fun y M4 => onD y fun e => W (i + 1) (acc ++ [e]) M4 := by simpa using q7
    obtain ⟨te', pe', qe'⟩ := he C fp s2 H2
    refine thn (pe' _ s7 σ6 H7 (fun v H8 => ∃ e M8, Z8 X.K M8 H8 ∧ Step M7 H7 M8 H8 ∧ Dt X.K M8 H8 v e ∧ W (i + 1) (acc ++ [e]) M8) I7 (qe' σ6 H7 Δ6 M7 _ _ dr7 (er6.step stp7) q7' fun v H8 x8 M8 a b c d => by
     replace d := Q8 d
     obtain ⟨e, rfl, w8⟩ := d
     exact ⟨e, M8, a, b, c, w8⟩)) fun y s8 ⟨v, H8, I8, r8, e, M8, dr8, stp8, dv8, w8⟩ => ?_
    obtain ⟨a1, a2, a3, a4⟩ := keepD I8
    have st18 : Step M' H5 M8 H8 := stp6.trans (stp7.trans stp8)
    have lv := rv.length
    have ld := rd.length
    refine call_meets PySem.F.slot_list_append ⟨_, a1, rfl⟩ PySem.F.entry_list_append (PySem.F.args_list_append_2 _ _) (PySem.list_append D its.toArray nn y (by rw [List.size_toArray]; omega)) ⟨a1, ?_⟩
    have q := PySem.IsL.update a1 (·.push y)
    have I8' : L2.Inv (Z7 X scope C N fp s2 H2) [] σ6 H8 s8 := I8.Ky fun p hp => nomatch hp
    have I9 := I8'.turned (it := D) (h' := s8.heap.update D (Obj.mapSeq (·.push y))) (t' := s8.toks) (fun b o hb hu => (Heap.get?_update_other s8.heap (Obj.mapSeq (·.push y)) (Ne.symm hb)).trans hu) a2 hDC (.inr hDs)
     (fun x c e z => absurd (z ▸ (cellD x c e).1) (Nat.not_lt.mpr hDs)) (fun p hp => by have z : p ∈ ([] : List (Addr × Obj)) ++ [] := hp; simp at z)
    have ea : (its.toArray.push y) = (its ++ [y]).toArray := by simp
    rw [ea] at q
    refine ⟨ds.length - (i + 1), by omega, i + 1, acc ++ [e], vs ++ [v], its ++ [y], _, H8, M8, reloc I9 q a2 (fun v z => nomatch z), T.keep _ _ _ a3 (fun b hb o e => (Heap.get?_update_other s8.heap (Obj.mapSeq (·.push y)) (Ne.symm (fD b hb).1)).trans e), a4, dr8, stp'.trans st18,
     rv.append (.cons r8 .nil), (rd.step st18).append (.cons dv8 .nil), w8, hlt, by rw [List.length_append, List.length_singleton]; omega, rfl⟩
  ·have hie : i = ds.length := by omega
   refine thn (T.done (Z7 X scope C N fp s2 H2) rfl rfl rfl hc i _ s' (VW ix σ) H' (fun _ _ => False) IY fok ti (ystop (by omega))) fun r s4 ⟨hr, I4⟩ => ?_
   subst hr
   obtain ⟨m4, hm4, _⟩ := I4.loc
   have pD := I4.pin (D, { cls := .type "list", data := .seq its.toArray nn }) (by simp)
   have hCn : H' C = none := I4.free
   have hDn : H' D = none := pD.2.1
   have hok4 : HOk X.prog X.w (upd H' D (.lst vs)) s4.heap := fun b u e => by
    by_cases hb : b = D
    ·subst hb
     rw [J9] at e
     cases e
     exact ⟨by have := rv.length; have := rd.length; omega, its, nn, rv, pD.1⟩
    ·rw [ZZ hb] at e
     refine (I4.hok b u e).Sk (fun c v hc' q => q) (fun c q => ?_) fun c xs q => ?_
     ·rw [ZZ (ZK q pD.2.1)]; exact q
     ·rw [ZZ (ZK q pD.2.1)]; exact q
   have bu : Un (frs X.stack) fp H2 H' s2.heap s4.heap := I4.base
   have un4 : Un (frs X.stack) fp H2 (upd H' D (.lst vs)) s2.heap s4.heap := by
    have nD : ∀ b o, s2.heap.get? b = some o → b ≠ D ∧ b ≠ C := fun b o e => ⟨fun z => absurd (z ▸ Heap.lt_size e) (Nat.not_lt.mpr hDs), fun z => absurd (z ▸ Heap.lt_size e) (Nat.not_lt.mpr hCs)⟩
    refine ⟨fun b o e n hb hx => bu.keep b o e n hb hx, fun b o e n hb hx => bu.slot b o e n hb hx, fun b o e n hx => by rw [ZZ (nD b o e).1]; exact bu.free b o e n hx, fun b o e hx => bu.there b o e hx, fun b xs e => ?_, fun b o xs e => ?_, fun b ps e => ?_⟩
    ·have q := bu.tups b xs e
     rw [ZZ (ZK q pD.2.1)]; exact q
    ·have q := bu.frzs b o xs e
     rw [ZZ (ZK q pD.2.1)]; exact q
    ·obtain ⟨mo, q⟩ := bu.tbls b ps e
     exact ⟨mo, by rw [ZZ (ZK q pD.2.1)]; exact q⟩
   have os4 : s4.os = s2.os := I4.os
   have IX : L2.Inv X pins σ (upd H' D (.lst vs)) s4 := I2.ZaB (s' := s4) os4 un4 hok4 I4.bare fun b hb => ⟨(f2 b hb).2.2.2.1, (f2 b hb).2.1, (f2 b hb).2.2.2.2.1, (f2 b hb).2.2.2.2.2⟩
   subst hie
   exact hfin s4 C D H' M' vs acc IX hDn dr' (stp.trans stp') rd (wd acc M' wi') ⟨m4, hm4⟩ (I2.Tu hCs (by rw [ZZ (Ne.symm hDC)]; exact hCn))
 have hst₁ : tn 0 h₁ := T.keep _ _ _ st2 fun b _ o e => old b o e
 exact codeAny_compStart_list (loop _ rfl) (T.self _ 0 _ _ _ hst₁ (loop _ rfl))
theorem Zbl {h h' : Heap} {C : Addr} {m : Str → Option Value} (n : h.Ns C m) (k : ∀ o, h.get? C = some o → h'.get? C = some o) : h'.Ns C m := by
 obtain ⟨o, es, ep, ho, r⟩ := n
 exact ⟨o, es, ep, k o ho, r⟩
theorem gone {pins : List (Addr × Obj)} {σ : L2.St} {H : Hp} {s : Shared} {C : Addr} {h' : Heap} (I : L2.Inv X pins σ H s) (f : Ew X pins H C) (hsb : Heap.SameBut C s.heap h') : L2.Inv X pins σ H { s with heap := h' } :=
 I.turned (t' := s.toks) (fun b o hb e => hsb.extBut b o hb e) f.1 f.2.1 f.2.2.2.1 f.2.2.2.2.1 f.2.2.2.2.2
theorem Zb9 {ow : Bool} {Φ : DK} {Q : VK} {M M' : Mp} {H H' : Hp} {D : Addr} {vs : List V} {acc : List PyData} (dr' : Z8 X.K M' H') (st : Step M H M' H') (rd : Dts X.K M' H' vs acc) (hDn : H' D = none) (fin : D8 ow Φ acc M') (k : Rch X.K M H Φ Q) : Q (.ref D) (upd H' D (.lst vs)) := by
 cases ow with
 | true =>
  have fin' : ∀ p, M' p = none → Φ (.own p) (Z3 M' p (.lst acc)) := by simpa [D8] using fin
  exact k _ _ (.own D) _ (dr'.XM (Step.Yx hDn) rd) (st.trans (Step.Yx hDn)) rfl (fin' D (dr'.tracked hDn))
 | false =>
  have fin' : Φ (.dat (.list acc)) M' := by simpa [D8] using fin
  exact k.dat (dr'.new hDn) (st.trans (Step.new hDn)) (Dt.XU dr' hDn rd) fin'
theorem QL (ow : Bool) {elt tg iter : Expr} {ifs : List Expr} {scope : Scope} {pos : Pos} {src : WI} {N : List Str} {ix : List (Option Nat)} {g : DTG} {tc : DTT} {te : DTE} (ok : Xa X scope N ix) (hi : DI X tg iter src)
  (hg : ∀ C ex s H, DG (Z7 X scope C N ex s H) tg g) (ht : ∀ C ex s H, DTs (Z7 X scope C N ex s H) ifs tc) (he : ∀ C ex s H, DE (Z7 X scope C N ex s H) elt te) (hc : X.calm = true)
  (hs : ∀ x, foldedSetIterable iter X.env x = pure x := by intro _; rfl) : DE X (.ListComp elt [⟨tg, iter, ifs, 0⟩] scope pos) (OW ow src ix g tc te) := by
 refine ⟨fun σ H Q => ∀ pins s, L2.Inv X pins σ H s → wpAny (model X.prog X.w) X.A (eval (.ListComp elt [⟨tg, iter, ifs, 0⟩] scope pos) X.env) (EP X pins σ Q) X.xe s, fun pins s σ H Q I h => h pins s I, fun σ H Δ M Φ Q dr er h k pins s I => ?_⟩
 rw [eval_ListComp]
 refine GN (ψ := D8 ow Φ) ok hi hg ht he hc hs dr er h I fun s4 C D H' M' vs acc IX hDn dr' st rd fin hm f => ?_
 obtain ⟨m, hm⟩ := hm
 exact ⟨m, hm, fun h' hsb => ⟨.ref D, _, gone IX f hsb, rfl, Zb9 dr' st rd hDn fin k⟩⟩
theorem UR (i : Nat) (ow : Bool) {x : Str} {pos' spos : Pos} (hN : X.N.Nodup) {elt tg iter : Expr} {ifs : List Expr} {scope : Scope} {pos : Pos} {src : WI} {N : List Str} {ix : List (Option Nat)} {g : DTG} {tc : DTT} {te : DTE} (ok : Xa X scope N ix) (hi : DI X tg iter src)
  (hg : ∀ C ex s H, DG (Z7 X scope C N ex s H) tg g) (ht : ∀ C ex s H, DTs (Z7 X scope C N ex s H) ifs tc) (he : ∀ C ex s H, DE (Z7 X scope C N ex s H) elt te) (hc : X.calm = true)
  (hs : ∀ x, foldedSetIterable iter X.env x = pure x := by intro _; rfl) (hin : X.N[i]? = some x := by rfl) (hx : Loc X.env.scope x := by first | exact Or.inl rfl | exact Or.inr rfl)
  (hsw : swapsWith (.ListComp elt [⟨tg, iter, ifs, 0⟩] scope pos) (some (.Name x pos')) spos.line X.env = pure true := by rfl)
  (hf : X.fn x = true ∨ X.env.scope.names.lookup x = some .local := by first | exact .inl rfl | exact .inr rfl | assumption) :
  DS X (.Assign [.Name x pos'] (.ListComp elt [⟨tg, iter, ifs, 0⟩] scope pos) spos) (Zaj (OW ow src ix g tc te) (Wi i)) := by
 refine ⟨fun E σ H => ∀ pins s, L2.Inv X pins σ H s → wpAny (model X.prog X.w) X.A (exec (.Assign [.Name x pos'] (.ListComp elt [⟨tg, iter, ifs, 0⟩] scope pos) spos) X.env) (SP X pins E) X.xe s, fun pins s σ H E I h => h pins s I, fun σ H Δ M D E dr er h k pins s I => ?_⟩
 rw [exec_Assign_Name_used _ _ _ _ hsw]
 refine wpAny_bind (wpAny_standAt (wpAny_bind ?_))
 show wpAny _ _ (do let _ ← comprehension (.ListComp elt [⟨tg, iter, ifs, 0⟩] scope pos) scope X.env _ (newList []) false (eval iter X.env) (some (assign (.Name x pos') X.env))) _ _ s
 refine wpAny_bind (wpAny_mono (GN (QQ := fun _ s' => SP X pins E .next s') (use := some (assign (.Name x pos') X.env)) (ψ := D8 ow fun y M1 => D.nx (Δ.set i (some y)) M1) ok hi hg ht he hc hs dr er h I fun s4 C DD H' M' vs acc IX hDn dr' st rd fin hm f => ?_)
  (fun _ s' hq => wpAny_pure (wpAny_pure hq)) fun _ _ e => e)
 obtain ⟨m, hm⟩ := hm
 have hm0 := hm
 obtain ⟨oC, es, ep, hoC, hr1, hr2⟩ := hm0
 have IP : L2.Inv X (pins ++ [(C, oC)]) σ (upd H' DD (.lst vs)) s4 := IX.Ky fun p hp => by
  rcases List.mem_append.mp hp with hp | hp
  ·exact IX.pin p (List.mem_append_right _ hp)
  ·rw [List.mem_singleton.mp hp]
   exact ⟨hoC, f.1, f.2.1, f.2.2.1, fun v z => nomatch (hr1.symm.trans z)⟩
 have nxt : ∀ Q' : L2.St → Hp → Prop, (Q' (σ.set i (some (.ref DD))) (upd H' DD (.lst vs))) → wpAny (model X.prog X.w) X.A (assign (.Name x pos') X.env (.ref DD)) (fun _ s' => ∃ σ' H', L2.Inv X (pins ++ [(C, oC)]) σ' H' s' ∧ Q' σ' H') X.xe s4 := fun Q' hq =>
  HN (pos := pos') hN hin hx hf _ s4 σ _ (.ref DD) (.ref DD) Q' IP rfl hq
 have kq : E.nx (σ.set i (some (.ref DD))) (upd H' DD (.lst vs)) := by
  cases ow with
  | true =>
   have fin' : ∀ p, M' p = none → D.nx (Δ.set i (some (.own p))) (Z3 M' p (.lst acc)) := by simpa [D8] using fin
   have st2 : Step M H (Z3 M' DD (.lst acc)) (upd H' DD (.lst vs)) := st.trans (Step.Yx hDn)
   exact k.nx _ _ _ _ (dr'.XM (Step.Yx hDn) rd) st2 ((er.step st2).set (v := .ref DD) (x := .own DD) rfl) (fin' DD (dr'.tracked hDn))
  | false =>
   have fin' : D.nx (Δ.set i (some (.dat (.list acc)))) M' := by simpa [D8] using fin
   have st2 : Step M H M' (upd H' DD (.lst vs)) := st.trans (Step.new hDn)
   exact k.nx _ _ _ _ (dr'.new hDn) st2 ((er.step st2).set (v := .ref DD) (x := .dat (.list acc)) (Dt.XU dr' hDn rd)) fin'
 show wpAny _ _ (assign (.Name x pos') X.env (.ref DD)) _ _ s4
 refine thn (nxt (fun σ' H' => σ' = σ.set i (some (.ref DD)) ∧ E.nx σ' H') ⟨rfl, kq⟩) fun _ s5 ⟨σ5, H5, I5, _, q5⟩ => ?_
 have p5 := I5.pin (C, oC) (by simp)
 refine ⟨m, Zbl hm fun o ho => ?_, fun h' hsb => ⟨σ5, H5, ?_, q5⟩⟩
 ·rw [hoC] at ho
  cases ho
  exact p5.1
 ·have I6 : L2.Inv X pins σ5 H5 s5 := I5.Ky fun p hp => I5.pin p (List.mem_append_right _ (List.mem_append_left _ hp))
  exact gone I6 ⟨p5.2.1, f.2⟩ hsb
end
end DL
namespace DL
open PySem PySem.Spec PyProof.Rows L2
section
variable {X : Cx}
noncomputable def VT (xs : List DV) (M : Mp) (ns : List Int) : Prop := xs = [.dat (.list (ns.map PyData.int))] ∨ ∃ l, xs = [.own l] ∧ M l = some (.lst (ns.map PyData.int))
theorem VT.sq {M : Mp} {H : Hp} {vs : List V} {xs : List DV} {ns : List Int} (h : VT xs M ns) (r : Z8 X.K M H) (rv : YT X.K M H vs xs) : ∃ p, vs = [.ref p] ∧ SqL X.K H p (ns.map V.int) := by
 rcases h with rfl | ⟨l, rfl, hm⟩
 ·obtain ⟨v, rfl, h1⟩ := Paired.one rv
  obtain ⟨p, ys, rfl, g1, g2⟩ := Q1.lst h1
  rw [Xt g2] at g1
  exact ⟨p, rfl, g1.sq⟩
 ·obtain ⟨v, rfl, h1⟩ := Paired.one rv
  cases (show v = .ref l from h1)
  obtain ⟨ws, g1, g2⟩ := r.ls l _ hm
  rw [Xt g2] at g1
  exact ⟨l, rfl, SqL.of g1⟩
noncomputable def SH : D1 := fun xs M Φ => ∃ ns : List Int, VT xs M ns ∧ ns.length < 64 ∧ ∀ ns' : List Int, ns'.Perm ns → ns'.Pairwise (· ≤ ·) → Φ (.dat (.list (ns'.map PyData.int))) M
theorem FY (hc : X.calm = true) : VX X (.builtin "min") (fun xs H Q => ∃ (p : Addr) (ns : List Int), xs = [.ref p] ∧ SqL X.K H p (ns.map V.int) ∧ 0 < ns.length ∧ ∀ m ∈ ns, (∀ a ∈ ns, m ≤ a) → Q (.int m) H) := by
 intro pins s σ H xs us Q I r h
 obtain ⟨p, ns, rfl, hq, h0, q⟩ := h
 obtain ⟨u, rfl, rx⟩ := vals1 r
 cases rx
 obtain ⟨its, rv, pl, hz⟩ := I.list hq
 have hi : IntsAre its ns := intsAre_of rv
 obtain ⟨xs, e⟩ := hi.allInts.items
 have hns : ns = xs.toList.map (·.1) := by rw [← hi.numsOf, ← nums_intItems, ← e]
 have hsz : 0 < xs.size := by
  have h3 := h0; rw [hns, List.length_map, Array.length_toList] at h3; exact h3
 have hl := pl.isList
 rw [e] at hl
 refine min_intList (I.ok.hd hc) hl hsz fun v h' tk hv hk => ?_
 obtain ⟨t, rfl⟩ := intItems_at hv
 obtain ⟨h1, h2⟩ := argBest_lt (numAt xs) (xs.size - 1)
 refine ⟨.int _, H, I.kept hk, ⟨t, rfl⟩, q _ ?_ fun a ha => ?_⟩
 ·rw [hns, numAt_eq]; exact getD_mem (by rw [List.length_map, Array.length_toList]; omega)
 ·rw [hns] at ha
  obtain ⟨j, hj, rfl⟩ := mem_getD ha
  rw [List.length_map, Array.length_toList] at hj
  rw [← numAt_eq]; exact h2 j (by omega)
theorem Lc (hc : X.calm = true) : VX X (.builtin "max") (fun xs H Q => ∃ (p : Addr) (ns : List Int), xs = [.ref p] ∧ SqL X.K H p (ns.map V.int) ∧ 0 < ns.length ∧ ∀ m ∈ ns, (∀ a ∈ ns, a ≤ m) → Q (.int m) H) := by
 intro pins s σ H xs us Q I r h
 obtain ⟨p, ns, rfl, hq, h0, q⟩ := h
 obtain ⟨u, rfl, rx⟩ := vals1 r
 cases rx
 obtain ⟨its, rv, pl, hz⟩ := I.list hq
 have hi : IntsAre its ns := intsAre_of rv
 obtain ⟨xs, e⟩ := hi.allInts.items
 have hns : ns = xs.toList.map (·.1) := by rw [← hi.numsOf, ← nums_intItems, ← e]
 have hsz : 0 < xs.size := by
  have h3 := h0; rw [hns, List.length_map, Array.length_toList] at h3; exact h3
 have hl := pl.isList
 rw [e] at hl
 refine max_intList (I.ok.hd hc) hl hsz fun v h' tk hv hk => ?_
 obtain ⟨t, rfl⟩ := intItems_at hv
 obtain ⟨h1, h2⟩ := argBest_gt (numAt xs) (xs.size - 1)
 refine ⟨.int _, H, I.kept hk, ⟨t, rfl⟩, q _ ?_ fun a ha => ?_⟩
 ·rw [hns, numAt_eq]; exact getD_mem (by rw [List.length_map, Array.length_toList]; omega)
 ·rw [hns] at ha
  obtain ⟨j, hj, rfl⟩ := mem_getD ha
  rw [List.length_map, Array.length_toList] at hj
  rw [← numAt_eq]; exact h2 j (by omega)
noncomputable def Pf : D1 := fun xs M Φ => ∃ ns : List Int, VT xs M ns ∧ 0 < ns.length ∧ ∀ m ∈ ns, (∀ a ∈ ns, m ≤ a) → Φ (.dat (.int m)) M
noncomputable def Px : D1 := fun xs M Φ => ∃ ns : List Int, VT xs M ns ∧ 0 < ns.length ∧ ∀ m ∈ ns, (∀ a ∈ ns, a ≤ m) → Φ (.dat (.int m)) M
theorem Km (hc : X.calm = true) : Ys X (.builtin "min") Pf := by
 refine ⟨_, FY hc, fun vs H xs M Φ Q r rv h k => ?_⟩
 obtain ⟨ns, hx, h0, q⟩ := h
 obtain ⟨p, rfl, hs⟩ := hx.sq r rv
 exact ⟨p, ns, rfl, hs, h0, fun m a b => k.dat r Step.refl (Dt.int m) (q m a b)⟩
theorem EL (hc : X.calm = true) : Ys X (.builtin "max") Px := by
 refine ⟨_, Lc hc, fun vs H xs M Φ Q r rv h k => ?_⟩
 obtain ⟨ns, hx, h0, q⟩ := h
 obtain ⟨p, rfl, hs⟩ := hx.sq r rv
 exact ⟨p, ns, rfl, hs, h0, fun m a b => k.dat r Step.refl (Dt.int m) (q m a b)⟩
theorem Paired.three {α β : Type} {F : α → β → Prop} {l : List α} {b c d : β} (h : Paired F l [b, c, d]) : ∃ a a' a'', l = [a, a', a''] ∧ F a b ∧ F a' c ∧ F a'' d := by
 cases h with
 | cons h1 h2 =>
  obtain ⟨a, a', rfl, h3, h4⟩ := Paired.two h2
  exact ⟨_, a, a', rfl, h1, h3, h4⟩
noncomputable def δ3I (g : Int → Int → Int → Int) : D1 := fun xs M Φ => on3 xs fun x y z => onI x fun i => onI y fun j => onI z fun l => Φ (.dat (.int (g i j l))) M
theorem Hh (hc : X.calm = true) : VX X (.builtin "max") (fun xs H Q => ∃ i j l, xs = [.int i, .int j, .int l] ∧ Q (.int (max i (max j l))) H) := by
 intro pins s σ H xs us Q I r h
 obtain ⟨i, j, l, rfl, q⟩ := h
 obtain ⟨u, hu⟩ : ∃ u, us = u := ⟨us, rfl⟩
 cases r with
 | cons r1 r2 =>
  obtain ⟨u2, u3, rfl, r3, r4⟩ := vals2 r2
  obtain ⟨t1, rfl⟩ := r1
  obtain ⟨t2, rfl⟩ := r3
  obtain ⟨t3, rfl⟩ := r4
  refine max_three_ints (I.ok.hd hc) fun h' tk k => ⟨.int (max i (max j l)), H, I.kept k, ?_, q⟩
  by_cases c1 : j > i
  ·rw [if_pos c1]
   by_cases c2 : l > j
   ·rw [if_pos c2]; exact ⟨t3, by rw [show max i (max j l) = l by omega]⟩
   ·rw [if_neg c2]; exact ⟨t2, by rw [show max i (max j l) = j by omega]⟩
  ·rw [if_neg c1]
   by_cases c2 : l > i
   ·rw [if_pos c2]; exact ⟨t3, by rw [show max i (max j l) = l by omega]⟩
   ·rw [if_neg c2]; exact ⟨t1, by rw [show max i (max j l) = i by omega]⟩
theorem EG (hc : X.calm = true) : Ys X (.builtin "max") (δ3I fun i j l => max i (max j l)) := by
 refine ⟨_, Hh hc, fun vs H xs M Φ Q r rv h k => ?_⟩
 replace h := Z1 h
 obtain ⟨x, y, z, rfl, h⟩ := h
 replace h := ZM h
 obtain ⟨i, rfl, h⟩ := h
 replace h := ZM h
 obtain ⟨j, rfl, h⟩ := h
 replace h := ZM h
 obtain ⟨l, rfl, q⟩ := h
 obtain ⟨v, u, w', rfl, h1, h2, h3⟩ := Paired.three rv
 exact ⟨i, j, l, by rw [Q1.int h1, Q1.int h2, Q1.int h3], k.dat r Step.refl (Dt.int _) q⟩
noncomputable def HK : D1 := fun xs M Φ => on1 xs fun x => onQ x M fun ds => Φ (.dat (.tuple ds)) M
theorem Jh : Ys X (.type "tuple") HK := by
 refine ⟨_, Uu, fun vs H xs M Φ Q r rv h k => ?_⟩
 replace h := Z6 h
 obtain ⟨x, rfl, h⟩ := h
 replace h := Gb h
 obtain ⟨ds, hx, q⟩ := h
 have hx' : x = .dat (.list ds) ∨ x = .dat (.tuple ds) ∨ ∃ l, x = .own l ∧ M l = some (.lst ds) := by
  rcases hx with a | a | a
  ·exact .inr (.inl a)
  ·exact .inl a
  ·exact .inr (.inr a)
 rcases hx' with rfl | rfl | ⟨l, rfl, hm⟩
 ·obtain ⟨v, rfl, h1⟩ := Paired.one rv
  obtain ⟨p, ys, rfl, g1, g2⟩ := Q1.lst h1
  exact ⟨p, ys, rfl, .inl ⟨g1.sq, fun l hl => k.dat (r.new hl) (Step.new hl) (Dt.Gy r hl g2) q⟩⟩
 ·obtain ⟨v, rfl, h1⟩ := Paired.one rv
  obtain ⟨p, ys, rfl, g1, g2⟩ := Q1.tup h1
  exact ⟨p, ys, rfl, .inr ⟨g1.sq, k.dat r Step.refl (Dt.tup g1 g2) q⟩⟩
 ·obtain ⟨v, rfl, h1⟩ := Paired.one rv
  cases (show v = .ref l from h1)
  obtain ⟨ws, g1, g2⟩ := r.ls l _ hm
  exact ⟨l, ws, rfl, .inl ⟨SqL.of g1, fun l hl => k.dat (r.new hl) (Step.new hl) (Dt.Gy r hl g2) q⟩⟩
theorem Zas (hu : X.A.units + 66 < cLine) : OpR X (compareOp .In) (fun x y H Q => ∃ M d ds, Dt X.K M H x d ∧ (Dt X.K M H y (.list ds) ∨ Dt X.K M H y (.tuple ds)) ∧ d.canLay0 = true ∧ PyData.canLayAll0 ds = true ∧ d.depth ≤ 64 ∧ Q (.bl (ds.any fun e => PyData.eqv e d)) H) := by
 intro pins s σ H x y v u Q I rx ry h
 obtain ⟨M, d, ds, h1, h2, c1, c2, hdp, q⟩ := h
 obtain ⟨as, ra, _⟩ := h1.reads I rx
 rcases h2 with h2 | h2
 ·obtain ⟨bs, rb, _⟩ := h2.reads I ry
  exact PySem.SeqAt.in_list_reads rb ra c2 c1 (by have := Nat.min_le_right (PyData.depthAll ds) d.depth; omega) ⟨.bl _, H, I, rfl, q⟩
 ·obtain ⟨bs, rb, _⟩ := h2.reads I ry
  exact PySem.SeqAt.in_tuple_reads rb ra c2 c1 (by have := Nat.min_le_right (PyData.depthAll ds) d.depth; omega) ⟨.bl _, H, I, rfl, q⟩
noncomputable def onW (x : DV) (P : List PyData → Prop) : Prop := match x with | .dat (.tuple ds) => P ds | .dat (.list ds) => P ds | _ => False
theorem Pz {x : DV} {P : List PyData → Prop} (h : onW x P) : ∃ ds, (x = .dat (.list ds) ∨ x = .dat (.tuple ds)) ∧ P ds := by
 unfold onW at h
 split at h
 ·exact ⟨_, .inr rfl, h⟩
 ·exact ⟨_, .inl rfl, h⟩
 ·exact h.elim
noncomputable def okIn (d : PyData) (ds : List PyData) : Bool := d.canLay0 && PyData.canLayAll0 ds && Nat.ble d.depth 64
theorem FQ {d : PyData} {ds : List PyData} (h : okIn d ds = true) : d.canLay0 = true ∧ PyData.canLayAll0 ds = true ∧ d.depth ≤ 64 := by
 unfold okIn at h
 simp only [Bool.and_eq_true] at h
 exact ⟨h.1.1, h.1.2, Nat.le_of_ble_eq_true h.2⟩
noncomputable def δIn : D2 := fun x y M Φ => onD x fun d => onW y fun ds => okIn d ds = true ∧ Φ (.dat (.bool (ds.any fun e => PyData.eqv e d))) M
theorem ZdS {k : Nat} (hr : Xc k X.A) : OpD X (compareOp .In) δIn :=
 ⟨_, Zas (by have := hr.un; omega), fun v u H x y M Φ Q r rv ru h k => by
  obtain ⟨d, e1, h⟩ := Q8 h
  obtain ⟨ds, e2, ho, q⟩ := Pz h
  obtain ⟨c1, c2, hdp⟩ := FQ ho
  subst e1
  refine ⟨M, d, ds, rv, ?_, c1, c2, hdp, k.dat r Step.refl (Dt.bl _) q⟩
  rcases e2 with rfl | rfl
  ·exact .inl ru
  ·exact .inr ru⟩
noncomputable def FL (to te : DTE) : DTE := fun Δ M Φ => to Δ M fun x M1 => onO x fun l => Kd (M1 l) fun _ => te Δ M1 fun y M2 => onO y fun b => Kd (M2 l) fun ds => Kd (M2 b) fun es => b ≠ l ∧ ds.length + es.length ≤ sizeLine ∧ Φ (.dat .none) (Ke (Z3 M2 l (.lst (ds ++ es))) b)
theorem KH {o e : Expr} {to te : DTE} {apos cpos : Pos} (ho : DE X o to) (he : DE X e te) (hbase : attributeBase o "extend" X.env (eval o X.env) = eval o X.env := by rfl)
  (hfew : ((backTo cpos (starEach [e] X.env)).all (fun x => !x.1) && (backToKw cpos (keywordEach [] X.env)).all (fun x => x.1.isSome)
   && decide ([e].length + ([] : List Keyword).length + (if ([] : List Keyword).isEmpty then 0 else 1) < 30)) = true := by rfl)
  (hline : (apos.endLine == cpos.line) = true := by rfl) (hs : starEach [e] X.env = (false, eval e X.env) :: starEach [] X.env := by rfl) (hplain : (backTo cpos (starEach [] X.env)).any (·.1) = false := by rfl) :
  DE X (.Call (.Attribute o "extend" apos) [e] [] cpos) (FL to te) := by
 obtain ⟨t1, p1, q1⟩ := ho
 obtain ⟨t2, p2, q2⟩ := he
 refine ⟨_, Zbv PySem.F.plainAttrs_list PySem.F.slot_list_extend PySem.F.type_list_extend HF p1 (G8 p2 Lj hs) hbase hfew hline hs hplain, fun σ H Δ M Φ Q r e h k => ?_⟩
 refine q1 σ H Δ M _ _ r e h fun v H1 x M1 r1 st rv hx => ?_
 replace hx := Q7 hx
 obtain ⟨l, rfl, hx⟩ := hx
 replace hx := Vw hx
 obtain ⟨oo, ho, hx⟩ := hx
 cases (show v = .ref l from rv)
 have ty : tyV X.K "list" (.ref l) H1 := by
  obtain ⟨vs, g1, _⟩ := r1.ls l oo ho
  exact .inl ⟨rfl, vs, SqL.of g1⟩
 refine ⟨ty, q2 σ H1 Δ M1 _ _ r1 (e.step st) hx fun w H2 y M2 r2 st2 rw2 hy => ?_⟩
 replace hy := Q7 hy
 obtain ⟨b, rfl, hy⟩ := hy
 replace hy := Vw hy
 obtain ⟨ds, hm, hy⟩ := hy
 replace hy := Vw hy
 obtain ⟨es, hb, hne, hz, hy⟩ := hy
 cases (show w = .ref b from rw2)
 obtain ⟨vs, g1, g2⟩ := r2.ls l ds hm
 obtain ⟨ws, g3, g4⟩ := r2.ls b es hb
 have st3 : Step M2 H2 (Z3 M2 l (.lst (ds ++ es))) (upd H2 l (.lst (vs ++ ws))) := Step.Ga hm
 refine ⟨l, b, vs, ws, rfl, rfl, g1, g3, by rw [g2.length, g4.length]; exact hz, ?_⟩
 exact k.dat (r2.XM st3 (g2.append g4)).frz (st.trans (st2.trans (st3.trans Step.frz))) Dt.non hy
theorem Kf {tg a b : Expr} {body : List Stmt} {g : DTG} {tb : DTS} {pos : Pos} {ta : DTA} {p p2 : Pos} (hg0 : Gl X "range") (hm : X.mg "range" = none) (ha : DA X [a, b] ta) (hg : DG X tg g) (hb : DSs X body tb) (hp : PassesOwn (model X.prog X.w) X.A X.env X.xe) (hc : X.calm = true)
  (hs : starEach [a, b] X.env = [(false, eval a X.env), (false, eval b X.env)] := by rfl) (hs' : starEach [b] X.env = [(false, eval b X.env)] := by rfl) (hs2 : ∀ x, foldedSetIterable (.Call (.Name "range" p) [a, b] [] p2) X.env x = pure x := by intro _; rfl) :
  DS X (.For tg (.Call (.Name "range" p) [a, b] [] p2) body [] pos) (PH ta g tb) := by
 obtain ⟨t1, p1, q1⟩ := ha
 obtain ⟨t2, p2, q2⟩ := hg
 obtain ⟨t3, p3, q3⟩ := hb
 refine ⟨_, Cy hp hc (Fo hg0 hm p1 hs hs') p2 p3 hs2, fun σ H Δ M D E r e h k => ?_⟩
 refine q1 σ H Δ M _ _ r e h fun vs H1 xs M1 r1 st rv hx => ?_
 replace hx := Zy hx
 obtain ⟨xx, yy, rfl, hx⟩ := hx
 replace hx := ZM hx
 obtain ⟨i, rfl, hx⟩ := hx
 replace hx := ZM hx
 obtain ⟨j, rfl, ⟨⟨a1, a2⟩, a3, a4⟩, hx⟩ := hx
 have h1 : -(2 ^ 62) ≤ i ∧ i < 2 ^ 62 ∧ -(2 ^ 62) ≤ j ∧ j < 2 ^ 62 := ⟨a1, a2, a3, a4⟩
 obtain ⟨v, u, rfl, hv, hu⟩ := Paired.two rv
 exact ⟨i, j, by rw [Q1.int hv, Q1.int hu], h1, O4 q2 q3 r1 (e.step st) hx (k.step st)⟩
noncomputable def ZfA (te : DTE) (tl th : DTO) : DTE := fun Δ M Φ => te Δ M fun x M1 => tl Δ M1 fun l M2 => th Δ M2 fun u M3 => onL x fun ds => Φ (.dat (.list (cutD ds l u))) M3
noncomputable def MH (scope sc : Scope) : List (Str × NameKind) := scope.names.map fun (n, k) => if (k == .free && sc.kind == .function && sc.names.lookup n == some .cell) then (n, .cell) else (n, k)
noncomputable def Zco (sc : Scope) (XN : List Str) (scope : Scope) (N : List Str) (ix : List (Option Nat)) (j : Nat) : Bool :=
 match N[j]?, ix[j]? with
 | some x, some (some i) => decide (XN[i]? = some x) && (decide ((x, NameKind.free) ∈ scope.names) && decide ((MH scope sc).lookup x = some .cell))
 | _, _ => true
theorem ZL {sc : Scope} {XN : List Str} {scope : Scope} {N : List Str} {ix : List (Option Nat)} (hsc : X.env.scope = sc) (hN : X.N = XN)
  (h : scope.kind = .function ∧ (∀ y ∈ scope.names, y.2 ≠ .cell) ∧ (∀ y ∈ scope.names, y.2 = .local → scope.names.lookup y.1 = some .local) ∧ (∀ y ∈ scope.names, y.2 = .free → sc.names.lookup y.1 = some .cell) ∧ N.length = ix.length ∧
   ∀ j ∈ List.range N.length, Zco sc XN scope N ix j = true) : Xa X scope N ix := by
 obtain ⟨h1, h2, h3, h4, h5, h6⟩ := h
 subst hsc hN
 refine ⟨h1, h2, h3, h4, h5, fun j x i hx hi => ?_⟩
 have hj : j < N.length := (List.getElem?_eq_some_iff.mp hx).1
 have q := h6 j (List.mem_range.mpr hj)
 unfold Zco at q
 rw [hx, hi] at q
 simp only [Bool.and_eq_true, decide_eq_true_eq] at q
 exact ⟨q.1, q.2.1, q.2.2⟩
end
end DL
namespace DL
open PySem PySem.Spec PyProof.Rows L2
theorem Hm {M : Mp} {p b : Addr} {o o2 o3 : OO} (h : Z3 M p o b = none) : Ke (Z3 (Z3 (Z3 M p o) b o2) p o3) b = Z3 M p o3 := by
 have hne : b ≠ p := fun e => by rw [e, ZH] at h; cases h
 rw [Qh hne] at h
 funext c
 unfold Ke Z3
 by_cases h1 : c = b
 ·rw [if_pos h1, if_neg (by rw [h1]; exact hne), h1, h]
 ·rw [if_neg h1]
  by_cases h2 : c = p
  ·rw [if_pos h2, if_pos h2]
  ·rw [if_neg h2, if_neg h1, if_neg h2, if_neg h2]
theorem fresh_ne {M : Mp} {p b : Addr} {o : OO} (h : Z3 M p o b = none) : b ≠ p := fun e => by rw [e, ZH] at h; cases h
theorem take_snoc {α β : Type} {l : List α} {i : Nat} {a : α} (f : α → β) (h : l[i]? = some a) : (l.take i).map f ++ [f a] = (l.take (i + 1)).map f := by
 rw [List.take_add_one, h, List.map_append]
 rfl
theorem Lu {α β : Type} {l : List α} {i : Nat} {a : α} (f : α → List β) (h : l[i]? = some a) : (l.take i).flatMap f ++ f a = (l.take (i + 1)).flatMap f := by
 rw [List.take_add_one, h, List.flatMap_append]
 simp
theorem ZY {α β : Type} {l : List α} {f : α → β} {i : Nat} {b : β} (h : (l.map f)[i]? = some b) : ∃ a, l[i]? = some a ∧ f a = b := by
 rw [List.getElem?_map] at h
 cases q : l[i]? with
 | none => rw [q] at h; cases h
 | some a => rw [q] at h; exact ⟨a, rfl, by simpa using h⟩
theorem X8 {α β : Type} (f : α → List β) (n : Nat) : ∀ l : List α, (∀ a ∈ l, (f a).length ≤ n) → (l.flatMap f).length ≤ l.length * n
 | [], _ => by simp
 | a :: l, h => by
  have h1 := h a List.mem_cons_self
  have h2 := X8 f n l fun b hb => h b (List.mem_cons_of_mem _ hb)
  rw [List.flatMap_cons, List.length_append, List.length_cons, Nat.succ_mul]
  omega
noncomputable def gc (Φ : DK) : DK := fun x M => ∃ ps : List Addr, Φ x (ps.foldl Ke M)
theorem Zaa {K : PySem.W.Frag} {M : Mp} {H : Hp} {Φ : DK} {Q : VK} (k : Rch K M H Φ Q) {v : V} {H' : Hp} {x : DV} : ∀ (ps : List Addr) (M' : Mp), Z8 K M' H' → Step M H M' H' → Q1 K M' H' v x → Φ x (ps.foldl Ke M') → Q v H'
 | [], M', r, st, rv, f => k v H' x M' r st rv f
 | p :: ps, M', r, st, rv, f => Zaa k ps (Ke M' p) r.frz (st.trans Step.frz) (rv.step Step.frz) f
theorem O5 {K : PySem.W.Frag} {M : Mp} {H : Hp} {Φ : DK} {Q : VK} (k : Rch K M H Φ Q) : Rch K M H (gc Φ) Q := fun _ _ _ M' r st rv ⟨ps, f⟩ => Zaa k ps M' r st rv f
theorem okG {P : Program} {w : World} {K : PySem.W.Frag} {mg : Str → Option Value} {base : Heap} {x qual : Str} {st : Stmt} {f : Addr} {fd : FuncData} {N ps : List Str} {k : Nat} {S : DSp} (F : Fun K x qual st f fd) (Sc : Zu N ps (Zf st)) (len : ∀ xs M Φ, S xs M Φ → xs.length = ps.length)
  (hbody : ∀ (cdv : Value) (A : Around) (outer : List Env) (s : Shared) (H : Hp) (E : XK), Xc k (A.deeper (envOfC qual (Zf st) s.heap.objs.size f cdv)) →
   ∃ τ, DSs (O7 CX0 P w K mg base N qual (Zf st) f cdv A outer s H E).nox (Zt st) τ ∧ ∀ xs M Φ, S xs M Φ → τ { nx := fun _ M' => gc Φ (.dat .none) M', rt := gc Φ } (XW N xs) M) : ZC P w K mg base CX0 (k + 1) f fd ps (lift K S) := by
 refine F.ok Sc (fun vs H Q E h => ?_) fun cdv A outer s H vs Q E hr h => ?_
 ·obtain ⟨xs, M, Φ, _, rv, hs, _⟩ := h
  rw [Paired.length rv]
  exact len xs M Φ hs
 ·obtain ⟨xs, M, Φ, r, rv, hs, kk⟩ := h
  obtain ⟨τ, ⟨t, p, q⟩, hτ⟩ := hbody cdv A outer s H E hr
  refine ⟨t, p, q (start N vs) H (XW N xs) M _ _ r (J6.start rv) (hτ xs M Φ hs) ⟨fun σ' H' Δ' M' r' st' e' hn => ?_, O5 kk, fun _ _ _ _ _ _ _ h => h.elim, fun _ _ _ _ _ _ _ h => h.elim⟩⟩
  exact (O5 kk).dat r' st' Dt.non hn
theorem Zbh {Φ : DK} {x : DV} {M : Mp} {p : Addr} {o : OO} (hp : M p = none) (h : Φ x M) : gc Φ x (Z3 M p o) := ⟨[p], by
 show Φ x (Ke (Z3 M p o) p)
 rw [Y1 hp]; exact h⟩
theorem ZdQ {Φ : DK} {x : DV} {M : Mp} (h : Φ x M) : gc Φ x M := ⟨[], h⟩
theorem Uk {n k : Nat} (h : n < 2 ^ k) (hk : 0 < k) : n.log2 < k := by
 by_cases h0 : n = 0
 ·subst h0; simpa using hk
 ·exact (Nat.log2_lt h0).mpr h
noncomputable def Mid (i : Int) : Prop := -(10 ^ 70) ≤ i ∧ i ≤ 10 ^ 70
theorem Mid.show {i : Int} (h : Mid i) : (PyData.int i).showable = true := by
 have h1 : i.natAbs.log2 < 240 := Uk (by unfold Mid at h; omega) (by decide)
 simp only [PyData.showable, decide_eq_true_eq]
 omega
end DL
namespace DL
open PySem PySem.Spec PyProof.Rows L2
section
variable {X : Cx}
noncomputable def ZaV : D1 := fun xs M Φ => ∃ ns : List Int, VT xs M ns ∧ Φ (.dat (.int ns.sum)) M
theorem Kw : ∀ {bs : List Bool} {us : List Value}, Vals (bs.map V.bl) us → ∀ (i : Nat) (v : Value), us[i]? = some v → ∃ b, bs[i]? = some b ∧ v = .bool b
 | [], _, r, i, v, e => by rw [List.map_nil] at r; cases r; simp at e
 | b :: bs, _, r, i, v, e => by
  rw [List.map_cons] at r
  cases r with
  | cons r1 r2 =>
   cases i with
   | zero =>
    simp at e
    subst e
    exact ⟨b, rfl, r1⟩
   | succ i => simpa using Kw r2 i v (by simpa using e)
theorem DY (bs : List Bool) : ((List.range bs.length).all fun i => (bs[i]?).getD true) = bs.all id := by
 rw [Bool.eq_iff_iff, List.all_eq_true, List.all_eq_true]
 constructor
 ·intro h b hb
  obtain ⟨i, hi, e⟩ := List.getElem_of_mem hb
  have q := h i (List.mem_range.mpr hi)
  rw [List.getElem?_eq_getElem hi, Option.getD_some, e] at q
  exact q
 ·intro h i hi
  have hi' := List.mem_range.mp hi
  rw [List.getElem?_eq_getElem hi', Option.getD_some]
  exact h _ (List.getElem_mem hi')
theorem Ek (bs : List Bool) : ((List.range bs.length).any fun i => (bs[i]?).getD false) = bs.any id := by
 rw [Bool.eq_iff_iff, List.any_eq_true, List.any_eq_true]
 constructor
 ·rintro ⟨i, hi, e⟩
  have hi' := List.mem_range.mp hi
  rw [List.getElem?_eq_getElem hi', Option.getD_some] at e
  exact ⟨_, List.getElem_mem hi', e⟩
 ·rintro ⟨b, hb, e⟩
  obtain ⟨i, hi, rfl⟩ := List.getElem_of_mem hb
  exact ⟨i, List.mem_range.mpr hi, by rw [List.getElem?_eq_getElem hi, Option.getD_some]; exact e⟩
theorem Gz {s : Shared} {h' : Heap} {o : Obj} (hk : ∀ b x, b ∉ [s.heap.objs.size] → (s.heap.push o).get? b = some x → h'.get? b = some x) : ∀ b x, s.heap.get? b = some x → h'.get? b = some x :=
 fun b x e => hk b x (fun hm => absurd (Heap.lt_size e) (by rw [List.mem_singleton.mp hm]; exact Nat.lt_irrefl _)) (Heap.get?_push_of_some _ e)
theorem FC (hc : X.calm = true) : VX X (.builtin "all") (fun xs H Q => ∃ (p : Addr) (bs : List Bool), xs = [.ref p] ∧ SqL X.K H p (bs.map V.bl) ∧ Q (.bl (bs.all id)) H) := by
 intro pins s σ H xs us Q I r h
 obtain ⟨p, bs, rfl, hq, q⟩ := h
 obtain ⟨u, rfl, rx⟩ := vals1 r
 cases rx
 obtain ⟨its, rv, pl, hz⟩ := I.list hq
 have hl := pl.isList
 have hlt : p < s.heap.objs.size := by obtain ⟨_, e, _⟩ := hl; exact Heap.lt_size e
 refine call_all_walk (wpAny_pyIter_list hl ?_)
 refine ⟨s.heap.objs.size, [s.heap.objs.size, p], [s.heap.objs.size], its.toArray.size, _, _, fun i => (bs[i]?).getD true, rfl, Walks.list (A := X.A.in1) (I.ok.hd hc) _ p (Nat.ne_of_lt hlt) its.toArray,
  ⟨⟨_, Heap.get?_push_size _ rfl, rfl, rfl⟩, hl.push _⟩, fun i v s' Q' E' hP hQ => ?_, fun h' tk hk => ?_⟩
 ·obtain ⟨b, e, rfl⟩ := Kw rv i v (by simpa using hP)
  simp only [e, Option.getD_some] at hQ
  exact wpAny_truthy_bool hQ
 ·have e : ((List.range its.toArray.size).all fun i => (bs[i]?).getD true) = bs.all id := by
   have hln := rv.length
   rw [List.length_map] at hln
   rw [List.size_toArray, ← hln]; exact DY bs
  rw [e]
  exact ⟨.bl _, H, I.kept (Gz hk), rfl, q⟩
theorem FH (hc : X.calm = true) : VX X (.builtin "any") (fun xs H Q => ∃ (p : Addr) (bs : List Bool), xs = [.ref p] ∧ SqL X.K H p (bs.map V.bl) ∧ Q (.bl (bs.any id)) H) := by
 intro pins s σ H xs us Q I r h
 obtain ⟨p, bs, rfl, hq, q⟩ := h
 obtain ⟨u, rfl, rx⟩ := vals1 r
 cases rx
 obtain ⟨its, rv, pl, hz⟩ := I.list hq
 have hl := pl.isList
 have hlt : p < s.heap.objs.size := by obtain ⟨_, e, _⟩ := hl; exact Heap.lt_size e
 refine call_any_walk (wpAny_pyIter_list hl ?_)
 refine ⟨s.heap.objs.size, [s.heap.objs.size, p], [s.heap.objs.size], its.toArray.size, _, _, fun i => (bs[i]?).getD false, rfl, Walks.list (A := X.A.in1) (I.ok.hd hc) _ p (Nat.ne_of_lt hlt) its.toArray,
  ⟨⟨_, Heap.get?_push_size _ rfl, rfl, rfl⟩, hl.push _⟩, fun i v s' Q' E' hP hQ => ?_, fun h' tk hk => ?_⟩
 ·obtain ⟨b, e, rfl⟩ := Kw rv i v (by simpa using hP)
  simp only [e, Option.getD_some] at hQ
  exact wpAny_truthy_bool hQ
 ·have e : ((List.range its.toArray.size).any fun i => (bs[i]?).getD false) = bs.any id := by
   have hln := rv.length
   rw [List.length_map] at hln
   rw [List.size_toArray, ← hln]; exact Ek bs
  rw [e]
  exact ⟨.bl _, H, I.kept (Gz hk), rfl, q⟩
theorem YA {K : PySem.W.Frag} {M : Mp} {H : Hp} : ∀ {vs : List V} {bs : List Bool}, Dts K M H vs (bs.map PyData.bool) → vs = bs.map V.bl
 | vs, [], h => by
  rw [List.map_nil] at h
  cases h
  rfl
 | vs, n :: ns, h => by
  rw [List.map_cons] at h
  cases h with
  | cons h1 h2 =>
   cases h1
   rw [YA h2, List.map_cons]
noncomputable def O6 : D1 := fun xs M Φ => ∃ bs : List Bool, xs = [.dat (.list (bs.map PyData.bool))] ∧ Φ (.dat (.bool (bs.all id))) M
noncomputable def Ph : D1 := fun xs M Φ => ∃ bs : List Bool, xs = [.dat (.list (bs.map PyData.bool))] ∧ Φ (.dat (.bool (bs.any id))) M
theorem Zb1 (hc : X.calm = true) : Ys X (.builtin "all") O6 := by
 refine ⟨_, FC hc, fun vs H xs M Φ Q r rv h k => ?_⟩
 obtain ⟨bs, rfl, q⟩ := h
 obtain ⟨v, rfl, h1⟩ := Paired.one rv
 obtain ⟨p, ys, rfl, g1, g2⟩ := Q1.lst h1
 rw [YA g2] at g1
 exact ⟨p, bs, rfl, g1.sq, k.dat r Step.refl (Dt.bl _) q⟩
theorem ZcG (hc : X.calm = true) : Ys X (.builtin "any") Ph := by
 refine ⟨_, FH hc, fun vs H xs M Φ Q r rv h k => ?_⟩
 obtain ⟨bs, rfl, q⟩ := h
 obtain ⟨v, rfl, h1⟩ := Paired.one rv
 obtain ⟨p, ys, rfl, g1, g2⟩ := Q1.lst h1
 rw [YA g2] at g1
 exact ⟨p, bs, rfl, g1.sq, k.dat r Step.refl (Dt.bl _) q⟩
noncomputable def PU : D1 := fun xs M Φ => on1 xs fun x => onB x fun b => Φ (.dat (.int (if b = true then 1 else 0))) M
theorem Ho : Ys X (.type "int") PU := by
 refine ⟨_, Fe, fun vs H xs M Φ Q r rv h k => ?_⟩
 replace h := Z6 h
 obtain ⟨x, rfl, h⟩ := h
 replace h := XQ h
 obtain ⟨b, rfl, q⟩ := h
 obtain ⟨v, rfl, h1⟩ := Paired.one rv
 cases (show v = .bl b from Q1.bool h1)
 exact .inr ⟨b, rfl, k.dat r Step.refl (Dt.int _) q⟩
noncomputable def ZfN (i j : Nat) (ta : DTA) : DTS := fun D Δ M => ta Δ M fun xs M1 => on2 xs fun x y => D.nx ((Δ.set i (some x)).set j (some y)) M1
noncomputable def MW (x : DV) (M : Mp) (ds : List PyData) : Prop := x = .dat (.list ds) ∨ ∃ l, x = .own l ∧ M l = some (.lst ds)
theorem MW.sq {x : DV} {M : Mp} {H : Hp} {v : V} {ds : List PyData} (h : MW x M ds) (r : Z8 X.K M H) (rv : Q1 X.K M H v x) : ∃ p ys, v = .ref p ∧ SqL X.K H p ys ∧ Dts X.K M H ys ds := by
 rcases h with rfl | ⟨l, rfl, hm⟩
 ·obtain ⟨p, ys, rfl, g1, g2⟩ := Q1.lst rv
  exact ⟨p, ys, rfl, g1.sq, g2⟩
 ·cases (show v = .ref l from rv)
  obtain ⟨ws, g1, g2⟩ := r.ls l _ hm
  exact ⟨l, ws, rfl, SqL.of g1, g2⟩
noncomputable def PZ : D2 := fun x y M Φ => onK x M fun ds => onK y M fun es => ds.length + es.length ≤ sizeLine ∧ Φ (.dat (.list (ds ++ es))) M
theorem EZ : OpD X (binaryOp .Add) PZ := by
 refine ⟨_, CD, fun v u H x y M Φ Q r rv ru h k => ?_⟩
 replace h := WM h
 obtain ⟨ds, hx, h⟩ := h
 replace h := WM h
 obtain ⟨es, hy, hz, q⟩ := h
 replace hx : MW x M ds := hx
 replace hy : MW y M es := hy
 obtain ⟨a, xs, rfl, h1, h2⟩ := hx.sq r rv
 obtain ⟨b, ys, rfl, h3, h4⟩ := hy.sq r ru
 exact ⟨a, b, xs, ys, rfl, rfl, h1, h3, by rw [h2.length, h4.length]; exact hz, fun p hp => k.dat (r.new hp) (Step.new hp) (Dt.XU r hp (h2.append h4)) q⟩
noncomputable def Zft (te : DTE) (tl th : DTO) : DTE := fun Δ M Φ => te Δ M fun x M1 => tl Δ M1 fun l M2 => th Δ M2 fun u M3 => onK x M3 fun ds => Φ (.dat (.list (cutD ds l u))) M3
noncomputable def ZfY (lo : Int) (n : Nat) : List V := (List.range n).map fun (i : Nat) => V.int (lo + (i : Int))
noncomputable def Tf (ta : DTA) : DTE := fun Δ M Φ => ta Δ M fun xs M1 => on2 xs fun x y => onI x fun i => onI y fun j => (InR i ∧ InR j) ∧ (j - i).toNat ≤ 16777216 ∧ Φ (.dat (.list (WG i (j - i).toNat))) M1
noncomputable def ZfH (i : Nat) (te : DTE) (f : Int → Int → Int) : DTS := fun D Δ M => onV Δ[i]? fun z => onI z fun a => te Δ M fun x M1 => onI x fun b => D.nx (Δ.set i (some (.dat (.int (f a b))))) M1
end
end DL
namespace DL
open PySem PySem.Spec PyProof.Rows L2
noncomputable def Tv (h : Heap) (v : Value) (q : Int × Int) : Prop := ∃ a o n t u, v = .ref a ∧ h.get? a = some o ∧ o.cls = .type "tuple" ∧ o.data = .seq #[.int q.1 t, .int q.2 u] n
theorem Tv.keep {h h' : Heap} {v : Value} {q : Int × Int} (p : Tv h v q) (k : ∀ b o, h.get? b = some o → h'.get? b = some o) : Tv h' v q := by
 obtain ⟨a, o, n, t, u, e, g, c, d⟩ := p
 exact ⟨a, o, n, t, u, e, k _ _ g, c, d⟩
noncomputable def ltP (p q : Int × Int) : Bool := if p.1 = q.1 then decide (p.2 < q.2) else decide (p.1 < q.1)
theorem get_none {h : Heap} {b : Addr} (hb : h.objs.size ≤ b) : h.get? b = none := by
 cases q : h.get? b with
 | none => rfl
 | some o => exact absurd (Heap.lt_size q) (Nat.not_lt.mpr hb)
theorem FO (p : Int × Int) : ltP p p = false := by unfold ltP; rw [if_pos rfl]; exact decide_eq_false (by omega)
theorem ZbG {p q r : Int × Int} (h1 : ltP r q = false) (h2 : ltP p q = true) : ltP r p = false := by
 unfold ltP at *
 split at h1 <;> split at h2 <;> split <;> simp only [decide_eq_false_iff_not, decide_eq_true_eq] at * <;> omega
theorem Wy (f : Nat → Int × Int) : ∀ k, argBest (fun i j => ltP (f i) (f j)) k ≤ k ∧ ∀ j, j ≤ k → ltP (f j) (f (argBest (fun i j => ltP (f i) (f j)) k)) = false
 | 0 => ⟨Nat.le_refl _, fun j hj => by rw [show j = 0 by omega]; exact FO _⟩
 | k + 1 => by
  have ih := Wy f k
  unfold argBest
  split
  ·rename_i c
   refine ⟨Nat.le_refl _, fun j hj => ?_⟩
   by_cases e : j = k + 1
   ·rw [e]; exact FO _
   ·exact ZbG (ih.2 j (by omega)) c
  ·rename_i c
   refine ⟨by omega, fun j hj => ?_⟩
   by_cases e : j = k + 1
   ·rw [e]; exact Bool.of_not_eq_true c
   ·exact ih.2 j (by omega)
theorem sub_tt : isSubtype (.type "tuple") (.type "tuple") = pure true := by rw [isSubtype_type]; kernel_rfl
section
variable {prog : Program} {w : World} {A : Around} {E : Value → Shared → Prop} {s : Shared}
theorem Pj {M : Model} {a : Addr} {o : Obj} {items n} {Q : Array Value → Shared → Prop} (ho : s.heap.get? a = some o) (hd : o.data = .seq items n) (h : Q items s) : wpAny M A (Builtin.Tuple.tupleItemsOf (.ref a)) Q E s := by
 unfold Builtin.Tuple.tupleItemsOf
 exact wpAny_bind (wpAny_seqItems ho hd (wpAny_pure h))
theorem Uh {p q : Int × Int} {a b : Addr} {oa ob : Obj} {na nb : Nat} {t1 t2 u1 u2 : Tok} {P : Fin → Shared → Prop} (ha : s.heap.get? a = some oa) (da : oa.data = .seq #[.int p.1 t1, .int p.2 t2] na)
  (hb : s.heap.get? b = some ob) (cb : ob.cls = .type "tuple") (db : ob.data = .seq #[.int q.1 u1, .int q.2 u2] nb) (h : P (.done (.ret (.bool (ltP p q)))) s) :
  wpAny (model prog w) A (Builtin.«tuple.__lt__» ⟨[.ref a, .ref b], []⟩) P E s := by
 have hT : s.TypeIs (.ref b) "tuple" := ⟨ob, hb, cb⟩
 show wpAny _ _ (isInstance (.ref b) (.type "tuple") >>= _) _ _ s
 refine wpAny_bind (wpAny_isInstance hT sub_tt ?_)
 simp only [Bool.not_true, Bool.false_eq_true, if_false]
 refine wpAny_bind (Pj ha da (wpAny_bind (Pj hb db (wpAny_bind ?_))))
 show wpAny _ _ (forIn [(Value.int p.1 t1, Value.int q.1 u1), (Value.int p.2 t2, Value.int q.2 u2)] _ _) _ _ s
 rw [List.forIn_cons]
 refine wpAny_bind (wpAny_bind (wpAny_eqBool_int ?_))
 unfold ltP at h
 by_cases e1 : p.1 = q.1
 ·rw [if_pos e1] at h
  rw [show (p.1 == q.1) = true from beq_iff_eq.mpr e1]
  simp only [Bool.not_true, Bool.false_eq_true, if_false]
  refine wpAny_pure ?_
  show wpAny _ _ (forIn [(Value.int p.2 t2, Value.int q.2 u2)] (none, ()) _) _ _ s
  rw [List.forIn_cons]
  refine wpAny_bind (wpAny_bind (wpAny_eqBool_int ?_))
  by_cases e2 : p.2 = q.2
  ·rw [show (p.2 == q.2) = true from beq_iff_eq.mpr e2]
   simp only [Bool.not_true, Bool.false_eq_true, if_false]
   refine wpAny_pure ?_
   show wpAny _ _ (forIn [] (none, ()) _) _ _ s
   rw [List.forIn_nil]
   refine wpAny_pure ?_
   rw [decide_eq_false (by omega)] at h
   exact wpAny_pure h
  ·rw [show (p.2 == q.2) = false from beq_eq_false_iff_ne.mpr e2]
   simp only [Bool.not_false, if_true]
   exact wpAny_bind (wpAny_rule (wpAny_bind (wpAny_lt_int (wpAny_bind (wpAny_pure (wpAny_pure (wpAny_pure (wpAny_pure h))))))))
 ·rw [if_neg e1] at h
  rw [show (p.1 == q.1) = false from beq_eq_false_iff_ne.mpr e1]
  simp only [Bool.not_false, if_true]
  exact wpAny_bind (wpAny_rule (wpAny_bind (wpAny_lt_int (wpAny_bind (wpAny_pure (wpAny_pure (wpAny_pure (wpAny_pure h))))))))
theorem Mf {p q : Int × Int} {v u : Value} {Q : Value → Shared → Prop} (hu : A.units < cLine) (hv : Tv s.heap v p) (hw : Tv s.heap u q) (h : Q (.bool (ltP p q)) s) : wpAny (model prog w) A (richCompare .Lt v u) Q E s := by
 obtain ⟨a, oa, na, t1, t2, rfl, ha, ca, da⟩ := hv
 obtain ⟨b, ob, nb, u1, u2, rfl, hb, cb, db⟩ := hw
 have hTa : s.TypeIs (.ref a) "tuple" := ⟨oa, ha, ca⟩
 have hTb : s.TypeIs (.ref b) "tuple" := ⟨ob, hb, cb⟩
 exact wpAny_richCompare_same_room (op := .Lt) hTa hTb F.slot_tuple_lt (wpAny_call_entry F.slot_tuple_lt hTa F.entry_tuple_lt (Uh ha da hb cb db ⟨_, rfl, (fun z => nomatch z), h⟩) (F.args_tuple_lt_2 _ _)) hu
end
section
variable {prog : Program} {w : World} {A : Around} {R : Result → Shared → Prop} {I : Addr} {fp wr : List Addr} {n : Nat} {P : Nat → Value → Prop} {St : Nat → Heap → Prop}
noncomputable def Zac (prog : Program) (w : World) (A : Around) (h0 : Heap) (P : Nat → Value → Prop) (bt : Nat → Nat → Bool) : Prop :=
 ∀ i j x y (s : Shared) (Q : Value → Shared → Prop) (E : Value → Shared → Prop), (∀ b o, h0.get? b = some o → s.heap.get? b = some o) → P i x → P j y → Q (.bool (bt i j)) s → wpAny (model prog w) A (richCompare .Lt x y) Q E s
theorem Yp : (toString "min" ++ toString ".loop" : String) = "min.loop" := by decide
theorem B5 {kw : List (Str × Value)} {h0 : Heap} {bt : Nat → Nat → Bool} (C : Zac prog w A.in1 h0 P bt) (W : Walks prog w A.in1 I fp wr n P St) {S : Addr} (hSf : S ∉ fp) (nS : h0.get? S = none) (nw : ∀ b ∈ wr, h0.get? b = none) :
  ∀ (k j : Nat) (s : Shared) (best : Value) (c : Nat), n - (j + 1) = k → j + 1 ≤ n → (∀ b o, h0.get? b = some o → s.heap.get? b = some o) → St (j + 1) s.heap → P (argBest bt j) best → s.heap.get? S = some { cls := .type "list", dict := none, data := .seq #[best, best] c, slots := #[] } →
   (∀ v h' tk, P (argBest bt (n - 1)) v → (∀ b o, h0.get? b = some o → h'.get? b = some o) → R (.ok (.ret v)) { s with heap := h', toks := tk }) →
   codeAny (model prog w) A (.builtin "min.loop" ⟨[.ref I, .none, .ref S], kw⟩) R s := by
 have hSw : S ∉ wr := fun z => hSf (W.sub _ z)
 have old : ∀ {b : Addr} {o : Obj}, h0.get? b = some o → b ∉ wr ∧ b ≠ S := fun {b o} e => ⟨fun z => (by rw [nw b z] at e; cases e), fun z => (by rw [z, nS] at e; cases e)⟩
 intro k
 induction k with
 | zero =>
  intro j s best c hk hj h0s hst hPb hS hR
  obtain rfl : j + 1 = n := by omega
  refine codeAny_builtin F.entry_min_loop ?_
  rw [Around.under_plainId F.plain_min_loop _]
  show wpAny _ A.in1 (seqItems? (.ref S) >>= _) _ _ s
  refine wpAny_bind (wpAny_seqItems hS rfl ?_)
  show wpAny _ A.in1 (tryCatch (pyNext (.ref I)) _ >>= _) _ _ s
  refine wpAny_bind (wpAny_tryCatch (W.done s _ _ hst fun h' tk keep => ?_))
  have hS' := keep S _ hSw hS
  show wpAny _ A.in1 (updateSeq S (fun _ => #[]) >>= _) _ _ _
  refine wpAny_bind (wpAny_updateSeq hS' rfl (wpAny_bind (wpAny_letGo (wpAny_pure ?_))))
  exact hR best _ tk hPb fun b o e => (Heap.get?_update_other _ _ (Ne.symm (old e).2)).trans (keep b o (old e).1 (h0s b o e))
 | succ k ih =>
  intro j s best c hk hj h0s hst hPb hS hR
  have hlt : j + 1 < n := by omega
  refine codeAny_builtin F.entry_min_loop ?_
  rw [Around.under_plainId F.plain_min_loop _]
  show wpAny _ A.in1 (seqItems? (.ref S) >>= _) _ _ s
  refine wpAny_bind (wpAny_seqItems hS rfl ?_)
  show wpAny _ A.in1 (tryCatch (pyNext (.ref I)) _ >>= _) _ _ s
  refine wpAny_bind (wpAny_tryCatch (W.item (j + 1) s _ _ hlt hst fun v h' tk hP hst' keep => ?_))
  have hS' := keep S _ hSw hS
  have h0' : ∀ b o, h0.get? b = some o → h'.get? b = some o := fun b o e => keep b o (old e).1 (h0s b o e)
  show wpAny _ A.in1 (tryCatch (holding [v, v] (richCompare .Lt v best >>= _)) _ >>= _) _ _ _
  refine wpAny_bind (wpAny_tryCatch (wpAny_holding (wpAny_bind (C (j + 1) (argBest bt j) v best _ _ _ h0' hP hPb ?_))))
  refine wpAny_bind (wpAny_holding (wpAny_truthy_bool (wpAny_bind (wpAny_letGo (wpAny_pure ?_)))))
  cases q : bt (j + 1) (argBest bt j) with
  | true =>
   simp only [if_true]
   refine wpAny_bind (wpAny_updateSeq hS' rfl (wpAny_bind (wpAny_letGo ?_)))
   rw [Yp]
   refine wpAny_pure ⟨plainId_quiet F.plain_min_loop _, ih (j + 1) _ v _ (by omega) hlt (fun b o e => (Heap.get?_update_other _ _ (Ne.symm (old e).2)).trans (h0' b o e)) (W.frame _ _ _ hst' fun b m o e => ?_) (by simp only [argBest, q, if_true]; exact hP) (Heap.get?_update_self _ hS' rfl) fun v' h'' tk'' hP' hk'' => hR v' h'' tk'' hP' hk''⟩
   exact (Heap.get?_update_other _ _ (fun z : S = b => hSf (by rw [z]; exact m))).trans e
  | false =>
   simp only [Bool.false_eq_true, if_false]
   refine wpAny_bind (wpAny_letGo ?_)
   rw [Yp]
   exact wpAny_pure ⟨plainId_quiet F.plain_min_loop _, ih (j + 1) _ best c (by omega) hlt h0' hst' (by simp only [argBest, q, Bool.false_eq_true, if_false]; exact hPb) hS' fun v' h'' tk'' hP' hk'' => hR v' h'' tk'' hP' hk''⟩
end
section
variable {prog : Program} {w : World} {A : Around} {E : Value → Shared → Prop} {s : Shared}
theorem DQ {x : Value} {Q : Value → Shared → Prop} {h0 : Heap}
  (h : wpAny (model prog w) A.in1 (pyIter x) (fun it s2 => ∃ I fp wr n P St bt, it = .ref I ∧ Walks prog w A.in1 I fp wr n P St ∧ St 0 s2.heap ∧ (∀ b ∈ fp, b < s2.heap.objs.size) ∧ (∀ b ∈ wr, h0.get? b = none) ∧ (∀ b o, h0.get? b = some o → s2.heap.get? b = some o) ∧ h0.get? s2.heap.objs.size = none ∧ 0 < n ∧ Zac prog w A.in1 h0 P bt ∧
   ∀ v h' tk, P (argBest bt (n - 1)) v → (∀ b o, h0.get? b = some o → h'.get? b = some o) → Q v { s2 with heap := h', toks := tk }) E s) : wpAny (model prog w) A (call (.builtin "min") [x]) Q E s := by
 refine call_function_tree F.kind_min F.plain_min F.entry_min (F.args_min1 _) ?_
 show wpAny _ A.in1 (Builtin.Builtins.bindParams "min" ["key", "default"] 0 ⟨[], []⟩ >>= _) _ _ s
 refine wpAny_bind (wpAny_of_eq (show Builtin.Builtins.bindParams "min" ["key", "default"] 0 ⟨[], []⟩ = pure [none, none] from rfl) (wpAny_bind (wpAny_pure ?_)))
 refine wpAny_bind (wpAny_mono h (fun it s2 h2 => ?_) fun _ _ z => z)
 obtain ⟨I, fp, wr, n, P, St, bt, rfl, W, hst, hfp, nw, h0s, nS, hn, C, hQ⟩ := h2
 refine wpAny_bind (wpAny_newObj_type ?_)
 have hSf : s2.heap.objs.size ∉ fp := fun z => Nat.lt_irrefl _ (hfp _ z)
 have hSw : s2.heap.objs.size ∉ wr := fun z => hSf (W.sub _ z)
 have old : ∀ {b : Addr} {o : Obj}, h0.get? b = some o → b ∉ wr ∧ b ≠ s2.heap.objs.size := fun {b o} e => ⟨fun z => (by rw [nw b z] at e; cases e), fun z => (by rw [z, nS] at e; cases e)⟩
 rw [Yp]
 refine wpAny_pure ⟨plainId_quiet F.plain_min_loop _, ?_⟩
 refine codeAny_builtin F.entry_min_loop ?_
 rw [Around.under_plainId F.plain_min_loop _]
 show wpAny _ A.in1 (seqItems? (.ref s2.heap.objs.size) >>= _) _ _ _
 refine wpAny_bind (wpAny_seqItems (Heap.get?_push_size _ rfl) rfl ?_)
 show wpAny _ A.in1 (tryCatch (pyNext (.ref I)) _ >>= _) _ _ _
 refine wpAny_bind (wpAny_tryCatch (W.item 0 _ _ _ hn (W.frame _ _ _ hst fun b _ o e => Heap.get?_push_of_some _ e) fun v h' tk hP hst' keep => ?_))
 have hS' := keep s2.heap.objs.size _ hSw (Heap.get?_push_size _ rfl)
 show wpAny _ A.in1 (updateSeq s2.heap.objs.size (fun _ => #[v, v]) >>= _) _ _ _
 refine wpAny_bind (wpAny_updateSeq hS' rfl ?_)
 rw [Yp]
 refine wpAny_pure ⟨plainId_quiet F.plain_min_loop _, B5 C W hSf nS nw _ 0 _ v _ rfl hn (fun b o e => (Heap.get?_update_other _ _ (Ne.symm (old e).2)).trans (keep b o (old e).1 (Heap.get?_push_of_some _ (h0s b o e)))) (W.frame _ _ _ hst' fun b m o e => ?_) hP (Heap.get?_update_self _ hS' rfl) fun v' h'' tk'' hP' hk'' => hQ v' h'' tk'' hP' hk''⟩
 exact (Heap.get?_update_other _ _ (fun z : s2.heap.objs.size = b => hSf (by rw [z]; exact m))).trans e
theorem Ca {l : Addr} {its : Array Value} {qs : List (Int × Int)} {Q : Value → Shared → Prop} (hh : A.handled = none) (hu : A.in1.units < cLine) (hl : s.heap.IsList l its) (hz : its.size = qs.length) (hne : 0 < qs.length)
  (hq : ∀ i v, its[i]? = some v → Tv s.heap v (qs.getD i (0, 0)))
  (h : ∀ i v h' tk, its[i]? = some v → i < qs.length → (∀ j, j < qs.length → ltP (qs.getD j (0, 0)) (qs.getD i (0, 0)) = false) → (∀ b o, s.heap.get? b = some o → h'.get? b = some o) → Q v { s with heap := h', toks := tk }) :
  wpAny (model prog w) A (call (.builtin "min") [.ref l]) Q E s := by
 have hlt : l < s.heap.objs.size := by obtain ⟨_, e, _⟩ := hl; exact Heap.lt_size e
 refine DQ (h0 := s.heap) (wpAny_pyIter_list hl ?_)
 refine ⟨s.heap.objs.size, [s.heap.objs.size, l], [s.heap.objs.size], its.size, _, _, fun i j => ltP (qs.getD i (0, 0)) (qs.getD j (0, 0)), rfl, Walks.list (A := A.in1) hh _ l (Nat.ne_of_lt hlt) its, ⟨⟨_, Heap.get?_push_size _ rfl, rfl, rfl⟩, hl.push _⟩, fun b hb => ?_, fun b hb => ?_, fun b o e => Heap.get?_push_of_some _ e, ?_, by omega, fun i j x y s' Q' E' old hx hy hQ => ?_, fun v h' tk hP keep => ?_⟩
 ·show b < (s.heap.push _).objs.size
  rw [Heap.size_push]
  rcases List.mem_cons.mp hb with rfl | hb
  ·exact Nat.lt_succ_self _
  ·rw [List.mem_singleton.mp hb]
   exact Nat.lt_succ_of_lt hlt
 ·rw [List.mem_singleton.mp hb]
  exact get_none (Nat.le_refl _)
 ·show s.heap.get? (s.heap.push _).objs.size = none
  rw [Heap.size_push]
  exact get_none (Nat.le_succ _)
 ·exact Mf hu ((hq i x hx).keep old) ((hq j y hy).keep old) hQ
 ·have b := Wy (fun i => qs.getD i (0, 0)) (its.size - 1)
  exact h _ v h' tk hP (by omega) (fun j hj => b.2 j (by omega)) keep
end
section
variable {X : Cx}
noncomputable def Zad (i j : Int) : Prop := 0 < j ∧ j.natAbs.log2 < 9000
theorem NS : OpR X (binaryOp .FloorDiv) (rI Zad fun i j => .int (i / j)) := opI fun i j _ _ _ _ _ hc q => by
 have h1 : (0 : Int) < j := hc.1
 exact floordiv_int (by omega) (by rw [Int.fdiv_eq_ediv_of_nonneg i (by omega)]; exact q) (.inl (PyProof.noPylong_of_log2 hc.2))
theorem CT : OpD X (binaryOp .FloorDiv) (δI Zad fun i j => .int (i / j)) := Zav NS
theorem Vals.back {xs : List V} {us : List Value} {i : Nat} {u : Value} (r : Vals xs us) (e : us[i]? = some u) : ∃ x, xs[i]? = some x ∧ RelV x u := by
 cases q : xs[i]? with
 | none => rw [r.none_of q] at e; cases e
 | some x =>
  obtain ⟨u', e', h⟩ := r.get q
  rw [e] at e'
  cases e'
  exact ⟨x, rfl, h⟩
theorem Ha (hc : X.calm = true) (hu : X.A.in1.units < cLine) : VX X (.builtin "min") (fun xs H Q => ∃ (p : Addr) (vs : List V) (qs : List (Int × Int)), xs = [.ref p] ∧ SqL X.K H p vs ∧ vs.length = qs.length ∧ (∀ (i : Nat) (q : Int × Int), qs[i]? = some q → ∃ a : Addr, vs[i]? = some (V.ref a) ∧ SqT X.K H a [.int q.1, .int q.2]) ∧ 0 < qs.length ∧
  ∀ (i : Nat) (q : Int × Int) (v : V), qs[i]? = some q → vs[i]? = some v → (∀ r ∈ qs, ltP r q = false) → Q v H) := by
 intro pins s σ H xs us Q I r h
 obtain ⟨p, vs, qs, rfl, hq, hz, hp, h0, q⟩ := h
 obtain ⟨u, rfl, rx⟩ := vals1 r
 cases rx
 obtain ⟨its, rv, pl, _⟩ := I.list hq
 have hlen := rv.length
 have get : ∀ i, i < qs.length → qs[i]? = some (qs.getD i (0, 0)) := fun i hi => by rw [List.getElem?_eq_getElem hi, List.getD_eq_getElem?_getD, List.getElem?_eq_getElem hi]; rfl
 refine Ca (I.ok.hd hc) hu pl.isList (by rw [List.size_toArray, ← hlen]; exact hz) h0 (fun i v hv => ?_) fun i v h' tk hv hi hm hk => ?_
 ·have hv' : its[i]? = some v := by simpa using hv
  have hi : i < qs.length := by
   have := (List.getElem?_eq_some_iff.mp hv').1
   omega
  obtain ⟨a, e, sq⟩ := hp i _ (get i hi)
  obtain ⟨w', e', rl⟩ := rv.get e
  rw [hv'] at e'
  cases e'
  cases (show v = .ref a from rl)
  obtain ⟨jts, rt, ⟨o, eo, co, n, d⟩, _⟩ := I.tuple sq
  obtain ⟨x1, x2, rfl, ⟨t1, rfl⟩, ⟨t2, rfl⟩⟩ := Vals.two rt
  exact ⟨a, o, n, t1, t2, rfl, eo, co, d⟩
 ·have hv' : its[i]? = some v := by simpa using hv
  obtain ⟨x, e, rl⟩ := Vals.back rv hv'
  refine ⟨x, H, I.kept hk, rl, q i _ x (get i hi) e fun r hr => ?_⟩
  obtain ⟨j, hj, rfl⟩ := List.getElem_of_mem hr
  have := hm j hj
  rwa [List.getD_eq_getElem?_getD, List.getElem?_eq_getElem hj] at this
noncomputable def prD (q : Int × Int) : PyData := .tuple [.int q.1, .int q.2]
noncomputable def Pt : D1 := fun xs M Φ => ∃ qs : List (Int × Int), xs = [.dat (.list (qs.map prD))] ∧ 0 < qs.length ∧ ∀ q ∈ qs, (∀ r ∈ qs, ltP r q = false) → Φ (.dat (prD q)) M
theorem Lf {k : Nat} (hr : Xc k X.A) (hc : X.calm = true) : Ys X (.builtin "min") Pt := by
 refine ⟨_, Ha hc (by have := hr.un; show X.A.units + 1 < _; omega), fun vs H xs M Φ Q r rv h k => ?_⟩
 obtain ⟨qs, rfl, h0, q⟩ := h
 obtain ⟨v, rfl, h1⟩ := Paired.one rv
 obtain ⟨p, ys, rfl, g1, g2⟩ := Q1.lst h1
 refine ⟨p, ys, qs, rfl, g1.sq, by rw [g2.length, List.length_map], fun i q' e => ?_, h0, fun i q' v e ev hm => ?_⟩
 ·obtain ⟨v, ev, d⟩ := g2.get (i := i) (d := prD q') (by rw [List.getElem?_map, e]; rfl)
  cases d with
  | tup t1 t2 =>
   cases t2 with
   | cons a b =>
    cases a
    cases b with
    | cons a b =>
     cases a
     cases b
     exact ⟨_, ev, t1.sq⟩
 ·obtain ⟨v', ev', d⟩ := g2.get (i := i) (d := prD q') (by rw [List.getElem?_map, e]; rfl)
  rw [ev] at ev'
  cases ev'
  exact k.dat r Step.refl d (q q' (List.mem_of_getElem? e) hm)
end
end DL
namespace DL
open PySem PySem.Spec PyProof.Rows L2
noncomputable def PY {α : Type} [DecidableEq α] (ks : List α) (k : α) : Bool := decide (k ∈ ks)
theorem Mt {α : Type} [DecidableEq α] {ks : List α} {k : α} : PY ks k = true ↔ k ∈ ks := by
 unfold PY
 rw [decide_eq_true_eq]
theorem U4 {α : Type} [DecidableEq α] (kvs : List (α × V)) (k : α) : (UW kvs k).isSome = decide (k ∈ kvs.map (·.1)) := by
 rw [← X5, Bool.eq_iff_iff, List.any_eq_true, decide_eq_true_eq, List.mem_map]
 constructor
 ·rintro ⟨x, hx, e⟩
  exact ⟨x, hx, of_decide_eq_true e⟩
 ·rintro ⟨x, hx, e⟩
  exact ⟨x, hx, decide_eq_true e⟩
noncomputable def LY {α : Type} [DecidableEq α] (ks : List α) (k : α) : List α := if k ∈ ks then ks else ks ++ [k]
theorem LC {α : Type} [DecidableEq α] (kvs : List (α × V)) (k : α) (v : V) : (putK kvs k v).map (·.1) = LY (kvs.map (·.1)) k := by
 have e := U4 kvs k
 rw [← X5] at e
 unfold putK LY
 rw [e]
 by_cases h : k ∈ kvs.map (·.1)
 ·rw [decide_eq_true h, if_pos rfl, if_pos h, List.map_map]
  refine List.map_congr_left fun x _ => ?_
  show (if x.1 = k then (x.1, v) else x).1 = x.1
  split <;> rfl
 ·rw [decide_eq_false h, if_neg Bool.false_ne_true, if_neg h, List.map_append]
  rfl
theorem Oq {α : Type} [DecidableEq α] {ks : List α} {k x : α} : x ∈ LY ks k ↔ x ∈ ks ∨ x = k := by
 unfold LY
 split
 ·rename_i h
  constructor
  ·exact .inl
  ·rintro (z | rfl)
   ·exact z
   ·exact h
 ·rw [List.mem_append, List.mem_singleton]
theorem Mw {α : Type} [DecidableEq α] (ks : List α) (k : α) : (LY ks k).length ≤ ks.length + 1 := by
 unfold LY
 split
 ·omega
 ·rw [List.length_append, List.length_singleton]
  exact Nat.le_refl _
section
variable {X : Cx}
noncomputable def HA : DTE := fun _ M Φ => ∀ p, M p = none → Φ (.own p) (Z3 M p (.dct []))
theorem ER {pos : Pos} : DE X (.Dict [] [] pos) HA :=
 ⟨_, MX, fun _ _ _ _ _ _ r _ h k p hp => k _ _ (.own p) _ (r.Pa (Step.Yx hp) rfl) (Step.Yx hp) rfl (h p (r.tracked hp))⟩
noncomputable def kP (i j : Int) : List Key := [.inl i, .inl j]
noncomputable def Zbu (td : DTE) (ta : DTA) (tv : DTE) : DTS := fun D Δ M => tv Δ M fun x M1 => td Δ M1 fun y M2 => ta Δ M2 fun zs M3 => onD x fun _ => onO y fun l => on2 zs fun p q => onI p fun i => onI q fun j => MO (M3 l) fun ks => ks.length < sizeLine ∧ D.nx Δ (Z3 M3 l (.dct (LY ks (kP i j))))
theorem RX {k : Nat} {o value : Expr} {es : List Expr} {td tv : DTE} {ta : DTA} {kt} {pt pos' pos : Pos} (hr : Xc k X.A) (ho : DE X o td) (hi : DA X es ta) (hv : DE X value tv)
  (hs : swapsWith value (some (.Subscript o (.Tuple es kt pt) pos')) pos.line X.env = pure false := by rfl) : DS X (.Assign [.Subscript o (.Tuple es kt pt) pos'] value pos) (Zbu td ta tv) := by
 obtain ⟨t1, p1, q1⟩ := hv
 obtain ⟨t2, p2, q2⟩ := ho
 obtain ⟨t3, p3, q3⟩ := hi
 refine ⟨_, Rn (by have := hr.un; omega) p2 (O8 p3) p1 hs, fun σ H Δ M D E r e h k => ?_⟩
 refine q1 σ H Δ M _ _ r e h fun v H1 x M1 r1 st1 rv hx => ?_
 refine q2 σ H1 Δ M1 _ _ r1 (e.step st1) hx fun w H2 y M2 r2 st2 rw2 hy => ?_
 refine q3 σ H2 Δ M2 _ _ r2 (e.step (st1.trans st2)) hy fun vs H3 zs M3 r3 st3 rvs hz => ?_
 replace hz := Q8 hz
 obtain ⟨d, rfl, hz⟩ := hz
 replace hz := Q7 hz
 obtain ⟨l, rfl, hz⟩ := hz
 replace hz := Zy hz
 obtain ⟨zi, zj, rfl, hz⟩ := hz
 replace hz := ZM hz
 obtain ⟨i, rfl, hz⟩ := hz
 replace hz := ZM hz
 obtain ⟨j, rfl, hz⟩ := hz
 replace hz := Lh hz
 obtain ⟨ks, hm, hl, hn⟩ := hz
 obtain ⟨a, b, rfl, ha, hb⟩ := Paired.two rvs
 cases (show a = .int i from Q1.int ha)
 cases (show b = .int j from Q1.int hb)
 cases (show w = .ref l from rw2)
 refine ⟨by rw [sizeLine_eq]; show 2 ≤ 16777216; decide, fun p hp => ?_⟩
 obtain ⟨kvs, g1, g2⟩ := r3.dc l ks hm
 have hne : l ≠ p := ZK g1 hp
 have g1' : upd H3 p (.tup [.int i, .int j]) l = some (.dT kvs) := by rw [ZZ hne]; exact g1
 refine ⟨l, _, rfl, PM.t (k := kP i j) g1' J9 (by rw [← g2, List.length_map] at hl; exact hl), ?_⟩
 have r4 : Z8 X.K M3 (upd H3 p (.tup [.int i, .int j])) := r3.new hp
 have st4 : Step M3 H3 M3 (upd H3 p (.tup [.int i, .int j])) := Step.new hp
 have st5 : Step M3 (upd H3 p (.tup [.int i, .int j])) (Z3 M3 l (.dct (LY ks (kP i j)))) (upd (upd H3 p (.tup [.int i, .int j])) l (.dT (putK kvs (kP i j) v))) := Step.Ga hm
 have stA := st1.trans (st2.trans (st3.trans (st4.trans st5)))
 exact k.nx _ _ _ _ (r4.Pa st5 (by rw [LC, g2])) stA (e.step stA) hn
theorem TN {pins : List (Addr × Obj)} {σ : L2.St} {H : Hp} {s : Shared} {b : Addr} {ks : List Key} (I : L2.Inv X pins σ H s) (h : SqT X.K H b (ks.map kV)) : (tupleKind (Qv X.prog X.w)).is s.heap ks b := by
 obtain ⟨its, r, ⟨o, e, c, n, d⟩, _⟩ := I.tuple h
 exact ⟨o, its.toArray, n, e, c, d, by simpa using KZ r⟩
theorem Zcy (hu : X.A.units + 1 < cLine) : OpR X (compareOp .In) (fun x y H Q => ∃ a b kvs k, x = .ref b ∧ y = .ref a ∧ H a = some (.dT kvs) ∧ SqT X.K H b (k.map kV) ∧ Q (.bl (UW kvs k).isSome) H) := by
 intro pins s σ H x y v u Q I rx ry h
 obtain ⟨a, b, kvs, k, rfl, rfl, ha, hb, q⟩ := h
 cases (show v = .ref b from rx)
 cases (show u = .ref a from ry)
 obtain ⟨z, hd, xs, rel, dd⟩ := T3 I.hok (.inl ha)
 refine wpAny_in_heap (tupleKind_room_in1 hu) (TN I hb) hd dd ?_
 have q' := (rel.val k).UZ
 rw [Option.isSome_map] at q'
 rw [← q']
 exact ⟨.bl _, H, I.tok _, rfl, q⟩
noncomputable def onP (x : DV) (P : Int → Int → Prop) : Prop := match x with | .dat (.tuple [.int i, .int j]) => P i j | _ => False
theorem Qr {x : DV} {P : Int → Int → Prop} (h : onP x P) : ∃ i j, x = .dat (.tuple [.int i, .int j]) ∧ P i j := by
 unfold onP at h
 split at h
 ·exact ⟨_, _, rfl, h⟩
 ·exact h.elim
noncomputable def Zby : D2 := fun x y M Φ => onP x fun i j => onO y fun l => MO (M l) fun ks => Φ (.dat (.bool (PY ks (kP i j)))) M
theorem Pc {k : Nat} (hr : Xc k X.A) : OpD X (compareOp .In) Zby := by
 refine ⟨_, Zcy (by have := hr.un; omega), fun v u H x y M Φ Q r rv ru h k => ?_⟩
 replace h := Qr h
 obtain ⟨i, j, rfl, h⟩ := h
 replace h := Q7 h
 obtain ⟨l, rfl, h⟩ := h
 replace h := Lh h
 obtain ⟨ks, hm, q⟩ := h
 obtain ⟨b, xs, rfl, h1, h2⟩ := Q1.tup rv
 cases (show u = .ref l from ru)
 obtain ⟨kvs, g1, g2⟩ := r.dc l ks hm
 have e : xs = (kP i j).map kV := by
  cases h2 with
  | cons a t =>
   cases a
   cases t with
   | cons a t =>
    cases a
    cases t
    rfl
 rw [e] at h1
 refine ⟨l, b, kvs, kP i j, rfl, rfl, g1, h1.sq, ?_⟩
 rw [U4, g2]
 show Q (.bl (PY ks (kP i j))) H
 exact k.dat r Step.refl (Dt.bl _) q
end
section
variable {prog : Program} {w : World} {A : Around} {E : Value → Shared → Prop} {s : Shared}
end
section
variable {X : Cx}
noncomputable def Zc6 (te ts : DTE) : DTE := fun Δ M Φ => te Δ M fun x M1 => ts Δ M1 fun y M2 => onT x fun ds => onI y fun i => i = -1 ∧ Φ (.dat (.tuple ds.reverse)) M2
end
section
variable {prog : Program} {w : World} {A : Around} {E : Value → Shared → Prop} {s : Shared}
end
section
variable {X : Cx}
noncomputable def Zfv (K : PySem.W.Frag) : V → Option Int → Option Int → Hp → VK → Prop := fun x lo hi H Q => ∃ a xs, x = .ref a ∧ SqT K H a xs ∧ (HT.sIx xs.length 0 lo = 0 ∧ HT.sIx xs.length xs.length hi = xs.length) ∧ Q (.ref a) H
noncomputable def Zeg (te : DTE) (tl th : DTO) : DTE := fun Δ M Φ => te Δ M fun x M1 => tl Δ M1 fun l M2 => th Δ M2 fun u M3 => onT x fun ds => Φ (.dat (.tuple (cutD ds l u))) M3
end
section
variable {X : Cx}
noncomputable def Zc0 (x : DV) (M : Mp) (Φ : DK) : Prop := match x with | .dat (.list ds) => Φ (.dat (.list ds)) M | .own l => Kd (M l) fun ds => Φ (.dat (.list ds)) (Ke M l) | _ => False
noncomputable def Zdu (t : DTE) : DTE := fun Δ M Φ => t Δ M fun x M1 => Zc0 x M1 Φ
end
end DL
namespace DL
open PySem PySem.Spec PyProof.Rows L2
theorem RU {X : Cx} {e : Expr} {τ τ' : DTE} (h : DE X e τ) (k : ∀ Δ M Φ, τ' Δ M Φ → τ Δ M Φ) : DE X e τ' := by
 obtain ⟨t, p, q⟩ := h
 exact ⟨t, p, fun σ H Δ M Φ Q a b c d => q σ H Δ M Φ Q a b (k _ _ _ c) d⟩
theorem Rj {X : Cx} {s : Stmt} {τ τ' : DTS} (h : DS X s τ) (k : ∀ D Δ M, τ' D Δ M → τ D Δ M) : DS X s τ' := by
 obtain ⟨t, p, q⟩ := h
 exact ⟨t, p, fun σ H Δ M D E a b c d => q σ H Δ M D E a b (k _ _ _ c) d⟩
noncomputable def Zdr (src : WI) : WI := fun Δ M Ψ => ∃ Ψ', src Δ M Ψ' ∧ ∀ ds M1, Ψ' ds M1 → Ψ ds M1
theorem DI.mono {X : Cx} {tg iter : Expr} {src : WI} (h : DI X tg iter src) : DI X tg iter (Zdr src) := by
 obtain ⟨wi, p, q⟩ := h
 exact ⟨wi, p, fun σ H Δ M Ψ R dr er ⟨Ψ', h1, h2⟩ k => q σ H Δ M Ψ' R dr er h1 fun J H' M' ds a b c d => k J H' M' ds a b c (h2 _ _ d)⟩
noncomputable def Jr (g : DTG) (tc : DTT) (te : DTE) (Δc : DSt) (fin : List PyData → Mp → Prop) : List PyData → List PyData → Mp → Prop
 | [], acc, M => fin acc M
 | d :: ds, acc, M => g (.dat d) Δc M fun Δ2 M2 => tc Δ2 M2 fun b M3 => if b = true then te Δ2 M3 fun y M4 => onD y fun e => Jr g tc te Δc fin ds (acc ++ [e]) M4 else Jr g tc te Δc fin ds acc M3
theorem Lo (g : DTG) (tc : DTT) (te : DTE) (Δc : DSt) (fin : List PyData → Mp → Prop) (acc : List PyData) (M : Mp) : Jr g tc te Δc fin [] acc M = fin acc M := by rw [Jr]
theorem FK (g : DTG) (tc : DTT) (te : DTE) (Δc : DSt) (fin : List PyData → Mp → Prop) (d : PyData) (ds acc : List PyData) (M : Mp) : Jr g tc te Δc fin (d :: ds) acc M =
  g (.dat d) Δc M fun Δ2 M2 => tc Δ2 M2 fun b M3 => if b = true then te Δ2 M3 fun y M4 => onD y fun e => Jr g tc te Δc fin ds (acc ++ [e]) M4 else Jr g tc te Δc fin ds acc M3 := by rw [Jr]
theorem Ow {g : DTG} {tc : DTT} {te : DTE} {Δc : DSt} {fin : List PyData → Mp → Prop} {ds : List PyData} {M : Mp} (h : Jr g tc te Δc fin ds [] M) : ∃ J : Nat → List PyData → Mp → Prop, J 0 [] M ∧
 (∀ i d acc M', ds[i]? = some d → J i acc M' → g (.dat d) Δc M' fun Δ2 M2 => tc Δ2 M2 fun b M3 => if b = true then te Δ2 M3 fun y M4 => onD y fun e => J (i + 1) (acc ++ [e]) M4 else J (i + 1) acc M3) ∧
 ∀ acc M', J ds.length acc M' → fin acc M' := by
 refine ⟨fun i acc M' => Jr g tc te Δc fin (ds.drop i) acc M', by simpa using h, fun i d acc M' e k => ?_, fun acc M' k => ?_⟩
 ·have ed : ds.drop i = d :: ds.drop (i + 1) := by
   obtain ⟨hi, e'⟩ := List.getElem?_eq_some_iff.mp e
   rw [← e', List.drop_eq_getElem_cons hi]
  dsimp only at k
  rw [ed] at k
  exact k
 ·dsimp only at k
  rw [List.drop_length] at k
  exact k
noncomputable def CJ (ow : Bool) (src : WI) (ix : List (Option Nat)) (g : DTG) (tc : DTT) (te : DTE) : DTE := fun Δ M Φ => src Δ M fun ds M1 => ds.length ≤ sizeLine ∧ Jr g tc te (HV ix Δ) (D8 ow Φ) ds [] M1
theorem CC {ow : Bool} {src : WI} {ix : List (Option Nat)} {g : DTG} {tc : DTT} {te : DTE} (Δ : DSt) (M : Mp) (Φ : DK) (h : CJ ow src ix g tc te Δ M Φ) : OW ow (Zdr src) ix g tc te Δ M Φ :=
 ⟨_, h, fun _ _ ⟨a, b⟩ => ⟨a, Ow b⟩⟩
section
variable {X : Cx}
theorem L4 (ow : Bool) {elt tg iter : Expr} {ifs : List Expr} {scope : Scope} {pos : Pos} {src : WI} {N : List Str} {ix : List (Option Nat)} {g : DTG} {tc : DTT} {te : DTE} (ok : Xa X scope N ix) (hi : DI X tg iter src)
  (hg : ∀ C ex s H, DG (Z7 X scope C N ex s H) tg g) (ht : ∀ C ex s H, DTs (Z7 X scope C N ex s H) ifs tc) (he : ∀ C ex s H, DE (Z7 X scope C N ex s H) elt te) (hc : X.calm = true)
  (hs : ∀ x, foldedSetIterable iter X.env x = pure x := by intro _; rfl) : DE X (.ListComp elt [⟨tg, iter, ifs, 0⟩] scope pos) (CJ ow src ix g tc te) :=
 RU (QL ow ok hi.mono hg ht he hc hs) CC
theorem L3 (i : Nat) (ow : Bool) {x : Str} {pos' spos : Pos} (hN : X.N.Nodup) {elt tg iter : Expr} {ifs : List Expr} {scope : Scope} {pos : Pos} {src : WI} {N : List Str} {ix : List (Option Nat)} {g : DTG} {tc : DTT} {te : DTE} (ok : Xa X scope N ix) (hi : DI X tg iter src)
  (hg : ∀ C ex s H, DG (Z7 X scope C N ex s H) tg g) (ht : ∀ C ex s H, DTs (Z7 X scope C N ex s H) ifs tc) (he : ∀ C ex s H, DE (Z7 X scope C N ex s H) elt te) (hc : X.calm = true)
  (hs : ∀ x, foldedSetIterable iter X.env x = pure x := by intro _; rfl) (hin : X.N[i]? = some x := by rfl) (hx : Loc X.env.scope x := by first | exact Or.inl rfl | exact Or.inr rfl)
  (hsw : swapsWith (.ListComp elt [⟨tg, iter, ifs, 0⟩] scope pos) (some (.Name x pos')) spos.line X.env = pure true := by rfl)
  (hf : X.fn x = true ∨ X.env.scope.names.lookup x = some .local := by first | exact .inl rfl | exact .inr rfl | assumption) :
  DS X (.Assign [.Name x pos'] (.ListComp elt [⟨tg, iter, ifs, 0⟩] scope pos) spos) (Zaj (CJ ow src ix g tc te) (Wi i)) :=
 Rj (UR i ow hN ok hi.mono hg ht he hc hs hin hx hsw hf) fun D Δ M h => CC Δ M _ h
end
noncomputable def V1 (g : DTG) (tb : DTS) (D : Q0) : List PyData → DSt → Mp → Prop
 | [], Δ, M => D.nx Δ M
 | d :: ds, Δ, M => g (.dat d) Δ M fun Δ2 M2 => tb { D with nx := V1 g tb D ds, ct := V1 g tb D ds, bk := D.nx } Δ2 M2
theorem Mr (g : DTG) (tb : DTS) (D : Q0) (Δ : DSt) (M : Mp) : V1 g tb D [] Δ M = D.nx Δ M := by rw [V1]
theorem NC (g : DTG) (tb : DTS) (D : Q0) (d : PyData) (ds : List PyData) (Δ : DSt) (M : Mp) : V1 g tb D (d :: ds) Δ M = g (.dat d) Δ M fun Δ2 M2 => tb { D with nx := V1 g tb D ds, ct := V1 g tb D ds, bk := D.nx } Δ2 M2 := by rw [V1]
theorem Zaw {g : DTG} {tb : DTS} {D : Q0} {ds : List PyData} {Δ : DSt} {M : Mp} (h : V1 g tb D ds Δ M) : EH g tb D ds Δ M := by
 refine ⟨fun i => V1 g tb D (ds.drop i), by simpa using h, fun i d Δ M e k => ?_, fun Δ M k => ?_⟩
 ·have ed : ds.drop i = d :: ds.drop (i + 1) := by
   obtain ⟨hi, e'⟩ := List.getElem?_eq_some_iff.mp e
   rw [← e', List.drop_eq_getElem_cons hi]
  dsimp only at k
  rw [ed] at k
  exact k
 ·dsimp only at k
  rw [List.drop_length] at k
  exact k
theorem C0 (lo : Int) (n : Nat) : WG lo (n + 1) = .int lo :: WG (lo + 1) n := by
 unfold WG
 rw [List.range_succ_eq_map, List.map_cons, List.map_map]
 congr 1
 ·simp
 ·refine List.map_congr_left fun i _ => ?_
  show PyData.int _ = PyData.int _
  congr 1
  simp
  omega
theorem Za4 (lo : Int) : WG lo 0 = [] := rfl
theorem PJ (lo : Int) : WG lo 1 = [.int lo] := by rw [C0]; rfl
theorem Pn (lo : Int) : WG lo 2 = [.int lo, .int (lo + 1)] := by rw [C0, PJ]
theorem Pb (lo : Int) : WG lo 3 = [.int lo, .int (lo + 1), .int (lo + 1 + 1)] := by rw [C0, Pn]
theorem ZbW (lo : Int) : WG lo 4 = [.int lo, .int (lo + 1), .int (lo + 1 + 1), .int (lo + 1 + 1 + 1)] := by rw [C0, Pb]
theorem Hv {g : DTG} {tb : DTS} {D : Q0} {lo : Int} {n : Nat} {Δ : DSt} {M : Mp} (h : V1 g tb D (WG lo n) Δ M) : WJ g tb D lo n Δ M := by
 obtain ⟨J, a, b, c⟩ := Zaw h
 refine ⟨J, a, fun i Δ M hi k => b i _ Δ M (C5 hi) k, fun Δ M k => c Δ M ?_⟩
 rw [Cu]
 exact k
theorem Mh {A B : DTS} {D : Q0} {Δ : DSt} {M : Mp} (h : ∀ R, R = B → Zc1 A R D Δ M) : Zc1 A B D Δ M := h B rfl
theorem R3 {l : List Int} {r : Int} (h0 : 0 ≤ r) (h1 : r < l.length) : ∃ w ∈ l, atI (l.map PyData.int) r = some (.int w) := by
 obtain ⟨d, e, hm⟩ := LU (l := l.map PyData.int) h0 (by rw [List.length_map]; exact h1)
 obtain ⟨w, hw, rfl⟩ := List.mem_map.mp hm
 exact ⟨w, hw, e⟩
end DL
namespace DL
open PySem PySem.Spec PyProof.Rows L2
theorem Bo  : ZX "int" .none = false := rfl
theorem Bt (b : Bool) : ZX "int" (.bool b) = true := rfl
theorem Er (i : Int) : ZX "int" (.int i) = true := rfl
theorem DN (z : Str) : ZX "int" (.str z) = false := rfl
theorem BM (l : List PyData) : ZX "int" (.list l) = false := rfl
theorem GQ (l : List PyData) : ZX "int" (.tuple l) = false := rfl
theorem BO (l : List (PyData × PyData)) : ZX "int" (.dict l) = false := rfl
theorem GL  : ZX "bool" .none = false := rfl
theorem U6 (b : Bool) : ZX "bool" (.bool b) = true := rfl
theorem Bu (i : Int) : ZX "bool" (.int i) = false := rfl
theorem BH (z : Str) : ZX "bool" (.str z) = false := rfl
theorem G2 (l : List PyData) : ZX "bool" (.list l) = false := rfl
theorem Um (l : List PyData) : ZX "bool" (.tuple l) = false := rfl
theorem U5 (l : List (PyData × PyData)) : ZX "bool" (.dict l) = false := rfl
theorem W3  : ZX "tuple" .none = false := rfl
theorem Uw (b : Bool) : ZX "tuple" (.bool b) = false := rfl
theorem U8 (i : Int) : ZX "tuple" (.int i) = false := rfl
theorem GR (z : Str) : ZX "tuple" (.str z) = false := rfl
theorem Uj (l : List PyData) : ZX "tuple" (.list l) = false := rfl
theorem Wu (l : List PyData) : ZX "tuple" (.tuple l) = true := rfl
theorem Ux (l : List (PyData × PyData)) : ZX "tuple" (.dict l) = false := rfl
theorem U9  : ZX "list" .none = false := rfl
theorem UY (b : Bool) : ZX "list" (.bool b) = false := rfl
theorem By (i : Int) : ZX "list" (.int i) = false := rfl
theorem Cf (z : Str) : ZX "list" (.str z) = false := rfl
theorem U0 (l : List PyData) : ZX "list" (.list l) = true := rfl
theorem Ud (l : List PyData) : ZX "list" (.tuple l) = false := rfl
theorem Gf (l : List (PyData × PyData)) : ZX "list" (.dict l) = false := rfl
theorem Cb  : ZX "str" .none = false := rfl
theorem BU (b : Bool) : ZX "str" (.bool b) = false := rfl
theorem Eu (i : Int) : ZX "str" (.int i) = false := rfl
theorem DB (z : Str) : ZX "str" (.str z) = true := rfl
theorem BI (l : List PyData) : ZX "str" (.list l) = false := rfl
theorem Gp (l : List PyData) : ZX "str" (.tuple l) = false := rfl
theorem G9 (l : List (PyData × PyData)) : ZX "str" (.dict l) = false := rfl
theorem GV  : ZX "dict" .none = false := rfl
theorem Gw (b : Bool) : ZX "dict" (.bool b) = false := rfl
theorem B3 (i : Int) : ZX "dict" (.int i) = false := rfl
theorem Bf (z : Str) : ZX "dict" (.str z) = false := rfl
theorem GI (l : List PyData) : ZX "dict" (.list l) = false := rfl
theorem UP (l : List PyData) : ZX "dict" (.tuple l) = false := rfl
theorem GA (l : List (PyData × PyData)) : ZX "dict" (.dict l) = true := rfl
theorem P8 (i j : Int) : (PyData.int i).eqv (.int j) = decide (i = j) := by
 simp only [PyData.eqv]
 first | rfl | exact Bool.beq_eq_decide_eq _ _ | (rw [Bool.eq_iff_iff]; simp)
theorem Zef (x y : Str) : (PyData.str x).eqv (.str y) = decide (x = y) := by
 simp only [PyData.eqv]
 first | rfl | (rw [Bool.eq_iff_iff]; simp)
theorem ZcD (x y : Bool) : (PyData.bool x).eqv (.bool y) = (x == y) := by
 simp only [PyData.eqv]
theorem Zee : PyData.none.eqv .none = true := by simp only [PyData.eqv]
theorem TH (x y : List PyData) : (PyData.tuple x).eqv (.tuple y) = PyData.eqvAll x y := by simp only [PyData.eqv]
theorem TR (x y : List PyData) : (PyData.list x).eqv (.list y) = PyData.eqvAll x y := by simp only [PyData.eqv]
theorem Br : PyData.eqvAll [] [] = true := by simp only [PyData.eqvAll]
theorem UL (x y : PyData) (xs ys : List PyData) : PyData.eqvAll (x :: xs) (y :: ys) = (x.eqv y && PyData.eqvAll xs ys) := by simp only [PyData.eqvAll]
theorem O2 (x : PyData) (xs : List PyData) : PyData.eqvAll (x :: xs) [] = false := by simp only [PyData.eqvAll]
theorem Zbx (x : PyData) (xs : List PyData) : PyData.eqvAll [] (x :: xs) = false := by simp only [PyData.eqvAll]
end DL
namespace DL
open PySem PySem.Spec PyProof.Rows L2
section
variable {X : Cx} {pos : Pos}
noncomputable def PF (tc : DTT) (tb : DTS) : DTS := fun D Δ M => ∃ J : Nat → DSt → Mp → Prop, (∃ m, J m Δ M) ∧ ∀ n Δ M, J n Δ M → tc Δ M fun b M1 =>
 if b = true then tb { D with nx := fun Δ' M' => ∃ m, m < n ∧ J m Δ' M', ct := fun Δ' M' => ∃ m, m < n ∧ J m Δ' M', bk := D.nx } Δ M1 else D.nx Δ M1
theorem MP {c : Expr} {body : List Stmt} {tc : DTT} {tb : DTS} (hc : DT X c tc) (hb : DSs X body tb) (hp : PassesOwn (model X.prog X.w) X.A X.env X.xe) : DS X (.While c body [] pos) (PF tc tb) := by
 obtain ⟨t1, p1, q1⟩ := hc
 obtain ⟨t2, p2, q2⟩ := hb
 refine ⟨_, L7 hp p1 p2, fun σ H Δ M D E r e h k => ?_⟩
 obtain ⟨J, ⟨m0, j0⟩, jt⟩ := h
 refine ⟨fun n σ' H' => ∃ Δ' M', Z8 X.K M' H' ∧ Step M H M' H' ∧ J6 X.K M' H' σ' Δ' ∧ J n Δ' M', ⟨m0, Δ, M, r, Step.refl, e, j0⟩, ?_⟩
 rintro n σ1 H1 ⟨Δ1, M1, r1, st1, e1, j1⟩
 refine q1 σ1 H1 Δ1 M1 _ _ r1 e1 (jt n Δ1 M1 j1) fun b H2 M2 r2 st2 hb2 => ?_
 cases b with
 | true =>
  rw [if_pos rfl] at hb2 ⊢
  refine ⟨fun σ' H' => ∃ m', m' < n ∧ ∃ Δ' M', Z8 X.K M' H' ∧ Step M H M' H' ∧ J6 X.K M' H' σ' Δ' ∧ J m' Δ' M', fun σ' H' h => h, ?_⟩
  have s12 := st1.trans st2
  refine q2 σ1 H2 Δ1 M2 _ _ r2 (e1.step st2) hb2 ⟨fun σ' H' Δ' M' a b c d => ?_, k.rt.step s12, fun σ' H' Δ' M' a b c d => k.nx σ' H' Δ' M' a (s12.trans b) c d, fun σ' H' Δ' M' a b c d => ?_⟩
  ·obtain ⟨m, hm, j⟩ := d
   exact ⟨m, hm, Δ', M', a, s12.trans b, c, j⟩
  ·obtain ⟨m, hm, j⟩ := d
   exact ⟨m, hm, Δ', M', a, s12.trans b, c, j⟩
 | false =>
  rw [if_neg Bool.false_ne_true] at hb2 ⊢
  exact k.nx σ1 H2 Δ1 M2 r2 (st1.trans st2) (e1.step st2) hb2
noncomputable def Zes (to : DTE) : DTE := fun Δ M Φ => to Δ M fun x M1 => onO x fun l => ∃ ds d, M1 l = some (.lst (ds ++ [d])) ∧ Φ (.dat d) (Z3 M1 l (.lst ds))
theorem Dts.snoc_inv {K : PySem.W.Frag} {M : Mp} {H : Hp} : ∀ {vs : List V} {ds : List PyData} {d : PyData}, Dts K M H vs (ds ++ [d]) → ∃ ws v, vs = ws ++ [v] ∧ Dts K M H ws ds ∧ Dt K M H v d
 | vs, [], d, h => by
  cases h with
  | cons a b => cases b; exact ⟨[], _, rfl, .nil, a⟩
 | vs, e :: ds, d, h => by
  cases h with
  | cons a b =>
   obtain ⟨ws, v, rfl, h1, h2⟩ := Dts.snoc_inv b
   exact ⟨_ :: ws, v, rfl, .cons a h1, h2⟩
theorem Zcd {o : Expr} {to : DTE} {apos cpos : Pos} (ho : DE X o to) (hbase : attributeBase o "pop" X.env (eval o X.env) = eval o X.env := by rfl) (hline : (apos.endLine == cpos.line) = true := by rfl) :
  DE X (.Call (.Attribute o "pop" apos) [] [] cpos) (Zes to) := by
 obtain ⟨t1, p1, q1⟩ := ho
 refine ⟨_, ZaT PySem.F.plainAttrs_list PySem.F.slot_list_pop PySem.F.type_list_pop Zcb p1 hbase hline, fun σ H Δ M Φ Q r e h k => ?_⟩
 refine q1 σ H Δ M _ _ r e h fun v H1 x M1 r1 st rv hx => ?_
 replace hx := Q7 hx
 obtain ⟨l, rfl, ds, d, hm, hx⟩ := hx
 cases (show v = .ref l from rv)
 obtain ⟨vs, g1, g2⟩ := r1.ls l _ hm
 obtain ⟨ws, v, rfl, h1, h2⟩ := Dts.snoc_inv g2
 refine ⟨.inl ⟨rfl, _, SqL.of g1⟩, l, _, v, rfl, rfl, g1, by simp, ?_⟩
 rw [List.dropLast_concat]
 have st2 : Step M1 H1 (Z3 M1 l (.lst ds)) (upd H1 l (.lst ws)) := Step.Ga hm
 exact k.dat (r1.XM st2 h1) (st.trans st2) (h2.step st2) hx
noncomputable def isNone : PyData → Bool
 | .none => true
 | _ => false
noncomputable def onN (x : DV) (P : Prop) : Prop := match x with | .dat .none => P | _ => False
noncomputable def Zdw (b : Bool) : D2 := fun x y M Φ => onD x fun d => onN y <| Φ (.dat (.bool (isNone d != b))) M
theorem isNone_none : isNone .none = true := rfl
theorem Bg (b : Bool) : isNone (.bool b) = false := rfl
theorem DU (b : Int) : isNone (.int b) = false := rfl
theorem Ef (b : Str) : isNone (.str b) = false := rfl
theorem G5 (b : List PyData) : isNone (.list b) = false := rfl
theorem GU (b : List PyData) : isNone (.tuple b) = false := rfl
theorem Bb (b : List (PyData × PyData)) : isNone (.dict b) = false := rfl
noncomputable def Zgd (c : Bool) : PyData → Bool
 | .bool b => b == c
 | _ => false
theorem ED (hu : X.A.units + 66 < cLine) : OpR X (compareOp .NotIn) (fun x y H Q => ∃ M d ds, Dt X.K M H x d ∧ (Dt X.K M H y (.list ds) ∨ Dt X.K M H y (.tuple ds)) ∧ d.canLay0 = true ∧ PyData.canLayAll0 ds = true ∧ d.depth ≤ 64 ∧ Q (.bl (!(ds.any fun e => PyData.eqv e d))) H) := by
 intro pins s σ H x y v u Q I rx ry h
 obtain ⟨M, d, ds, h1, h2, c1, c2, hdp, q⟩ := h
 obtain ⟨as, ra, _⟩ := h1.reads I rx
 rcases h2 with h2 | h2
 ·obtain ⟨bs, rb, _⟩ := h2.reads I ry
  exact PySem.SeqAt.notIn_list_reads rb ra c2 c1 (by have := Nat.min_le_right (PyData.depthAll ds) d.depth; omega) ⟨.bl _, H, I, rfl, q⟩
 ·obtain ⟨bs, rb, _⟩ := h2.reads I ry
  exact PySem.SeqAt.notIn_tuple_reads rb ra c2 c1 (by have := Nat.min_le_right (PyData.depthAll ds) d.depth; omega) ⟨.bl _, H, I, rfl, q⟩
noncomputable def LG : D2 := fun x y M Φ => onD x fun d => onW y fun ds => okIn d ds = true ∧ Φ (.dat (.bool (!(ds.any fun e => PyData.eqv e d)))) M
theorem CL {k : Nat} (hr : Xc k X.A) : OpD X (compareOp .NotIn) LG :=
 ⟨_, ED (by have := hr.un; omega), fun v u H x y M Φ Q r rv ru h k => by
  obtain ⟨d, e1, h⟩ := Q8 h
  obtain ⟨ds, e2, ho, q⟩ := Pz h
  obtain ⟨c1, c2, hdp⟩ := FQ ho
  subst e1
  refine ⟨M, d, ds, rv, ?_, c1, c2, hdp, k.dat r Step.refl (Dt.bl _) q⟩
  rcases e2 with rfl | rfl
  ·exact .inl ru
  ·exact .inr ru⟩
noncomputable def Oy : D2 := fun x y M Φ => onP x fun i j => onO y fun l => MO (M l) fun ks => Φ (.dat (.bool (!PY ks (kP i j)))) M
end
section
variable {prog : Program} {w : World} {A : Around} {E : Value → Shared → Prop} {s : Shared}
end
end DL
namespace DL
open PySem PySem.Spec PyProof.Rows L2
theorem OB (x : DV) (P : DV → Prop) : onV (some (some x)) P = P x := propext Iff.rfl
theorem N0 (i : Int) (P : Int → Prop) : onI (.dat (.int i)) P = P i := propext Iff.rfl
theorem N1 (i : Bool) (P : Bool → Prop) : onB (.dat (.bool i)) P = P i := propext Iff.rfl
theorem Me (i : List PyData) (P : List PyData → Prop) : onT (.dat (.tuple i)) P = P i := propext Iff.rfl
theorem MD (i : List PyData) (P : List PyData → Prop) : onL (.dat (.list i)) P = P i := propext Iff.rfl
theorem ME (i : PyData) (P : PyData → Prop) : onD (.dat i) P = P i := propext Iff.rfl
theorem N4 (i : Addr) (P : Addr → Prop) : onO (.own i) P = P i := propext Iff.rfl
theorem FE (ds : List PyData) (P : List PyData → Prop) : Kd (some (.lst ds)) P = P ds := propext Iff.rfl
theorem HI (ks : List (List Key)) (P : List (List Key) → Prop) : MO (some (.dct ks)) P = P ks := propext Iff.rfl
theorem SJ (ds : List PyData) (M : Mp) (P : List PyData → Prop) : onQ (.dat (.tuple ds)) M P = P ds := propext Iff.rfl
theorem RY (ds : List PyData) (M : Mp) (P : List PyData → Prop) : onQ (.dat (.list ds)) M P = P ds := propext Iff.rfl
theorem P1 (l : Addr) (M : Mp) (P : List PyData → Prop) : onQ (.own l) M P = Kd (M l) P := propext Iff.rfl
theorem S3 (ds : List PyData) (M : Mp) (P : List PyData → Prop) : onK (.dat (.list ds)) M P = P ds := propext Iff.rfl
theorem SK (l : Addr) (M : Mp) (P : List PyData → Prop) : onK (.own l) M P = Kd (M l) P := propext Iff.rfl
theorem Oh (x : DV) (P : DV → Prop) : on1 [x] P = P x := propext Iff.rfl
theorem N3 (x y : DV) (P : DV → DV → Prop) : on2 [x, y] P = P x y := propext Iff.rfl
theorem MJ (x y z : DV) (P : DV → DV → DV → Prop) : on3 [x, y, z] P = P x y z := propext Iff.rfl
theorem MN (x0 x1 x2 x3 : DV) (P : DV → DV → DV → DV → Prop) : on4 [x0, x1, x2, x3] P = P x0 x1 x2 x3 := propext Iff.rfl
theorem NR (x0 x1 x2 x3 x4 : DV) (P : DV → DV → DV → DV → DV → Prop) : on5 [x0, x1, x2, x3, x4] P = P x0 x1 x2 x3 x4 := propext Iff.rfl
theorem OA (P : List PyData → Prop) : Wo [] P = P [] := propext Iff.rfl
theorem OC (a0 : PyData) (P : List PyData → Prop) : Wo [.dat a0] P = P [a0] := propext Iff.rfl
theorem MS (a0 a1 : PyData) (P : List PyData → Prop) : Wo [.dat a0, .dat a1] P = P [a0, a1] := propext Iff.rfl
theorem Ox (a0 a1 a2 : PyData) (P : List PyData → Prop) : Wo [.dat a0, .dat a1, .dat a2] P = P [a0, a1, a2] := propext Iff.rfl
theorem ND (a0 a1 a2 a3 : PyData) (P : List PyData → Prop) : Wo [.dat a0, .dat a1, .dat a2, .dat a3] P = P [a0, a1, a2, a3] := propext Iff.rfl
theorem Mx (a0 a1 a2 a3 a4 : PyData) (P : List PyData → Prop) : Wo [.dat a0, .dat a1, .dat a2, .dat a3, .dat a4] P = P [a0, a1, a2, a3, a4] := propext Iff.rfl
theorem OL (a0 a1 a2 a3 a4 a5 : PyData) (P : List PyData → Prop) : Wo [.dat a0, .dat a1, .dat a2, .dat a3, .dat a4, .dat a5] P = P [a0, a1, a2, a3, a4, a5] := propext Iff.rfl
theorem Nu (a0 a1 a2 a3 a4 a5 a6 a7 : PyData) (P : List PyData → Prop) : Wo [.dat a0, .dat a1, .dat a2, .dat a3, .dat a4, .dat a5, .dat a6, .dat a7] P = P [a0, a1, a2, a3, a4, a5, a6, a7] := propext Iff.rfl
theorem Zap (i : Nat) (Δ : DSt) (M : Mp) (Φ : DK) : ZeH i Δ M Φ = (onV Δ[i]? fun x => Φ x M) := propext Iff.rfl
theorem Zfu (d : PyData) (z0 : DSt) (M : Mp) (Φ : DK) : dC d z0 M Φ = (Φ (.dat d) M) := propext Iff.rfl
theorem Zde (n : String) (z0 : DSt) (M : Mp) (Φ : DK) : dTy n z0 M Φ = (Φ (.ty n) M) := propext Iff.rfl
theorem Zeb (δ : D2) (ta tb : DTE) (Δ : DSt) (M : Mp) (Φ : DK) : dOp δ ta tb Δ M Φ = (ta Δ M fun x M1 => tb Δ M1 fun y M2 => δ x y M2 Φ) := propext Iff.rfl
theorem ZfP (t : DTE) (Δ : DSt) (M : Mp) (Φ : Bool → Mp → Prop) : dB t Δ M Φ = (t Δ M fun x M1 => onB x fun c => Φ c M1) := propext Iff.rfl
theorem OI (δ δ' : D2) (ta tb tc : DTE) (Δ : DSt) (M : Mp) (Φ : DK) : CV δ δ' ta tb tc Δ M Φ = (ta Δ M fun x M1 => tb Δ M1 fun y M2 => δ x y M2 fun z M3 => onB z fun k => (if k = true then tc Δ M3 fun w' M4 => δ' y w' M4 Φ else Φ (.dat (.bool false)) M3)) := propext Iff.rfl
theorem Zb5 (t u : DTT) (Δ : DSt) (M : Mp) (Φ : Bool → Mp → Prop) : Ze1 t u Δ M Φ = (t Δ M fun c M1 => if c = true then u Δ M1 Φ else Φ false M1) := propext Iff.rfl
theorem Zda (t u : DTT) (Δ : DSt) (M : Mp) (Φ : Bool → Mp → Prop) : dOr t u Δ M Φ = (t Δ M fun c M1 => if c = true then Φ true M1 else u Δ M1 Φ) := propext Iff.rfl
theorem ZaX (t : DTT) (Δ : DSt) (M : Mp) (Φ : Bool → Mp → Prop) : Zet t Δ M Φ = (t Δ M fun c M1 => Φ (!c) M1) := propext Iff.rfl
theorem RC (ta tb : DTE) (Δ : DSt) (M : Mp) (Φ : DK) : Zau ta tb Δ M Φ = (ta Δ M fun x M1 => onB x fun c => if c = true then tb Δ M1 Φ else Φ (.dat (.bool false)) M1) := propext Iff.rfl
theorem ZcI (ta tb : DTE) (Δ : DSt) (M : Mp) (Φ : DK) : ZeF ta tb Δ M Φ = (ta Δ M fun x M1 => onB x fun c => if c = true then Φ (.dat (.bool true)) M1 else tb Δ M1 Φ) := propext Iff.rfl
theorem Rb (ta : DTE) (Δ : DSt) (M : Mp) (Φ : DK) : ZbZ ta Δ M Φ = (ta Δ M fun x M1 => onB x fun c => Φ (.dat (.bool (!c))) M1) := propext Iff.rfl
theorem ZdK (t : DTT) (ta tb : DTE) (Δ : DSt) (M : Mp) (Φ : DK) : dIf t ta tb Δ M Φ = (t Δ M fun c M1 => if c = true then ta Δ M1 Φ else tb Δ M1 Φ) := propext Iff.rfl
theorem Zcg (g : Int → Int) (ta : DTE) (Δ : DSt) (M : Mp) (Φ : DK) : Ze4 g ta Δ M Φ = (ta Δ M fun x M1 => onI x fun i => Φ (.dat (.int (g i))) M1) := propext Iff.rfl
theorem Zdc (C : Int → Int → Prop) (g : Int → Int → PyData) (x : DV) (y : DV) (M : Mp) (Φ : DK) : δI C g x y M Φ = (onI x fun i => onI y fun j => C i j ∧ Φ (.dat (g i j)) M) := propext Iff.rfl
theorem Zbd (g : Int → Int → PyData) (x : DV) (y : DV) (M : Mp) (Φ : DK) : δI0 g x y M Φ = (onI x fun i => onI y fun j => Φ (.dat (g i j)) M) := propext Iff.rfl
theorem Zdg (g : Bool → Bool → Bool) (x : DV) (y : DV) (M : Mp) (Φ : DK) : δB g x y M Φ = (onB x fun c => onB y fun d => Φ (.dat (.bool (g c d))) M) := propext Iff.rfl
theorem TK  (z0 : DSt) (M : Mp) (Φ : List DV → Mp → Prop) : Zem z0 M Φ = (Φ [] M) := propext Iff.rfl
theorem Ru (ta : DTE) (tr : DTA) (Δ : DSt) (M : Mp) (Φ : List DV → Mp → Prop) : Zan ta tr Δ M Φ = (ta Δ M fun x M1 => tr Δ M1 fun xs M2 => Φ (x :: xs) M2) := propext Iff.rfl
theorem Zb3 (t : DTA) (Δ : DSt) (M : Mp) (Φ : DK) : ZeJ t Δ M Φ = (t Δ M fun xs M1 => Wo xs fun ds => Φ (.dat (.tuple ds)) M1) := propext Iff.rfl
theorem Zb7 (t : DTA) (Δ : DSt) (M : Mp) (Φ : DK) : ZeR t Δ M Φ = (t Δ M fun xs M1 => Wo xs fun ds => Φ (.dat (.list ds)) M1) := propext Iff.rfl
theorem Rc (t : DTA) (Δ : DSt) (M : Mp) (Φ : DK) : T2 t Δ M Φ = (t Δ M fun xs M1 => Wo xs fun ds => ∀ p, M1 p = none → Φ (.own p) (Z3 M1 p (.lst ds))) := propext Iff.rfl
theorem TY (t : DTE) (Δ : DSt) (M : Mp) (Φ : DK) : ZeS t Δ M Φ = (t Δ M fun x M1 => onO x fun l => Kd (M1 l) fun ds => Φ (.dat (.list ds)) (Ke M1 l)) := propext Iff.rfl
theorem N9 (a : PyData) (l : List PyData) (P : PyData → Prop) : X4 (a :: l) 0 P = P a := propext Iff.rfl
theorem Mm (a b : PyData) (l : List PyData) (P : PyData → Prop) : X4 (a :: b :: l) 1 P = P b := propext Iff.rfl
theorem NN (a b c : PyData) (l : List PyData) (P : PyData → Prop) : X4 (a :: b :: c :: l) 2 P = P c := propext Iff.rfl
theorem NO (a b c d : PyData) (l : List PyData) (P : PyData → Prop) : X4 (a :: b :: c :: d :: l) 3 P = P d := propext Iff.rfl
theorem Ol (a b c d e : PyData) (l : List PyData) (P : PyData → Prop) : X4 (a :: b :: c :: d :: e :: l) 4 P = P e := propext Iff.rfl
theorem Zag  (x : DV) (y : DV) (M : Mp) (Φ : DK) : δIx x y M Φ = (onQ x M fun ds => onI y fun i => X4 ds i fun d => Φ (.dat d) M) := propext Iff.rfl
theorem Zd3 (δ : D1) (t : DTA) (Δ : DSt) (M : Mp) (Φ : DK) : dCB δ t Δ M Φ = (t Δ M fun xs M1 => δ xs M1 Φ) := propext Iff.rfl
theorem P2  (xs : List DV) (M : Mp) (Φ : DK) : Zar xs M Φ = (on1 xs fun x => onQ x M fun ds => Φ (.dat (.int ds.length)) M) := propext Iff.rfl
theorem SQ  (xs : List DV) (M : Mp) (Φ : DK) : ZcB xs M Φ = (on1 xs fun x => onI x fun i => Φ (.dat (.int (if i < 0 then -i else i))) M) := propext Iff.rfl
theorem Zcu (g : Int → Int → Int) (xs : List DV) (M : Mp) (Φ : DK) : δ2I g xs M Φ = (on2 xs fun x y => onI x fun i => onI y fun j => Φ (.dat (.int (g i j))) M) := propext Iff.rfl
theorem Eo  (xs : List DV) (M : Mp) (Φ : DK) : Di xs M Φ = (on1 xs fun x => onQ x M fun ds => Φ (.dat (.list ds)) M) := propext Iff.rfl
theorem Dm (T : String) (d : PyData) (t : String) (M : Mp) (Φ : DK) : Si T [.dat d, .ty t] M Φ = (t = T ∧ Φ (.dat (.bool (ZX T d))) M) := propext Iff.rfl
theorem OR (i j : Int) (P : Bool → Prop) : eqD (.int i) (.int j) P = P (decide (i = j)) := propext Iff.rfl
theorem N6 (i j : Str) (P : Bool → Prop) : eqD (.str i) (.str j) P = P (decide (i = j)) := propext Iff.rfl
theorem Mu (i j : Bool) (P : Bool → Prop) : eqD (.bool i) (.bool j) P = P (i == j) := propext Iff.rfl
theorem ZaA  (x : DV) (y : DV) (M : Mp) (Φ : DK) : δEq x y M Φ = (onD x fun d => onD y fun e => eqD d e fun b => Φ (.dat (.bool b)) M) := propext Iff.rfl
theorem ZaG  (x : DV) (y : DV) (M : Mp) (Φ : DK) : δNe x y M Φ = (onD x fun d => onD y fun e => eqD d e fun b => Φ (.dat (.bool (!b))) M) := propext Iff.rfl
theorem Sb (t : DTE) (Δ : DSt) (M : Mp) (Φ : Option Int → Mp → Prop) : ZaN t Δ M Φ = (t Δ M fun x M1 => onI x fun i => Φ (some i) M1) := propext Iff.rfl
theorem ZbE (te : DTE) (tl th : DTO) (Δ : DSt) (M : Mp) (Φ : DK) : ZeK te tl th Δ M Φ = (te Δ M fun x M1 => tl Δ M1 fun l M2 => th Δ M2 fun u M3 => onT x fun ds => ¬ (HT.sIx ds.length 0 l = 0 ∧ HT.sIx ds.length ds.length u = ds.length) ∧ Φ (.dat (.tuple (cutD ds l u))) M3) := propext Iff.rfl
theorem Sx  (D : Q0) (Δ : DSt) (M : Mp) : Zbk D Δ M = (D.nx Δ M) := propext Iff.rfl
theorem Zcf (t u : DTS) (D : Q0) (Δ : DSt) (M : Mp) : Zc1 t u D Δ M = (t { D with nx := u D } Δ M) := propext Iff.rfl
theorem Ro (te : DTE) (D : Q0) (Δ : DSt) (M : Mp) : ZaF te D Δ M = (te Δ M fun _ M1 => D.nx Δ M1) := propext Iff.rfl
theorem ZcF (te : DTE) (D : Q0) (Δ : DSt) (M : Mp) : Zer te D Δ M = (te Δ M D.rt) := propext Iff.rfl
theorem Zcs (c : DTT) (t u : DTS) (D : Q0) (Δ : DSt) (M : Mp) : ZcU c t u D Δ M = (c Δ M fun b M1 => if b = true then t D Δ M1 else u D Δ M1) := propext Iff.rfl
theorem VO (i : Nat) (x : DV) (Δ : DSt) (M : Mp) (Φ : DSt → Mp → Prop) : Wi i x Δ M Φ = (Φ (Δ.set i (some x)) M) := propext Iff.rfl
theorem El (Δ : DSt) (M : Mp) (Φ : DSt → Mp → Prop) : RA [] Δ M Φ = Φ Δ M := propext Iff.rfl
theorem Cg (t : DTG) (u : EA) (x : DV) (r : List DV) (Δ : DSt) (M : Mp) (Φ : DSt → Mp → Prop) : CS t u (x :: r) Δ M Φ = t x Δ M fun Δ' M' => u r Δ' M' Φ := propext Iff.rfl
theorem NG (P : List DV → Prop) : LZ 0 [] P = P [] := propext Iff.rfl
theorem Oo (n : Nat) (d : PyData) (r : List PyData) (P : List DV → Prop) : LZ (n + 1) (d :: r) P = LZ n r fun xs => P (.dat d :: xs) := propext Iff.rfl
theorem S4 (n : Nat) (t : EA) (x : DV) (Δ : DSt) (M : Mp) (Φ : DSt → Mp → Prop) : Hs n t x Δ M Φ = (onT x fun ds => LZ n ds fun xs => t xs Δ M Φ) := propext Iff.rfl
theorem S9 (to ti : DTE) (x : DV) (Δ : DSt) (M : Mp) (Φ : DSt → Mp → Prop) : ZaK to ti x Δ M Φ = (to Δ M fun o M1 => ti Δ M1 fun i M2 => onO o fun l => onI i fun k => onD x fun d => Kd (M2 l) fun ds => ∃ j, ixN ds.length k = some j ∧ Φ Δ (Z3 M2 l (.lst (ds.set j d)))) := propext Iff.rfl
theorem ZaO (te : DTE) (g : DTG) (D : Q0) (Δ : DSt) (M : Mp) : Zaj te g D Δ M = (te Δ M fun x M1 => g x Δ M1 D.nx) := propext Iff.rfl
theorem Fb (to te : DTE) (Δ : DSt) (M : Mp) (Φ : DK) : HS to te Δ M Φ = (to Δ M fun x M1 => onO x fun l => Kd (M1 l) fun _ => te Δ M1 fun y M2 => onD y fun d => Kd (M2 l) fun ds => ds.length < sizeLine ∧ Φ (.dat .none) (Z3 M2 l (.lst (ds ++ [d])))) := propext Iff.rfl
theorem P6 (te : DTE) (g : DTG) (tb : DTS) (D : Q0) (Δ : DSt) (M : Mp) : T8 te g tb D Δ M = (te Δ M fun x M1 => onL x fun ds => EH g tb D ds Δ M1) := propext Iff.rfl
theorem RS (te : DTE) (g : DTG) (tb : DTS) (D : Q0) (Δ : DSt) (M : Mp) : Zbj te g tb D Δ M = (te Δ M fun x M1 => onT x fun ds => EH g tb D ds Δ M1) := propext Iff.rfl
theorem NQ (ta : DTA) (g : DTG) (tb : DTS) (D : Q0) (Δ : DSt) (M : Mp) : Pu ta g tb D Δ M = (ta Δ M fun xs M1 => on1 xs fun x => onI x fun j => InR j ∧ WJ g tb D 0 j.toNat Δ M1) := propext Iff.rfl
theorem Nf (ta : DTA) (g : DTG) (tb : DTS) (D : Q0) (Δ : DSt) (M : Mp) : PH ta g tb D Δ M = (ta Δ M fun xs M1 => on2 xs fun x y => onI x fun i => onI y fun j => (InR i ∧ InR j) ∧ WJ g tb D i (j - i).toNat Δ M1) := propext Iff.rfl
theorem Rt (S : DSp) (t : DTA) (Δ : DSt) (M : Mp) (Φ : DK) : TJ S t Δ M Φ = (t Δ M fun xs M1 => S xs M1 Φ) := propext Iff.rfl
theorem ZbV (te : DTE) (Δ : DSt) (M : Mp) (Ψ : List PyData → Mp → Prop) : ZeX te Δ M Ψ = (te Δ M fun x M1 => onL x fun ds => Ψ ds M1) := propext Iff.rfl
theorem Zbm (te : DTE) (Δ : DSt) (M : Mp) (Ψ : List PyData → Mp → Prop) : ZeT te Δ M Ψ = (te Δ M fun x M1 => onT x fun ds => Ψ ds M1) := propext Iff.rfl
theorem RL (ta : DTA) (Δ : DSt) (M : Mp) (Ψ : List PyData → Mp → Prop) : Zcn ta Δ M Ψ = (ta Δ M fun xs M1 => on1 xs fun x => onI x fun j => InR j ∧ Ψ (WG 0 j.toNat) M1) := propext Iff.rfl
theorem OY (Φ : DK) (acc : List PyData) (M : Mp) : D8 true Φ acc M = ∀ p, M p = none → Φ (.own p) (Z3 M p (.lst acc)) := propext Iff.rfl
theorem O1 (Φ : DK) (acc : List PyData) (M : Mp) : D8 false Φ acc M = Φ (.dat (.list acc)) M := propext Iff.rfl
theorem SA (ow : Bool) (src : WI) (ix : List (Option Nat)) (g : DTG) (tc : DTT) (te : DTE) (Δ : DSt) (M : Mp) (Φ : DK) : OW ow src ix g tc te Δ M Φ = (src Δ M fun ds M1 => ds.length ≤ sizeLine ∧ ∃ J : Nat → List PyData → Mp → Prop, J 0 [] M1 ∧ (∀ i d acc M', ds[i]? = some d → J i acc M' → g (.dat d) (HV ix Δ) M' fun Δ2 M2 => tc Δ2 M2 fun b M3 => if b = true then te Δ2 M3 fun y M4 => onD y fun e => J (i + 1) (acc ++ [e]) M4 else J (i + 1) acc M3) ∧ ∀ acc M', J ds.length acc M' → D8 ow Φ acc M') := propext Iff.rfl
theorem ZaC  (z0 : DSt) (M : Mp) (Φ : Bool → Mp → Prop) : ZeV z0 M Φ = (Φ true M) := propext Iff.rfl
theorem Ng  (xs : List DV) (M : Mp) (Φ : DK) : Pf xs M Φ = (∃ ns : List Int, VT xs M ns ∧ 0 < ns.length ∧ ∀ m ∈ ns, (∀ a ∈ ns, m ≤ a) → Φ (.dat (.int m)) M) := propext Iff.rfl
theorem Nj  (xs : List DV) (M : Mp) (Φ : DK) : Px xs M Φ = (∃ ns : List Int, VT xs M ns ∧ 0 < ns.length ∧ ∀ m ∈ ns, (∀ a ∈ ns, a ≤ m) → Φ (.dat (.int m)) M) := propext Iff.rfl
theorem ZbB (g : Int → Int → Int → Int) (xs : List DV) (M : Mp) (Φ : DK) : δ3I g xs M Φ = (on3 xs fun x y z => onI x fun i => onI y fun j => onI z fun l => Φ (.dat (.int (g i j l))) M) := propext Iff.rfl
theorem LF  (xs : List DV) (M : Mp) (Φ : DK) : HK xs M Φ = (on1 xs fun x => onQ x M fun ds => Φ (.dat (.tuple ds)) M) := propext Iff.rfl
theorem SR (ds : List PyData) (P : List PyData → Prop) : onW (.dat (.tuple ds)) P = P ds := propext Iff.rfl
theorem R0 (ds : List PyData) (P : List PyData → Prop) : onW (.dat (.list ds)) P = P ds := propext Iff.rfl
theorem Zah  (x : DV) (y : DV) (M : Mp) (Φ : DK) : δIn x y M Φ = (onD x fun d => onW y fun ds => okIn d ds = true ∧ Φ (.dat (.bool (ds.any fun e => PyData.eqv e d))) M) := propext Iff.rfl
theorem Ff (to te : DTE) (Δ : DSt) (M : Mp) (Φ : DK) : FL to te Δ M Φ = (to Δ M fun x M1 => onO x fun l => Kd (M1 l) fun _ => te Δ M1 fun y M2 => onO y fun b => Kd (M2 l) fun ds => Kd (M2 b) fun es => b ≠ l ∧ ds.length + es.length ≤ sizeLine ∧ Φ (.dat .none) (Ke (Z3 M2 l (.lst (ds ++ es))) b)) := propext Iff.rfl
theorem Nm  (xs : List DV) (M : Mp) (Φ : DK) : O6 xs M Φ = (∃ bs : List Bool, xs = [.dat (.list (bs.map PyData.bool))] ∧ Φ (.dat (.bool (bs.all id))) M) := propext Iff.rfl
theorem Mz  (xs : List DV) (M : Mp) (Φ : DK) : Ph xs M Φ = (∃ bs : List Bool, xs = [.dat (.list (bs.map PyData.bool))] ∧ Φ (.dat (.bool (bs.any id))) M) := propext Iff.rfl
theorem Oa  (xs : List DV) (M : Mp) (Φ : DK) : PU xs M Φ = (on1 xs fun x => onB x fun b => Φ (.dat (.int (if b = true then 1 else 0))) M) := propext Iff.rfl
theorem NA  (x : DV) (y : DV) (M : Mp) (Φ : DK) : PZ x y M Φ = (onK x M fun ds => onK y M fun es => ds.length + es.length ≤ sizeLine ∧ Φ (.dat (.list (ds ++ es))) M) := propext Iff.rfl
theorem Dj  (xs : List DV) (M : Mp) (Φ : DK) : Pt xs M Φ = (∃ qs : List (Int × Int), xs = [.dat (.list (qs.map prD))] ∧ 0 < qs.length ∧ ∀ q ∈ qs, (∀ r ∈ qs, ltP r q = false) → Φ (.dat (prD q)) M) := propext Iff.rfl
theorem LH  (z0 : DSt) (M : Mp) (Φ : DK) : HA z0 M Φ = (∀ p, M p = none → Φ (.own p) (Z3 M p (.dct []))) := propext Iff.rfl
theorem Sw (td : DTE) (ta : DTA) (tv : DTE) (D : Q0) (Δ : DSt) (M : Mp) : Zbu td ta tv D Δ M = (tv Δ M fun x M1 => td Δ M1 fun y M2 => ta Δ M2 fun zs M3 => onD x fun _ => onO y fun l => on2 zs fun p q => onI p fun i => onI q fun j => MO (M3 l) fun ks => ks.length < sizeLine ∧ D.nx Δ (Z3 M3 l (.dct (LY ks (kP i j))))) := propext Iff.rfl
theorem Mq (i j : Int) (P : Int → Int → Prop) : onP (.dat (.tuple [.int i, .int j])) P = P i j := propext Iff.rfl
theorem P9  (x : DV) (y : DV) (M : Mp) (Φ : DK) : Zby x y M Φ = (onP x fun i j => onO y fun l => MO (M l) fun ks => Φ (.dat (.bool (PY ks (kP i j)))) M) := propext Iff.rfl
theorem NM (ow : Bool) (src : WI) (ix : List (Option Nat)) (g : DTG) (tc : DTT) (te : DTE) (Δ : DSt) (M : Mp) (Φ : DK) : CJ ow src ix g tc te Δ M Φ = (src Δ M fun ds M1 => ds.length ≤ sizeLine ∧ Jr g tc te (HV ix Δ) (D8 ow Φ) ds [] M1) := propext Iff.rfl
theorem OK (tc : DTT) (tb : DTS) (D : Q0) (Δ : DSt) (M : Mp) : PF tc tb D Δ M = (∃ J : Nat → DSt → Mp → Prop, (∃ m, J m Δ M) ∧ ∀ n Δ M, J n Δ M → tc Δ M fun b M1 => if b = true then tb { D with nx := fun Δ' M' => ∃ m, m < n ∧ J m Δ' M', ct := fun Δ' M' => ∃ m, m < n ∧ J m Δ' M', bk := D.nx } Δ M1 else D.nx Δ M1) := propext Iff.rfl
theorem ZaS (to : DTE) (Δ : DSt) (M : Mp) (Φ : DK) : Zes to Δ M Φ = (to Δ M fun x M1 => onO x fun l => ∃ ds d, M1 l = some (.lst (ds ++ [d])) ∧ Φ (.dat d) (Z3 M1 l (.lst ds))) := propext Iff.rfl
theorem Hb  (x : DV) (y : DV) (M : Mp) (Φ : DK) : LG x y M Φ = (onD x fun d => onW y fun ds => okIn d ds = true ∧ Φ (.dat (.bool (!(ds.any fun e => PyData.eqv e d)))) M) := propext Iff.rfl
end DL
namespace DL
open PySem PySem.Spec PyProof.Rows L2
section
variable {prog : Program} {w : World} {A : Around} {E : Value → Shared → Prop} {s : Shared}
end
section
variable {X : Cx} {pos p kp kpos : Pos} {x : Str} {a : Expr} {t : TA} {kj}
noncomputable def ZfD (K : PySem.W.Frag) : List V → Hp → VK → Prop := fun xs H Q => ∃ (p : Addr) (vs : List V) (qs : List (Int × Int)), xs = [.ref p] ∧ SqL K H p vs ∧ vs.length = qs.length ∧ (∀ (i : Nat) (q : Int × Int), qs[i]? = some q → ∃ a : Addr, vs[i]? = some (V.ref a) ∧ SqT K H a [.int q.1, .int q.2]) ∧
 (qs = [] → Q .non H) ∧ ∀ (i : Nat) (q : Int × Int) (v : V), qs[i]? = some q → vs[i]? = some v → (∀ r ∈ qs, ltP r q = false) → Q v H
noncomputable def Zfw (ta : DTA) : DTE := fun Δ M Φ => ta Δ M fun xs M1 => on1 xs fun x => ∃ qs : List (Int × Int), MW x M1 (qs.map prD) ∧ (qs = [] → Φ (.dat .none) M1) ∧ ∀ q ∈ qs, (∀ r ∈ qs, ltP r q = false) → Φ (.dat (prD q)) M1
end
end DL
namespace DL
open PySem PySem.Spec PyProof.Rows L2 PySem.W
section
variable {prog : Program} {w : World} {A : Around} {E : Value → Shared → Prop} {s : Shared}
theorem Xz {it l : Addr} {i : Nat} {items : Array Value} {x : Value} {Q : Value → Shared → Prop} (hit : s.heap.IsTupleIter it l i) (hl : s.heap.IsTuple l items) (hx : items[i]? = some x)
  (hQ : ∀ h', h'.IsTupleIter it l (i + 1) → Heap.SameBut it s.heap h' → Q x { s with heap := h' }) : wpAny (model prog w) A (Builtin.SmallTypes.nextOf (.ref it)) Q E s := by
 obtain ⟨o, ho, hc, hd⟩ := id hit
 obtain ⟨ol, hol, _, nl, hdl⟩ := hl
 unfold Builtin.SmallTypes.nextOf
 refine wpAny_bind (wpAny_callSpecial?_slot (name := Str.ofString "__next__") hit.typeIs F.slot_tuple_iterator_next (wpAny_call_entry F.slot_tuple_iterator_next hit.typeIs F.entry_tuple_iterator_next ?_ (F.args_tuple_iterator_next_1 _)))
 show wpAny _ _ (field (.ref it) 0 >>= _) _ _ s
 refine wpAny_bind (wpAny_field ho hd (x := .ref l) rfl ?_)
 show wpAny _ _ (if (Value.ref l == Value.none) = true then _ else _) _ _ s
 rw [if_neg (show ¬ ((Value.ref l == Value.none) = true) from Bool.false_ne_true)]
 show wpAny _ _ (field (.ref it) 1 >>= _) _ _ s
 refine wpAny_bind (wpAny_field ho hd (x := .int i 0) rfl ?_)
 show wpAny _ _ (seqItems? (.ref l) >>= _) _ _ s
 refine wpAny_bind (wpAny_seqItems hol hdl ?_)
 simp only [Int.toNat_natCast, hx]
 refine wpAny_bind (wpAny_setField ho hd (by simp) (wpAny_pure ⟨x, rfl, wpAny_pure (hQ _ ?_ (Heap.SameBut.update ..))⟩))
 exact ⟨_, Heap.get?_update_self _ ho (Obj.isFreed_of_fields (Obj.data_mapFields hd _)), (Obj.cls_mapFields ..).trans hc, by rw [Obj.data_mapFields hd]; simp [rawInt]⟩
theorem VS {it l : Addr} {i : Nat} {items : Array Value} {Q : Value → Shared → Prop} (hh : A.handled = none) (hit : s.heap.IsTupleIter it l i) (hl : s.heap.IsTuple l items) (hx : items[i]? = none)
  (hE : ∀ h' e, Heap.ExtBut it s.heap h' → (∃ o, h'.get? e = some o ∧ o.cls = .type "StopIteration") → E (.ref e) { s with heap := h' }) : wpAny (model prog w) A (Builtin.SmallTypes.nextOf (.ref it)) Q E s := by
 obtain ⟨o, ho, hc, hd⟩ := id hit
 obtain ⟨ol, hol, _, nl, hdl⟩ := hl
 unfold Builtin.SmallTypes.nextOf
 refine wpAny_bind (wpAny_callSpecial?_slot (name := Str.ofString "__next__") hit.typeIs F.slot_tuple_iterator_next (wpAny_call_entry F.slot_tuple_iterator_next hit.typeIs F.entry_tuple_iterator_next ?_ (F.args_tuple_iterator_next_1 _)))
 show wpAny _ _ (field (.ref it) 0 >>= _) _ _ s
 refine wpAny_bind (wpAny_field ho hd (x := .ref l) rfl ?_)
 show wpAny _ _ (if (Value.ref l == Value.none) = true then _ else _) _ _ s
 rw [if_neg (show ¬ ((Value.ref l == Value.none) = true) from Bool.false_ne_true)]
 show wpAny _ _ (field (.ref it) 1 >>= _) _ _ s
 refine wpAny_bind (wpAny_field ho hd (x := .int i 0) rfl ?_)
 show wpAny _ _ (seqItems? (.ref l) >>= _) _ _ s
 refine wpAny_bind (wpAny_seqItems hol hdl ?_)
 simp only [Int.toNat_natCast, hx]
 refine wpAny_bind (wpAny_rule (wpAny_bind (wpAny_setField ho hd (by simp) ?_)))
 show wpAny _ _ (newExc (.type "StopIteration") [] >>= _) _ _ _
 refine wpAny_bind ?_
 simp only [newExc, newTuple]
 refine wpAny_bind (wpAny_newObj_type ?_ (by size_fits))
 refine wpAny_bind (m := firstArgMember _ _) (wpAny_of_eq (a := Value.none) (by first | rfl | (simp only [firstArgMember]; rfl)) ?_)
 refine wpAny_newObj_type ?_ (by size_fits)
 simp only [raiseNew]
 refine wpAny_bind (wpAny_handled ?_)
 first | rw [show A.in1.handled = none from hh] | rw [hh]
 refine wpAny_bind (wpAny_pure (wpAny_throw ?_))
 exact hE _ _ (((Heap.SameBut.update ..).extBut.push _).push _) ⟨_, Heap.get?_push_size _ rfl, rfl⟩
end
theorem ZaY {prog : Program} {w : World} {A : Around} (hh : A.handled = none) (it l : Addr) (hne : l ≠ it) (items : Array Value) :
  Draws prog w A it [it, l] items.size (fun i v => items[i]? = some v) (fun i h => h.IsTupleIter it l i ∧ h.IsTuple l items) where
 live := fun _ _ st => let ⟨o, ho, _⟩ := st.1; ⟨o, ho⟩
 frame := fun _ _ _ st hk => ⟨let ⟨o, ho, r⟩ := st.1; ⟨o, hk it (by simp) o ho, r⟩, let ⟨o, ho, r⟩ := st.2; ⟨o, hk l (by simp) o ho, r⟩⟩
 item := fun i s Q E hi st hQ => by
  refine Xz st.1 st.2 (x := items[i]) (by simp [hi]) fun h' hit' hs' => ?_
  exact hQ _ h' s.toks (by simp [hi]) ⟨hit', st.2.extBut hs'.extBut hne⟩ hs'
 done := fun s Q E st hE => VS hh st.1 st.2 (by simp) hE
theorem X0 (l : Addr) (items : Array Value) (o : Obj) (n : Nat) (hoc : o.cls = .type "tuple") (hod : o.data = .seq items n) :
  Meets (Builtin.«enumerate.__new__» ⟨[.type "enumerate", .ref l], []⟩) (fun _ R s => s.heap.get? l = some o ∧
   R (.ok (.ret (.ref (s.heap.push { cls := .type "tuple_iterator", data := .fields #[.ref l, .int 0 0] }).objs.size)))
    { s with heap := (s.heap.push { cls := .type "tuple_iterator", data := .fields #[.ref l, .int 0 0] }).push { cls := .type "enumerate", data := .fields #[.none, .bool false, .ref s.heap.objs.size, rawInt 0, .none, .none] } }) :=
 .of_wp fun prog w A R s h => by
  obtain ⟨hp, g, d, tk, os⟩ := s; obtain ⟨hl, h⟩ := h
  have hsub := sub_enumerate
  have hL : Heap.IsTuple (Shared.heap ⟨hp, g, d, tk, os⟩) l items := ⟨_, hl, hoc, n, hod⟩
  wp_walk using wpAny_loadPart' hl
  refine wpAny_stack_any fun st => wpAny_pure ?_
  split
  ·rename_i c _ _ _ _ _
   cases (c == Value.type "enumerate")
   ·wp_walk using wpAny_loadPart' hl, wpAny_pyIter_tuple hL
    exact ⟨_, rfl, h⟩
   ·wp_walk using wpAny_loadPart' hl, wpAny_pyIter_tuple hL
    exact ⟨_, rfl, h⟩
  ·wp_walk using wpAny_loadPart' hl, wpAny_pyIter_tuple hL
   exact ⟨_, rfl, h⟩
section
variable {prog : Program} {w : World} {A : Around} {E : Value → Shared → Prop} {s : Shared}
theorem K0 {l : Addr} {items : Array Value} {Q : Value → Shared → Prop} (hl : s.heap.IsTuple l items)
  (h : ∀ h', IsEnum h' (s.heap.objs.size + 1) s.heap.objs.size 0 .none → h'.IsTupleIter s.heap.objs.size l 0 → h'.objs.size = s.heap.objs.size + 2 →
   (∀ b o, s.heap.get? b = some o → h'.get? b = some o) → Q (.ref (s.heap.objs.size + 1)) { s with heap := h' }) :
  wpAny (model prog w) A (call (.type "enumerate") [.ref l]) Q E s := by
 obtain ⟨o, ho, hoc, n, hod⟩ := hl
 refine callType_new F.called_enumerate (by decide) (F.typeCall_enumerate_1 _) (F.newCall_enumerate_1 _) (fun obj => F.args_object_init_2 obj _) F.entry_enumerate_new
  (X0 l items o n hoc hod) ⟨ho, ?_⟩
 have hz : (s.heap.push { cls := .type "tuple_iterator", data := .fields #[.ref l, .int 0 0] }).objs.size = s.heap.objs.size + 1 := Heap.size_push ..
 show _ ∧ _
 rw [hz]
 have he : IsEnum ((s.heap.push { cls := .type "tuple_iterator", data := .fields #[.ref l, .int 0 0] }).push
   { cls := .type "enumerate", data := .fields #[.none, .bool false, .ref s.heap.objs.size, rawInt 0, .none, .none] }) (s.heap.objs.size + 1) s.heap.objs.size 0 .none := by
  have := Heap.get?_push_size (s.heap.push { cls := .type "tuple_iterator", data := .fields #[.ref l, .int 0 0] })
   (o := { cls := .type "enumerate", data := .fields #[.none, .bool false, .ref s.heap.objs.size, rawInt 0, .none, .none] }) rfl
  rw [hz] at this; exact this
 refine ⟨⟨_, he, rfl⟩, h _ he ⟨_, Heap.get?_push_of_some _ (Heap.get?_push_size _ rfl), rfl, rfl⟩ (by rw [Heap.size_push, hz]) fun b o x => Heap.get?_push_of_some _ (Heap.get?_push_of_some _ x)⟩
end
section
variable {X : Cx} {pins : List (Addr × Obj)} {σ : L2.St} {H : Hp} {s : Shared} {h' : Heap}
theorem Cs {t' : Nat} {ch : List Addr} (I : L2.Inv X pins σ H s) (k : ∀ b o, b ∉ ch → s.heap.get? b = some o → h'.get? b = some o) (f : ∀ b ∈ ch, Ew X pins H b) : L2.Inv X pins σ H { s with heap := h', toks := t' } := by
 have nit : ∀ b u, H b = some u → b ∉ ch := fun b u e z => by rw [(f b z).1] at e; cases e
 refine I.step (g' := s.gens) (d' := s.drawn) (ch := ch) (fun b hb => ?_) (fun b o _ _ hc e _ => k b o hc e) (fun b o _ _ hc e _ => ⟨o.slots, k b o hc e⟩) (fun _ _ _ _ n => n)
  (fun b o hc e => ⟨o, k b o hc e⟩) (fun _ _ e => e) (fun _ _ _ e => e) (fun b ps e => ⟨#[], by rw [e]; simp⟩) (fun m hm => ?_) (fun b u e => ?_) I.bare
 ·obtain ⟨_, f1, _, f3, f4, f5⟩ := f b hb
  exact ⟨f3, f1, f4, f5⟩
 ·obtain ⟨o, es, ep, ho, r⟩ := hm
  exact ⟨o, es, ep, k _ o (fun z => (f _ z).2.1 rfl) ho, r⟩
 ·refine (I.hok b u e).Sk (fun c v hc q => k c v ?_ q) (fun _ q => q) fun _ _ q => q
  rcases hc with z | z
  ·rw [z]; exact nit b u e
  ·exact nit c _ z
end
noncomputable def Ite (K : PySem.W.Frag) (a : Addr) : It :=
 ⟨fun i H => ∃ xs x, SqT K H a xs ∧ xs[i]? = some x, fun i H y H' => ∃ T x, (∀ xs, SqT K H a xs → xs[i]? = some x) ∧ H T = none ∧ y = .ref T ∧ H' = upd H T (.tup [.int i, x]), fun i H => ∃ xs, SqT K H a xs ∧ xs.length ≤ i⟩
theorem FU {P : Program} {w : World} {K : PySem.W.Frag} {elts : List Expr} {x1 : Nat} {pos : Pos} (a it e : Addr) (hei : e ≠ it) : Turn P w K (.Tuple elts x1 pos) (Ite K a) [e, it] e (fun i h => (∃ old, IsEnum h e it i old) ∧ h.IsTupleIter it a i) where
 mem := by simp
 obj := fun i h st b hb => by
  obtain ⟨⟨old, he⟩, o, ho, c, d⟩ := st
  rcases List.mem_cons.mp hb with rfl | hb
  ·exact ⟨_, he, fun v z => nomatch z⟩
  ·rw [List.mem_singleton.mp hb]
   exact ⟨o, ho, fun v z => by rw [d] at z; cases z⟩
 keep := fun i h h' st k => by
  obtain ⟨⟨old, he⟩, o, ho, r⟩ := st
  exact ⟨⟨old, k e (by simp) _ he⟩, o, k it (by simp) o ho, r⟩
 item := by
  intro X hP hw hK hc i pins s σ H E I hf st hg
  subst hP hw hK
  obtain ⟨xs, x, hq, hx⟩ := hg
  obtain ⟨its, rv, p, hz⟩ := I.tuple hq
  obtain ⟨u, hu, ru⟩ := rv.get hx
  obtain ⟨⟨old, he⟩, hit⟩ := st
  have hT : s.heap.IsTuple a its.toArray := p
  have hne : a ≠ it := fun z => by
   obtain ⟨o, ho, hoc, _⟩ := hT
   obtain ⟨o', ho', hoc', _⟩ := hit
   rw [z, ho'] at ho
   cases ho
   rw [hoc'] at hoc
   exact absurd (Value.type.inj hoc) (by decide)
  have hae : a ≠ e := fun z => by
   obtain ⟨o, ho, hoc, _⟩ := hT
   rw [z, he] at ho
   cases ho
   exact absurd (Value.type.inj hoc) (by decide)
  have hlt : i < its.toArray.size := by
   have := (List.getElem?_eq_some_iff.mp hu).1
   simpa using this
  refine wpAny_pyNext_enum_itemD (ZaY (show X.A.in1.handled = none from I.ok.hd hc) it a hne its.toArray) he ⟨hit, hT⟩ hlt hei (by
   intro z
   rcases List.mem_cons.mp z with z | z
   ·exact hei z
   ·exact hae (List.mem_singleton.mp z).symm) fun v h' tk hv ho hst htup hsz hk => ?_
  have ev : v = u := by
   have : its.toArray[i]? = some u := by simpa using hu
   rw [this] at hv
   exact (Option.some.inj hv).symm
  subst ev
  refine ⟨_, rfl, ?_⟩
  have hel : e < s.heap.objs.size := Heap.lt_size he
  have hil : it < s.heap.objs.size := by obtain ⟨o, q, _⟩ := hit; exact Heap.lt_size q
  refine wpAny_letOwnedTupleGo_enum ho fun h2 he2 hs2 => ?_
  have fe := hf e (by simp)
  have fi := hf it (by simp)
  have hTn : H s.heap.objs.size = none := I.hok.fresh (Nat.le_refl _)
  have g2 : h2.get? s.heap.objs.size = some { cls := .type "tuple", data := .seq #[.int i tk, v] } := (hs2.2 _ (Nat.ne_of_gt hel)).trans htup
  have IA : L2.Inv X pins σ (upd H s.heap.objs.size (.tup [.int i, x])) { s with heap := s.heap.push { cls := .type "tuple", data := .seq #[.int i tk, v] }, toks := tk + 1 } :=
   I.laid (t' := tk + 1) (o := .tup [.int i, x]) (fun b ob q => Heap.get?_push_of_some _ q) (Nat.le_refl _) ⟨by rw [sizeLine_eq]; exact (by decide : 2 ≤ 16777216), [.int i tk, v], .cons ⟨tk, rfl⟩ (.cons ru .nil), IsTup.new _ _⟩
  have fN : ∀ b ∈ [e, it], Ew X pins (upd H s.heap.objs.size (.tup [.int i, x])) b := fun b hb => by
   have f := hf b hb
   refine ⟨?_, f.2⟩
   rw [ZZ]
   ·exact f.1
   ·rcases List.mem_cons.mp hb with rfl | hb
    ·exact Nat.ne_of_lt hel
    ·rw [List.mem_singleton.mp hb]
     exact Nat.ne_of_lt hil
  have I2 : L2.Inv X pins σ (upd H s.heap.objs.size (.tup [.int i, x])) { s with heap := h2, toks := tk + 1 } := Cs (s := { s with heap := s.heap.push { cls := .type "tuple", data := .seq #[.int i tk, v] }, toks := tk + 1 }) (t' := tk + 1) (ch := [e, it]) IA (fun b o hb q => by
   have n1 : b ≠ e := fun z => hb (by simp [z])
   have n2 : b ≠ it := fun z => hb (by simp [z])
   have q' : (s.heap.push { cls := .type "tuple", data := .seq #[.int i tk, v] }).get? b = some o := q
   by_cases hT : b = s.heap.objs.size
   ·rw [hT, Heap.get?_push_size _ rfl] at q'
    rw [hT, g2]
    exact q'
   ·have q2 : s.heap.get? b = some o := by
     rw [← q']
     exact (Heap.get?_push_ne _ _ _ hT).symm
    exact (hs2.2 b n1).trans (hk b o n1 n2 q2)) fN
  refine ⟨.ref s.heap.objs.size, _, I2, rfl, ⟨_, x, fun ys hy => by rw [I.G0 hy hq]; exact hx, hTn, rfl, rfl⟩, ⟨⟨_, by rw [Int.natCast_add]; exact he2⟩, ?_⟩, fun b hb => (fN b hb).1⟩
  obtain ⟨o, q, r⟩ := hst.1
  exact ⟨o, (hs2.2 it (Ne.symm hei)).trans q, r⟩
 done := by
  intro X hP hw hK hc i pins s σ H E I hf st hg
  subst hP hw hK
  obtain ⟨xs, hq, hx⟩ := hg
  obtain ⟨its, rv, p, hz⟩ := I.tuple hq
  obtain ⟨⟨old, he⟩, hit⟩ := st
  have hT : s.heap.IsTuple a its.toArray := p
  have hl := rv.length
  have hTy : s.TypeIs (.ref e) "enumerate" := ⟨_, he, rfl⟩
  unfold pyNext
  refine wpAny_bind (wpAny_attempt (wpAny_callSpecial?_slot (name := Str.ofString "__next__") hTy F.slot_enumerate_next (wpAny_call_entry F.slot_enumerate_next hTy F.entry_enumerate_next ?_ (F.args_enumerate_next_1 _))))
  show wpAny _ _ (field (.ref e) 2 >>= _) _ _ _
  refine wpAny_bind (wpAny_field he rfl (x := .ref it) rfl ?_)
  refine wpAny_bind (VS (show X.A.in1.handled = none from I.ok.hd hc) hit hT (by simp; omega) fun h' x he' hx' => ?_)
  obtain ⟨o, ho, hoc⟩ := hx'
  refine wpAny_bind (wpAny_isInstance (T := "StopIteration") (b := true) ⟨o, ho, hoc⟩ isSubtype_stop ?_)
  exact wpAny_pure ⟨rfl, Cs (t' := s.toks) (ch := [e, it]) I (fun b o hb q => he' b o (fun z => hb (by simp [z])) q) fun b hb => hf b hb⟩
 self := fun _ _ _ _ _ st h => by
  obtain ⟨⟨old, he⟩, _⟩ := st
  exact wpAny_pyIter_enum he h
section
variable {X : Cx}
noncomputable def Zd7 (K : PySem.W.Frag) (ta : TA) : TI := fun σ H R => ta σ H fun vs H1 => ∃ a, vs = [.ref a] ∧ (∃ xs, SqT K H1 a xs) ∧ R (Ite K a) H1
theorem SW {a : Expr} {elts : List Expr} {x1 : Nat} {tp : Pos} {ta : TA} {p pos : Pos} (hg : Gl X "enumerate") (hm : X.mg "enumerate" = none) (ha : PA X [a] ta) (hs : starEach [a] X.env = [(false, eval a X.env)] := by rfl) : PI X (.Tuple elts x1 tp) (.Call (.Name "enumerate" p) [a] [] pos) (Zd7 X.K ta) := by
 intro pins s σ H R I h
 refine Call_ (XX I hg hm boot_enumerate (PyProof.Rows.callWith_type1 (thn (ha pos pins s σ H _ I h) fun us s1 ⟨vs, H1, I1, r1, q1⟩ => ?_) hs rfl))
 obtain ⟨l, e, ⟨xs, hq⟩, q⟩ := q1
 subst e
 cases r1 with
 | cons r rr =>
  cases rr
  cases r
  obtain ⟨its, rv, pt, hz⟩ := I1.tuple hq
  refine K0 (show s1.heap.IsTuple l its.toArray from pt) fun h' he hit hsz hk => ?_
  have I2 : L2.Inv X pins σ H1 { s1 with heap := h' } := I1.kept (t' := s1.toks) hk
  refine wpAny_pyIter_enum he ?_
  refine ⟨s1.heap.objs.size + 1, [s1.heap.objs.size + 1, s1.heap.objs.size], _, _, H1, rfl, I2, FU l s1.heap.objs.size (s1.heap.objs.size + 1) (Nat.succ_ne_self _), ⟨⟨_, he⟩, hit⟩, fun b hb => ?_, q⟩
  rcases List.mem_cons.mp hb with rfl | hb
  ·exact I1.Tu (Nat.le_succ _) (I1.hok.fresh (Nat.le_succ _))
  ·rw [List.mem_singleton.mp hb]
   exact I1.Tu (Nat.le_refl _) (I1.hok.fresh (Nat.le_refl _))
noncomputable def U1 (ds : List PyData) : List PyData := ds.mapIdx fun i d => .tuple [.int i, d]
theorem Gg {ds : List PyData} {i : Nat} {d : PyData} (h : ds[i]? = some d) : (U1 ds)[i]? = some (.tuple [.int i, d]) := by
 unfold U1
 rw [List.getElem?_mapIdx, h]
 rfl
noncomputable def Zeu (ta : DTA) : WI := fun Δ M Ψ => ta Δ M fun xs M1 => on1 xs fun x => onT x fun ds => Ψ (U1 ds) M1
theorem RW {a : Expr} {elts : List Expr} {x1 : Nat} {tp : Pos} {ta : DTA} {p p2 : Pos} (hg0 : Gl X "enumerate") (hm : X.mg "enumerate" = none) (ha : DA X [a] ta) (hs : starEach [a] X.env = [(false, eval a X.env)] := by rfl) :
  DI X (.Tuple elts x1 tp) (.Call (.Name "enumerate" p) [a] [] p2) (Zeu ta) := by
 obtain ⟨t1, p1, q1⟩ := ha
 refine ⟨_, SW hg0 hm p1 hs, fun σ H Δ M Ψ R dr er h k => ?_⟩
 refine q1 σ H Δ M _ _ dr er h fun vs H1 xs M1 r1 st rv hx => ?_
 replace hx := Z6 hx
 obtain ⟨x, rfl, hx⟩ := hx
 replace hx := WT hx
 obtain ⟨ds, rfl, hΨ⟩ := hx
 obtain ⟨v, rfl, hv⟩ := Paired.one rv
 obtain ⟨a, ys, rfl, h1, h2⟩ := hv.tup
 have el : (U1 ds).length = ds.length := by unfold U1; rw [List.length_mapIdx]
 refine ⟨a, rfl, ⟨ys, h1.sq⟩, k _ H1 M1 _ r1 st (fun M2 H2 st2 i => ⟨fun hi => ?_, fun hi => ?_⟩) hΨ⟩
 ·rw [el] at hi
  have hx : i < ys.length := by rw [h2.length]; exact hi
  refine ⟨⟨ys, ys[i], (h1.step st2).sq, by simp [hx]⟩, fun y H' z => ?_⟩
  obtain ⟨T, u, hu, hT, rfl, rfl⟩ := z
  intro r
  obtain ⟨d, hd, hy⟩ := (h2.step st2).Tw (hu ys (h1.step st2).sq)
  exact ⟨r.new hT, Step.new hT, _, Gg hd, Dt.Gy r hT (.cons (.int i) (.cons hy .nil))⟩
 ·rw [el] at hi
  exact ⟨ys, (h1.step st2).sq, by rw [h2.length]; exact hi⟩
theorem Zck (ta : DTA) (Δ : DSt) (M : Mp) (Ψ : List PyData → Mp → Prop) : Zeu ta Δ M Ψ = (ta Δ M fun xs M1 => on1 xs fun x => onT x fun ds => Ψ (U1 ds) M1) := propext Iff.rfl
end
theorem FZ {P : Program} {w : World} {K : PySem.W.Frag} {mg : Str → Option Value} {base : Heap} {k : Nat} {f : Addr} {fd : FuncData} {ps : List Str} {S : DSp} (h : ∀ xs M Φ, ¬ S xs M Φ) : ZC P w K mg base CX0 k f fd ps (lift K S) :=
 ⟨fun vs H Q E z => by obtain ⟨xs, M, Φ, _, _, z, _⟩ := z; exact absurd z (h _ _ _), fun A outer s H args us vs Q E _ _ _ _ z => by obtain ⟨xs, M, Φ, _, _, z, _⟩ := z; exact absurd z (h _ _ _)⟩
end DL
namespace DL
open PySem PySem.Spec PyProof.Rows L2 PySem.W
section
variable {prog : Program} {w : World} {A : Around} {E : Value → Shared → Prop} {s : Shared}
theorem Gd {it t : Addr} {items : Array Value} (hne : t ≠ it) : ∀ (n i : Nat) (s : Shared) (Q : List Value → Shared → Prop), s.heap.IsListIter it t i → s.heap.IsList t items → i + n ≤ items.size →
  (∀ h', h'.IsListIter it t (i + n) → Heap.SameBut it s.heap h' → Q ((items.toList.drop i).take n) { s with heap := h' }) → wpAny (model prog w) A (draw (.ref it) n) Q E s
 | 0, i, s, Q, hit, _, _, hQ => by
  show wpAny _ _ (pure []) Q E s
  exact wpAny_pure (by simpa using hQ s.heap hit (Heap.SameBut.refl ..))
 | n + 1, i, s, Q, hit, ht, hle, hQ => by
  have hlt : i < items.size := by omega
  show wpAny _ _ (pyNext (.ref it) >>= _) Q E s
  refine wpAny_bind (wpAny_pyNext_list_item hit ht (x := items[i]) (by simp [hlt]) fun h₁ hit₁ hs₁ => ?_)
  refine wpAny_bind (wpAny_holding (Gd hne n (i + 1) _ _ hit₁ (ht.extBut hs₁.extBut hne) (by omega) fun h₂ hit₂ hs₂ => wpAny_pure ?_))
  have hd : items.toList.drop i = items[i] :: items.toList.drop (i + 1) := by simp [List.drop_eq_getElem_cons, hlt]
  have := hQ h₂ (by rw [show i + (n + 1) = i + 1 + n by omega]; exact hit₂) (hs₁.trans hs₂)
  rw [hd, List.take_succ_cons] at this
  exact this
theorem XY {t : Addr} {items : Array Value} {Q : List Value → Shared → Prop} (hh : A.handled = none) (ht : s.heap.IsList t items)
  (hQ : ∀ h', Heap.ExtBut s.heap.objs.size s.heap h' → Q items.toList { s with heap := h' }) : wpAny (model prog w) A (unpackItems (.ref t) items.size none) Q E s := by
 have hlt : t ≠ s.heap.objs.size := by obtain ⟨o, ho, _⟩ := ht; exact Nat.ne_of_lt (Heap.lt_size ho)
 unfold unpackItems
 refine wpAny_bind ?_
 ·unfold notIterableAtAll
  refine wpAny_bind (wpAny_specialOf ht.typeIs F.slot_list_iter.lookup ?_)
  refine wpAny_pure ?_
  simp only [Bool.false_eq_true, if_false]
  refine wpAny_bind (wpAny_holding (wpAny_pyIter_list ht ?_))
  refine wpAny_bind (wpAny_holding (Gd hlt items.size 0 _ _ ⟨_, Heap.get?_push_size _ rfl, rfl, rfl⟩ (ht.push _) (by omega) fun h₁ hit₁ hs₁ => ?_))
  have hall : List.take items.size (List.drop 0 items.toList) = items.toList := by
   rw [List.drop_zero]; exact List.take_of_length_le (by simp)
  rw [hall]
  rw [if_neg (by simp)]
  have ht₁ : h₁.IsList t items := (ht.push _).extBut hs₁.extBut hlt
  refine wpAny_bind (wpAny_holding (wpAny_pyNext_list_end hh hit₁ ht₁ (by simp) fun h₂ he₂ => ?_))
  simp only [Option.isSome_none, Bool.false_eq_true, if_false]
  refine wpAny_pure (hQ h₂ fun b o hb e => he₂ b o hb (hs₁.extBut b o hb (Heap.get?_push_of_some _ e)))
theorem Xj {env : Env} {elts : List Expr} {x1} {pos : Pos} {t : Addr} {items : Array Value} {Q : Unit → Shared → Prop} (hh : A.handled = none) (ht : s.heap.IsList t items)
  (hn : (assignEach elts env).length = items.size) (hstar : (assignEach elts env).findIdx? (·.1) = none)
  (h : ∀ h', Heap.ExtBut s.heap.objs.size s.heap h' → wpAny (model prog w) A (assignInOrder ((assignEach elts env).map (·.2)) items.toList) Q E { s with heap := h' }) :
  wpAny (model prog w) A (assign (.Tuple elts x1 pos) env (.ref t)) Q E s := by
 rw [assign_Tuple]
 refine wpAny_bind (wpAny_standAt ?_)
 unfold unpack
 rw [hn, hstar]
 exact wpAny_bind (wpAny_holding (XY hh ht h))
end
section
variable {X : Cx} {pos : Pos}
theorem TV {es : List Expr} {k : Nat} {t : TGs} {n : Nat} (hc : X.calm = true) (h : PGs X es t)
  (hn : (assignEach es X.env).length = n := by rfl) (hst : (assignEach es X.env).findIdx? (·.1) = none := by rfl) : PG X (.Tuple es k pos) (fun v σ H Q => ∃ a xs, v = .ref a ∧ SqL X.K H a xs ∧ xs.length = n ∧ t xs σ H Q) := by
 intro pins s σ H v u Q I r hw
 obtain ⟨a, xs, e1, hq, hl, hw⟩ := hw
 subst e1
 cases r
 obtain ⟨its, rv, ht, hz⟩ := I.list hq
 refine Xj (I.ok.hd hc) ht.isList (by simp [hn, ← hl, rv.length]) hst fun h' hx => ?_
 have I1 : L2.Inv X pins σ H { s with heap := h' } := I.kept (t' := s.toks) fun b o e => hx b o (Nat.ne_of_lt (Heap.lt_size e)) e
 exact h pins _ σ H xs _ Q I1 (by simpa using rv) hw
noncomputable def Zci (n : Nat) (t : EA) : DTG := fun x Δ M Φ => onL x fun ds => LZ n ds fun xs => t xs Δ M Φ
theorem Zct {es : List Expr} {k : Nat} {t : EA} {n : Nat} (hc : X.calm = true) (h : DGs X es t) (hn : (assignEach es X.env).length = n := by rfl) (hst : (assignEach es X.env).findIdx? (·.1) = none := by rfl) : DG X (.Tuple es k pos) (Zci n t) := by
 obtain ⟨t1, p1, q1⟩ := h
 refine ⟨_, TV hc p1 hn hst, fun v σ H x Δ M Φ Q r e rv h k => ?_⟩
 replace h := HE h
 obtain ⟨ds, rfl, h⟩ := h
 replace h := BF h
 obtain ⟨hl, h⟩ := h
 obtain ⟨a, xs, rfl, h1, h2⟩ := rv.lst
 exact ⟨a, xs, rfl, h1.sq, by rw [h2.length]; exact hl, q1 xs σ H _ Δ M Φ Q r e h2.Rq h k⟩
theorem SV (n : Nat) (t : EA) (x : DV) (Δ : DSt) (M : Mp) (Φ : DSt → Mp → Prop) : Zci n t x Δ M Φ = (onL x fun ds => LZ n ds fun xs => t xs Δ M Φ) := propext Iff.rfl
end
end DL
namespace DL
open PySem PySem.Spec PyProof.Rows L2 PySem.W
section
variable {X : Cx}
theorem OS (hu : X.A.units < cLine) : OpR X (compareOp .NotEq) (fun x y H Q => ∃ a b xs, x = .ref a ∧ y = .ref b ∧ SqL X.K H a xs ∧ SqL X.K H b [] ∧ Q (.bl (!xs.isEmpty)) H) := by
 intro pins s σ H x y v u Q I rx ry h
 obtain ⟨a, b, xs, rfl, rfl, h1, h2, q⟩ := h
 cases rx
 cases ry
 obtain ⟨its, r, p, _⟩ := I.list h1
 obtain ⟨jts, r2, p2, _⟩ := I.list h2
 cases r2
 have hl := r.length
 cases xs with
 | nil =>
  have e : its.toArray.size = ([] : List Value).toArray.size := by rw [List.size_toArray, List.size_toArray]; exact hl.symm
  refine PySem.SeqAt.RcNeAt.lists (e := fun _ => true) p.isList p2.isList e hu (fun j h1 h2 => absurd h2 (Nat.not_lt_zero _)) _ _ _ _ ⟨.bl _, H, I, ?_, q⟩
  show Value.bool (!(List.range its.toArray.size).all fun _ => true) = _
  rw [e]
  rfl
 | cons x xs =>
  refine PySem.SeqAt.RcNeAt.lists_lengths p.isList p2.isList ?_ hu _ _ _ _ ⟨.bl _, H, I, rfl, q⟩
  rw [List.size_toArray, ← hl]
  rfl
noncomputable def LI : D2 := fun x y M Φ => onK x M fun ds => onK y M fun es => es = [] ∧ Φ (.dat (.bool (!ds.isEmpty))) M
theorem NF {k : Nat} (hr : Xc k X.A) : OpD X (compareOp .NotEq) LI := by
 refine ⟨_, OS (by have := hr.un; omega), fun v u H x y M Φ Q r rv ru h k => ?_⟩
 replace h := WM h
 obtain ⟨ds, hx, h⟩ := h
 replace h := WM h
 obtain ⟨es, hy, rfl, q⟩ := h
 replace hx : MW x M ds := hx
 replace hy : MW y M [] := hy
 obtain ⟨a, xs, rfl, h1, h2⟩ := hx.sq r rv
 obtain ⟨b, ys, rfl, h3, h4⟩ := hy.sq r ru
 cases h4
 refine ⟨a, b, xs, rfl, rfl, h1, h3, ?_⟩
 have e : xs.isEmpty = ds.isEmpty := by cases h2 <;> rfl
 rw [e]
 exact k.dat r Step.refl (Dt.bl _) q
noncomputable def EI : D2 := fun x y M Φ => onK x M fun ds => onK y M fun es => ds.length + es.length ≤ sizeLine ∧ ∀ p, M p = none → Φ (.own p) (Z3 M p (.lst (ds ++ es)))
theorem Oe : OpD X (binaryOp .Add) EI := by
 refine ⟨_, CD, fun v u H x y M Φ Q r rv ru h k => ?_⟩
 replace h := WM h
 obtain ⟨ds, hx, h⟩ := h
 replace h := WM h
 obtain ⟨es, hy, hz, q⟩ := h
 replace hx : MW x M ds := hx
 replace hy : MW y M es := hy
 obtain ⟨a, xs, rfl, h1, h2⟩ := hx.sq r rv
 obtain ⟨b, ys, rfl, h3, h4⟩ := hy.sq r ru
 refine ⟨a, b, xs, ys, rfl, rfl, h1, h3, by rw [h2.length, h4.length]; exact hz, fun p hp => ?_⟩
 exact k _ _ (.own p) _ (r.XM (Step.Yx hp) (h2.append h4)) (Step.Yx hp) rfl (q p (r.tracked hp))
noncomputable def Tp : D1 := fun xs M Φ => on1 xs fun x => onI x fun i => Φ (.dat (.bool (i != 0))) M
theorem HG (x y : DV) (M : Mp) (Φ : DK) : LI x y M Φ = (onK x M fun ds => onK y M fun es => es = [] ∧ Φ (.dat (.bool (!ds.isEmpty))) M) := propext Iff.rfl
theorem FG (x y : DV) (M : Mp) (Φ : DK) : EI x y M Φ = (onK x M fun ds => onK y M fun es => ds.length + es.length ≤ sizeLine ∧ ∀ p, M p = none → Φ (.own p) (Z3 M p (.lst (ds ++ es)))) := propext Iff.rfl
end
noncomputable def isS (h : PyData) (s : Str) : Bool := match h with | .str t => decide (t = s) | _ => false
theorem WU {h : PyData} {s : Str} {P : Bool → Prop} (hl : h.canLay0 = true) (hs : (PyData.str s).canLay0 = true) (p : P (isS h s)) : eqD h (.str s) P := by
 cases h with
 | str t => exact p
 | dict _ => simp [PyData.canLay0] at hl
 | _ =>
  refine ⟨?_, ?_⟩
  ·unfold TC
   rw [hl, hs]
   simp [PyData.depth]
  ·simp only [PyData.eqv]
   exact p
end DL
namespace DL
open PySem PySem.Spec PyProof.Rows L2 PySem.W PySem.SeqAt PySem.MeetsSeq
theorem Jz (l : Addr) (es : Array DictEntry) (n : Nat) (dd : Option Addr) (sl : Array (Option Value)) (b : Str) (u : Tok) :
  Meets (Builtin.«dict.__eq__» ⟨[.ref l, .str b u], []⟩) (fun _ R s => s.heap.get? l = some { cls := .type "dict", dict := dd, data := .dict es n, slots := sl } ∧ R (.ok (.ret .notImplemented)) s) :=
 .of_wp fun prog w A R s h => by
  obtain ⟨hp, g, d, tk, os⟩ := s; obtain ⟨hl, h⟩ := h
  have f1 := F.sub_str_dict
  wp_walk using wpAny_loadPart' hl
  exact ⟨_, rfl, h⟩
theorem Jx (b : Str) (u : Tok) (l : Addr) (c : Value) (es : Array DictEntry) (n : Nat) (dd : Option Addr) (sl : Array (Option Value)) :
  Meets (Builtin.«str.__eq__» ⟨[.str b u, .ref l], []⟩) (fun _ R s => s.heap.get? l = some { cls := c, dict := dd, data := .dict es n, slots := sl } ∧ R (.ok (.ret .notImplemented)) s) :=
 .of_wp fun prog w A R s h => by obtain ⟨hp, g, d, tk, os⟩ := s; obtain ⟨hl, h⟩ := h; wp_walk using wpAny_loadPart' hl, wpAny_load hl; exact ⟨_, rfl, h⟩
section
variable {A : Around} {s : Shared}
noncomputable def ZcP (h : Heap) (l : Addr) : Prop := ∃ (o : Obj) (es : Array DictEntry) (n : Nat), h.get? l = some o ∧ o.cls = .type "dict" ∧ o.data = .dict es n
theorem Ce {l : Addr} (b : Str) (u : Tok) (hl : ZcP s.heap l) (hu : A.units < cLine) : RcAt A s (.str b u) (.ref l) false := fun prog w E Q h => by
 obtain ⟨⟨cls, dd, data, sl⟩, es, n, ho, hc, hd⟩ := hl
 simp only at hc hd
 subst hc hd
 exact rc_eq_decline_or (k := false) (typeIs_str s b u) ⟨_, ho, rfl⟩ (by decide) F.sub_dict_str F.slot_str_eq F.slot_dict_eq_refl
  (fun _ hq => call_meets F.slot_str_eq (typeIs_str s b u) F.entry_str_eq (F.args_str_eq_2 _ _) (Jx b u l (.type "dict") es n dd sl) ⟨ho, hq⟩)
  (fun _ hq => call_meets F.slot_dict_eq_refl ⟨_, ho, rfl⟩ F.entry_dict_eq (F.args_dict_eq_2 _ _) (Jz l es n dd sl b u) ⟨ho, hq⟩)
  (fun _ hq => wpAny_of_eq (rfl : isSame (.str b u) (.ref l) = pure false) hq) (.inr hu) h
theorem Bm {l : Addr} (b : Str) (u : Tok) (hl : ZcP s.heap l) (hu : A.units < cLine) : EqAt A s (.str b u) (.ref l) false := fun prog w E Q h => by
 unfold eqBool
 refine wpAny_holding ?_
 refine wpAny_ite_split (fun hab => absurd (eq_of_beq hab) nofun) (fun _ => ?_)
 exact wpAny_bind (Ce b u hl hu prog w E _ (wpAny_truthy_bool h))
end
section
variable {X : Cx}
inductive Bs (h : Heap) (b : Bool) (t : Str) : Value → Prop
 | non : b = false → Bs h b t .none
 | bl (k : Bool) : b = false → Bs h b t (.bool k)
 | int (i : Int) (u : Tok) : b = false → Bs h b t (.int i u)
 | str (x : Str) (u : Tok) : b = decide (x = t) → Bs h b t (.str x u)
 | tup {a : Addr} {items : Array Value} : h.IsTuple a items → b = false → Bs h b t (.ref a)
 | lst {a : Addr} {items : Array Value} : h.IsList a items → b = false → Bs h b t (.ref a)
 | dic {a : Addr} : ZcP h a → b = false → Bs h b t (.ref a)
theorem Bs.eq {A : Around} {s : Shared} {b : Bool} {t : Str} {v : Value} (u : Tok) (h : Bs s.heap b t v) (hu : A.units < cLine) : EqAt A s (.str t u) v b := by
 cases h with
 | non e => rw [e]; exact EqAt.str_none t u
 | bl k e => rw [e]; exact EqAt.str_bool t u k
 | int i w e => rw [e]; exact EqAt.str_int t u i w
 | str x w e =>
  have e2 : b = (t == x) := by rw [e, Bool.beq_eq_decide_eq, decide_eq_decide]; exact eq_comm
  rw [e2]
  exact EqAt.str_str t u x w
 | tup p e => rw [e]; exact EqAt.str_tuple t u p hu
 | lst p e => rw [e]; exact EqAt.str_list t u p hu
 | dic p e => rw [e]; exact Bm t u p hu
noncomputable def ZfJ : D2 := fun x y M Φ => onD x fun d => onS y fun t => Φ (.dat (.bool (isS d t))) M
noncomputable def Zfo : D2 := fun x y M Φ => onD x fun d => onT y fun ds => ∃ ts : List Str, ds = ts.map PyData.str ∧ Φ (.dat (.bool (ts.any (isS d)))) M
end
end DL
namespace DL
open PySem PySem.Spec PyProof.Rows L2 PySem.W
section
variable {X : Cx} {pos : Pos}
noncomputable def ZeE (tk0 tk1 tk2 tk3 tk4 tk5 tv0 tv1 tv2 tv3 tv4 tv5 : DTE) : DTE := fun Δ M Φ => tk0 Δ M fun x0 M1 => tv0 Δ M1 fun y0 M2 => tk1 Δ M2 fun x1 M3 => tv1 Δ M3 fun y1 M4 => tk2 Δ M4 fun x2 M5 => tv2 Δ M5 fun y2 M6 => tk3 Δ M6 fun x3 M7 => tv3 Δ M7 fun y3 M8 => tk4 Δ M8 fun x4 M9 => tv4 Δ M9 fun y4 M10 => tk5 Δ M10 fun x5 M11 => tv5 Δ M11 fun y5 M12 => onS x0 fun s0 => onD y0 fun d0 => onS x1 fun s1 => onD y1 fun d1 => onS x2 fun s2 => onD y2 fun d2 => onS x3 fun s3 => onD y3 fun d3 => onS x4 fun s4 => onD y4 fun d4 => onS x5 fun s5 => onD y5 fun d5 => ([s0, s1, s2, s3, s4, s5] : List Str).Nodup ∧ ∀ p, M12 p = none → Φ (.own p) (Z3 M12 p (.dkv [(Sum.inr s0, d0), (Sum.inr s1, d1), (Sum.inr s2, d2), (Sum.inr s3, d3), (Sum.inr s4, d4), (Sum.inr s5, d5)]))
noncomputable def ZfI : D2 := fun x y M Φ => onO x fun l => onI y fun i => Kd (M l) fun ds => (0 ≤ i ∧ i < 2 ^ 63 ∧ ds.length * i.toNat ≤ sizeLine) ∧ Φ (.dat (.list (List.replicate i.toNat ds).flatten)) M
end
end DL
namespace DL
open PySem PySem.Spec PyProof.Rows L2 PySem.W PySem.SeqAt PySem.MeetsSeq
section
variable {X : Cx}
noncomputable def ZeU : D2 := fun x y M Φ => onT x fun ds => onI y fun k => (2 ≤ k ∧ k ≤ 1000 ∧ 1 ≤ ds.length ∧ ds.length ≤ 1000) ∧ Φ (.dat (.tuple (List.replicate k.toNat ds).flatten)) M
noncomputable def Zds : D2 := fun x y M Φ => onT x fun ds => onT y fun es => ds.length + es.length ≤ sizeLine ∧ Φ (.dat (.tuple (ds ++ es))) M
end
end DL
namespace DL
open PySem PySem.Spec PyProof.Rows L2 PySem.W
noncomputable def Rsg (l : List Nat) : Prop := l.Pairwise (· < ·)
theorem Rsg.lt {l : List Nat} (h : Rsg l) {i j u v : Nat} (hi : l[i]? = some u) (hj : l[j]? = some v) (hij : i < j) : u < v := by
 obtain ⟨h1, rfl⟩ := List.getElem?_eq_some_iff.mp hi
 obtain ⟨h2, rfl⟩ := List.getElem?_eq_some_iff.mp hj
 exact (List.pairwise_iff_getElem.mp h) i j h1 h2 hij
noncomputable def Spl (l : List Nat) (j r : Nat) : Prop := (∀ k v, k < r → l[k]? = some v → v < j) ∧ (∀ k v, r ≤ k → l[k]? = some v → j ≤ v) ∧ r ≤ l.length
theorem Uy {xs : Array Nat} (h : Rsg xs.toList) (j : Nat) : ∀ fuel lo hi, hi - lo ≤ fuel → lo ≤ hi → hi ≤ xs.size → (∀ k v, k < lo → xs.toList[k]? = some v → v < j) → (∀ k v, hi ≤ k → xs.toList[k]? = some v → j ≤ v) → Spl xs.toList j (SetTable.below.go xs j fuel lo hi)
 | 0, lo, hi, hf, hl, hs, h1, h2 => by
  have e : hi = lo := by omega
  subst e
  exact ⟨h1, h2, by rw [Array.length_toList]; exact hs⟩
 | fuel + 1, lo, hi, hf, hl, hs, h1, h2 => by
  unfold SetTable.below.go
  by_cases hlt : lo < hi
  ·rw [if_pos hlt]
   dsimp only
   have hm : (lo + hi) / 2 < xs.size := by omega
   have hg : xs.toList[(lo + hi) / 2]? = some (xs.getD ((lo + hi) / 2) j) := by
    rw [Array.getElem?_toList, Array.getElem?_eq_getElem hm]
    simp [Array.getD, hm]
   by_cases hc : xs.getD ((lo + hi) / 2) j < j
   ·rw [if_pos hc]
    refine Uy h j fuel _ _ (by omega) (by omega) hs (fun k v hk hv => ?_) h2
    by_cases e : k = (lo + hi) / 2
    ·rw [e, hg] at hv
     cases hv
     exact hc
    ·exact Nat.lt_trans (h.lt hv hg (by omega)) hc
   ·rw [if_neg hc]
    refine Uy h j fuel _ _ (by omega) (by omega) (by omega) h1 (fun k v hk hv => ?_)
    by_cases e : k = (lo + hi) / 2
    ·rw [e, hg] at hv
     cases hv
     omega
    ·have := h.lt hg hv (by omega)
     omega
  ·rw [if_neg hlt]
   have e : hi = lo := by omega
   subst e
   exact ⟨h1, h2, by rw [Array.length_toList]; exact hs⟩
theorem Wh {xs : Array Nat} (h : Rsg xs.toList) (j : Nat) : Spl xs.toList j (SetTable.below xs j) := by
 unfold SetTable.below
 exact Uy h j _ _ _ (by omega) (by omega) (Nat.le_refl _) (fun k v hk => absurd hk (by omega)) fun k v hk hv => by
  have := (List.getElem?_eq_some_iff.mp hv).1
  rw [Array.length_toList] at this
  omega
theorem Ed {xs : Array Nat} (h : Rsg xs.toList) {j : Nat} (hn : xs[SetTable.below xs j]? ≠ some j) : Rsg (SetTable.insertAt xs (SetTable.below xs j) j).toList := by
 obtain ⟨h1, h2, h3⟩ := Wh h j
 rw [SetTable.toList_insertAt]
 have hd : ∀ v ∈ xs.toList.drop (SetTable.below xs j), j < v := fun v hv => by
  obtain ⟨k, hk⟩ := List.mem_iff_getElem?.mp hv
  rw [List.getElem?_drop] at hk
  have l1 := h2 _ v (Nat.le_add_right _ k) hk
  by_cases e : k = 0
  ·rw [e, Nat.add_zero, Array.getElem?_toList] at hk
   rcases Nat.lt_or_eq_of_le l1 with z | z
   ·exact z
   ·rw [← z] at hk
    exact absurd hk hn
  ·have hb := (List.getElem?_eq_some_iff.mp hk).1
   have := h.lt (List.getElem?_eq_getElem (show SetTable.below xs j < xs.toList.length by omega)) hk (by omega)
   have := h2 _ _ (Nat.le_refl _) (List.getElem?_eq_getElem (show SetTable.below xs j < xs.toList.length by omega))
   omega
 have ht : ∀ u ∈ xs.toList.take (SetTable.below xs j), u < j := fun u hu => by
  obtain ⟨k, hk⟩ := List.mem_iff_getElem?.mp hu
  rw [List.getElem?_take] at hk
  split at hk
  ·exact h1 k u (by assumption) hk
  ·cases hk
 refine List.pairwise_append.mpr ⟨h.sublist (List.take_sublist _ _), List.pairwise_cons.mpr ⟨hd, h.sublist (List.drop_sublist _ _)⟩, fun u hu v hv => ?_⟩
 rcases List.mem_cons.mp hv with rfl | hv
 ·exact ht u hu
 ·exact Nat.lt_trans (ht u hu) (hd v hv)
structure TOk (bt : Bool) (t : SetTable) : Prop where
 led : t.led = !bt
 dm : t.dummies = #[]
 up : t.plain = true → Rsg t.place.toList
theorem So {t : SetTable} (h : t.dummies = #[]) (j : Nat) : t.slot j ≠ .dummy := by
 unfold SetTable.slot SetTable.has
 rw [h]
 dsimp only
 split
 ·exact fun e => nomatch e
 ·simp
theorem KA {t : SetTable} {f : Nat → Int} {h : Int} (hd : t.dummies = #[]) : ∀ (fuel : Nat) (p : SetTable.Probe), p.dummy = none → ∀ j d, SetTable.probe.go t f h fuel p = some (.empty j d) → d = none ∧ t.slot j = .empty
 | 0, p, _, j, d, e => by unfold SetTable.probe.go at e; cases e
 | fuel + 1, p, hp, j, d, e => by
  unfold SetTable.probe.go at e
  cases q : t.slot p.j with
  | empty =>
   rw [q] at e
   cases e
   exact ⟨hp, q⟩
  | dummy => exact absurd q (So hd _)
  | live i =>
   rw [q] at e
   dsimp only at e
   split at e
   ·cases e
   ·refine KA hd fuel _ ?_ j d e
    unfold SetTable.advance
    split
    ·exact hp
    ·exact hp
theorem Oz {t : SetTable} {h : Int} {j : Nat} {b : Bool} (hd : t.dummies = #[]) (e : t.freeSlot h = some (j, b)) : t.place[SetTable.below t.place j]? ≠ some j := by
 unfold SetTable.freeSlot at e
 split at e
 ·rename_i j' d' q
  unfold SetTable.probe at q
  obtain ⟨rfl, hs⟩ := KA hd _ _ rfl _ _ q
  simp only [Option.getD_none, Option.isSome_none, Option.some.injEq, Prod.mk.injEq] at e
  obtain ⟨rfl, _⟩ := e
  unfold SetTable.slot at hs
  dsimp only at hs
  intro z
  rw [if_pos (by rw [z]; simp)] at hs
  cases hs
 ·cases e
theorem TOk.MZ {bt : Bool} {t : SetTable} (h : TOk bt t) (n : Nat) : TOk bt (t.standIn n) := ⟨h.led, rfl, fun e => by simp [SetTable.standIn] at e⟩
theorem TOk.new {bt : Bool} {t : SetTable} (h : TOk bt t) (es : Array (Int × Value)) (k : Int) (x : Value) : TOk bt (layNew t es k x).2.1 := by
 unfold layNew
 split
 ·rename_i sl wd e
  have hn := Oz h.dm e
  have hp : TOk bt (t.put sl).1 := by
   unfold SetTable.put
   refine ⟨h.led, ?_, fun e => Ed (h.up e) hn⟩
   show (if SetTable.has t.dummies sl = true then _ else t.dummies) = #[]
   rw [h.dm]
   split
   ·simp [SetTable.eraseAt]
   ·rfl
  dsimp only
  unfold SetTable.orStandIn
  split
  ·exact hp
  ·exact hp.MZ _
 ·exact h.MZ _
theorem SM (f : Nat → Option Nat) (n : Nat) : Rsg ((((List.range n).filterMap fun j => (f j).map (j, ·)).map (·.1))) := by
 have h : (((List.range n).filterMap fun j => (f j).map (j, ·)).map (·.1)).Sublist (List.range n) := by
  induction (List.range n) with
  | nil => exact .slnil
  | cons a l ih =>
   rw [List.filterMap_cons]
   cases f a with
   | none => exact ih.cons a
   | some v => exact ih.cons₂ a
 exact List.pairwise_lt_range.sublist h
theorem TOk.re {bt : Bool} {t : SetTable} (h : TOk bt t) (es : Array (Int × Value)) (n : Nat) : TOk bt (relayAll t es n).2.1 := by
 unfold relayAll
 split
 ·rename_i t' order e
  dsimp only
  split
  ·unfold SetTable.relaid SetTable.laid at e
   cases q : SetTable.layClean (SetTable.sizeAbove n - 1) (es.map (·.1)) with
   | none => rw [q] at e; cases e
   | some ow =>
    rw [q] at e
    simp only [Option.pure_def, Option.bind_eq_bind, Option.bind_some, Option.some.injEq, Prod.mk.injEq] at e
    obtain ⟨rfl, _⟩ := e
    exact ⟨h.led, rfl, fun _ => by simpa using SM (fun j => ow.getD j none) _⟩
  ·exact h.MZ _
 ·exact h.MZ _
end DL
namespace DL
open PySem PySem.Spec PyProof.Rows L2 PySem.W
noncomputable def FX : Value → Int
 | .int i _ => i
 | _ => 0
noncomputable abbrev EB := Array (Int × Value)
noncomputable def KG (es : EB) : List Int := es.toList.map fun e => FX e.2
structure ZcQ (P : Program) (w : World) (o : Obj) (es : EB) (t : SetTable) : Prop where
 ex : o.ExactSet
 dt : ∃ ep, o.data = .set es ep t
 el : ElemsOf (intKind P w) es.toList
 bd : es.size < scanBound
 ft : t.fits es.size = true
 ok : TOk (w.params.followText "set-order") t
 nd : (KG es).Nodup
noncomputable def SI (P : Program) (w : World) (h : Heap) (a : Addr) (ks : List Int) : Prop := ∃ o es t, h.get? a = some o ∧ ZcQ P w o es t ∧ ks = KG es
section
variable {P : Program} {w : World} {A : Around} {E : Value → Shared → Prop} {s : Shared}
theorem CF {es : List (Int × Value)} (h : ElemsOf (intKind P w) es) {e : Int × Value} (he : e ∈ es) : ∃ t, e.2 = .int (FX e.2) t := by
 obtain ⟨⟨k, hk, _⟩, _⟩ := h e he
 obtain ⟨t, q⟩ := Value.isInt_shape (k := k) (v := e.2) hk
 rw [q]
 exact ⟨t, rfl⟩
theorem SI.size {h : Heap} {a : Addr} {ks : List Int} (hS : SI P w h a ks) : ks.length < scanBound := by
 obtain ⟨o, es, t, _, so, rfl⟩ := hS
 unfold KG
 rw [List.length_map, Array.length_toList]
 exact so.bd
theorem SI.same {h h' : Heap} {a : Addr} {ks : List Int} (hS : SI P w h a ks) (k : ∀ o, h.get? a = some o → h'.get? a = some o) : SI P w h' a ks := by
 obtain ⟨o, es, t, g, r⟩ := hS
 exact ⟨o, es, t, k o g, r⟩
theorem stored {a : Addr} {o : Obj} {es es' : EB} {t t' : SetTable} (g : s.heap.get? a = some o) (so : ZcQ P w o es t) (el : ElemsOf (intKind P w) es'.toList) (bd : es'.size < scanBound) (ft : t'.fits es'.size = true) (ok : TOk (w.params.followText "set-order") t') (nd : (KG es').Nodup) :
  ∃ o', (s.heap.update a (Obj.putSet es' t')).get? a = some o' ∧ ZcQ P w o' es' t' := by
 obtain ⟨ep, hd⟩ := so.dt
 have e := putSet_of es' t' hd
 have q := Heap.get?_update_self (Obj.putSet es' t') g (by rw [e]; rfl)
 rw [e] at q
 exact ⟨_, q, so.ex, ⟨_, rfl⟩, el, bd, ft, ok, nd⟩
theorem PQ {a : Addr} {o : Obj} {es es' : EB} {t t' : SetTable} {Q : Unit → Shared → Prop} (g : s.heap.get? a = some o) (so : ZcQ P w o es t) (bd : es'.size < scanBound) (h : Q () { s with heap := s.heap.update a (Obj.putSet es' t') }) : wpAny (model P w) A (storeSet a es' t') Q E s := by
 obtain ⟨ep, hd⟩ := so.dt
 exact wpAny_storeSet_of g hd h (fits_of_scanBound bd)
theorem RQ {a : Addr} {k : Int} {tok : Tok} {ks : List Int} {Q : Bool → Shared → Prop} (hS : SI P w s.heap a ks) (room : ks.length + 1 < scanBound)
  (h : ∀ h' ks' b, Heap.SameBut a s.heap h' → SI P w h' a ks' → (∀ z, z ∈ ks' ↔ z ∈ ks ∨ z = k) → ks'.length ≤ ks.length + 1 → Q b { s with heap := h' }) :
  wpAny (model P w) A (setAddHashed a (.int k tok) ((intKind P w).hash k)) Q E s := by
 obtain ⟨o, es, t, g, so, rfl⟩ := hS
 obtain ⟨ep, hd⟩ := so.dt
 have len : (KG es).length = es.size := by unfold KG; rw [List.length_map, Array.length_toList]
 have key : (intKind P w).is k (.int k tok) = true := intKind_is _ _ _ _
 have gv : ∀ (b : Bool) {s₁ : Shared} {Q' : Unit → Shared → Prop}, Q' () s₁ → wpAny (model P w) A (match b with | true => rule "set.scan.the-table-gave-way" | false => pure ()) Q' E s₁ :=
  fun b s₁ Q' hq => match b with | false => wpAny_pure hq | true => wpAny_rule hq
 unfold setAddHashed setAddHashedIn
 refine wpAny_holding (wpAny_bind (wpAny_setState_of g hd so.ft ?_)); dsimp only
 rw [byScan_of (knd := intKind P w) (x := .int k tok) rfl so.bd so.el]; simp only [↓reduceIte]; unfold setAddByScan
 refine wpAny_bind (wpAny_bind (wpAny_rule (wpAny_bind (wpAny_setScan_of key g hd so.ft so.el ?_))))
 cases hr : List.findIdx? (fun e => (intKind P w).is k e.2) es.toList with
 | some j =>
  obtain ⟨hj, hpj, _⟩ := List.findIdx?_eq_some_iff_getElem.mp hr
  have hin : k ∈ KG es := by
   obtain ⟨t', q⟩ := Value.isInt_shape (k := k) hpj
   exact List.mem_map.mpr ⟨es.toList[j], List.getElem_mem hj, by rw [q]; rfl⟩
  refine wpAny_pure (wpAny_pure ?_)
  exact h s.heap (KG es) false (Heap.SameBut.refl a s.heap) ⟨o, es, t, g, so, rfl⟩ (fun z => ⟨.inl, fun q => q.elim id fun e => e ▸ hin⟩) (Nat.le_succ _)
 | none =>
  have hno : k ∉ KG es := fun hm => by
   obtain ⟨e, he, q⟩ := List.mem_map.mp hm
   obtain ⟨t', q'⟩ := CF so.el he
   have := List.findIdx?_eq_none_iff.mp hr e he
   rw [q', q] at this
   exact absurd (intKind_is P w k t') (by rw [this]; exact Bool.false_ne_true)
  have pm := layNew_perm t es ((intKind P w).hash k) (.int k tok)
  have ft := layNew_fits t es ((intKind P w).hash k) (.int k tok)
  have tk := so.ok.new es ((intKind P w).hash k) (.int k tok)
  dsimp only
  generalize layNew t es ((intKind P w).hash k) (.int k tok) = L at pm ft tk ⊢
  obtain ⟨e1, t1, wd, gave⟩ := L; dsimp only at pm ft tk ⊢; rw [Array.toList_push] at pm
  have el1 : ElemsOf (intKind P w) e1.toList := (so.el.push key rfl).perm pm
  have pk : (KG e1).Perm (KG es ++ [k]) := by
   have := pm.map fun e : Int × Value => FX e.2
   rw [List.map_append] at this
   exact this
  have sz1 : e1.size = es.size + 1 := by rw [← Array.length_toList, pm.length_eq, List.length_append, Array.length_toList]; rfl
  have bd1 : e1.size < scanBound := by omega
  have nd1 : (KG e1).Nodup := pk.nodup_iff.mpr (List.nodup_append.mpr ⟨so.nd, List.nodup_cons.mpr ⟨(fun q => nomatch q), List.nodup_nil⟩, fun x hx y hy e => hno (by rw [List.mem_singleton.mp hy] at e; rw [← e]; exact hx)⟩)
  have mem1 : ∀ z, z ∈ KG e1 ↔ z ∈ KG es ∨ z = k := fun z => by rw [pk.mem_iff, List.mem_append, List.mem_singleton]
  have fin : ∀ (t2 : SetTable), t2.fits e1.size = true → TOk (w.params.followText "set-order") t2 → wpAny (model P w) A (do
     storeSet a e1 t2
     if (!wd && t2.tooFull) = true then do
       (match (relayAll t2 e1 (SetTable.grown e1.size)).2.2 with | true => rule "set.scan.the-table-gave-way" | false => pure ())
       storeSet a (relayAll t2 e1 (SetTable.grown e1.size)).1 (relayAll t2 e1 (SetTable.grown e1.size)).2.1
       pure (some true)
      else pure (some true)) (fun r s' => ∃ h' ks', s' = { s with heap := h' } ∧ r = some true ∧ Heap.SameBut a s.heap h' ∧ SI P w h' a ks' ∧ (∀ z, z ∈ ks' ↔ z ∈ KG es ∨ z = k) ∧ ks'.length ≤ (KG es).length + 1) E s := fun t2 ft2 tk2 => by
   obtain ⟨o1, g1, so1⟩ := stored (s := s) g so el1 bd1 ft2 tk2 nd1
   refine wpAny_bind (PQ g so bd1 ?_)
   have sb1 := Heap.SameBut.update s.heap a (Obj.putSet e1 t2)
   have ln1 : (KG e1).length ≤ (KG es).length + 1 := by rw [pk.length_eq, List.length_append]; exact Nat.le_refl _
   split
   ·have pm2 := relayAll_perm t2 e1 (SetTable.grown e1.size)
    have ft3 := relayAll_fits t2 e1 (SetTable.grown e1.size)
    have tk3 := tk2.re e1 (SetTable.grown e1.size)
    generalize relayAll t2 e1 (SetTable.grown e1.size) = L at pm2 ft3 tk3 ⊢
    obtain ⟨e2, t3, gave2⟩ := L; dsimp only at pm2 ft3 tk3 ⊢
    have pk2 : (KG e2).Perm (KG e1) := pm2.map _
    have sz2 : e2.size = e1.size := by rw [← Array.length_toList, pm2.length_eq, Array.length_toList]
    have bd2 : e2.size < scanBound := by omega
    obtain ⟨o2, g2, so2⟩ := stored (s := { s with heap := s.heap.update a (Obj.putSet e1 t2) }) g1 so1 (el1.perm pm2) bd2 ft3 tk3 (pk2.nodup_iff.mpr nd1)
    refine wpAny_bind (gv _ (wpAny_bind (PQ (s := { s with heap := s.heap.update a (Obj.putSet e1 t2) }) g1 so1 bd2 (wpAny_pure ?_))))
    exact ⟨_, _, rfl, rfl, sb1.trans (Heap.SameBut.update _ a _), ⟨o2, e2, t3, g2, so2, rfl⟩, fun z => (pk2.mem_iff).trans (mem1 z), by rw [pk2.length_eq]; exact ln1⟩
   ·exact wpAny_pure ⟨_, _, rfl, rfl, sb1, ⟨o1, e1, t2, g1, so1, rfl⟩, mem1, ln1⟩
  refine wpAny_bind (gv _ ?_)
  split
  ·rw [hashByValue_scannable 8 (x := .int k tok) rfl]
   refine wpAny_bind (wpAny_pure ?_)
   rw [show plainKind (Value.int k tok) = true from rfl]; simp only [↓reduceIte]
   exact wpAny_mono (fin t1 ft tk) (fun r s' ⟨h', ks', e1, e2, sb, hs, hm, hl⟩ => by subst e1 e2; exact wpAny_pure (h h' ks' true sb hs hm hl)) fun _ _ q => q
  ·refine wpAny_bind (wpAny_pure ?_); simp only [↓reduceIte]
   exact wpAny_mono (fin t1 ft tk) (fun r s' ⟨h', ks', e1, e2, sb, hs, hm, hl⟩ => by subst e1 e2; exact wpAny_pure (h h' ks' true sb hs hm hl)) fun _ _ q => q
end
end DL
namespace DL
open PySem PySem.Spec PyProof.Rows L2 PySem.W
section
variable {P : Program} {w : World} {A : Around} {R : Result → Shared → Prop} {I : Addr} {fp wr : List Addr} {G : Array GenState → Array GenState → Prop} {n : Nat} {Pv : Nat → Value → Prop} {St : Nat → Shared → Prop}
theorem OF (W : WalksS P w A.in1 I fp wr G n Pv St) (S : Addr) (hSf : S ∉ fp) (val : Nat → Int) (hval : ∀ i v, Pv i v → ∃ t, v = .int (val i) t) (hb : n + 1 < scanBound) :
  ∀ (k i : Nat) (s : Shared) (ks : List Int), n - i = k → i ≤ n → St i s → SI P w s.heap S ks → ks.length ≤ i → (∀ z, z ∈ ks ↔ ∃ j, j < i ∧ z = val j) →
   (∀ s' ks', Moved (S :: wr) G s s' → SI P w s'.heap S ks' → (∀ z, z ∈ ks' ↔ ∃ j, j < n ∧ z = val j) → ks'.length ≤ n → R (.ok (.ret .none)) s') →
   codeAny (model P w) A (.builtin "set.update.loop" ⟨[.ref S, .ref I], []⟩) R s := by
 have hSw : S ∉ wr := fun h => hSf (W.sub _ h)
 have up : ∀ b, b ∈ wr → b ∈ S :: wr := fun _ h => List.mem_cons_of_mem _ h
 intro k
 induction k with
 | zero =>
  intro i s ks hk hi hst hS hl hm hR
  obtain rfl : i = n := by omega
  refine codeAny_builtin PyProof.Rows.F.entry_set_update_loop ?_; rw [Around.under_plainId PyProof.Rows.F.plain_set_update_loop _]
  refine wpAny_bind (W.done s _ _ hst fun s' mv => wpAny_pure ?_)
  exact hR s' ks (mv.mono up) (hS.same fun o e => mv.heap S o hSw e) hm hl
 | succ k ih =>
  intro i s ks hk hi hst hS hl hm hR
  have hlt : i < n := by omega
  refine codeAny_builtin PyProof.Rows.F.entry_set_update_loop ?_; rw [Around.under_plainId PyProof.Rows.F.plain_set_update_loop _]
  refine wpAny_bind (W.item i s _ _ hlt hst fun v s' hP hst' mv => ?_)
  obtain ⟨t, rfl⟩ := hval i v hP
  have hS' : SI P w s'.heap S ks := hS.same fun o e => mv.heap S o hSw e
  refine wpAny_bind (wpAny_holding ?_); unfold setAdd
  refine wpAny_holding (wpAny_bind ((intKind P w).pyHash (k := val i) (intKind_is _ _ _ _) ?_))
  refine RQ (s := { s' with toks := s'.toks + 1 }) hS' (by omega) fun h' ks' b sb hS2 hm2 hl2 => ?_
  refine wpAny_pure ⟨plainId_quiet PyProof.Rows.F.plain_set_update_loop _, ih (i + 1) _ ks' (by omega) hlt (W.frame _ s' _ _ hst' (Nat.le_succ _) fun b hb o e => ?_) hS2 (by omega) (fun z => ?_) fun s'' ks'' mv'' hS'' hm'' hl'' => ?_⟩
  ·exact (sb.2 b fun h : b = S => hSf (by rw [← h]; exact hb)).trans e
  ·rw [hm2, hm]
   constructor
   ·rintro (⟨j, hj, e⟩ | e)
    ·exact ⟨j, by omega, e⟩
    ·exact ⟨i, by omega, e⟩
   ·rintro ⟨j, hj, e⟩
    by_cases ej : j = i
    ·exact .inr (by rw [e, ej])
    ·exact .inl ⟨j, by omega, e⟩
  ·exact hR s'' ks'' (Moved.trans W.gtrans ((mv.mono up).then_heap (Nat.le_succ _) fun b o hb e => (sb.2 b fun h : b = S => hb (by rw [h]; exact List.mem_cons_self)).trans e) mv'') hS'' hm'' hl''
end
section
variable {P : Program} {w : World} {A : Around} {E : Value → Shared → Prop} {s : Shared}
noncomputable def VZ (w : World) : Obj := { cls := .type "set", dict := none, data := .set #[] 0 (.fresh 0 0 (!w.params.followText "set-order")) }
theorem OE {h : Heap} {a : Addr} (g : h.get? a = some (VZ w)) : SI P w h a [] :=
 ⟨_, #[], _, g, ⟨⟨rfl, rfl, rfl⟩, ⟨0, rfl⟩, fun e he => by simp at he, by decide, rfl, ⟨rfl, rfl, fun _ => List.Pairwise.nil⟩, by simp [KG]⟩, rfl⟩
theorem Zch (a : Value) {Q₁ : Value → Shared → Prop} (h : Q₁ (.ref s.heap.objs.size) { s with heap := s.heap.push (VZ w) }) :
  codeAny (model P w) A (.call (.builtin "set.__new__") ⟨[.type "set", a], []⟩) (wants Q₁ E) s := by
 refine codeAny_of_tree ?_
 refine wpAny_bind (m := checkBuiltinCall "set.__new__" ⟨[.type "set", a], []⟩) (wpAny_of_eq (PySem.F.newCall_set_1 a) (wpAny_pure ⟨plainId_quiet PySem.F.plain_set_new _, codeAny_builtin PySem.F.entry_set_new ?_⟩))
 rw [Around.under_plainId PySem.F.plain_set_new _]; unfold Builtin.«set.__new__» Builtin.Frozenset.newClass
 have hsub := sub_set_self
 obtain ⟨hp, g, d, tk, os⟩ := s; dsimp only; wp_walk
 refine wpAny_askSetting (wpAny_pure ?_); dsimp only; simp only [newObj]
 exact wpAny_bind (wpAny_alloc (wpAny_pure (wpAny_pure h)))
theorem getD_mem {ns : List Int} {n : Nat} (hn : ns.length = n) (z : Int) : (∃ j, j < n ∧ z = ns.getD j 0) ↔ z ∈ ns := by
 subst hn
 constructor
 ·rintro ⟨j, hj, rfl⟩
  rw [List.getD_eq_getElem?_getD, List.getElem?_eq_getElem hj]
  exact List.getElem_mem hj
 ·intro hz
  obtain ⟨j, hj, e⟩ := List.mem_iff_getElem.mp hz
  exact ⟨j, hj, by rw [List.getD_eq_getElem?_getD, List.getElem?_eq_getElem hj]; exact e.symm⟩
set_option maxHeartbeats 4000000 in
theorem set_list {l : Addr} {items : Array Value} {ns : List Int} {Q : Value → Shared → Prop} (hh : A.handled = none) (hl : s.heap.IsList l items) (hi : IntsAre items.toList ns) (hb : items.size + 1 < scanBound)
  (h : ∀ (h' : Heap) (tk : Nat) (ks : List Int), SI P w h' s.heap.objs.size ks → (∀ z, z ∈ ks ↔ z ∈ ns) → ks.length ≤ ns.length → (∀ b o, b < s.heap.objs.size → s.heap.get? b = some o → h'.get? b = some o) → Q (.ref s.heap.objs.size) { s with heap := h', toks := tk }) :
  wpAny (model P w) A (call (.type "set") [.ref l]) Q E s := by
 obtain ⟨c, tl, hmro⟩ := PySem.F.called_set.mro
 have ln : ns.length = items.size := by rw [← IntsAre.length hi, Array.length_toList]
 have hmade := PySem.F.called_set.made; have hsub := PySem.F.called_set.sub
 refine wpAny_call (codeAny_of_tree ?_); show wpAny _ _ (callAny (.type "set") _) _ _ _
 refine wpAny_pure ⟨Code.quiet_builtin _ (by decide +kernel), codeAny_builtin PySem.F.entry_type_call ?_⟩
 rw [Around.under_plain (weight_type_call_type "set" [.ref l] []) rfl]
 have h1 := PySem.F.called_set.notType; have h2 := PySem.F.called_set.canCreate; have hct := PySem.F.typeCall_set_1 (.ref l)
 repeat (any_goals (first | assumption | wp_step))
 refine codeAny_mono (Zch (P := P) (w := w) (.ref l) (E := E) (Q₁ := fun obj s₁ => obj = .ref s.heap.objs.size ∧ s₁ = { s with heap := s.heap.push (VZ w) }) ⟨rfl, rfl⟩) fun r s₁ hr => ?_
 cases r with
 | error e => exact hr
 | ok fl =>
  cases fl with
  | ret obj =>
   obtain ⟨rfl, rfl⟩ := hr
   have hS : (s.heap.push (VZ w)).get? s.heap.objs.size = some (VZ w) := Heap.get?_push_size _ rfl
   have hT : Shared.TypeIs { s with heap := s.heap.push (VZ w) } (.ref s.heap.objs.size) "set" := ⟨_, hS, rfl⟩
   have hli := PySem.F.called_set.init.lookup; have hbi := PySem.F.called_set.init.bind (.ref s.heap.objs.size)
   repeat (any_goals (first | assumption | wp_step))
   refine codeAny_mono (codeAny_call_builtin (R := wants (fun r s₂ => r = .none ∧ ∃ h' tk ks, s₂ = { s with heap := h', toks := tk } ∧ SI P w h' s.heap.objs.size ks ∧ (∀ z, z ∈ ks ↔ z ∈ ns) ∧ ks.length ≤ ns.length ∧ (∀ b o, b < s.heap.objs.size → s.heap.get? b = some o → h'.get? b = some o)) E)
    PySem.F.called_set.init.plain PySem.F.entry_set_init (check_set_init_1 hT ?_)) fun r₂ s₂ hr₂ => ?_
   ·obtain ⟨ol, hol, hcl, nl, hdl⟩ := hl
    obtain ⟨ocls, odict, odata, oslots⟩ := ol
    simp only at hcl hdl
    subst hcl; subst hdl
    have hol' : (s.heap.push (VZ w)).get? l = some { cls := .type "list", dict := odict, data := .seq items nl, slots := oslots } := Heap.get?_push_of_some _ hol
    have hsls := PySem.F.sub_list_set; have hslf := PySem.F.sub_list_frozenset; have hne : (Value.type "list" == Value.type "dict") = false := by decide
    have hl1 : (s.heap.push (VZ w)).IsList l items := ⟨_, hol', rfl, nl, rfl⟩
    unfold Builtin.«set.__init__» noKeywords Builtin.Frozenset.updateFrom
    generalize hPI : pyIter = PI; wp_walk; subst hPI
    refine wpAny_pyIter_list hl1 (wpAny_bind (wpAny_runValue ?_))
    have lS : l < s.heap.objs.size := Heap.lt_size hol
    have nI : l ≠ (s.heap.push (VZ w)).objs.size := by rw [Heap.size_push]; exact Nat.ne_of_lt (Nat.lt_succ_of_lt lS)
    have nS : s.heap.objs.size ∉ [(s.heap.push (VZ w)).objs.size, l] := by
     rw [Heap.size_push]; simp only [List.mem_cons, List.not_mem_nil, or_false, not_or]; exact ⟨Nat.ne_of_lt (Nat.lt_succ_self _), Nat.ne_of_gt lS⟩
    refine OF (P := P) (w := w) ((Walks.list (show A.in1.in1.in1.handled = none by simp [hh]) _ l nI items).toS) s.heap.objs.size nS (fun i => ns.getD i 0) (fun i v hv => IntsAre.int_at hi i v (by rw [Array.getElem?_toList]; exact hv)) hb (items.size - 0) 0 _ [] (by omega) (Nat.zero_le _)
     ⟨⟨_, Heap.get?_push_size _ rfl, rfl, rfl⟩, (hl1.push _)⟩ (OE (Heap.get?_push_of_some _ hS)) (Nat.le_refl _) (fun z => ⟨fun q => (nomatch q), fun ⟨j, hj, _⟩ => by omega⟩) ?_
    intro s' ks mv hS' hm hlk
    obtain ⟨h', g', d', tk', os'⟩ := s'
    have eg : g' = s.gens := mv.gens
    have ed : d' = s.drawn := mv.drawn
    have eo : os' = s.os := mv.os
    subst eg ed eo
    refine wpAny_pure (wpAny_pure ⟨rfl, h', tk', ks, rfl, hS', fun z => (hm z).trans (getD_mem ln z), by rw [ln]; exact hlk, fun b o hb e => ?_⟩)
    have b2 : b ≠ (s.heap.push (VZ w)).objs.size := by rw [Heap.size_push]; exact Nat.ne_of_lt (Nat.lt_succ_of_lt hb)
    exact mv.heap b o (by simp only [List.mem_cons, List.not_mem_nil, or_false, not_or]; exact ⟨Nat.ne_of_lt hb, b2⟩) (Heap.get?_push_of_some _ (Heap.get?_push_of_some _ e))
   ·cases r₂ with
    | error e => exact hr₂
    | ok fl₂ =>
     cases fl₂ with
     | ret r =>
      obtain ⟨rfl, h', tk, ks, rfl, q1, q2, q3, q4⟩ := hr₂
      repeat (any_goals (first | assumption | wp_step))
      exact h _ _ ks q1 q2 q3 q4
     | _ => exact hr₂.elim
  | _ => exact hr.elim
end
end DL
namespace DL
open PySem PySem.Spec PyProof.Rows L2 PySem.W
section
variable {P : Program} {w : World} {A : Around} {E : Value → Shared → Prop} {s : Shared}
theorem LS {src : Source} {n : Nat} {Q : Nat → Shared → Prop} (hn : n ≠ 0) (h : ∀ r, r < n → Q r { s with drawn := s.drawn.bump src }) : wpAny (model P w) A (choose src n) Q E s := fun _ _ _ => ⟨hn, h _ (Nat.mod_lt _ (Nat.pos_of_ne_zero hn))⟩
theorem Xf {α : Type} : ∀ (l : List α) (r : Nat) (h : r < l.length), (l[r] :: l.eraseIdx r).Perm l
 | a :: l, 0, _ => .refl _
 | a :: l, r + 1, h => by
  rw [List.getElem_cons_succ, List.eraseIdx_cons_succ]
  exact (List.Perm.swap a _ _).trans ((Xf l r (Nat.lt_of_succ_lt_succ h)).cons a)
theorem Fy {α : Type} : ∀ (n : Nat) (xs : List α) (s : Shared) (Q : List α → Shared → Prop), xs.length = n → (∀ ys d, ys.Perm xs → Q ys { s with drawn := d }) → wpAny (model P w) A (drawOrder n xs) Q E s
 | 0, xs, s, Q, hl, h => by
  cases xs with
  | nil => exact wpAny_pure (h [] s.drawn (.refl _))
  | cons a l => cases hl
 | n + 1, [], s, Q, hl, h => by cases hl
 | n + 1, a :: l, s, Q, hl, h => by
  unfold drawOrder
  refine wpAny_bind (LS (by simp) fun r hr => ?_)
  rw [List.getElem?_eq_getElem hr]; dsimp only
  refine wpAny_bind (Fy n _ _ _ (by rw [List.length_eraseIdx, if_pos hr]; simpa using hl) fun ys d hp => wpAny_pure ?_)
  exact h _ d ((hp.cons _).trans (Xf _ _ hr))
theorem Ls {α : Type} (next : Nat → Nat) : ∀ (fuel k : Nat) (left : List α) (out : Array α), left.length = fuel → (pickOrder.go next fuel k left out).toList.Perm (out.toList ++ left)
 | 0, k, left, out, hl => by
  rw [List.length_eq_zero_iff.mp hl, List.append_nil]
  unfold pickOrder.go
  exact .refl _
 | fuel + 1, k, left, out, hl => by
  have hr : next k % left.length < left.length := Nat.mod_lt _ (by omega)
  unfold pickOrder.go
  rw [List.getElem?_eq_getElem hr]; dsimp only
  refine (Ls next fuel (k + 1) _ _ (by rw [List.length_eraseIdx, if_pos hr, hl]; rfl)).trans ?_
  rw [Array.toList_push, List.append_assoc]
  exact (List.Perm.refl _).append (Xf _ _ hr)
theorem YM {α : Type} (next : Nat → Nat) (xs : Array α) : (pickOrder next xs).toList.Perm xs.toList := by
 unfold pickOrder
 have := Ls next xs.size 0 xs.toList #[] (by rw [Array.length_toList])
 simpa using this
noncomputable abbrev Yc (h : Heap) (it : Addr) (first : Value) (i : Nat) (S : Addr) (n ep : Nat) : Prop :=
 h.get? it = some { cls := .type "set_iterator", dict := none, data := .fields #[first, rawInt i, .ref S, rawInt n, rawInt ep], slots := #[] }
noncomputable def Md (w : World) (h : Heap) (first : Value) (i : Nat) (S : Addr) (es : EB) (ep : Nat) (t : SetTable) (L : List Value) : Prop :=
 (w.params.followText "set-order" = true ∧ first = rawInt 0 ∧ L = (pickOrder (w.params.setOrder S ep) es).toList.map (·.2)) ∨
 (w.params.followText "set-order" = false ∧ ∃ (T : Addr) (ps : List Nat), first = .ref T ∧ IsTup h T (ps.map fun p : Nat => rawInt (p : Int)).toArray ∧ ps.Perm (List.range es.size) ∧ L = ps.map fun p => (es.getD p (0, .none)).2) ∨
 (w.params.followText "set-order" = false ∧ first = rawInt (if i = 0 then 0 else t.place.getD (i - 1) 0 + 1) ∧ Rsg t.place.toList ∧ t.led = true ∧ (t.plain = true ∨ es.size ≤ 1) ∧ L = es.toList.map (·.2))
theorem Zaz {it S : Addr} {first x : Value} {i n ep : Nat} {z : Int} {Q : PySem.Fin → Shared → Prop} (hit : Yc s.heap it first i S n ep) (hQ : ∀ h', Yc h' it (rawInt z) (i + 1) S n ep → Heap.SameBut it s.heap h' → Q (.done (.ret x)) { s with heap := h' }) :
  wpAny (model P w) A (do setField (.ref it) 0 (rawInt z); setField (.ref it) 1 (rawInt ((i : Int) + 1)); ret x) Q E s := by
 refine wpAny_bind (wpAny_setField_rec hit (by simp) fun h1 g1 s1 => ?_)
 refine wpAny_bind (wpAny_setField_rec (s := { s with heap := h1 }) g1 (by simp) fun h2 g2 s2 => wpAny_pure ?_)
 exact hQ h2 g2 (s1.trans s2)
theorem ZdH {it S : Addr} {first x : Value} {i n ep : Nat} {Q : PySem.Fin → Shared → Prop} (hit : Yc s.heap it first i S n ep) (hQ : ∀ h', Yc h' it first (i + 1) S n ep → Heap.SameBut it s.heap h' → Q (.done (.ret x)) { s with heap := h' }) :
  wpAny (model P w) A (do setField (.ref it) 1 (rawInt ((i : Int) + 1)); ret x) Q E s :=
 wpAny_bind (wpAny_setField_rec hit (by simp) fun h1 g1 s1 => wpAny_pure (hQ h1 g1 s1))
theorem LL {S : Addr} {ep : Nat} {o : Obj} {es : EB} {t : SetTable} {Q : EB → Shared → Prop} (ho : s.heap.get? S = some o) (hd : o.data = .set es ep t) (hf : t.fits es.size = true) (bt : w.params.followText "set-order" = true) (h : Q (pickOrder (w.params.setOrder S ep) es) s) : wpAny (model P w) A (setWalk S) Q E s := by
 unfold setWalk setsByText
 refine wpAny_bind (wpAny_setState_of ho hd hf ?_); dsimp only
 refine wpAny_bind (wpAny_bind (wpAny_askSetting (wpAny_pure ?_)))
 rw [if_pos (show (model P w).w.params.followText "set-order" = true from bt)]
 exact wpAny_bind (wpAny_askSetting (wpAny_pure h))
theorem below_at {xs : Array Nat} (h : Rsg xs.toList) {i : Nat} (hi : i < xs.size) : SetTable.below xs (if i = 0 then 0 else xs.getD (i - 1) 0 + 1) = i := by
 have sp := Wh h (if i = 0 then 0 else xs.getD (i - 1) 0 + 1)
 generalize SetTable.below xs (if i = 0 then 0 else xs.getD (i - 1) 0 + 1) = r at sp
 obtain ⟨s1, s2, s3⟩ := sp
 rw [Array.length_toList] at s3
 have at' : ∀ k, k < xs.size → xs.toList[k]? = some (xs.getD k 0) := fun k hk => by rw [Array.getElem?_toList, Array.getElem?_eq_getElem hk]; simp [Array.getD, hk]
 by_cases e : i = 0
 ·subst e
  rw [if_pos rfl] at s1
  by_cases hr : r = 0
  ·exact hr
  ·exact absurd (s1 0 _ (by omega) (at' 0 (by omega))) (Nat.not_lt_zero _)
 ·rw [if_neg e] at s1 s2
  have h1 : ¬ r ≤ i - 1 := fun z => by
   have := s2 _ _ z (at' (i - 1) (by omega))
   omega
  have h2 : ¬ i < r := fun z => by
   have a := s1 i _ z (at' i hi)
   have b := h.lt (at' (i - 1) (by omega)) (at' i hi) (by omega)
   omega
  omega
theorem Sz {it S : Addr} {first : Value} {i n ep : Nat} {o : Obj} {es : EB} {t : SetTable} {L : List Value} {Q : Fin → Shared → Prop} (hit : Yc s.heap it first i S n ep) (ho : s.heap.get? S = some o) (hd : o.data = .set es ep t) (hf : t.fits es.size = true) (hn : es.size = n)
  (md : Md w s.heap first i S es ep t L) (hi : i < n)
  (hQ : ∀ h' v first', L[i]? = some v → Yc h' it first' (i + 1) S n ep → Heap.SameBut it s.heap h' → (∀ h'', (∀ b o, s.heap.get? b = some o → b ≠ it → h''.get? b = some o) → Md w h'' first' (i + 1) S es ep t L) → (∀ T', first' = .ref T' → first = .ref T') → Q (.done (.ret v)) { s with heap := h' }) :
  wpAny (model P w) A (Builtin.«set_iterator.__next__» ⟨[.ref it], []⟩) Q E s := by
 subst hn
 show wpAny _ _ (fieldsOf (.ref it) >>= _) _ _ _
 refine wpAny_bind (wpAny_fieldsOf hit rfl ?_)
 refine wpAny_bind (wpAny_setEntries_of ho hd hf ?_)
 rw [if_neg (by simp)]; dsimp only
 rcases md with ⟨bt, rfl, rfl⟩ | ⟨bt, T, ps, rfl, hT, hp, rfl⟩ | ⟨bt, rfl, up, led, pl, rfl⟩
 ·show wpAny _ _ (setNext S 0 ((i : Int)).toNat ((ep : Int)).toNat >>= _) _ _ _
  rw [Int.toNat_natCast, Int.toNat_natCast]
  unfold setNext setsByText
  refine wpAny_bind (wpAny_bind (wpAny_setState_of ho hd hf ?_)); dsimp only
  refine wpAny_bind (wpAny_bind (wpAny_askSetting (wpAny_pure ?_)))
  rw [if_pos (show (model P w).w.params.followText "set-order" = true from bt), if_neg (by simp)]
  refine wpAny_bind (LL ho hd hf bt (wpAny_pure ?_))
  have lp : (pickOrder (w.params.setOrder S ep) es).size = es.size := by rw [← Array.length_toList, (YM _ es).length_eq, Array.length_toList]
  rw [Array.getElem?_eq_getElem (by rw [lp]; exact hi)]
  refine Zaz (z := ((0 : Nat) : Int)) hit fun h' g sb => hQ h' _ _ ?_ g sb (fun h'' _ => .inl ⟨bt, rfl, rfl⟩) fun T' e => nomatch e
  rw [List.getElem?_map, Array.getElem?_toList, Array.getElem?_eq_getElem (by rw [lp]; exact hi)]
  rfl
 ·show wpAny _ _ (seqItems? (.ref T) >>= _) _ _ _
  obtain ⟨oT, gT, cT, nT, dT⟩ := hT
  have lp : ps.length = es.size := by rw [hp.length_eq, List.length_range]
  refine wpAny_bind (wpAny_seqItems gT dT ?_); dsimp only
  have ip : i < ps.length := by omega
  have pe : ps[i] < es.size := List.mem_range.mp (hp.mem_iff.mp (List.getElem_mem ip))
  rw [Int.toNat_natCast, List.getElem?_toArray, List.getElem?_map, List.getElem?_eq_getElem ip]
  show wpAny _ _ (setNextDrawn S ((ps[i] : Int)).toNat ((ep : Int)).toNat >>= _) _ _ _
  rw [Int.toNat_natCast, Int.toNat_natCast]; unfold setNextDrawn
  refine wpAny_bind (wpAny_bind (wpAny_setState_of ho hd hf ?_)); dsimp only
  rw [if_neg (by simp), Array.getElem?_eq_getElem pe]; dsimp only
  refine wpAny_pure (ZdH hit fun h' g sb => hQ h' _ _ ?_ g sb (fun h'' kk => .inr (.inl ⟨bt, T, ps, rfl, ⟨oT, kk T oT gT ?_, cT, nT, dT⟩, hp, rfl⟩)) fun T' e => e)
  ·rw [List.getElem?_map, List.getElem?_eq_getElem ip]
   simp [Array.getD, pe]
  ·intro e
   rw [e, hit] at gT
   cases gT
   exact absurd (Value.type.inj cT) (by decide)
 ·have sz : t.place.size = es.size := by
   unfold SetTable.fits at hf
   rw [Bool.and_eq_true] at hf
   exact eq_of_beq hf.1
  show wpAny _ _ (setNext S ((if i = 0 then (0 : Int) else (t.place.getD (i - 1) 0 : Int) + 1)).toNat ((i : Int)).toNat ((ep : Int)).toNat >>= _) _ _ _
  have ez : (if i = 0 then (0 : Int) else (t.place.getD (i - 1) 0 : Int) + 1).toNat = (if i = 0 then 0 else t.place.getD (i - 1) 0 + 1) := by split <;> omega
  rw [ez, Int.toNat_natCast, Int.toNat_natCast]
  unfold setNext setsByText
  refine wpAny_bind (wpAny_bind (wpAny_setState_of ho hd hf ?_)); dsimp only
  refine wpAny_bind (wpAny_bind (wpAny_askSetting (wpAny_pure ?_)))
  rw [if_neg (show ¬ (model P w).w.params.followText "set-order" = true by rw [show (model P w).w.params.followText "set-order" = false from bt]; exact Bool.false_ne_true)]
  have nd : (!t.plain && decide (es.size > 1)) = false := by
   rcases pl with pl | pl
   ·rw [pl]; rfl
   ·rw [decide_eq_false (by omega), Bool.and_false]
  show wpAny _ _ (if (!t.plain && decide (es.size > 1)) = true then _ else _) _ _ _
  rw [nd, if_neg Bool.false_ne_true]
  show wpAny _ _ ((if (!t.led && !es.isEmpty) = true then unsupported "set:maker-not-led" else pure ()) >>= _) _ _ _
  rw [led]; simp only [Bool.not_true, Bool.false_and, Bool.false_eq_true, if_false]
  refine wpAny_bind (wpAny_pure (wpAny_pure ?_))
  rw [below_at up (by rw [sz]; exact hi), Array.getElem?_eq_getElem hi, Array.getElem?_eq_getElem (by rw [sz]; exact hi)]; dsimp only
  refine Zaz (z := ((t.place[i]'(by rw [sz]; exact hi) + 1 : Nat) : Int)) hit fun h' g sb => hQ h' _ _ ?_ g sb (fun h'' _ => .inr (.inr ⟨bt, ?_, up, led, pl, rfl⟩)) fun T' e => nomatch e
  ·rw [List.getElem?_map, Array.getElem?_toList, Array.getElem?_eq_getElem hi]
   rfl
  ·rw [if_neg (Nat.succ_ne_zero i)]
   simp [Array.getD, sz, hi]
end
end DL
namespace DL
open PySem PySem.Spec PyProof.Rows L2 PySem.W
theorem J5 : Slot "set_iterator" "__next__" "set_iterator.__next__" := .of (owner := "set_iterator") (n := "__next__") (by rw [typeLookup_type, builtinLookup_eq_fast]; kernel_rfl) (by decide +kernel) (by decide +kernel) (by decide +kernel) (by first | exact .inl (by decide +kernel) | exact .inr (by decide +kernel)) (by rw [isSubtype_type]; kernel_rfl)
theorem GY : entryFor table "set_iterator.__next__" = some Builtin.«set_iterator.__next__» := entryFor_of_tree (by kernel_rfl)
theorem C9 (a : Value) : argsOk "set_iterator.__next__" ⟨[a], []⟩ := by unfold argsOk; kernel_rfl
theorem Gn : Slot "set_iterator" "__iter__" "set_iterator.__iter__" := .of (owner := "set_iterator") (n := "__iter__") (by rw [typeLookup_type, builtinLookup_eq_fast]; kernel_rfl) (by decide +kernel) (by decide +kernel) (by decide +kernel) (by first | exact .inl (by decide +kernel) | exact .inr (by decide +kernel)) (by rw [isSubtype_type]; kernel_rfl)
theorem DJ : entryFor table "set_iterator.__iter__" = some Builtin.«dict_keyiterator.__iter__» :=
 entryFor_alias (id' := "dict_keyiterator.__iter__") (by kernel_rfl) (by first | rfl | decide +kernel | (unfold String.splitOn; simp +decide [String.splitOnAux])) (by decide +kernel) (by kernel_rfl)
theorem FF (a : Value) : argsOk "set_iterator.__iter__" ⟨[a], []⟩ := by unfold argsOk; kernel_rfl
theorem Ba : entryFor table "set.__iter__" = some Builtin.«frozenset.__iter__» :=
 entryFor_alias (id' := "frozenset.__iter__") (by kernel_rfl) (by first | rfl | decide +kernel | (unfold String.splitOn; simp +decide [String.splitOnAux])) (by decide +kernel) (by kernel_rfl)
section
variable {P : Program} {w : World} {A : Around} {E : Value → Shared → Prop} {s : Shared}
theorem FT {α : Type} {Q : α → Shared → Prop} (hh : A.handled = none) (hE : ∀ h' e, (∀ b o, s.heap.get? b = some o → h'.get? b = some o) → (∃ o, h'.get? e = some o ∧ o.cls = .type "StopIteration") → E (.ref e) { s with heap := h' }) :
  wpAny (model P w) A (newExc (.type "StopIteration") [] >>= fun e => (raiseNew e : Sem α)) Q E s := by
 refine wpAny_bind ?_
 simp only [newExc, newTuple]
 refine wpAny_bind (wpAny_newObj_type ?_ (by size_fits))
 refine wpAny_bind (m := firstArgMember _ _) (wpAny_of_eq (a := Value.none) (by first | rfl | (simp only [firstArgMember]; rfl)) ?_)
 refine wpAny_newObj_type ?_ (by size_fits)
 simp only [raiseNew]
 refine wpAny_bind (wpAny_handled ?_)
 rw [hh]
 refine wpAny_bind (wpAny_pure (wpAny_throw ?_))
 exact hE _ _ (fun b o q => Heap.get?_push_of_some _ (Heap.get?_push_of_some _ q)) ⟨_, Heap.get?_push_size _ rfl, rfl⟩
theorem TL {it S : Addr} {first : Value} {n ep : Nat} {o : Obj} {es : EB} {t : SetTable} {L : List Value} {Q : PySem.Fin → Shared → Prop} (hh : A.handled = none) (hit : Yc s.heap it first n S n ep) (ho : s.heap.get? S = some o) (hd : o.data = .set es ep t) (hf : t.fits es.size = true) (hn : es.size = n)
  (md : Md w s.heap first n S es ep t L) (hE : ∀ h' e, (∀ b o, b ≠ it → s.heap.get? b = some o → h'.get? b = some o) → (∃ o, h'.get? e = some o ∧ o.cls = .type "StopIteration") → E (.ref e) { s with heap := h' }) :
  wpAny (model P w) A (Builtin.«set_iterator.__next__» ⟨[.ref it], []⟩) Q E s := by
 subst hn
 have fin : wpAny (model P w) A (do setField (.ref it) 2 .none; raiseNew (← newExc (.type "StopIteration") []) : Sem PySem.Fin) Q E s :=
  wpAny_bind (wpAny_setField_rec hit (by simp) fun h1 g1 s1 => FT (s := { s with heap := h1 }) hh fun h' e k x => hE h' e (fun b o hb q => k b o ((s1.2 b hb).trans q)) x)
 show wpAny _ _ (fieldsOf (.ref it) >>= _) _ _ _
 refine wpAny_bind (wpAny_fieldsOf hit rfl (wpAny_bind (wpAny_setEntries_of ho hd hf ?_)))
 rw [if_neg (by simp)]; dsimp only
 rcases md with ⟨bt, rfl, rfl⟩ | ⟨bt, T, ps, rfl, hT, hp, rfl⟩ | ⟨bt, rfl, up, led, pl, rfl⟩
 ·show wpAny _ _ (setNext S 0 ((es.size : Int)).toNat ((ep : Int)).toNat >>= _) _ _ _
  rw [Int.toNat_natCast, Int.toNat_natCast]; unfold setNext setsByText
  refine wpAny_bind (wpAny_bind (wpAny_setState_of ho hd hf (wpAny_bind (wpAny_bind (wpAny_askSetting (wpAny_pure ?_))))))
  rw [if_pos (show (model P w).w.params.followText "set-order" = true from bt), if_neg (by simp)]
  refine wpAny_bind (LL ho hd hf bt (wpAny_pure ?_))
  have lp : (pickOrder (w.params.setOrder S ep) es).size = es.size := by rw [← Array.length_toList, (YM _ es).length_eq, Array.length_toList]
  rw [Array.getElem?_eq_none (by rw [lp]; exact Nat.le_refl _)]
  exact fin
 ·show wpAny _ _ (seqItems? (.ref T) >>= _) _ _ _
  obtain ⟨oT, gT, cT, nT, dT⟩ := hT
  have lp : ps.length = es.size := by rw [hp.length_eq, List.length_range]
  refine wpAny_bind (wpAny_seqItems gT dT ?_); dsimp only
  rw [Int.toNat_natCast, List.getElem?_toArray, List.getElem?_map, List.getElem?_eq_none (by omega)]; dsimp only [Option.map_none]
  refine wpAny_bind (wpAny_setField_rec hit (by simp) fun h0 g0 s0 => ?_)
  exact wpAny_bind (wpAny_setField_rec (s := { s with heap := h0 }) g0 (by simp) fun h1 g1 s1 => FT (s := { s with heap := h1 }) hh fun h' e k x => hE h' e (fun b o hb q => k b o ((s1.2 b hb).trans ((s0.2 b hb).trans q))) x)
 ·have sz : t.place.size = es.size := by
   unfold SetTable.fits at hf
   rw [Bool.and_eq_true] at hf
   exact eq_of_beq hf.1
  show wpAny _ _ (setNext S ((if es.size = 0 then (0 : Int) else (t.place.getD (es.size - 1) 0 : Int) + 1)).toNat ((es.size : Int)).toNat ((ep : Int)).toNat >>= _) _ _ _
  rw [Int.toNat_natCast, Int.toNat_natCast]; unfold setNext setsByText
  refine wpAny_bind (wpAny_bind (wpAny_setState_of ho hd hf (wpAny_bind (wpAny_bind (wpAny_askSetting (wpAny_pure ?_))))))
  rw [if_neg (show ¬ (model P w).w.params.followText "set-order" = true by rw [show (model P w).w.params.followText "set-order" = false from bt]; exact Bool.false_ne_true)]
  have nd : (!t.plain && decide (es.size > 1)) = false := by
   rcases pl with pl | pl
   ·rw [pl]; rfl
   ·rw [decide_eq_false (by omega), Bool.and_false]
  show wpAny _ _ (if (!t.plain && decide (es.size > 1)) = true then _ else _) _ _ _
  rw [nd, if_neg Bool.false_ne_true]
  show wpAny _ _ ((if (!t.led && !es.isEmpty) = true then unsupported "set:maker-not-led" else pure ()) >>= _) _ _ _
  rw [led]; simp only [Bool.not_true, Bool.false_and, Bool.false_eq_true, if_false]
  refine wpAny_bind (wpAny_pure (wpAny_pure ?_))
  have bl : SetTable.below t.place ((if es.size = 0 then (0 : Int) else (t.place.getD (es.size - 1) 0 : Int) + 1)).toNat = es.size := by
   obtain ⟨s1, s2, s3⟩ := Wh up ((if es.size = 0 then (0 : Int) else (t.place.getD (es.size - 1) 0 : Int) + 1)).toNat
   rw [Array.length_toList, sz] at s3
   by_cases e : es.size = 0
   ·omega
   ·rw [if_neg e] at s1 s2 s3 ⊢
    by_cases hr : SetTable.below t.place ((t.place.getD (es.size - 1) 0 : Int) + 1).toNat ≤ es.size - 1
    ·have := s2 _ _ hr (show t.place.toList[es.size - 1]? = some (t.place.getD (es.size - 1) 0) by rw [Array.getElem?_toList, Array.getElem?_eq_getElem (by omega)]; simp [Array.getD, sz]; omega)
     omega
    ·omega
  rw [bl, Array.getElem?_eq_none (Nat.le_refl _)]
  exact fin
noncomputable def ZbI (w : World) (it S T : Addr) (es : EB) (ep : Nat) (t : SetTable) (L : List Value) (i : Nat) (h : Heap) : Prop :=
 ∃ first o, Yc h it first i S es.size ep ∧ h.get? S = some o ∧ o.data = .set es ep t ∧ t.fits es.size = true ∧ Md w h first i S es ep t L ∧ ∀ T', first = .ref T' → T' = T
theorem Md.keep {h h' : Heap} {first : Value} {i : Nat} {S : Addr} {es : EB} {ep : Nat} {t : SetTable} {L : List Value} (md : Md w h first i S es ep t L) (k : ∀ T, first = .ref T → ∀ o, h.get? T = some o → h'.get? T = some o) : Md w h' first i S es ep t L := by
 rcases md with md | ⟨bt, T, ps, e, ⟨o, g, r⟩, r'⟩ | md
 ·exact .inl md
 ·exact .inr (.inl ⟨bt, T, ps, e, ⟨o, k T e o g, r⟩, r'⟩)
 ·exact .inr (.inr md)
theorem Fj {es : EB} {ep : Nat} {t : SetTable} {L : List Value} (hh : A.handled = none) (it S T : Addr) (hS : S ≠ it) (hT : T ≠ it) : Walks P w A it [it, S, T] [it] es.size (fun i v => L[i]? = some v) (ZbI w it S T es ep t L) where
 sub := fun b hb => by simp at hb; simp [hb]
 frame := fun i h h' st hk => by
  obtain ⟨first, o, g1, g2, d, f, md, hf⟩ := st
  exact ⟨first, o, hk it (by simp) _ g1, hk S (by simp) _ g2, d, f, md.keep fun T' e o q => hk T' (by rw [hf T' e]; simp) o q, hf⟩
 item := fun i s Q E hi st hQ => by
  obtain ⟨first, o, g1, g2, d, f, md, hf⟩ := st
  have hTy : s.TypeIs (.ref it) "set_iterator" := ⟨_, g1, rfl⟩
  unfold pyNext
  refine wpAny_bind (wpAny_attempt (wpAny_callSpecial?_slot (name := Str.ofString "__next__") hTy J5 (wpAny_call_entry J5 hTy GY (Sz g1 g2 d f rfl md hi fun h' v first' hv g' sb mk fr => ⟨v, rfl, wpAny_pure ?_⟩) (C9 _))))
  exact hQ v h' s.toks hv ⟨first', o, g', (sb.2 S hS).trans g2, d, f, mk h' fun b o q hb => (sb.2 b hb).trans q, fun T' e => hf T' (fr T' e)⟩ fun b o hb q => (sb.2 b fun e => hb (by simp [e])).trans q
 done := fun s Q E st hQ => by
  obtain ⟨first, o, g1, g2, d, f, md, hf⟩ := st
  have hTy : s.TypeIs (.ref it) "set_iterator" := ⟨_, g1, rfl⟩
  unfold pyNext
  refine wpAny_bind (wpAny_attempt (wpAny_callSpecial?_slot (name := Str.ofString "__next__") hTy J5 (wpAny_call_entry J5 hTy GY (TL (by first | exact hh | simp [hh]) g1 g2 d f rfl md fun h' e k x => ?_) (C9 _))))
  obtain ⟨oe, ge, ce⟩ := x
  refine wpAny_bind (wpAny_isInstance (T := "StopIteration") (b := true) ⟨oe, ge, ce⟩ isSubtype_stop (wpAny_pure ?_))
  exact hQ h' s.toks fun b o hb q => k b o (fun e => hb (by simp [e])) q
 self := fun i s Q E st hQ => by
  obtain ⟨first, o, g1, _⟩ := st
  have hTy : s.TypeIs (.ref it) "set_iterator" := ⟨_, g1, rfl⟩
  refine wpAny_pyIter_slot hTy Gn (wpAny_call_entry Gn hTy DJ ?_ (FF _))
  exact wpAny_pure ⟨_, rfl, "set_iterator", _, hTy, J5.lookup, hQ⟩
theorem SU {S : Addr} {ks : List Int} {Q : Value → Shared → Prop} (hS : SI P w s.heap S ks)
  (hQ : ∀ it T es ep t L h' d, ZbI w it S T es ep t L 0 h' → S ≠ it → T ≠ it → s.heap.objs.size ≤ it → (T = S ∨ s.heap.objs.size ≤ T) → (L.map FX).Perm ks → (∀ v ∈ L, ∃ t, v = .int (FX v) t) → es.size = ks.length → (∀ b o, s.heap.get? b = some o → h'.get? b = some o) → Q (.ref it) { s with heap := h', drawn := d }) :
  wpAny (model P w) A (pyIter (.ref S)) Q E s := by
 obtain ⟨o, es, t, g, so, rfl⟩ := hS
 obtain ⟨ep, hd⟩ := so.dt
 have hTy : s.TypeIs (.ref S) "set" := ⟨o, g, so.ex.1⟩
 have all : ∀ v ∈ es.toList.map (·.2), ∃ t, v = .int (FX v) t := fun v hv => by
  obtain ⟨e, he, rfl⟩ := List.mem_map.mp hv
  exact CF so.el he
 have len : es.size = (KG es).length := by unfold KG; rw [List.length_map, Array.length_toList]
 have lt : S < s.heap.objs.size := Heap.lt_size g
 refine wpAny_pyIter_slot hTy PySem.F.slot_set_iter (wpAny_call_entry PySem.F.slot_set_iter hTy Ba ?_ (PySem.F.args_set_iter_1 _))
 show wpAny _ _ (Builtin.Frozenset.sizeOf S >>= _) _ _ _
 unfold Builtin.Frozenset.sizeOf
 refine wpAny_bind (wpAny_bind (wpAny_setEntries_of g hd so.ft (wpAny_pure ?_)))
 unfold setDrawn setsByText
 refine wpAny_bind (wpAny_bind (wpAny_setState_of g hd so.ft ?_)); dsimp only
 refine wpAny_bind (wpAny_bind (wpAny_askSetting (wpAny_pure (wpAny_pure ?_))))
 have fin : ∀ (first : Value) (s₁ : Shared), s₁.heap.get? S = some o → wpAny (model P w) A.in1 (do
    let e ← setEpoch S
    let it ← newFields "set_iterator" [first, rawInt 0, Value.ref S, rawInt (es.size : Int), rawInt (e : Int)]
    ret it) (fun fin s' => ∃ v, fin = PySem.Fin.done (Flow.ret v) ∧ v = .ref s₁.heap.objs.size ∧ s' = { s₁ with heap := s₁.heap.push { cls := .type "set_iterator", dict := none, data := .fields #[first, rawInt 0, .ref S, rawInt es.size, rawInt ep], slots := #[] } }) E s₁ := fun first s₁ g₁ => by
  refine wpAny_bind (wpAny_setEpoch_of g₁ hd so.ft ?_)
  unfold newFields
  refine wpAny_bind (wpAny_newObj_type ?_ (by size_fits))
  exact wpAny_pure ⟨_, rfl, rfl, rfl⟩
 have nx : ∀ (s' : Shared) (it : Addr) (first : Value), s'.heap.get? it = some { cls := .type "set_iterator", dict := none, data := .fields #[first, rawInt 0, .ref S, rawInt es.size, rawInt ep], slots := #[] } → s'.TypeIs (.ref it) "set_iterator" := fun _ _ _ q => ⟨_, q, rfl⟩
 show wpAny _ _ (if (!w.params.followText "set-order" && (!t.plain && decide (es.size > 1))) = true then _ else _) _ _ _
 cases bt : w.params.followText "set-order" with
 | true =>
  simp only [Bool.not_true, Bool.false_and, Bool.false_eq_true, if_false]
  refine wpAny_bind (wpAny_pure (wpAny_mono (fin (rawInt 0) s g) (fun r s' ⟨v, e1, e2, e3⟩ => ?_) fun _ _ q => q))
  subst e1 e2 e3
  have gi : (s.heap.push { cls := .type "set_iterator", dict := none, data := .fields #[rawInt 0, rawInt 0, .ref S, rawInt es.size, rawInt ep], slots := #[] }).get? s.heap.objs.size = some _ := Heap.get?_push_size _ rfl
  refine ⟨_, rfl, "set_iterator", _, nx _ _ _ gi, J5.lookup, hQ _ S es ep t _ _ s.drawn ⟨_, o, gi, Heap.get?_push_of_some _ g, hd, so.ft, .inl ⟨bt, rfl, rfl⟩, fun T' e => nomatch e⟩ (Nat.ne_of_lt lt) (Nat.ne_of_lt lt) (Nat.le_refl _) (.inl rfl) ?_ ?_ len fun b o q => Heap.get?_push_of_some _ q⟩
  ·rw [List.map_map]
   exact (YM _ es).map _
  ·intro v hv
   exact all v (((YM _ es).map _).mem_iff.mp hv)
 | false =>
  cases dr : (!t.plain && decide (es.size > 1)) with
  | false =>
   simp only [Bool.not_false, Bool.true_and, Bool.false_eq_true, if_false]
   refine wpAny_bind (wpAny_pure (wpAny_mono (fin (rawInt 0) s g) (fun r s' ⟨v, e1, e2, e3⟩ => ?_) fun _ _ q => q))
   subst e1 e2 e3
   have gi : (s.heap.push { cls := .type "set_iterator", dict := none, data := .fields #[rawInt 0, rawInt 0, .ref S, rawInt es.size, rawInt ep], slots := #[] }).get? s.heap.objs.size = some _ := Heap.get?_push_size _ rfl
   have pl : t.plain = true ∨ es.size ≤ 1 := by
    cases hp : t.plain with
    | true => exact .inl rfl
    | false =>
     rw [hp] at dr
     have := of_decide_eq_false (show decide (es.size > 1) = false from dr)
     exact .inr (by omega)
   have up : Rsg t.place.toList := by
    rcases pl with pl | pl
    ·exact so.ok.up pl
    ·have sz : t.place.toList.length ≤ 1 := by
      have hf := so.ft
      unfold SetTable.fits at hf
      rw [Bool.and_eq_true] at hf
      rw [Array.length_toList, eq_of_beq hf.1]
      exact pl
     match t.place.toList, sz with
     | [], _ => exact List.Pairwise.nil
     | [a], _ => exact List.pairwise_singleton _ _
   refine ⟨_, rfl, "set_iterator", _, nx _ _ _ gi, J5.lookup, hQ _ S es ep t _ _ s.drawn ⟨_, o, gi, Heap.get?_push_of_some _ g, hd, so.ft, .inr (.inr ⟨bt, rfl, up, by rw [so.ok.led, bt]; rfl, pl, rfl⟩), fun T' e => nomatch e⟩ (Nat.ne_of_lt lt) (Nat.ne_of_lt lt) (Nat.le_refl _) (.inl rfl) ?_ all len fun b o q => Heap.get?_push_of_some _ q⟩
   rw [List.map_map]
   exact .refl _
  | true =>
   simp only [Bool.not_false, Bool.true_and, if_true]
   refine wpAny_bind (Fy _ _ _ _ List.length_range fun ps d hp => ?_)
   have lp : ps.length = es.size := by rw [hp.length_eq, List.length_range]
   refine wpAny_bind (wpAny_newTuple ?_ (by rw [List.length_map, lp]; exact fits_of_scanBound so.bd))
   refine wpAny_mono (fin (.ref s.heap.objs.size) _ (Heap.get?_push_of_some _ g)) (fun r s' ⟨v, e1, e2, e3⟩ => ?_) fun _ _ q => q
   subst e1 e2 e3
   have sz : (s.heap.push { cls := .type "tuple", data := .seq (ps.map fun p : Nat => rawInt (p : Int)).toArray }).objs.size = s.heap.objs.size + 1 := Heap.size_push ..
   have gT : (s.heap.push { cls := .type "tuple", data := .seq (ps.map fun p : Nat => rawInt (p : Int)).toArray }).get? s.heap.objs.size = some _ := Heap.get?_push_size _ rfl
   have gi : ((s.heap.push { cls := .type "tuple", data := .seq (ps.map fun p : Nat => rawInt (p : Int)).toArray }).push { cls := .type "set_iterator", dict := none, data := .fields #[.ref s.heap.objs.size, rawInt 0, .ref S, rawInt es.size, rawInt ep], slots := #[] }).get? (s.heap.push { cls := .type "tuple", data := .seq (ps.map fun p : Nat => rawInt (p : Int)).toArray }).objs.size = some _ := Heap.get?_push_size _ rfl
   have pm : (ps.map fun p => (es.getD p (0, Value.none)).2).Perm (es.toList.map (·.2)) := by
    refine (hp.map _).trans (.of_eq ?_)
    refine List.ext_getElem (by simp) fun i h1 h2 => ?_
    have hi : i < es.size := by simpa using h1
    simp [Array.getD, hi]
   refine ⟨_, rfl, "set_iterator", _, nx _ _ _ gi, J5.lookup, hQ _ s.heap.objs.size es ep t _ _ d ⟨_, o, gi, Heap.get?_push_of_some _ (Heap.get?_push_of_some _ g), hd, so.ft, .inr (.inl ⟨bt, s.heap.objs.size, ps, rfl, ⟨_, Heap.get?_push_of_some _ gT, rfl, _, rfl⟩, hp, rfl⟩), fun T' e => by cases e; rfl⟩ ?_ ?_ ?_ (.inr (Nat.le_refl _)) ?_ ?_ len fun b o q => Heap.get?_push_of_some _ (Heap.get?_push_of_some _ q)⟩
   ·intro e
    rw [sz] at e
    exact absurd e (Nat.ne_of_lt (Nat.lt_succ_of_lt lt))
   ·intro e
    rw [sz] at e
    exact absurd e (Nat.ne_of_lt (Nat.lt_succ_self _))
   ·rw [sz]
    exact Nat.le_succ _
   ·have := pm.map FX
    rw [List.map_map (f := fun x : Int × Value => x.2)] at this
    exact this
   ·intro v hv
    exact all v (pm.mem_iff.mp hv)
end
end DL
namespace DL
open PySem PySem.Spec PyProof.Rows L2 PySem.W
theorem S1 : Slot "set" "__len__" "set.__len__" := .of (owner := "set") (n := "__len__") (by rw [typeLookup_type, builtinLookup_eq_fast]; kernel_rfl) (by decide +kernel) (by decide +kernel) (by decide +kernel) (by first | exact .inl (by decide +kernel) | exact .inr (by decide +kernel)) (by rw [isSubtype_type]; kernel_rfl)
theorem E2 : ∀ L : List Value, (∀ v ∈ L, ∃ t, v = .int (FX v) t) → IntsAre L (L.map FX)
 | [], _ => .nil
 | v :: L, h => by
  obtain ⟨t, e⟩ := h v List.mem_cons_self
  have := E2 L fun x hx => h x (List.mem_cons_of_mem _ hx)
  rw [List.map_cons, e]
  exact .cons _ t this
section
variable {P : Program} {w : World} {A : Around} {E : Value → Shared → Prop} {s : Shared}
theorem BW {S : Addr} {ks : List Int} {Q : List Value → Shared → Prop} (hh : A.handled = none) (hS : SI P w s.heap S ks)
  (hQ : ∀ (vs : List Value) (s' : Shared), IntsAre vs (vs.map FX) → (vs.map FX).Perm ks → s'.gens = s.gens → s'.os = s.os → s.toks ≤ s'.toks → (∀ b o, s.heap.get? b = some o → s'.heap.get? b = some o) → Q vs s') :
  wpAny (model P w) A (collect (.ref S)) Q E s := by
 have hz := hS.size
 obtain ⟨o, es0, t0, g, so, e0⟩ := id hS
 have lt : S < s.heap.objs.size := Heap.lt_size g
 unfold collect
 refine wpAny_bind (wpAny_runValue (codeAny_builtin PySem.F.entry_proto_collect ?_)); rw [Around.under_plainId PySem.F.plain_proto_collect _]
 show wpAny _ A.in1 (newList [] >>= fun l => again (.builtin "list.__iadd__" ⟨[l, .ref S], []⟩)) _ _ s
 refine wpAny_bind (wpAny_newObj_type (wpAny_pure ⟨plainId_quiet PySem.F.plain_list_iadd _, codeAny_builtin PySem.F.entry_list_iadd ?_⟩)); rw [Around.under_plainId PySem.F.plain_list_iadd _]
 show wpAny _ A.in1 (Builtin.List.listExtendWith (.ref s.heap.objs.size) (.ref S) (.ref s.heap.objs.size)) _ _ _
 have hS1 : SI P w (s.heap.push { cls := .type "list", data := .seq ([] : List Value).toArray }) S ks := hS.same fun o q => Heap.get?_push_of_some _ q
 have hTy : Shared.TypeIs { s with heap := s.heap.push { cls := .type "list", data := .seq ([] : List Value).toArray } } (.ref S) "set" := ⟨o, Heap.get?_push_of_some _ g, so.ex.1⟩
 unfold Builtin.List.listExtendWith
 refine wpAny_bind (wpAny_typeOf hTy ?_)
 have h1 : Builtin.List.listSameRef (.ref s.heap.objs.size) (.ref S) = false := by simp [Builtin.List.listSameRef]; exact fun e => absurd e (Nat.ne_of_gt lt)
 simp only [h1, show (Value.type "set" == Value.type "list") = false by decide, show (Value.type "set" == Value.type "tuple") = false by decide, Bool.or_false, Bool.false_eq_true, if_false]
 refine wpAny_bind (SU hS1 fun it T es ep t L h2 d st nS nT lit lT pL hL len k2 => ?_)
 have hTy2 : Shared.TypeIs { s with heap := h2, drawn := d } (.ref S) "set" := ⟨o, k2 S o (Heap.get?_push_of_some _ g), so.ex.1⟩
 refine wpAny_bind (wpAny_holding ?_)
 unfold Builtin.List.listLengthHint
 refine wpAny_bind (wpAny_specialOf hTy2 S1.lookup ?_)
 (generalize hid : ("set.__len__" : String) = id0; (fail_if_success (clear hid id0)); wp_delta; rw [show splitId id0 = some ("set", "__len__") from by subst hid; decide +kernel]; subst hid)
 refine wpAny_bind (wpAny_isInstance (b := true) hTy2 sub_set_self ?_)
 rw [if_neg (by decide)]; dsimp only
 rw [if_pos (by decide +kernel)]
 refine wpAny_bind (wpAny_typeOf hTy2 (wpAny_pure ?_))
 rw [if_pos (by decide +kernel)]
 have gN : h2.get? s.heap.objs.size = some { cls := .type "list", data := .seq ([] : List Value).toArray } := k2 _ _ (Heap.get?_push_size _ rfl)
 have szp : (s.heap.push { cls := .type "list", data := .seq ([] : List Value).toArray }).objs.size = s.heap.objs.size + 1 := size_push' _ _
 have nN : s.heap.objs.size ∉ [it, S, T] := fun hm => by
  rw [show (Shared.heap { s with heap := s.heap.push { cls := .type "list", data := .seq ([] : List Value).toArray } }).objs.size = s.heap.objs.size + 1 from szp] at lit lT
  simp at hm
  rcases hm with e | e | e
  ·omega
  ·exact absurd e (Nat.ne_of_gt lt)
  ·rcases lT with q | q
   ·exact absurd (e.trans q) (Nat.ne_of_gt lt)
   ·omega
 have W := (Fj (P := P) (w := w) (A := A.in1) (es := es) (ep := ep) (t := t) (L := L) hh it S T nS nT)
 have g2 := Heap.get?_update_self (Obj.mapSeq (·.push Value.none)) gN rfl
 have g3 := Heap.get?_update_self (Obj.mapSeq (·.pop)) g2 rfl
 have oth : ∀ b o, b ≠ s.heap.objs.size → h2.get? b = some o → ((h2.update s.heap.objs.size (Obj.mapSeq (·.push Value.none))).update s.heap.objs.size (Obj.mapSeq (·.pop))).get? b = some o :=
  fun b o hb e => (Heap.get?_update_other _ _ (Ne.symm hb)).trans ((Heap.get?_update_other _ _ (Ne.symm hb)).trans e)
 refine wpAny_bind (wpAny_rule (wpAny_bind ?_))
 show wpAny _ A.in1 (updateSeq s.heap.objs.size (·.push .none) >>= fun _ => updateSeq s.heap.objs.size (·.pop)) _ _ _
 refine wpAny_bind (wpAny_updateSeq gN rfl (wpAny_updateSeq g2 rfl ?_))
 have lL : L.length = es.size := by rw [len, ← pL.length_eq, List.length_map]
 refine wpAny_pure ⟨plainId_quiet PySem.F.plain_extend_loop _, codeAny_extend_loopS W.toS (by rw [len]; exact Nat.le_trans (Nat.le_of_lt hz) (by decide)) _ nN _ es.size 0 _ _ _ rfl (Nat.zero_le _) (W.frame 0 h2 _ st fun b hb o e => oth b o (fun q => nN (q ▸ hb)) e) g3 (ItemsOf.nil _) fun s' acc c hm hS' hacc => ?_⟩
 have eL : acc.toList = L := by
  refine List.ext_getElem? fun j => ?_
  by_cases hj : j < acc.size
  ·rw [Array.getElem?_toList, Array.getElem?_eq_getElem hj]
   exact (hacc.2 j _ (Array.getElem?_eq_getElem hj)).symm
  ·rw [List.getElem?_eq_none (by rw [Array.length_toList]; omega), List.getElem?_eq_none (by rw [lL, ← hacc.1]; omega)]
 show wpAny _ A (load s.heap.objs.size >>= _) _ _ s'
 refine wpAny_bind (wpAny_load hS' (wpAny_pure ?_))
 rw [eL]
 refine hQ L s' (E2 L hL) pL hm.gens hm.os hm.toks fun b o q => ?_
 have bl : b < s.heap.objs.size := Heap.lt_size q
 refine hm.heap b o (fun hb => ?_) (oth b o (Nat.ne_of_lt bl) (k2 b o (Heap.get?_push_of_some _ q)))
 rw [show (Shared.heap { s with heap := s.heap.push { cls := .type "list", data := .seq ([] : List Value).toArray } }).objs.size = s.heap.objs.size + 1 from szp] at lit
 rcases List.mem_cons.mp hb with e | e
 ·exact absurd e (Nat.ne_of_lt bl)
 ·rw [List.mem_singleton.mp e] at bl; exact absurd (Nat.lt_of_lt_of_le bl (Nat.le_of_succ_le lit)) (Nat.lt_irrefl _)
end
theorem SI.nodup {P : Program} {w : World} {h : Heap} {a : Addr} {ks : List Int} (q : SI P w h a ks) : ks.Nodup := by
 obtain ⟨o, es, t, _, so, rfl⟩ := q
 exact so.nd
theorem NX {h : Heap} {vs : List Value} {out : Array Value} {b : Addr} {o : Obj} (q : h.get? b = some o) : (sortedHeap (h.push (seqObj "list" vs.toArray 0)) h.objs.size vs out).get? b = some o := by
 have bl : b < h.objs.size := Heap.lt_size q
 unfold sortedHeap
 exact (Heap.get?_update_other _ _ (Nat.ne_of_gt bl)).trans (Heap.get?_push_of_some _ (Heap.get?_push_of_some _ ((Heap.get?_update_other _ _ (Nat.ne_of_gt bl)).trans (Heap.get?_push_of_some _ q))))
theorem Su (h : Heap) (vs : List Value) (out : Array Value) : ∃ e, (sortedHeap (h.push (seqObj "list" vs.toArray 0)) h.objs.size vs out).get? h.objs.size = some (seqObj "list" out e) := by
 unfold sortedHeap
 have h1 : (h.push (seqObj "list" vs.toArray 0)).get? h.objs.size = some (seqObj "list" vs.toArray 0) := Heap.get?_push_size _ rfl
 exact ⟨_, get?_update_seq (Heap.get?_push_of_some _ (Heap.get?_push_of_some _ (get?_update_seq h1 (fun _ => #[])))) (fun _ => out)⟩
section
variable {P : Program} {w : World} {A : Around} {E : Value → Shared → Prop} {s : Shared}
theorem Du {S : Addr} {ks : List Int} {Q : Value → Shared → Prop} (hh : A.handled = none) (hS : SI P w s.heap S ks) (h64 : ks.length < 64)
  (h : ∀ (out : Array Value) (ns : List Int) (s1 : Shared) (h' : Heap) (e : Nat), IntsAre out.toList ns → ns.Perm ks → ns.Pairwise (· ≤ ·) → s1.gens = s.gens → s1.os = s.os → (∀ b o, s.heap.get? b = some o → s1.heap.get? b = some o) → (∀ b o, s1.heap.get? b = some o → h'.get? b = some o) → h'.get? s1.heap.objs.size = some (seqObj "list" out e) → Q (.ref s1.heap.objs.size) { s1 with heap := h' }) :
  wpAny (model P w) A (call (.builtin "sorted") [.ref S]) Q E s := by
 refine Calls.call_function_entry kind_sorted plain_sorted entry_sorted (args_sorted1 _) ?_; unfold Builtin.«sorted»
 refine wpAny_bind (m := checkCount "sorted" 1 1 _) (wpAny_pure (wpAny_bind (BW (by exact hh) hS fun vs s1 a1 a2 a3 a4 a5 a6 => wpAny_bind (wpAny_newList ?_ (by have := a2.length_eq; rw [List.length_map] at this; rw [sizeLine_eq]; omega)))))
 have hoL : (s1.heap.push (seqObj "list" vs.toArray 0)).get? s1.heap.objs.size = some (seqObj "list" vs.toArray 0) := Heap.get?_push_size _ rfl
 have hl : vs.length < 64 := by have := a2.length_eq; rw [List.length_map] at this; omega
 show wpAny _ _ _ _ _ { s1 with heap := s1.heap.push (seqObj "list" vs.toArray 0) }
 refine wpAny_bind (wpAny_holding (wpAny_call_entry slot_list_sort ⟨_, hoL, rfl⟩ entry_list_sort (list_sort_tree hoL a1 hl fun out ns' b1 b2 b3 => ⟨_, rfl, ?_⟩) (args_list_sort _)))
 obtain ⟨e, he⟩ := Su s1.heap vs out
 exact wpAny_pure ⟨_, rfl, h out ns' s1 _ e b1 (b2.trans a2) b3 a3 a4 a6 (fun b o q => NX q) he⟩
end
section
variable {X : Cx} {e : Expr} {t : TA} {p pos p2 pos2 : Pos}
noncomputable def tSS (X : Cx) (t : TA) : TE := fun σ H Q => t σ H fun xs H1 => ∃ (l : Addr) (ns : List Int), xs = [.ref l] ∧ SqL X.K H1 l (ns.map V.int) ∧ ns.length < 64 ∧ ∀ ks : List Int, ks.Pairwise (· ≤ ·) → ks.Nodup → (∀ z, z ∈ ks ↔ z ∈ ns) → ∀ l, H1 l = none → Q (.ref l) (upd H1 l (.lst (ks.map V.int)))
theorem G1 (hc : X.calm = true) (hg : Gl X "sorted") (hm : X.mg "sorted" = none) (hg2 : Gl X "set") (hm2 : X.mg "set" = none) (ha : PA X [e] t) (he : starEach [e] X.env = [(false, eval e X.env)] := by rfl) :
  PE X (.Call (.Name "sorted" p) [.Call (.Name "set" p2) [e] [] pos2] [] pos) (tSS X t) := by
 intro pins s σ H Q I h
 refine wpAny_Call_Name_kw (XX I hg hm (u := .builtin "sorted") (by rfl) ?_ (by decide) (by decide))
 refine PyProof.Rows.callWith_builtin1 ?_ (by rfl) (by rfl)
 refine Calls.spliced_cons (wpAny_Call_Name_kw (XX I hg2 hm2 (u := .type "set") (by rfl) ?_ (by decide) (by decide)))
 refine PyProof.Rows.callWith_type1 (thn (ha pos2 pins s σ H _ I h) fun us s1 ⟨vs, H1, I1, r1, q1⟩ => ?_) he (by rfl)
 obtain ⟨l, ns, rfl, hq, h64, q⟩ := q1
 obtain ⟨u, rfl, rx⟩ := vals1 r1
 cases rx
 obtain ⟨its, rv, pl, hz⟩ := I1.list hq
 have hi : IntsAre its ns := intsAre_of rv
 have hlen : its.length < 64 := by have := rv.length; rw [List.length_map] at this; omega
 refine set_list (I1.ok.hd hc) pl.isList (by simpa using hi) (by simpa using Nat.lt_trans (Nat.succ_lt_succ hlen) (by decide)) fun h' tk ks a1 a2 a3 a4 => ?_
 have k1 : ∀ b o, s1.heap.get? b = some o → h'.get? b = some o := fun b o q => a4 b o (Heap.lt_size q) q
 refine Calls.spliced_nil ?_
 refine Du (s := { s1 with heap := h', toks := tk }) (I1.ok.hd hc) a1 (by omega) fun out ns' s2 h2 e b1 b2 b3 b4 b5 b6 b7 b8 => ?_
 have I2 := I1.kept (t' := tk) k1
 have I3 : Inv X pins σ H1 s2 := I2.ZaB (ch := []) b5 (Un.kept b6) (I2.hok.kept b6) (by rw [b4]; exact I2.bare) (fun _ z => nomatch z)
 have hn : H1 s2.heap.objs.size = none := I3.hok.fresh (Nat.le_refl _)
 refine ⟨.ref s2.heap.objs.size, _, I3.laid (t' := s2.toks) (a := s2.heap.objs.size) (o := .lst (ns'.map V.int)) b7 (Nat.le_refl _) ⟨?_, out.toList, e, Kv b1, b8⟩, rfl, q ns' b3 ?_ (fun z => (b2.mem_iff).trans (a2 z)) _ hn⟩
 ·rw [List.length_map, b2.length_eq, sizeLine_eq]
  omega
 ·exact b2.nodup_iff.mpr (SI.nodup a1)
noncomputable def dSS (t : DTA) : DTE := fun Δ M Φ => t Δ M fun xs M1 => ∃ ns : List Int, VT xs M1 ns ∧ ns.length < 64 ∧ ∀ ks : List Int, ks.Pairwise (· ≤ ·) → ks.Nodup → (∀ z, z ∈ ks ↔ z ∈ ns) → Φ (.dat (.list (ks.map PyData.int))) M1
theorem Zei (t : DTA) (Δ : DSt) (M : Mp) (Φ : DK) : dSS t Δ M Φ = (t Δ M fun xs M1 => ∃ ns : List Int, VT xs M1 ns ∧ ns.length < 64 ∧ ∀ ks : List Int, ks.Pairwise (· ≤ ·) → ks.Nodup → (∀ z, z ∈ ks ↔ z ∈ ns) → Φ (.dat (.list (ks.map PyData.int))) M1) := propext Iff.rfl
theorem GG {t : DTA} (hg : Gl X "sorted") (hm : X.mg "sorted" = none) (hg2 : Gl X "set") (hm2 : X.mg "set" = none) (ha : DA X [e] t) (hc : X.calm = true := by rfl) (he : starEach [e] X.env = [(false, eval e X.env)] := by rfl) :
  DE X (.Call (.Name "sorted" p) [.Call (.Name "set" p2) [e] [] pos2] [] pos) (dSS t) := by
 obtain ⟨u, pa, q⟩ := ha
 refine ⟨_, G1 hc hg hm hg2 hm2 pa he, fun σ H Δ M Φ Q r e h k => ?_⟩
 refine q σ H Δ M _ _ r e h fun vs H1 xs M1 r1 st rv hx => ?_
 obtain ⟨ns, hx, h64, q⟩ := hx
 obtain ⟨p, rfl, hs⟩ := hx.sq r1 rv
 exact ⟨p, ns, rfl, hs, h64, fun ks a b c l hl => (k.step st).dat (r1.new hl) (Step.new hl) (Dt.XU r1 hl (Dts.ints ks)) (q ks a b c)⟩
end
end DL
namespace DL
open PySem PySem.Spec PyProof.Rows L2
section
variable {X : Cx}
noncomputable def ZeY (τ : DTE) : DTT := fun Δ M Φ => τ Δ M fun x M1 => onQ x M1 fun ds => Φ (!ds.isEmpty) M1
theorem Zcc (τ : DTE) (Δ : DSt) (M : Mp) (Φ : Bool → Mp → Prop) : ZeY τ Δ M Φ = (τ Δ M fun x M1 => onQ x M1 fun ds => Φ (!ds.isEmpty) M1) := propext Iff.rfl
theorem KI {K : PySem.W.Frag} {M : Mp} {H : Hp} {vs : List V} {ds : List PyData} (h : Dts K M H vs ds) : (!vs.isEmpty) = !ds.isEmpty := by
 have := Dts.length h
 cases vs <;> cases ds <;> simp at this ⊢
theorem ZbY {e : Expr} {τ : DTE} (h : DE X e τ) (he : ∀ whole, isTrue e X.env whole = (do let v ← whole; standAt e.pos; holding [v] (truthy v)) := by intro _; rfl) : DT X e (ZeY τ) := by
 obtain ⟨t, p, q⟩ := h
 refine ⟨_, Nr p he, fun σ H Δ M Φ Q dr e h k => ?_⟩
 refine q σ H Δ M _ _ dr e h fun v H1 x M1 r1 st rv hx => ?_
 replace hx := Gb hx
 obtain ⟨ds, hx, hq⟩ := hx
 refine ⟨!ds.isEmpty, ?_, k _ _ _ r1 st hq⟩
 rcases hx with rfl | rfl | ⟨l, rfl, hm⟩
 ·obtain ⟨p, xs, rfl, h1, h2⟩ := rv.tup
  exact .inr (.inl ⟨xs, h1.sq, (KI h2).symm⟩)
 ·obtain ⟨p, xs, rfl, h1, h2⟩ := rv.lst
  exact .inl ⟨xs, h1.sq, (KI h2).symm⟩
 ·cases (show v = .ref l from rv)
  obtain ⟨vs, g1, g2⟩ := r1.ls l ds hm
  exact .inl ⟨vs, SqL.of g1, (KI g2).symm⟩
end
end DL
namespace My
open PySem PySem.Spec PyProof.Rows L2 DL
set_option maxHeartbeats 8000000
noncomputable def top (i : Nat) : Stmt := PySem.Challenge.pw_landsentered_k13_depths_shown.main.body.getD i (.Pass ⟨0, 0, 0, 0⟩)
noncomputable abbrev JM : Stmt := top 1
noncomputable abbrev QF : Stmt := top 3
noncomputable abbrev Jg : Stmt := top 4
noncomputable abbrev Xg : Stmt := top 5
noncomputable abbrev Eh : Stmt := top 6
noncomputable abbrev Vp : Stmt := top 7
noncomputable abbrev JP : Stmt := top 8
noncomputable abbrev Z9 : Stmt := top 9
noncomputable abbrev Ei : Stmt := top 10
noncomputable abbrev Yq : Stmt := top 11
noncomputable abbrev Xh : Stmt := top 12
noncomputable abbrev QI : Stmt := top 13
noncomputable abbrev Ym : Stmt := top 14
noncomputable abbrev JR : Stmt := top 15
noncomputable abbrev Ji : Stmt := top 16
noncomputable abbrev JU : Stmt := top 18
noncomputable abbrev JI : Stmt := top 19
noncomputable abbrev Qx : Stmt := top 20
noncomputable abbrev QH : Stmt := top 21
noncomputable abbrev Qp : Stmt := top 22
noncomputable abbrev WK : Stmt := top 23
noncomputable abbrev JQ : Stmt := top 25
noncomputable abbrev Xs : Stmt := top 27
noncomputable abbrev J1 : Stmt := top 28
noncomputable abbrev QX : Stmt := top 29
noncomputable abbrev Vd : Stmt := top 30
noncomputable abbrev QB : Stmt := top 31
noncomputable abbrev Xl : Stmt := top 33
noncomputable abbrev QE : Stmt := top 34
noncomputable abbrev Vm : Stmt := top 35
noncomputable abbrev Qg : Stmt := top 36
noncomputable abbrev Dy : Stmt := top 38
noncomputable abbrev WS : Stmt := top 39
noncomputable abbrev Kt : Stmt := top 40
noncomputable abbrev D5 : Stmt := top 41
noncomputable abbrev XB : Stmt := top 42
noncomputable abbrev Vl : Stmt := top 43
noncomputable abbrev WQ : Stmt := top 44
noncomputable abbrev Xn : Stmt := top 45
noncomputable abbrev WO : Stmt := top 46
noncomputable abbrev Xu : Stmt := top 47
noncomputable abbrev VQ : Stmt := top 48
noncomputable abbrev Xp : Stmt := top 49
noncomputable abbrev Xx : Stmt := top 50
noncomputable abbrev XD : Stmt := top 51
noncomputable abbrev QY : Stmt := top 52
noncomputable abbrev XF : Stmt := top 53
noncomputable abbrev Qj : Stmt := top 54
noncomputable abbrev JN : Stmt := top 55
noncomputable abbrev Vo : Stmt := top 56
noncomputable abbrev V0 : Stmt := top 57
noncomputable abbrev Jp : Stmt := top 58
noncomputable abbrev QJ : Stmt := top 59
noncomputable abbrev DP : Stmt := top 60
theorem G3 : Zu ["thing"] ["thing"] (Zf JM) := ⟨rfl, rfl, rfl, by decide +kernel, rfl, by decide +kernel, by decide +kernel⟩
theorem Wm : Zu ["thing"] ["thing"] (Zf QF) := ⟨rfl, rfl, rfl, by decide +kernel, rfl, by decide +kernel, by decide +kernel⟩
theorem GF : Zu ["box"] ["box"] (Zf Jg) := ⟨rfl, rfl, rfl, by decide +kernel, rfl, by decide +kernel, by decide +kernel⟩
theorem MY : Zu ["one", "other"] ["one", "other"] (Zf Xg) := ⟨rfl, rfl, rfl, by decide +kernel, rfl, by decide +kernel, by decide +kernel⟩
theorem Za0 : Zu ["box", "spot"] ["box", "spot"] (Zf Eh) := ⟨rfl, rfl, rfl, by decide +kernel, rfl, by decide +kernel, by decide +kernel⟩
theorem Ee : Zu ["box", "other"] ["box", "other"] (Zf Vp) := ⟨rfl, rfl, rfl, by decide +kernel, rfl, by decide +kernel, by decide +kernel⟩
theorem Bw : Zu ["box", "spot"] ["box", "spot"] (Zf JP) := ⟨rfl, rfl, rfl, by decide +kernel, rfl, by decide +kernel, by decide +kernel⟩
theorem X1 : Zu ["one", "other"] ["one", "other"] (Zf Z9) := ⟨rfl, rfl, rfl, by decide +kernel, rfl, by decide +kernel, by decide +kernel⟩
theorem ZbS : Zu ["one", "other", "way"] ["one", "other", "way"] (Zf Ei) := ⟨rfl, rfl, rfl, by decide +kernel, rfl, by decide +kernel, by decide +kernel⟩
theorem LQ : Zu ["spot", "r"] ["spot", "r"] (Zf Yq) := ⟨rfl, rfl, rfl, by decide +kernel, rfl, by decide +kernel, by decide +kernel⟩
theorem Cw : Zu ["box", "way", "at", "high"] ["box", "way", "at"] (Zf Xh) := ⟨rfl, rfl, rfl, by decide +kernel, rfl, by decide +kernel, by decide +kernel⟩
theorem Yu : Zu ["box", "way", "at", "low"] ["box", "way", "at"] (Zf QI) := ⟨rfl, rfl, rfl, by decide +kernel, rfl, by decide +kernel, by decide +kernel⟩
theorem Kh : Zu ["one", "other", "low", "high"] ["one", "other"] (Zf Ym) := ⟨rfl, rfl, rfl, by decide +kernel, rfl, by decide +kernel, by decide +kernel⟩
theorem JO : Zu ["one", "other", "middle", "left", "right", "below", "above"] ["one", "other"] (Zf JR) := ⟨rfl, rfl, rfl, by decide +kernel, rfl, by decide +kernel, by decide +kernel⟩
theorem QW : Zu ["box", "others", "pieces", "other", "rest", "piece"] ["box", "others"] (Zf Ji) := ⟨rfl, rfl, rfl, by decide +kernel, rfl, by decide +kernel, by decide +kernel⟩
theorem WE : Zu ["shape", "box", "lacking"] ["shape", "box"] (Zf JU) := ⟨rfl, rfl, rfl, by decide +kernel, rfl, by decide +kernel, by decide +kernel⟩
theorem Qu : Zu ["shape", "box", "k", "across", "along", "way", "places", "at", "first"] ["shape", "box"] (Zf JI) := ⟨rfl, rfl, rfl, by decide +kernel, rfl, by decide +kernel, by decide +kernel⟩
theorem VA : Zu ["shape", "box", "way", "places", "other"] ["shape", "box", "way"] (Zf Qx) := ⟨rfl, rfl, rfl, by decide +kernel, rfl, by decide +kernel, by decide +kernel⟩
theorem Vg : Zu ["shape", "box", "thing", "first", "second"] ["shape", "box", "thing"] (Zf QH) := ⟨rfl, rfl, rfl, by decide +kernel, rfl, by decide +kernel, by decide +kernel⟩
theorem Kq : Zu ["shape", "k"] ["shape", "k"] (Zf Qp) := ⟨rfl, rfl, rfl, by decide +kernel, rfl, by decide +kernel, by decide +kernel⟩
theorem To : Zu ["box", "way", "at"] ["box", "way", "at"] (Zf WK) := ⟨rfl, rfl, rfl, by decide +kernel, rfl, by decide +kernel, by decide +kernel⟩
theorem DM : Zu ["shape", "spot"] ["shape", "spot"] (Zf JQ) := ⟨rfl, rfl, rfl, by decide +kernel, rfl, by decide +kernel, by decide +kernel⟩
theorem De : Zu ["shape", "spot", "away"] ["shape", "spot"] (Zf Xs) := ⟨rfl, rfl, rfl, by decide +kernel, rfl, by decide +kernel, by decide +kernel⟩
theorem Xw : Zu ["shape", "spot", "pieces", "reach"] ["shape", "spot"] (Zf J1) := ⟨rfl, rfl, rfl, by decide +kernel, rfl, by decide +kernel, by decide +kernel⟩
theorem Ur : Zu ["shape", "spot"] ["shape", "spot"] (Zf QX) := ⟨rfl, rfl, rfl, by decide +kernel, rfl, by decide +kernel, by decide +kernel⟩
theorem Ue : Zu ["shape", "low", "high"] ["shape"] (Zf Vd) := ⟨rfl, rfl, rfl, by decide +kernel, rfl, by decide +kernel, by decide +kernel⟩
theorem W5 : Zu ["pieces", "spot"] ["pieces", "spot"] (Zf QB) := ⟨rfl, rfl, rfl, by decide +kernel, rfl, by decide +kernel, by decide +kernel⟩
theorem WV : Zu ["shape", "spot", "deep", "other"] ["shape", "spot"] (Zf Xl) := ⟨rfl, rfl, rfl, by decide +kernel, rfl, by decide +kernel, by decide +kernel⟩
theorem Wq : Zu ["shape", "spot", "thing"] ["shape", "spot", "thing"] (Zf QE) := ⟨rfl, rfl, rfl, by decide +kernel, rfl, by decide +kernel, by decide +kernel⟩
theorem Dq : Zu ["spot", "d", "other"] ["spot", "d", "other"] (Zf Vm) := ⟨rfl, rfl, rfl, by decide +kernel, rfl, by decide +kernel, by decide +kernel⟩
theorem Wt : Zu ["shape", "spot", "d"] ["shape", "spot", "d"] (Zf Qg) := ⟨rfl, rfl, rfl, by decide +kernel, rfl, by decide +kernel, by decide +kernel⟩
theorem E4 : Zu ["_law_script", "_law_k", "_law_cell"] ["_law_script", "_law_k"] (Zf Dy) := ⟨rfl, rfl, rfl, by decide +kernel, rfl, by decide +kernel, by decide +kernel⟩
theorem KD : Zu ["_law_pen_here", "_law_many", "_law_number", "_law_found"] ["_law_pen_here", "_law_many"] (Zf WS) := ⟨rfl, rfl, rfl, by decide +kernel, rfl, by decide +kernel, by decide +kernel⟩
theorem KQ : Zu ["_law_pen_here", "_law_low", "_law_high", "_law_thick", "_law_found"] ["_law_pen_here"] (Zf Kt) := ⟨rfl, rfl, rfl, by decide +kernel, rfl, by decide +kernel, by decide +kernel⟩
theorem WL : Zu ["_law_pen_here", "_law_box_here", "_law_begin", "_law_end", "_law_way", "_law_first", "_law_at"] ["_law_pen_here", "_law_box_here"] (Zf D5) := ⟨rfl, rfl, rfl, by decide +kernel, rfl, by decide +kernel, by decide +kernel⟩
theorem Yf : Zu ["_law_pen_here", "_law_way", "_law_found", "_law_k", "_law_low", "_law_high"] ["_law_pen_here"] (Zf XB) := ⟨rfl, rfl, rfl, by decide +kernel, rfl, by decide +kernel, by decide +kernel⟩
theorem JL : Zu ["_law_pen_here", "_law_times", "_law_ends", "_law_begins", "_law_way", "_law_far"] ["_law_pen_here"] (Zf Vl) := ⟨rfl, rfl, rfl, by decide +kernel, rfl, by decide +kernel, by decide +kernel⟩
theorem VY : Zu ["_law_boxes_here", "_law_frame_here", "_law_found", "_law_times", "_law_x", "_law_y", "_law_low", "_law_high", "_law_begin"] ["_law_boxes_here", "_law_frame_here"] (Zf WQ) := ⟨rfl, rfl, rfl, by decide +kernel, rfl, by decide +kernel, by decide +kernel⟩
theorem Yk : Zu ["_law_boxes_here", "_law_found", "_law_low", "_law_high", "_law_x", "_law_y"] ["_law_boxes_here"] (Zf Xn) := ⟨rfl, rfl, rfl, by decide +kernel, rfl, by decide +kernel, by decide +kernel⟩
theorem Xi : Zu ["_law_pen_here", "_law_frame_here", "_law_far", "_law_found", "_law_way", "_law_cell", "_law_at"] ["_law_pen_here", "_law_frame_here"] (Zf WO) := ⟨rfl, rfl, rfl, by decide +kernel, rfl, by decide +kernel, by decide +kernel⟩
theorem YN : Zu ["_law_cell", "_law_frame_here", "_law_spot_here", "_law_found", "_law_way", "_law_low"] ["_law_cell", "_law_frame_here", "_law_spot_here"] (Zf Xu) := ⟨rfl, rfl, rfl, by decide +kernel, rfl, by decide +kernel, by decide +kernel⟩
theorem Vr : Zu ["_law_cells_here", "_law_frame_here", "_law_spot_here", "_law_here", "_law_inside", "_law_found", "_law_x", "_law_y"] ["_law_cells_here", "_law_frame_here", "_law_spot_here"] (Zf VQ) := ⟨rfl, rfl, rfl, by decide +kernel, rfl, by decide +kernel, by decide +kernel⟩
theorem UH : Zu ["_law_one", "_law_box_here", "_law_low", "_law_high"] ["_law_one", "_law_box_here"] (Zf Xp) := ⟨rfl, rfl, rfl, by decide +kernel, rfl, by decide +kernel, by decide +kernel⟩
theorem Uo : Zu ["_law_box_here", "_law_way", "_law_at", "_law_low", "_law_high"] ["_law_box_here", "_law_way", "_law_at"] (Zf Xx) := ⟨rfl, rfl, rfl, by decide +kernel, rfl, by decide +kernel, by decide +kernel⟩
theorem Nb : Zu ["_law_thing"] ["_law_thing"] (Zf XD) := ⟨rfl, rfl, rfl, by decide +kernel, rfl, by decide +kernel, by decide +kernel⟩
theorem W9 : Zu ["_law_shape", "_law_box_here", "_law_paper"] ["_law_shape", "_law_box_here", "_law_paper"] (Zf QY) := ⟨rfl, rfl, rfl, by decide +kernel, rfl, by decide +kernel, by decide +kernel⟩
theorem J3 : Zu ["_law_shape", "_law_box_here", "_law_thing", "_law_waiting", "_law_here", "_law_paper", "_law_parts_here", "_law_way", "_law_at"] ["_law_shape", "_law_box_here", "_law_thing"] (Zf XF) := ⟨rfl, rfl, rfl, by decide +kernel, rfl, by decide +kernel, by decide +kernel⟩
theorem ZO : Zu ["_law_pen_here", "_law_shape", "_law_box_here", "_law_free", "_law_own", "_law_cuts", "_law_way", "_law_less", "_law_low", "_law_high", "_law_ends", "_law_at", "_law_one", "_law_other"] ["_law_pen_here", "_law_shape", "_law_box_here", "_law_free"] (Zf Qj) := ⟨rfl, rfl, rfl, by decide +kernel, rfl, by decide +kernel, by decide +kernel⟩
theorem Be : Zu ["_law_spot_here", "_law_far"] ["_law_spot_here", "_law_far"] (Zf JN) := ⟨rfl, rfl, rfl, by decide +kernel, rfl, by decide +kernel, by decide +kernel⟩
theorem Dp : Zu ["_law_thing"] ["_law_thing"] (Zf Vo) := ⟨rfl, rfl, rfl, by decide +kernel, rfl, by decide +kernel, by decide +kernel⟩
theorem YZ : Zu ["_law_shape", "_law_sides", "_law_spot_here", "_law_paper", "_law_least", "_law_other", "_law_inside", "_law_others_here"] ["_law_shape", "_law_sides", "_law_spot_here", "_law_paper"] (Zf V0) := ⟨rfl, rfl, rfl, by decide +kernel, rfl, by decide +kernel, by decide +kernel⟩
theorem Qb : Zu ["_law_pen_here", "_law_shape", "_law_sides", "_law_frame_here", "_law_spot_here", "_law_least", "_law_near", "_law_cell", "_law_other", "_law_way", "_law_paper", "_law_inside", "_law_others_here", "_law_low", "_law_ends"] ["_law_pen_here", "_law_shape", "_law_sides", "_law_frame_here", "_law_spot_here"] (Zf Jp) := ⟨rfl, rfl, rfl, by decide +kernel, rfl, by decide +kernel, by decide +kernel⟩
theorem ZU : Zu ["_law_pen_here", "_law_shape", "_law_cells_here", "_law_frame_here", "_law_spot_here", "_law_sides", "_law_paper", "_law_more", "_law_aside", "_law_beside", "_law_one", "_law_held"] ["_law_pen_here", "_law_shape", "_law_cells_here", "_law_frame_here"] (Zf QJ) := ⟨rfl, rfl, rfl, by decide +kernel, rfl, by decide +kernel, by decide +kernel⟩
theorem XI : Zu ["_law_script", "_law_k", "_law_pen_here", "_law_boxes_here", "_law_frame_here", "_law_shape", "_law_cells_here", "_law_turn"] ["_law_script"] (Zf DP) := ⟨rfl, rfl, rfl, by decide +kernel, rfl, by decide +kernel, by decide +kernel⟩
theorem WR : bootBuiltins "abs" = some (.builtin "abs") := by decide +kernel
theorem TZ : bootBuiltins "all" = some (.builtin "all") := by decide +kernel
theorem TX : bootBuiltins "any" = some (.builtin "any") := by decide +kernel
theorem Cq : bootBuiltins "bool" = some (.type "bool") := by decide +kernel
theorem GP : bootBuiltins "int" = some (.type "int") := by decide +kernel
theorem ZN : bootBuiltins "isinstance" = some (.builtin "isinstance") := by decide +kernel
theorem Qs : bootBuiltins "len" = some (.builtin "len") := by decide +kernel
theorem Tj : bootBuiltins "list" = some (.type "list") := by decide +kernel
theorem JW : bootBuiltins "max" = some (.builtin "max") := by decide +kernel
theorem Jv : bootBuiltins "min" = some (.builtin "min") := by decide +kernel
theorem QG : bootBuiltins "tuple" = some (.type "tuple") := by decide +kernel
set_option genInjectivity false in
structure Tx (K : PySem.W.Frag) (mg : Str → Option Value) where
 JK : Addr
 JJ : FuncData
 ZF : Own K mg "is_whole" JM ["thing"] JK JJ
 VL : Addr
 VN : FuncData
 JH : Own K mg "is_any_spot" QF ["thing"] VL VN
 YC : Addr
 Yz : FuncData
 VR : Own K mg "has_spots" Jg ["box"] YC Yz
 Cc : Addr
 G4 : FuncData
 o_steps : Own K mg "steps" Xg ["one", "other"] Cc G4
 Nq : Addr
 Ms : FuncData
 Wk : Own K mg "has" Eh ["box", "spot"] Nq Ms
 YX : Addr
 Y9 : FuncData
 JT : Own K mg "has_all" Vp ["box", "other"] YX Y9
 Vs : Addr
 Vk : FuncData
 Qo : Own K mg "steps_to" JP ["box", "spot"] Vs Vk
 Qc : Addr
 Qe : FuncData
 Zx : Own K mg "steps_between" Z9 ["one", "other"] Qc Qe
 RN : Addr
 RZ : FuncData
 BZ : Own K mg "gap" Ei ["one", "other", "way"] RN RZ
 YV : Addr
 YK : FuncData
 Jj : Own K mg "square" Yq ["spot", "r"] YV YK
 WY : Addr
 Uv : FuncData
 YB : Own K mg "up_to" Xh ["box", "way", "at"] WY Uv
 JB : Addr
 JF : FuncData
 Qk : Own K mg "onward_from" QI ["box", "way", "at"] JB JF
 X9 : Addr
 X7 : FuncData
 VI : Own K mg "common" Ym ["one", "other"] X9 X7
 Wf : Addr
 KP : FuncData
 YL : Own K mg "cut_out" JR ["one", "other"] Wf KP
 Vx : Addr
 VE : FuncData
 QU : Own K mg "left_over" Ji ["box", "others"] Vx VE
 Ku : Addr
 KU : FuncData
 Y8 : Own K mg "covered" JU ["shape", "box"] Ku KU
 Vj : Addr
 Vq : FuncData
 Qq : Own K mg "cover_of" JI ["shape", "box"] Vj Vq
 V5 : Addr
 V8 : FuncData
 QC : Own K mg "cut_places" Qx ["shape", "box", "way"] V5 V8
 Q2 : Addr
 Q5 : FuncData
 ZR : Own K mg "holds_cover" QH ["shape", "box", "thing"] Q2 Q5
 Vh : Addr
 Ve : FuncData
 Jk : Own K mg "is_number_of" Qp ["shape", "k"] Vh Ve
 HC : Addr
 He : FuncData
 Cz : Own K mg "cuts" WK ["box", "way", "at"] HC He
 V7 : Addr
 V6 : FuncData
 Qa : Own K mg "lies_in" JQ ["shape", "spot"] V7 V6
 BD : Addr
 G6 : FuncData
 UG : Own K mg "depth" Xs ["shape", "spot"] BD G6
 KS : Addr
 Ki : FuncData
 YW : Own K mg "nearest" J1 ["shape", "spot"] KS Ki
 J8 : Addr
 J7 : FuncData
 Qt : Own K mg "other_side" QX ["shape", "spot"] J8 J7
 Bn : Addr
 B7 : FuncData
 UI : Own K mg "frame" Vd ["shape"] Bn B7
 Vb : Addr
 Vc : FuncData
 Qy : Own K mg "steps_away" QB ["pieces", "spot"] Vb Vc
 B1 : Addr
 B9 : FuncData
 WW : Own K mg "shown" Xl ["shape", "spot"] B1 B9
 VJ : Addr
 Vt : FuncData
 ZT : Own K mg "shows_depth" QE ["shape", "spot", "thing"] VJ Vt
 We : Addr
 KO : FuncData
 Y6 : Own K mg "is_away" Vm ["spot", "d", "other"] We KO
 VM : Addr
 Vu : FuncData
 JE : Own K mg "none_nearer" Qg ["shape", "spot", "d"] VM Vu
 Rl : Addr
 RV : FuncData
 MI : Own K mg "_law_pen" Dy ["_law_script", "_law_k"] Rl RV
 YJ : Addr
 YU : FuncData
 Zp : Own K mg "_law_draw" WS ["_law_pen_here", "_law_many"] YJ YU
 LR : Addr
 Ln : FuncData
 CG : Own K mg "_law_hole" Kt ["_law_pen_here"] LR Ln
 R7 : Addr
 R5 : FuncData
 Bh : Own K mg "_law_box" D5 ["_law_pen_here", "_law_box_here"] R7 R5
 Ci : Addr
 B2 : FuncData
 Uq : Own K mg "_law_boxes" XB ["_law_pen_here"] Ci B2
 KY : Addr
 Kn : FuncData
 YO : Own K mg "_law_frame" Vl ["_law_pen_here"] KY Kn
 E8 : Addr
 H9 : FuncData
 CY : Own K mg "_law_laid" WQ ["_law_boxes_here", "_law_frame_here"] E8 H9
 BQ : Addr
 BJ : FuncData
 Ul : Own K mg "_law_cells" Xn ["_law_boxes_here"] BQ BJ
 HL : Addr
 Fu : FuncData
 Cr : Own K mg "_law_spot" WO ["_law_pen_here", "_law_frame_here"] HL Fu
 Cd : Addr
 B0 : FuncData
 Us : Own K mg "_law_gap" Xu ["_law_cell", "_law_frame_here", "_law_spot_here"] Cd B0
 UA : Addr
 W6 : FuncData
 Vv : Own K mg "_law_others" VQ ["_law_cells_here", "_law_frame_here", "_law_spot_here"] UA W6
 K4 : Addr
 Kz : FuncData
 Vi : Own K mg "_law_has" Xp ["_law_one", "_law_box_here"] K4 Kz
 Ui : Addr
 UQ : FuncData
 YF : Own K mg "_law_parts" Xx ["_law_box_here", "_law_way", "_law_at"] Ui UQ
 Xd : Addr
 Xv : FuncData
 Qi : Own K mg "_law_whole" XD ["_law_thing"] Xd Xv
 V9 : Addr
 V3 : FuncData
 Va : Own K mg "_law_leaf_holds" QY ["_law_shape", "_law_box_here", "_law_paper"] V9 V3
 BB : Addr
 Co : FuncData
 UB : Own K mg "_law_holds" XF ["_law_shape", "_law_box_here", "_law_thing"] BB Co
 J0 : Addr
 JS : FuncData
 Z5 : Own K mg "_law_any_cover" Qj ["_law_pen_here", "_law_shape", "_law_box_here", "_law_free"] J0 JS
 Yh : Addr
 Yj : FuncData
 Je : Own K mg "_law_square" JN ["_law_spot_here", "_law_far"] Yh Yj
 K7 : Addr
 K6 : FuncData
 YS : Own K mg "_law_is_spot" Vo ["_law_thing"] K7 K6
 Bx : Addr
 BK : FuncData
 YI : Own K mg "_law_right" V0 ["_law_shape", "_law_sides", "_law_spot_here", "_law_paper"] Bx BK
 Wb : Addr
 K1 : FuncData
 Y0 : Own K mg "_law_another" Jp ["_law_pen_here", "_law_shape", "_law_sides", "_law_frame_here", "_law_spot_here"] Wb K1
 VH : Addr
 VG : FuncData
 JD : Own K mg "_law_shown_right" QJ ["_law_pen_here", "_law_shape", "_law_cells_here", "_law_frame_here"] VH VG
 Zaq : Addr
 Zal : FuncData
 o_law : Own K mg "law" DP ["_law_script"] Zaq Zal
 Dv : mg "abs" = none
 Zd0 : mg "all" = none
 Zc7 : mg "any" = none
 EU : mg "bool" = none
 BE : mg "enumerate" = none
 EF : mg "int" = none
 ZV : mg "isinstance" = none
 JV : mg "len" = none
 Za8 : mg "list" = none
 YE : mg "max" = none
 Yt : mg "min" = none
 QV : mg "range" = none
 Zdb : mg "set" = none
 NP : mg "sorted" = none
 Jd : mg "tuple" = none
local macro_rules | `(tactic| walk_at "hd") => `(tactic| (subst_vars; (try dsimp only); refine DL.Mh fun R hR => ?_))
noncomputable def ab (i : Int) : Int := if i < 0 then -i else i
noncomputable def Qn (x y x' y' : Int) : Int := max (ab (x - x')) (ab (y - y'))
noncomputable def gp (a b a' b' : Int) : Int := max 0 (max (a' - b) (a - b'))
noncomputable def btw (x y X Y x' y' X' Y' : Int) : Int := max (gp x X x' X') (gp y Y y' Y')
structure B4 where
 x : Int
 y : Int
 X : Int
 Y : Int
noncomputable def bD (b : B4) : PyData := .tuple [.tuple [.int b.x, .int b.y], .tuple [.int b.X, .int b.Y]]
noncomputable def Jw (a b : B4) : Int := btw a.x a.y a.X a.Y b.x b.y b.X b.Y
noncomputable def ZI (p : B4) (u v : Int) : Int := btw p.x p.y p.X p.Y u v u v
noncomputable def hasB (b : B4) (u v : Int) : Bool := decide (b.x ≤ u ∧ u ≤ b.X ∧ b.y ≤ v ∧ v ≤ b.Y)
noncomputable def okB (b : B4) : Bool := decide (b.x ≤ b.X) && decide (b.y ≤ b.Y)
noncomputable def ZbQ (a b : B4) : B4 := ⟨max a.x b.x, max a.y b.y, min a.X b.X, min a.Y b.Y⟩
noncomputable def EC (a b : B4) : List B4 :=
 let mx := max a.x b.x
 let my := max a.y b.y
 let mX := min a.X b.X
 let mY := min a.Y b.Y
 [⟨a.x, a.y, mx - 1, a.Y⟩, ⟨mX + 1, a.y, a.X, a.Y⟩, ⟨mx, a.y, mX, my - 1⟩, ⟨mx, mY + 1, mX, a.Y⟩]
noncomputable def Ws (a b : B4) : List B4 := if 0 < Jw a b then [a] else (EC a b).filter okB
noncomputable def Jo (a : B4) (bs : List B4) : List B4 := bs.foldl (fun ps b => ps.flatMap fun p => Ws p b) [a]
noncomputable def QM (u v r : Int) : B4 := ⟨u - r, v - r, u + r, v + r⟩
noncomputable def onX (x : DV) (P : B4 → Prop) : Prop := match x with | .dat (.tuple [.tuple [.int x, .int y], .tuple [.int X, .int Y]]) => P ⟨x, y, X, Y⟩ | _ => False
theorem MK (b : B4) (P : B4 → Prop) : onX (.dat (bD b)) P = P b := propext Iff.rfl
theorem OT (x y X Y : Int) (P : B4 → Prop) : onX (.dat (.tuple [.tuple [.int x, .int y], .tuple [.int X, .int Y]])) P = P ⟨x, y, X, Y⟩ := propext Iff.rfl
theorem Z0 {x : DV} {P : B4 → Prop} (h : onX x P) : ∃ b, x = .dat (bD b) ∧ P b := by
 unfold onX at h
 split at h
 ·exact ⟨⟨_, _, _, _⟩, rfl, h⟩
 ·exact h.elim
theorem Na (b : B4) (M : Mp) (P : List PyData → Prop) : onQ (.dat (bD b)) M P = P [.tuple [.int b.x, .int b.y], .tuple [.int b.X, .int b.Y]] := propext Iff.rfl
theorem Mv (b : B4) (P : List PyData → Prop) : onT (.dat (bD b)) P = P [.tuple [.int b.x, .int b.y], .tuple [.int b.X, .int b.Y]] := propext Iff.rfl
noncomputable def VU (x : DV) (P : List B4 → Prop) : Prop := ∃ bs, x = .dat (.tuple (bs.map bD)) ∧ P bs
noncomputable def Pd (x : DV) (P : List B4 → Prop) : Prop := ∃ bs, x = .dat (.list (bs.map bD)) ∧ P bs
theorem Qd {x : DV} {P : List B4 → Prop} (h : VU x P) : ∃ bs, x = .dat (.tuple (bs.map bD)) ∧ P bs := h
theorem Bp {x : DV} {P : List B4 → Prop} (h : Pd x P) : ∃ bs, x = .dat (.list (bs.map bD)) ∧ P bs := h
theorem Zae {a b : B4} (h : bD a = bD b) : a = b := by
 unfold bD at h
 simp only [PyData.tuple.injEq, List.cons.injEq, PyData.int.injEq, and_true] at h
 obtain ⟨⟨h1, h2⟩, h3, h4⟩ := h
 cases a
 cases b
 simp only at h1 h2 h3 h4
 subst h1 h2 h3 h4
 rfl
theorem Xy : ∀ {as bs : List B4}, as.map bD = bs.map bD → as = bs
 | [], [], _ => rfl
 | [], _ :: _, h => by simp at h
 | _ :: _, [], h => by simp at h
 | a :: as, b :: bs, h => by
  rw [List.map_cons, List.map_cons, List.cons.injEq] at h
  rw [Zae h.1, Xy h.2]
theorem Sv (bs : List B4) (P : List B4 → Prop) : VU (.dat (.tuple (bs.map bD))) P = P bs := propext ⟨fun ⟨cs, e, h⟩ => by
 rw [DV.dat.injEq, PyData.tuple.injEq] at e
 rw [Xy e]
 exact h, fun h => ⟨bs, rfl, h⟩⟩
theorem Rw (bs : List B4) (P : List B4 → Prop) : Pd (.dat (.list (bs.map bD))) P = P bs := propext ⟨fun ⟨cs, e, h⟩ => by
 rw [DV.dat.injEq, PyData.list.injEq] at e
 rw [Xy e]
 exact h, fun h => ⟨bs, rfl, h⟩⟩
noncomputable def Shp (bs : List B4) : Prop := 1 ≤ bs.length ∧ bs.length ≤ 6 ∧ ∀ b ∈ bs, okB b = true
noncomputable abbrev anyB (bs : List B4) : Int → Int → Bool := fun x y => bs.any fun b => hasB b x y
noncomputable def SG : DSp := fun xs M Φ => on1 xs fun x => onX x fun b => Φ (.dat (.bool (okB b))) M
theorem Ry (xs : List DV) (M : Mp) (Φ : DK) : SG xs M Φ = (on1 xs fun x => onX x fun b => Φ (.dat (.bool (okB b))) M) := propext Iff.rfl
noncomputable def S0 : DSp := fun xs M Φ => on3 xs fun x y z => onX x fun a => onX y fun b => onI z fun i => (i = 0 ∨ i = 1) ∧ Φ (.dat (.int (if i = 0 then gp a.x a.X b.x b.X else gp a.y a.Y b.y b.Y))) M
theorem P7 (xs : List DV) (M : Mp) (Φ : DK) : S0 xs M Φ = (on3 xs fun x y z => onX x fun a => onX y fun b => onI z fun i => (i = 0 ∨ i = 1) ∧ Φ (.dat (.int (if i = 0 then gp a.x a.X b.x b.X else gp a.y a.Y b.y b.Y))) M) := propext Iff.rfl
noncomputable def Vn : DSp := fun xs M Φ => on2 xs fun x y => onX x fun a => onX y fun b => Φ (.dat (.int (Jw a b))) M
theorem Ck (xs : List DV) (M : Mp) (Φ : DK) : Vn xs M Φ = (on2 xs fun x y => onX x fun a => onX y fun b => Φ (.dat (.int (Jw a b))) M) := propext Iff.rfl
noncomputable def Zcj : DSp := fun xs M Φ => on2 xs fun x y => onX x fun a => onP y fun u v => Φ (.dat (.int (ZI a u v))) M
theorem Zce (xs : List DV) (M : Mp) (Φ : DK) : Zcj xs M Φ = (on2 xs fun x y => onX x fun a => onP y fun u v => Φ (.dat (.int (ZI a u v))) M) := propext Iff.rfl
noncomputable def CI : DSp := fun xs M Φ => on2 xs fun x y => onX x fun a => onP y fun u v => Φ (.dat (.bool (hasB a u v))) M
theorem MC (xs : List DV) (M : Mp) (Φ : DK) : CI xs M Φ = (on2 xs fun x y => onX x fun a => onP y fun u v => Φ (.dat (.bool (hasB a u v))) M) := propext Iff.rfl
noncomputable def Bi : DSp := fun xs M Φ => on2 xs fun x y => onP x fun a b => onP y fun u v => Φ (.dat (.int (Qn a b u v))) M
theorem EJ (xs : List DV) (M : Mp) (Φ : DK) : Bi xs M Φ = (on2 xs fun x y => onP x fun a b => onP y fun u v => Φ (.dat (.int (Qn a b u v))) M) := propext Iff.rfl
noncomputable def Y4 : DSp := fun xs M Φ => on2 xs fun x y => onP x fun u v => onI y fun r => Φ (.dat (bD (QM u v r))) M
theorem Dk (xs : List DV) (M : Mp) (Φ : DK) : Y4 xs M Φ = (on2 xs fun x y => onP x fun u v => onI y fun r => Φ (.dat (bD (QM u v r))) M) := propext Iff.rfl
noncomputable def Kg : DSp := fun xs M Φ => on2 xs fun x y => onX x fun a => onX y fun b => Φ (.dat (bD (ZbQ a b))) M
theorem Ea (xs : List DV) (M : Mp) (Φ : DK) : Kg xs M Φ = (on2 xs fun x y => onX x fun a => onX y fun b => Φ (.dat (bD (ZbQ a b))) M) := propext Iff.rfl
noncomputable def RE : DSp := fun xs M Φ => on2 xs fun x y => onX x fun a => onX y fun b => ∀ p, M p = none → Φ (.own p) (Z3 M p (.lst ((Ws a b).map bD)))
theorem Tn (xs : List DV) (M : Mp) (Φ : DK) : RE xs M Φ = (on2 xs fun x y => onX x fun a => onX y fun b => ∀ p, M p = none → Φ (.own p) (Z3 M p (.lst ((Ws a b).map bD)))) := propext Iff.rfl
noncomputable def C2 : DSp := fun xs M Φ => on2 xs fun x y => onX x fun a => VU y fun bs => bs.length ≤ 6 ∧ Φ (.dat (.list ((Jo a bs).map bD))) M
theorem OX (xs : List DV) (M : Mp) (Φ : DK) : C2 xs M Φ = (on2 xs fun x y => onX x fun a => VU y fun bs => bs.length ≤ 6 ∧ Φ (.dat (.list ((Jo a bs).map bD))) M) := propext Iff.rfl
noncomputable def GD : DSp := fun xs M Φ => on2 xs fun x y => VU x fun bs => onP y fun u v => bs.length ≤ 6 ∧ Φ (.dat (.bool (anyB bs u v))) M
theorem Ni (xs : List DV) (M : Mp) (Φ : DK) : GD xs M Φ = (on2 xs fun x y => VU x fun bs => onP y fun u v => bs.length ≤ 6 ∧ Φ (.dat (.bool (anyB bs u v))) M) := propext Iff.rfl
theorem Vz {α : Type} {l : List α} {i : Nat} {q : α} (f : α → Bool) (h : l[i]? = some q) : (l.take (i + 1)).filter f = (l.take i).filter f ++ (if f q = true then [q] else []) := by
 rw [List.take_add_one, h, List.filter_append]
 cases e : f q <;> simp [e]
theorem US (a b : B4) : (Ws a b).length ≤ 4 := by
 unfold Ws
 split
 ·simp
 ·exact Nat.le_trans (List.length_filter_le _ _) (Nat.le_refl 4)
theorem C3 : ∀ (bs ps : List B4), (bs.foldl (fun ps b => ps.flatMap fun p => Ws p b) ps).length ≤ ps.length * 4 ^ bs.length
 | [], ps => by simp
 | b :: bs, ps => by
  have h1 := X8 (fun p => Ws p b) 4 ps fun p _ => US p b
  have h2 := C3 bs (ps.flatMap fun p => Ws p b)
  rw [List.foldl_cons, List.length_cons, Nat.pow_succ]
  refine Nat.le_trans h2 (Nat.le_trans (Nat.mul_le_mul_right _ h1) ?_)
  rw [Nat.mul_assoc, Nat.mul_comm 4]
  exact Nat.le_refl _
theorem Wc (a : B4) (bs : List B4) (h : bs.length ≤ 6) : (Jo a bs).length ≤ 4096 := by
 have h1 := C3 bs [a]
 rw [List.length_singleton, Nat.one_mul] at h1
 have h2 : 4 ^ bs.length ≤ 4 ^ 6 := Nat.pow_le_pow_right (by decide) h
 exact Nat.le_trans h1 (Nat.le_trans h2 (by decide))
theorem DX {a b : B4} {bs : List B4} {i : Nat} (h : bs[i]? = some b) : Jo a (bs.take (i + 1)) = (Jo a (bs.take i)).flatMap fun p => Ws p b := by
 unfold Jo
 rw [List.take_add_one, h, List.foldl_append]
 rfl
noncomputable def Sub (q p : B4) : Prop := okB q = true ∧ p.x ≤ q.x ∧ q.X ≤ p.X ∧ p.y ≤ q.y ∧ q.Y ≤ p.Y
theorem Sub.trans {a b c : B4} (h : Sub a b) (k : Sub b c) : Sub a c := by
 unfold Sub at *
 exact ⟨h.1, by omega⟩
theorem Fm {a b q : B4} (ha : okB a = true) (h : q ∈ Ws a b) : Sub q a := by
 unfold Ws at h
 split at h
 ·rw [List.mem_singleton.mp h]
  exact ⟨ha, by omega⟩
 ·rename_i h0
  obtain ⟨h1, h2⟩ := List.mem_filter.mp h
  refine ⟨h2, ?_⟩
  unfold Jw btw gp at h0
  unfold okB at ha h2
  simp only [Bool.and_eq_true, decide_eq_true_eq] at ha h2
  unfold EC at h1
  simp only [List.mem_cons, List.not_mem_nil, or_false] at h1
  rcases h1 with rfl | rfl | rfl | rfl
  all_goals (dsimp only at h2 ⊢; omega)
theorem CO {a : B4} : ∀ (bs ps : List B4), (∀ p ∈ ps, Sub p a) → ∀ q ∈ bs.foldl (fun ps b => ps.flatMap fun p => Ws p b) ps, Sub q a
 | [], ps, h, q, hq => h q hq
 | b :: bs, ps, h, q, hq => by
  rw [List.foldl_cons] at hq
  refine CO bs _ (fun p hp => ?_) q hq
  obtain ⟨p', hp', hc⟩ := List.mem_flatMap.mp hp
  exact (Fm (h p' hp').1 hc).trans (h p' hp')
theorem CH {a q : B4} {bs : List B4} (ha : okB a = true) (h : q ∈ Jo a bs) : Sub q a :=
 CO bs [a] (fun p hp => by rw [List.mem_singleton.mp hp]; exact ⟨ha, by omega⟩) q h
theorem MR {α : Type} {l : List α} {i : Nat} {q : α} (f : α → Bool) (h : l[i]? = some q) : (l.take (i + 1)).any f = ((l.take i).any f || f q) := by
 rw [List.take_add_one, h, List.any_append]
 simp
section
variable {P : Program} {w : World} {K : PySem.W.Frag} {mg : Str → Option Value} {base : Heap}
theorem Fz {a b a' b' : Int} : gp a b a' b' = 0 ↔ a' ≤ b ∧ a ≤ b' := by
 unfold gp
 omega
theorem Zam (a b a' b' : Int) : 0 ≤ gp a b a' b' := Int.le_max_left _ _
theorem Sd {x y : Int} (hx : 0 ≤ x) (hy : 0 ≤ y) : max x y = 0 ↔ x = 0 ∧ y = 0 := by omega
theorem Ob (b : B4) (u v : Int) : decide (ZI b u v = 0) = hasB b u v := by
 unfold hasB ZI btw
 rw [decide_eq_decide, Sd (Zam _ _ _ _) (Zam _ _ _ _), Fz, Fz]
 omega
theorem LV {a n : Int} : ab a ≤ n ↔ -n ≤ a ∧ a ≤ n := by unfold ab; split <;> omega
theorem Q6 (a : Int) : (0 ≤ a ∧ ab a = a) ∨ (a < 0 ∧ ab a = -a) := by unfold ab; split <;> omega
theorem Zb8 (a : Int) : ab (-a) = ab a := by unfold ab; split <;> split <;> omega
theorem Pg (a b : Int) : ab (a - b) = ab (b - a) := by rw [← Zb8, Int.neg_sub]
theorem ZQ {a b x y n : Int} : Qn a b x y ≤ n ↔ (-n ≤ a - x ∧ a - x ≤ n) ∧ (-n ≤ b - y ∧ b - y ≤ n) := by
 unfold Qn
 rw [Int.max_le, LV, LV]
theorem Yd (a b x y : Int) : Qn a b x y = Qn x y a b := by
 unfold Qn
 rw [Pg a x, Pg b y]
theorem OQ {a b x y : Int} (h : ¬ (x = a ∧ y = b)) : 1 ≤ Qn a b x y := by
 have h1 := ZQ.mp (Int.le_refl (Qn a b x y))
 omega
structure IsD (S : Int → Int → Bool) (u v d : Int) : Prop where
 sg : S u v = decide (0 < d)
 ne : d ≠ 0
 ex : ∃ x y, S x y ≠ S u v ∧ Qn u v x y = ab d
 mn : ∀ x y, S x y ≠ S u v → ab d ≤ Qn u v x y
section
variable {S S' : Int → Int → Bool} {u v d h : Int}
theorem IsD.pos (h : IsD S u v d) (k : S u v = true) : 0 < d := by have := h.sg; rw [k] at this; exact of_decide_eq_true this.symm
theorem IsD.neg (h : IsD S u v d) (k : S u v = false) : d < 0 := by
 have h1 := h.sg
 rw [k] at h1
 have h2 := of_decide_eq_false h1.symm
 have h3 := h.ne
 omega
theorem IsD.eq (h : IsD S u v d) {e : Int} (k : IsD S u v e) : d = e := by
 obtain ⟨x, y, h1, h2⟩ := h.ex
 obtain ⟨x', y', k1, k2⟩ := k.ex
 have a := h.mn x' y' k1
 have b := k.mn x y h1
 cases c : S u v with
 | true =>
  have c1 := h.pos c
  have c2 := k.pos c
  have i1 := Q6 d
  have i2 := Q6 e
  omega
 | false =>
  have c1 := h.neg c
  have c2 := k.neg c
  have i1 := Q6 d
  have i2 := Q6 e
  omega
noncomputable def cl (f a : Int) : Int := max (0 - f) (min f a)
theorem CN {f : Int} (hf : 0 ≤ f) (a : Int) : (a < -f ∧ cl f a = -f) ∨ (f < a ∧ cl f a = f) ∨ ((-f ≤ a ∧ a ≤ f) ∧ cl f a = a) := by unfold cl; omega
theorem ZaP {f : Int} (hf : 0 ≤ f) (a : Int) : ab (cl f a) ≤ f := by
 rw [LV]
 have := CN hf a
 omega
theorem Up {f : Int} (hf : 0 ≤ f) (u x : Int) : ab (u + cl f (x - u) - x) = max 0 (ab (u - x) - f) := by
 have h1 := CN hf (x - u)
 have h2 := Q6 (u - x)
 have h3 := Q6 (u + cl f (x - u) - x)
 omega
theorem E3 {f : Int} (hf : 0 ≤ f) (u v x y : Int) : Qn u v (u + cl f (x - u)) (v + cl f (y - v)) ≤ f := by
 rw [ZQ]
 have h1 := LV.mp (ZaP hf (x - u))
 have h2 := LV.mp (ZaP hf (y - v))
 omega
noncomputable def sgn (h : Int) : Int := if h < 0 then -1 else 1
theorem O9 (h : Int) : (0 ≤ h ∧ sgn h = 1) ∨ (h < 0 ∧ sgn h = -1) := by unfold sgn; split <;> omega
theorem IsD.near (k : IsD S u v h) {x y : Int} (c : Qn u v x y < ab h) : S x y = S u v := by
 by_cases e : S x y = S u v
 ·exact e
 ·have := k.mn x y e
  omega
theorem Cm {S : Int → Int → Bool} {u v x y : Int} (h : S x y ≠ S u v) : 1 ≤ Qn u v x y := by
 by_cases e : x = u ∧ y = v
 ·rw [e.1, e.2] at h
  exact absurd rfl h
 ·exact OQ e
theorem IsD.other (k : IsD S u v h) {x y : Int} (o : S x y ≠ S u v) (c : Qn u v x y = ab h) : IsD S x y (0 - sgn h) := by
 have hn := k.ne
 have g2 := Q6 h
 have f0 : 0 ≤ ab h - 1 := by omega
 have n1 := k.near (x := u + cl (ab h - 1) (x - u)) (y := v + cl (ab h - 1) (y - v)) (by have := E3 f0 u v x y; omega)
 have a0 : ab (0 - sgn h) = 1 := by
  have g3 := Q6 (0 - sgn h)
  have g4 := O9 h
  omega
 have far : 1 ≤ Qn x y (u + cl (ab h - 1) (x - u)) (v + cl (ab h - 1) (y - v)) := Cm (S := S) (by rw [n1]; exact fun z => o z.symm)
 have near : Qn x y (u + cl (ab h - 1) (x - u)) (v + cl (ab h - 1) (y - v)) ≤ 1 := by
  rw [Yd]
  unfold Qn at c ⊢
  rw [Up f0, Up f0]
  omega
 refine ⟨?_, by unfold sgn; split <;> decide, ⟨u + cl (ab h - 1) (x - u), v + cl (ab h - 1) (y - v), by rw [n1]; exact fun z => o z.symm, by rw [a0]; omega⟩, fun x' y' q => by rw [a0]; exact Cm q⟩
 cases c : S u v with
 | true =>
  have := k.pos c
  rw [c] at o
  rw [show sgn h = 1 from if_neg (by omega)]
  cases c' : S x y with
  | true => exact absurd c' o
  | false => rfl
 | false =>
  have := k.neg c
  rw [c] at o
  rw [show sgn h = -1 from if_pos this]
  cases c' : S x y with
  | true => rfl
  | false => exact absurd c' o
theorem IsD.more (k : IsD S u v h) (k' : IsD S' u v d) (hS : ∀ x y, S x y = true → S' x y = true) : h ≤ d := by
 cases c : S u v with
 | true =>
  have c1 := k.pos c
  have c' := hS u v c
  have c2 := k'.pos c'
  obtain ⟨x, y, a, b⟩ := k'.ex
  have a' : S x y ≠ S u v := fun z => a (by rw [c', hS x y (by rw [z, c])])
  have := k.mn x y a'
  have i1 := Q6 h
  have i2 := Q6 d
  omega
 | false =>
  have c1 := k.neg c
  cases c' : S' u v with
  | true =>
   have := k'.pos c'
   omega
  | false =>
   have c2 := k'.neg c'
   obtain ⟨x, y, a, b⟩ := k.ex
   have a' : S x y = true := by
    cases z : S x y with
    | true => rfl
    | false => rw [c, z] at a; exact absurd rfl a
   have := k'.mn x y (by rw [hS x y a', c']; decide)
   have i1 := Q6 h
   have i2 := Q6 d
   omega
theorem IsD.le (k : IsD S u v d) {x y : Int} (q : S x y ≠ S u v) {n : Int} (hn : Qn u v x y ≤ n) : -n ≤ d ∧ d ≤ n := by
 have := k.mn x y q
 have i1 := Q6 d
 omega
end
theorem ZP {b : B4} : okB b = true ↔ b.x ≤ b.X ∧ b.y ≤ b.Y := by
 unfold okB
 simp only [Bool.and_eq_true, decide_eq_true_eq]
theorem Zs {b : B4} {u v : Int} : hasB b u v = true ↔ b.x ≤ u ∧ u ≤ b.X ∧ b.y ≤ v ∧ v ≤ b.Y := by
 unfold hasB
 rw [decide_eq_true_eq]
theorem Q3 {p : B4} {u v n : Int} (hn : 0 ≤ n) : ZI p u v ≤ n ↔ (u - p.X ≤ n ∧ p.x - u ≤ n) ∧ (v - p.Y ≤ n ∧ p.y - v ≤ n) := by
 unfold ZI btw gp
 omega
theorem Ye (p : B4) (u v : Int) : 0 ≤ ZI p u v := by
 unfold ZI btw gp
 omega
theorem Lm (a b x y : Int) : 0 ≤ Qn a b x y := by
 have := ZQ.mp (Int.le_refl (Qn a b x y))
 omega
theorem JC {p : B4} {u v x y : Int} (h : hasB p x y = true) : ZI p u v ≤ Qn u v x y := by
 have h1 := ZQ.mp (Int.le_refl (Qn u v x y))
 have h2 := Zs.mp h
 rw [Q3 (Lm u v x y)]
 omega
theorem Bz {p : B4} (h : okB p = true) (u v : Int) : ∃ x y, hasB p x y = true ∧ Qn u v x y = ZI p u v := by
 have h1 := ZP.mp h
 have h2 := (Q3 (Ye p u v)).mp (Int.le_refl _)
 have h3 : hasB p (max p.x (min p.X u)) (max p.y (min p.Y v)) = true := by
  rw [Zs]
  omega
 refine ⟨_, _, h3, Int.le_antisymm ?_ (JC h3)⟩
 rw [ZQ]
 have h4 := Ye p u v
 omega
theorem RB {a b : B4} (ha : okB a = true) (x y : Int) : ((Ws a b).any fun p => hasB p x y) = (hasB a x y && !hasB b x y) := by
 have ok := ZP.mp ha
 rw [Bool.eq_iff_iff, Bool.and_eq_true, Bool.not_eq_true', ← Bool.not_eq_true, Zs, Zs, List.any_eq_true]
 unfold Ws
 split
 ·rename_i h0
  unfold Jw btw gp at h0
  constructor
  ·rintro ⟨p, hp, h⟩
   rw [List.mem_singleton.mp hp, Zs] at h
   omega
  ·intro h
   exact ⟨a, List.mem_singleton.mpr rfl, Zs.mpr (by omega)⟩
 ·rename_i h0
  unfold Jw btw gp at h0
  constructor
  ·rintro ⟨p, hp, h⟩
   have hp := (List.mem_filter.mp hp).1
   rw [Zs] at h
   unfold EC at hp
   simp only [List.mem_cons, List.not_mem_nil, or_false] at hp
   rcases hp with rfl | rfl | rfl | rfl
   all_goals (dsimp only at h; omega)
  ·intro h
   have fin : ∀ p : B4, p ∈ EC a b → (p.x ≤ x ∧ x ≤ p.X ∧ p.y ≤ y ∧ y ≤ p.Y) → ∃ p, p ∈ (EC a b).filter okB ∧ hasB p x y = true := fun p hp hh => ⟨p, List.mem_filter.mpr ⟨hp, ZP.mpr (by omega)⟩, Zs.mpr hh⟩
   by_cases c1 : x < b.x
   ·exact fin ⟨a.x, a.y, max a.x b.x - 1, a.Y⟩ (by simp [EC]) (by dsimp only; omega)
   ·by_cases c2 : b.X < x
    ·exact fin ⟨min a.X b.X + 1, a.y, a.X, a.Y⟩ (by simp [EC]) (by dsimp only; omega)
    ·by_cases c3 : y < b.y
     ·exact fin ⟨max a.x b.x, a.y, min a.X b.X, max a.y b.y - 1⟩ (by simp [EC]) (by dsimp only; omega)
     ·exact fin ⟨max a.x b.x, min a.Y b.Y + 1, min a.X b.X, a.Y⟩ (by simp [EC]) (by dsimp only; omega)
theorem fold_any (x y : Int) : ∀ (bs ps : List B4), (∀ p ∈ ps, okB p = true) → ((bs.foldl (fun ps b => ps.flatMap fun p => Ws p b) ps).any fun p => hasB p x y) = ((ps.any fun p => hasB p x y) && !(bs.any fun b => hasB b x y))
 | [], ps, _ => by simp
 | b :: bs, ps, hp => by
  have go : ∀ qs : List B4, (∀ p ∈ qs, okB p = true) → ((qs.flatMap fun p => Ws p b).any fun p => hasB p x y) = ((qs.any fun p => hasB p x y) && !hasB b x y) := fun qs => by
   induction qs with
   | nil => intro _; simp
   | cons q qs ih =>
    intro hq
    rw [List.flatMap_cons, List.any_append, RB (hq q List.mem_cons_self), ih fun p h => hq p (List.mem_cons_of_mem _ h), List.any_cons]
    cases hasB q x y <;> cases hasB b x y <;> cases (qs.any fun p => hasB p x y) <;> rfl
  rw [List.foldl_cons, fold_any x y bs _ (fun p h => by
   obtain ⟨q, hq, hc⟩ := List.mem_flatMap.mp h
   exact (Fm (hp q hq) hc).1), go ps hp, List.any_cons]
  cases (ps.any fun p => hasB p x y) <;> cases hasB b x y <;> cases (bs.any fun p => hasB p x y) <;> rfl
theorem Yr {a : B4} {bs : List B4} (ha : okB a = true) (_ : ∀ b ∈ bs, okB b = true) (x y : Int) : ((Jo a bs).any fun p => hasB p x y) = (hasB a x y && !(bs.any fun b => hasB b x y)) := by
 unfold Jo
 rw [fold_any x y bs [a] fun p hp => by rw [List.mem_singleton.mp hp]; exact ha]
 simp
structure Pieces (S : Int → Int → Bool) (u v : Int) (ps : List B4) : Prop where
 ok : ∀ p ∈ ps, okB p = true
 ne : ps ≠ []
 on : ∀ p ∈ ps, ∀ x y, hasB p x y = true → S x y ≠ S u v
 al : ∀ x y, S x y ≠ S u v → ∃ p ∈ ps, ZI p u v ≤ Qn u v x y
theorem JG {bs : List B4} {x y : Int} (h : anyB bs x y = true) : ∃ b ∈ bs, hasB b x y = true := List.any_eq_true.mp h
theorem Bj {bs : List B4} {b : B4} {x y : Int} (hb : b ∈ bs) (h : hasB b x y = true) : anyB bs x y = true := List.any_eq_true.mpr ⟨b, hb, h⟩
noncomputable def Frames (fr : B4) (bs : List B4) : Prop := ∀ b ∈ bs, fr.x < b.x ∧ b.X < fr.X ∧ fr.y < b.y ∧ b.Y < fr.Y
theorem EX {bs : List B4} {fr : B4} {u v : Int} (hb : ∀ b ∈ bs, okB b = true) (hf : Frames fr bs) (h : anyB bs u v = true) : Pieces (anyB bs) u v (Jo fr bs) := by
 obtain ⟨b0, m0, h0⟩ := JG h
 have f0 := hf b0 m0
 have i0 := Zs.mp h0
 have hok : okB fr = true := ZP.mpr (by omega)
 have key : ∀ x y, hasB fr x y = true → anyB bs x y = false → ∃ p ∈ Jo fr bs, hasB p x y = true := fun x y a b => by
  have e := Yr hok hb x y
  rw [a, show (bs.any fun b => hasB b x y) = false from b] at e
  exact List.any_eq_true.mp e
 have al : ∀ x y, anyB bs x y ≠ anyB bs u v → ∃ p ∈ Jo fr bs, ZI p u v ≤ Qn u v x y := fun x y q => by
  have q' : anyB bs x y = false := by
   rw [h] at q
   exact Bool.eq_false_iff.mpr q
  have hc := ZQ.mp (Int.le_refl (Qn u v x y))
  have c1 : hasB fr (max fr.x (min fr.X x)) (max fr.y (min fr.Y y)) = true := by
   rw [Zs]
   omega
  have c2 : anyB bs (max fr.x (min fr.X x)) (max fr.y (min fr.Y y)) = false := by
   by_cases z : fr.x ≤ x ∧ x ≤ fr.X ∧ fr.y ≤ y ∧ y ≤ fr.Y
   ·rw [show max fr.x (min fr.X x) = x by omega, show max fr.y (min fr.Y y) = y by omega]
    exact q'
   ·refine Bool.eq_false_iff.mpr fun t => ?_
    obtain ⟨b, mb, tb⟩ := JG t
    have fb := hf b mb
    have ib := Zs.mp tb
    omega
  obtain ⟨p, mp, hp⟩ := key _ _ c1 c2
  refine ⟨p, mp, Int.le_trans (JC hp) ?_⟩
  rw [ZQ]
  omega
 refine ⟨fun p mp => (CH hok mp).1, fun z => ?_, fun p mp x y hp => ?_, al⟩
 ·obtain ⟨p, mp, _⟩ := al fr.x fr.y (by
   rw [h]
   intro t
   obtain ⟨b, mb, tb⟩ := JG t
   have fb := hf b mb
   have ib := Zs.mp tb
   omega)
  rw [z] at mp
  cases mp
 ·have e := Yr hok hb x y
  rw [List.any_eq_true.mpr ⟨p, mp, hp⟩] at e
  have e' := (Bool.and_eq_true _ _ ▸ e.symm : _ ∧ _).2
  rw [h]
  intro t
  rw [show (bs.any fun b => hasB b x y) = true from t] at e'
  cases e'
theorem D6 {bs : List B4} {u v : Int} (hb : ∀ b ∈ bs, okB b = true) (h1 : bs ≠ []) (h : anyB bs u v = false) : Pieces (anyB bs) u v bs := by
 refine ⟨hb, h1, fun p mp x y hp => ?_, fun x y q => ?_⟩
 ·rw [h, Bj mp hp]
  decide
 ·rw [h] at q
  obtain ⟨b, mb, tb⟩ := JG (Bool.of_not_eq_false q)
  exact ⟨b, mb, JC tb⟩
section
variable {S : Int → Int → Bool} {u v m : Int} {ps : List B4}
theorem Pieces.pos (h : Pieces S u v ps) {p : B4} (mp : p ∈ ps) : 1 ≤ ZI p u v := by
 obtain ⟨x, y, a, b⟩ := Bz (h.ok p mp) u v
 rw [← b]
 exact Cm (h.on p mp x y a)
theorem Pieces.depth (h : Pieces S u v ps) (h1 : ∃ p ∈ ps, ZI p u v = m) (h2 : ∀ p ∈ ps, m ≤ ZI p u v) : IsD S u v (if S u v = true then m else -m) := by
 obtain ⟨p, mp, e⟩ := h1
 have hp := h.pos mp
 obtain ⟨x, y, a, b⟩ := Bz (h.ok p mp) u v
 have ea : ab (if S u v = true then m else -m) = m := by
  split
  ·have := Q6 m
   omega
  ·have := Q6 (-m)
   omega
 refine ⟨?_, ?_, ⟨x, y, h.on p mp x y a, by rw [ea, b, e]⟩, fun x y q => ?_⟩
 ·cases S u v with
  | true => rw [if_pos rfl]; exact (decide_eq_true (by omega)).symm
  | false => rw [if_neg Bool.false_ne_true]; exact (decide_eq_false (by omega)).symm
 ·split <;> omega
 ·obtain ⟨p', mp', q'⟩ := h.al x y q
  have := h2 p' mp'
  rw [ea]
  omega
theorem Pieces.Zbo (h : Pieces S u v ps) (h2 : ∀ p ∈ ps, m ≤ ZI p u v) {p : B4} (mp : p ∈ ps) (h0 : btw p.x p.y p.X p.Y (u - m) (v - m) (u + m) (v + m) = 0) (hm : 0 ≤ m) :
  S (max p.x (u - m)) (max p.y (v - m)) ≠ S u v ∧ Qn u v (max p.x (u - m)) (max p.y (v - m)) = m := by
 have ok := ZP.mp (h.ok p mp)
 have h0' : (u - m ≤ p.X ∧ p.x ≤ u + m) ∧ (v - m ≤ p.Y ∧ p.y ≤ v + m) := by
  unfold btw gp at h0
  omega
 have hh : hasB p (max p.x (u - m)) (max p.y (v - m)) = true := by
  rw [Zs]
  omega
 refine ⟨h.on p mp _ _ hh, Int.le_antisymm ?_ (Int.le_trans (h2 p mp) (JC hh))⟩
 rw [ZQ]
 omega
end
noncomputable def Jt (f ox oy : Int) (b : B4) : B4 := ⟨b.x * f + ox, b.y * f + oy, b.X * f + f - 1 + ox, b.Y * f + f - 1 + oy⟩
theorem Lp {a x f r : Int} (hf : 0 < f) (h0 : 0 ≤ r) (h1 : r < f) : a * f ≤ x * f + r ↔ a ≤ x := by
 constructor
 ·intro h
  by_cases hx : a ≤ x
  ·exact hx
  ·have := Int.mul_le_mul_of_nonneg_right (show x + 1 ≤ a by omega) (Int.le_of_lt hf)
   rw [Int.add_mul, Int.one_mul] at this
   omega
 ·intro h
  have := Int.mul_le_mul_of_nonneg_right h (Int.le_of_lt hf)
  omega
theorem Ct {a x f r : Int} (hf : 0 < f) (h0 : 0 ≤ r) (h1 : r < f) : x * f + r ≤ a * f + f - 1 ↔ x ≤ a := by
 constructor
 ·intro h
  by_cases hx : x ≤ a
  ·exact hx
  ·have := Int.mul_le_mul_of_nonneg_right (show a + 1 ≤ x by omega) (Int.le_of_lt hf)
   rw [Int.add_mul, Int.one_mul] at this
   omega
 ·intro h
  have := Int.mul_le_mul_of_nonneg_right h (Int.le_of_lt hf)
  omega
theorem Ze0 {f ox oy r r' : Int} (hf : 0 < f) (h0 : 0 ≤ r) (h1 : r < f) (h2 : 0 ≤ r') (h3 : r' < f) (b : B4) (u v : Int) : hasB (Jt f ox oy b) (u * f + ox + r) (v * f + oy + r') = hasB b u v := by
 unfold hasB Jt
 dsimp only
 have i1 := Lp (a := b.x) (x := u) hf h0 h1
 have i2 := Ct (a := b.X) (x := u) hf h0 h1
 have i3 := Lp (a := b.y) (x := v) hf h2 h3
 have i4 := Ct (a := b.Y) (x := v) hf h2 h3
 rw [decide_eq_decide, ← i1, ← i2, ← i3, ← i4]
 constructor <;> intro h <;> omega
theorem anyS {f ox oy r r' : Int} (hf : 0 < f) (h0 : 0 ≤ r) (h1 : r < f) (h2 : 0 ≤ r') (h3 : r' < f) (bs : List B4) (u v : Int) :
  ((bs.map (Jt f ox oy)).any fun b => hasB b (u * f + ox + r) (v * f + oy + r')) = bs.any fun b => hasB b u v := by
 rw [List.any_map]
 congr 1
 funext b
 exact Ze0 hf h0 h1 h2 h3 b u v
noncomputable def Cel (b : B4) : Prop := okB b = true ∧ (0 ≤ b.x ∧ b.X ≤ 11) ∧ (0 ≤ b.y ∧ b.Y ≤ 11)
noncomputable def Qf (t ox oy i j : Int) : B4 := Jt t ox oy ⟨i, j, i, j⟩
theorem QR {t : Int} (ht : 1 ≤ t) (x o : Int) : ∃ r, x = (x - o) / t * t + o + r ∧ 0 ≤ r ∧ r < t := by
 refine ⟨(x - o) % t, ?_, Int.emod_nonneg _ (by omega), Int.emod_lt_of_pos _ (by omega)⟩
 have := Int.mul_ediv_add_emod (x - o) t
 rw [Int.mul_comm] at this
 omega
theorem Jm {t ox oy : Int} (ht : 1 ≤ t) (bs : List B4) (x y : Int) : anyB (bs.map (Jt t ox oy)) x y = anyB bs ((x - ox) / t) ((y - oy) / t) := by
 obtain ⟨r, e, a1, a2⟩ := QR ht x ox
 obtain ⟨r', e', b1, b2⟩ := QR ht y oy
 have h := anyS (ox := ox) (oy := oy) (by omega) a1 a2 b1 b2 bs ((x - ox) / t) ((y - oy) / t)
 rw [← e, ← e'] at h
 exact h
theorem VF {t ox oy i j x y : Int} (ht : 1 ≤ t) : hasB (Qf t ox oy i j) x y = true ↔ (x - ox) / t = i ∧ (y - oy) / t = j := by
 obtain ⟨r, e, a1, a2⟩ := QR ht x ox
 obtain ⟨r', e', b1, b2⟩ := QR ht y oy
 have h := Ze0 (ox := ox) (oy := oy) (show 0 < t by omega) a1 a2 b1 b2 ⟨i, j, i, j⟩ ((x - ox) / t) ((y - oy) / t)
 rw [← e, ← e'] at h
 unfold Qf
 rw [h, Zs]
 dsimp only
 omega
theorem Tr {t : Int} (ht : 1 ≤ t) (ox oy i j : Int) : okB (Qf t ox oy i j) = true := by
 rw [ZP]
 unfold Qf Jt
 dsimp only
 omega
theorem YG {bs : List B4} (hb : ∀ b ∈ bs, Cel b) {i j : Int} (h : anyB bs i j = true) : (0 ≤ i ∧ i ≤ 11) ∧ (0 ≤ j ∧ j ≤ 11) := by
 obtain ⟨b, mb, tb⟩ := JG h
 have := (hb b mb).2
 have := Zs.mp tb
 omega
theorem Fc {t o u x n : Int} (ht : 1 ≤ t) (hc : 0 ≤ (u - o) / t ∧ (u - o) / t ≤ 11) (h : -n ≤ u - x ∧ u - x ≤ n) :
  u - (max (-1) (min 12 ((x - o) / t)) * t + t - 1 + o) ≤ n ∧ max (-1) (min 12 ((x - o) / t)) * t + o - u ≤ n := by
 obtain ⟨r, e, a1, a2⟩ := QR ht x o
 obtain ⟨r', e', b1, b2⟩ := QR ht u o
 generalize (x - o) / t = a at *
 generalize (u - o) / t = c at *
 have c1 := Int.mul_le_mul_of_nonneg_right hc.1 (show 0 ≤ t by omega)
 have c2 := Int.mul_le_mul_of_nonneg_right hc.2 (show 0 ≤ t by omega)
 rw [Int.zero_mul] at c1
 by_cases h1 : a < -1
 ·rw [show max (-1) (min 12 a) = -1 by omega, Int.neg_mul, Int.one_mul]
  have := Int.mul_le_mul_of_nonneg_right (show a ≤ -2 by omega) (show 0 ≤ t by omega)
  omega
 ·by_cases h2 : 12 < a
  ·rw [show max (-1) (min 12 a) = 12 by omega]
   have := Int.mul_le_mul_of_nonneg_right (show 13 ≤ a by omega) (show 0 ≤ t by omega)
   omega
  ·rw [show max (-1) (min 12 a) = a by omega]
   omega
theorem XH {bs : List B4} {t ox oy u v : Int} {cs : List (Int × Int)} (ht : 1 ≤ t) (hb : ∀ b ∈ bs, Cel b) (h1 : bs ≠ [])
  (hcs : ∀ i j, (i, j) ∈ cs ↔ ((-1 ≤ i ∧ i ≤ 12) ∧ (-1 ≤ j ∧ j ≤ 12)) ∧ anyB bs i j ≠ anyB bs ((u - ox) / t) ((v - oy) / t)) :
  Pieces (anyB (bs.map (Jt t ox oy))) u v (cs.map fun c => Qf t ox oy c.1 c.2) := by
 refine ⟨fun p mp => ?_, fun z => ?_, fun p mp x y hp => ?_, fun x y q => ?_⟩
 ·obtain ⟨c, _, rfl⟩ := List.mem_map.mp mp
  exact Tr ht _ _ _ _
 ·have z' := List.map_eq_nil_iff.mp z
  have no : ∀ i j, ¬ (((-1 ≤ i ∧ i ≤ 12) ∧ (-1 ≤ j ∧ j ≤ 12)) ∧ anyB bs i j ≠ anyB bs ((u - ox) / t) ((v - oy) / t)) := fun i j k => by
   have := (hcs i j).mpr k
   rw [z'] at this
   cases this
  cases q : anyB bs ((u - ox) / t) ((v - oy) / t) with
  | true =>
   refine no (-1) (-1) ⟨by omega, fun k => ?_⟩
   rw [q] at k
   have := YG hb k
   omega
  | false =>
   obtain ⟨b, r, rfl⟩ : ∃ b r, bs = b :: r := by
    match bs, h1 with
    | b :: r, _ => exact ⟨b, r, rfl⟩
   have cb := hb b List.mem_cons_self
   have ok := ZP.mp cb.1
   have c2 := cb.2
   refine no b.x b.y ⟨by omega, ?_⟩
   rw [q, Bj List.mem_cons_self (Zs.mpr (by omega))]
   decide
 ·obtain ⟨⟨i, j⟩, mc, rfl⟩ := List.mem_map.mp mp
  obtain ⟨e1, e2⟩ := (VF ht).mp hp
  have k := ((hcs i j).mp mc).2
  rw [Jm ht, Jm ht, e1, e2]
  exact k
 ·rw [Jm ht, Jm ht] at q
  have hc := ZQ.mp (Int.le_refl (Qn u v x y))
  by_cases hin : (-1 ≤ (x - ox) / t ∧ (x - ox) / t ≤ 12) ∧ (-1 ≤ (y - oy) / t ∧ (y - oy) / t ≤ 12)
  ·exact ⟨_, List.mem_map.mpr ⟨((x - ox) / t, (y - oy) / t), (hcs _ _).mpr ⟨hin, q⟩, rfl⟩, JC ((VF ht).mpr ⟨rfl, rfl⟩)⟩
  ·have f1 : anyB bs ((x - ox) / t) ((y - oy) / t) = false := Bool.eq_false_iff.mpr fun k => by
    have := YG hb k
    omega
   have s1 : anyB bs ((u - ox) / t) ((v - oy) / t) = true := by
    rw [f1] at q
    cases z : anyB bs ((u - ox) / t) ((v - oy) / t) with
    | true => rfl
    | false => rw [z] at q; exact absurd rfl q
   have cu := YG hb s1
   refine ⟨_, List.mem_map.mpr ⟨(max (-1) (min 12 ((x - ox) / t)), max (-1) (min 12 ((y - oy) / t))), (hcs _ _).mpr ⟨by omega, ?_⟩, rfl⟩, ?_⟩
   ·rw [s1]
    intro k
    have := YG hb k
    omega
   ·rw [Q3 (Lm u v x y)]
    have d1 := Fc (u := u) (x := x) (o := ox) (n := Qn u v x y) ht cu.1 hc.1
    have d2 := Fc (u := v) (x := y) (o := oy) (n := Qn u v x y) ht cu.2 hc.2
    exact ⟨d1, d2⟩
structure WD (S : Int → Int → Bool) (u v m x y : Int) : Prop where
 o : S x y ≠ S u v
 c : Qn u v x y = m
 l : ∀ x' y', S x' y' ≠ S u v → Qn u v x' y' = m → ltP (x', y') (x, y) = false
theorem Sa {a b c d : Int} : ltP (a, b) (c, d) = true ↔ a < c ∨ (a = c ∧ b < d) := by
 unfold ltP
 dsimp only
 split
 ·rw [decide_eq_true_eq]; omega
 ·rw [decide_eq_true_eq]; omega
theorem Dc {a b c d : Int} : ltP (a, b) (c, d) = false ↔ c < a ∨ (a = c ∧ d ≤ b) := by
 rw [← Bool.not_eq_true, Sa]
 omega
theorem WD.eq {S : Int → Int → Bool} {u v m x y x' y' : Int} (h : WD S u v m x y) (k : WD S u v m x' y') : x = x' ∧ y = y' := by
 have a := Dc.mp (h.l x' y' k.o k.c)
 have b := Dc.mp (k.l x y h.o h.c)
 omega
noncomputable def DC (u v m : Int) (p : B4) : Int × Int := (max p.x (u - m), max p.y (v - m))
section
variable {S : Int → Int → Bool} {u v m : Int} {ps : List B4}
theorem Xb {p : B4} (hm : 0 ≤ m) (h2 : m ≤ ZI p u v) : Jw p (QM u v m) = 0 ↔ ZI p u v = m := by
 show btw p.x p.y p.X p.Y (u - m) (v - m) (u + m) (v + m) = 0 ↔ _
 have k := Q3 (p := p) (u := u) (v := v) hm
 have e : btw p.x p.y p.X p.Y (u - m) (v - m) (u + m) (v + m) = 0 ↔ (u - p.X ≤ m ∧ p.x - u ≤ m) ∧ (v - p.Y ≤ m ∧ p.y - v ≤ m) := by
  unfold btw gp
  omega
 rw [e, ← k]
 omega
theorem Pieces.least (h : Pieces S u v ps) (h1 : ∃ p ∈ ps, ZI p u v = m) (h2 : ∀ p ∈ ps, m ≤ ZI p u v) (full : ∀ x y, S x y ≠ S u v → Qn u v x y ≤ m → ∃ p ∈ ps, hasB p x y = true)
  {p : B4} (mp : p ∈ ps) (ep : ZI p u v = m) (hl : ∀ r ∈ ps, ZI r u v = m → ltP (DC u v m r) (DC u v m p) = false) : WD S u v m (DC u v m p).1 (DC u v m p).2 := by
 have hm : 0 ≤ m := by rw [← ep]; exact Ye _ _ _
 have k := h.Zbo h2 mp ((Xb hm (h2 p mp)).mpr ep) hm
 refine ⟨k.1, k.2, fun x' y' q c => ?_⟩
 obtain ⟨r, mr, hr⟩ := full x' y' q (by omega)
 have d1 := JC (u := u) (v := v) hr
 have d2 := h2 r mr
 have z := Dc.mp (hl r mr (by omega))
 have hr' := Zs.mp hr
 have c' := ZQ.mp (Int.le_of_eq c)
 rw [Dc]
 unfold DC at z ⊢
 dsimp only at z ⊢
 omega
end
theorem Nv {bs : List B4} {u v m : Int} (h : anyB bs u v = false) : ∀ x y, anyB bs x y ≠ anyB bs u v → Qn u v x y ≤ m → ∃ p ∈ bs, hasB p x y = true := fun x y q _ => by
 rw [h] at q
 exact JG (Bool.of_not_eq_false q)
theorem Sm {bs : List B4} {fr : B4} {u v m : Int} (hb : ∀ b ∈ bs, okB b = true) (hf : Frames fr bs) (h : anyB bs u v = true) (h2 : ∀ p ∈ Jo fr bs, m ≤ ZI p u v) :
  ∀ x y, anyB bs x y ≠ anyB bs u v → Qn u v x y ≤ m → ∃ p ∈ Jo fr bs, hasB p x y = true := fun x y q c => by
 obtain ⟨b0, m0, h0⟩ := JG h
 have f0 := hf b0 m0
 have i0 := Zs.mp h0
 have hok : okB fr = true := ZP.mpr (by omega)
 have key : ∀ x y, hasB fr x y = true → anyB bs x y = false → ∃ p ∈ Jo fr bs, hasB p x y = true := fun x y a b => by
  have e := Yr hok hb x y
  rw [a, show (bs.any fun b => hasB b x y) = false from b] at e
  exact List.any_eq_true.mp e
 have edge : ∀ a b, hasB fr a b = true → (a = fr.x ∨ a = fr.X ∨ b = fr.y ∨ b = fr.Y) → m ≤ Qn u v a b := fun a b ha hab => by
  obtain ⟨p, mp, hp⟩ := key a b ha (Bool.eq_false_iff.mpr fun t => by
   obtain ⟨b', mb, tb⟩ := JG t
   have fb := hf b' mb
   have ib := Zs.mp tb
   omega)
  exact Int.le_trans (h2 p mp) (JC hp)
 have c' := ZQ.mp c
 have e1 := edge fr.x v (Zs.mpr (by omega)) (by omega)
 have e2 := edge fr.X v (Zs.mpr (by omega)) (by omega)
 have e3 := edge u fr.y (Zs.mpr (by omega)) (by omega)
 have e4 := edge u fr.Y (Zs.mpr (by omega)) (by omega)
 have g1 : Qn u v fr.x v = u - fr.x := Int.le_antisymm (ZQ.mpr (by omega)) (by have := ZQ.mp (Int.le_refl (Qn u v fr.x v)); omega)
 have g2 : Qn u v fr.X v = fr.X - u := Int.le_antisymm (ZQ.mpr (by omega)) (by have := ZQ.mp (Int.le_refl (Qn u v fr.X v)); omega)
 have g3 : Qn u v u fr.y = v - fr.y := Int.le_antisymm (ZQ.mpr (by omega)) (by have := ZQ.mp (Int.le_refl (Qn u v u fr.y)); omega)
 have g4 : Qn u v u fr.Y = fr.Y - v := Int.le_antisymm (ZQ.mpr (by omega)) (by have := ZQ.mp (Int.le_refl (Qn u v u fr.Y)); omega)
 refine key x y (Zs.mpr (by omega)) ?_
 rw [h] at q
 exact Bool.eq_false_iff.mpr q
noncomputable def Full (S : Int → Int → Bool) (u v : Int) (ps : List B4) : Prop := ∀ m, (∀ p ∈ ps, m ≤ ZI p u v) → ∀ x y, S x y ≠ S u v → Qn u v x y ≤ m → ∃ p ∈ ps, hasB p x y = true
noncomputable def Cn : DSp := fun xs M Φ => on1 xs fun x => VU x fun bs => (1 ≤ bs.length ∧ bs.length ≤ 6) ∧ ∀ fr, Frames fr bs → Φ (.dat (bD fr)) M
theorem Hy (xs : List DV) (M : Mp) (Φ : DK) : Cn xs M Φ = (on1 xs fun x => VU x fun bs => (1 ≤ bs.length ∧ bs.length ≤ 6) ∧ ∀ fr, Frames fr bs → Φ (.dat (bD fr)) M) := propext Iff.rfl
noncomputable def CM : DSp := fun xs M Φ => on2 xs fun x y => Pd x fun ps => onP y fun u v => (ps ≠ [] ∧ ps.length ≤ 4096) ∧ ∀ m, (∃ p ∈ ps, ZI p u v = m) → (∀ p ∈ ps, m ≤ ZI p u v) → Φ (.dat (.int m)) M
theorem NH (xs : List DV) (M : Mp) (Φ : DK) : CM xs M Φ = (on2 xs fun x y => Pd x fun ps => onP y fun u v => (ps ≠ [] ∧ ps.length ≤ 4096) ∧ ∀ m, (∃ p ∈ ps, ZI p u v = m) → (∀ p ∈ ps, m ≤ ZI p u v) → Φ (.dat (.int m)) M) := propext Iff.rfl
noncomputable def UK : DSp := fun xs M Φ => on2 xs fun x y => VU x fun bs => onP y fun u v => Shp bs ∧ ∀ ps, Pieces (anyB bs) u v ps → Full (anyB bs) u v ps → ps.length ≤ 4096 → Φ (.dat (.list (ps.map bD))) M
theorem EW (xs : List DV) (M : Mp) (Φ : DK) : UK xs M Φ = (on2 xs fun x y => VU x fun bs => onP y fun u v => Shp bs ∧ ∀ ps, Pieces (anyB bs) u v ps → Full (anyB bs) u v ps → ps.length ≤ 4096 → Φ (.dat (.list (ps.map bD))) M) := propext Iff.rfl
noncomputable def BR : DSp := fun xs M Φ => on2 xs fun x y => VU x fun bs => onP y fun u v => Shp bs ∧ ∀ d, IsD (anyB bs) u v d → Φ (.dat (.int d)) M
theorem Lk (xs : List DV) (M : Mp) (Φ : DK) : BR xs M Φ = (on2 xs fun x y => VU x fun bs => onP y fun u v => Shp bs ∧ ∀ d, IsD (anyB bs) u v d → Φ (.dat (.int d)) M) := propext Iff.rfl
noncomputable def KL : DSp := fun xs M Φ => on2 xs fun x y => VU x fun bs => onP y fun u v => Shp bs ∧ ∀ a b, (∀ d, IsD (anyB bs) u v d → WD (anyB bs) u v (ab d) a b) → Φ (.dat (.tuple [.int a, .int b])) M
theorem BV (xs : List DV) (M : Mp) (Φ : DK) : KL xs M Φ = (on2 xs fun x y => VU x fun bs => onP y fun u v => Shp bs ∧ ∀ a b, (∀ d, IsD (anyB bs) u v d → WD (anyB bs) u v (ab d) a b) → Φ (.dat (.tuple [.int a, .int b])) M) := propext Iff.rfl
theorem PL {bs : List B4} {u v : Int} {A B : Prop} (h1 : anyB bs u v = true → A) (h2 : anyB bs u v = false → B) : if anyB bs u v = true then A else B := by
 cases q : anyB bs u v with
 | true => rw [if_pos rfl]; exact h1 q
 | false => rw [if_neg Bool.false_ne_true]; exact h2 q
inductive Cv where
 | box (k : Int)
 | cut (w a : Int) (p q : Cv)
noncomputable def cvD : Cv → PyData
 | .box k => .tuple [.str (Str.ofString "box"), .int k]
 | .cut w a p q => .tuple [.str (Str.ofString "cut"), .int w, .int a, cvD p, cvD q]
noncomputable def Cv.dep : Cv → Nat
 | .box _ => 1
 | .cut _ _ p q => max p.dep q.dep + 1
theorem Ub (w a : Int) (p q : Cv) : (Cv.cut w a p q).dep = max p.dep q.dep + 1 := rfl
theorem Cv.FR (c : Cv) : 1 ≤ c.dep := by cases c <;> simp [Cv.dep]
noncomputable def upB (b : B4) (w a : Int) : B4 := if w = 0 then ⟨b.x, b.y, a, b.Y⟩ else ⟨b.x, b.y, b.X, a⟩
noncomputable def owB (b : B4) (w a : Int) : B4 := if w = 0 then ⟨a, b.y, b.X, b.Y⟩ else ⟨b.x, a, b.X, b.Y⟩
noncomputable def loB (b : B4) (w : Int) : Int := if w = 0 then b.x else b.y
noncomputable def hiB (b : B4) (w : Int) : Int := if w = 0 then b.X else b.Y
noncomputable def allB (c b : B4) : Bool := hasB c b.x b.y && hasB c b.X b.Y
noncomputable def inB (c b : B4) : Bool := decide (c.x ≤ b.x ∧ c.y ≤ b.y ∧ b.X ≤ c.X ∧ b.Y ≤ c.Y)
noncomputable def DR (bs : List B4) (k : Int) : Bool := decide (0 ≤ k) && decide (k < bs.length)
noncomputable def Xk (b : B4) (w a : Int) : Bool := (decide (w = 0) || decide (w = 1)) && (decide (loB b w ≤ a) && decide (a < hiB b w))
noncomputable def Qm (bs : List B4) : B4 → Cv → Bool
 | b, .box k => DR bs k && (match bs[k.toNat]? with | some c => allB c b | none => false)
 | b, .cut w a p q => Xk b w a && (Qm bs (upB b w a) p && Qm bs (owB b w (a + 1)) q)
noncomputable def Cov (bs : List B4) (b : B4) : Prop := ∀ u v, hasB b u v = true → anyB bs u v = true
theorem QP {b : B4} {w a : Int} : Xk b w a = true ↔ (w = 0 ∨ w = 1) ∧ loB b w ≤ a ∧ a < hiB b w := by
 unfold Xk
 simp only [Bool.and_eq_true, Bool.or_eq_true, decide_eq_true_eq]
theorem allB_iff {c b : B4} : allB c b = true ↔ (c.x ≤ b.x ∧ b.x ≤ c.X ∧ c.y ≤ b.y ∧ b.y ≤ c.Y) ∧ (c.x ≤ b.X ∧ b.X ≤ c.X ∧ c.y ≤ b.Y ∧ b.Y ≤ c.Y) := by
 unfold allB hasB
 rw [Bool.and_eq_true, decide_eq_true_eq, decide_eq_true_eq]
theorem EE {c b : B4} (hb : okB b = true) (h : inB c b = true) : allB c b = true := by
 rw [ZP] at hb
 unfold inB at h
 have h := of_decide_eq_true h
 rw [allB_iff]
 omega
theorem Pp {b : B4} {w a u v : Int} (h : hasB b u v = true) (hw : w = 0 ∨ w = 1) : hasB (upB b w a) u v = true ∨ hasB (owB b w (a + 1)) u v = true := by
 rw [Zs] at *
 rw [Zs]
 rcases hw with rfl | rfl
 ·unfold upB owB
  rw [if_pos rfl, if_pos rfl]
  dsimp only
  omega
 ·unfold upB owB
  rw [if_neg (by decide), if_neg (by decide)]
  dsimp only
  omega
theorem Hl {b : B4} {w a u v : Int} (hw : w = 0 ∨ w = 1) (h1 : loB b w ≤ a) (h2 : a < hiB b w) : (hasB (upB b w a) u v = true → hasB b u v = true) ∧ (hasB (owB b w (a + 1)) u v = true → hasB b u v = true) := by
 rw [Zs, Zs, Zs]
 rcases hw with rfl | rfl
 ·unfold upB owB
  unfold loB at h1
  unfold hiB at h2
  rw [if_pos rfl] at h1 h2
  rw [if_pos rfl, if_pos rfl]
  dsimp only
  omega
 ·unfold upB owB
  unfold loB at h1
  unfold hiB at h2
  rw [if_neg (by decide)] at h1 h2
  rw [if_neg (by decide), if_neg (by decide)]
  dsimp only
  omega
theorem EM {b : B4} {w a : Int} (hb : okB b = true) (hw : w = 0 ∨ w = 1) (h1 : loB b w ≤ a) (h2 : a < hiB b w) : okB (upB b w a) = true ∧ okB (owB b w (a + 1)) = true := by
 rw [ZP] at *
 rw [ZP]
 rcases hw with rfl | rfl
 ·unfold upB owB
  unfold loB at h1
  unfold hiB at h2
  rw [if_pos rfl] at h1 h2
  rw [if_pos rfl, if_pos rfl]
  dsimp only
  omega
 ·unfold upB owB
  unfold loB at h1
  unfold hiB at h2
  rw [if_neg (by decide)] at h1 h2
  rw [if_neg (by decide), if_neg (by decide)]
  dsimp only
  omega
theorem VB {bs : List B4} : ∀ {c : Cv} {b : B4}, Qm bs b c = true → Cov bs b
 | .box k, b, h, u, v, hu => by
  unfold Qm at h
  rw [Bool.and_eq_true] at h
  cases q : bs[k.toNat]? with
  | none => rw [q] at h; exact absurd h.2 Bool.false_ne_true
  | some c =>
   rw [q] at h
   refine List.any_eq_true.mpr ⟨c, List.mem_of_getElem? q, ?_⟩
   have := allB_iff.mp h.2
   rw [Zs] at *
   omega
 | .cut w a p q, b, h, u, v, hu => by
  unfold Qm at h
  rw [Bool.and_eq_true, Bool.and_eq_true, QP] at h
  rcases Pp (a := a) hu h.1.1 with z | z
  ·exact VB h.2.1 u v z
  ·exact VB h.2.2 u v z
theorem Gv {bs : List B4} {b c : B4} {i : Nat} (hi : bs[i]? = some c) (h : allB c b = true) : Qm bs b (.box (i : Int)) = true := by
 unfold Qm DR
 have hl := (List.getElem?_eq_some_iff.mp hi).1
 rw [decide_eq_true (show (0 : Int) ≤ (i : Int) by omega), decide_eq_true (show (i : Int) < bs.length by omega), Int.toNat_natCast, hi]
 exact h
theorem Gx {bs : List B4} {b : B4} {w a : Int} {p q : Cv} (hw : w = 0 ∨ w = 1) (h1 : loB b w ≤ a) (h2 : a < hiB b w) (hp : Qm bs (upB b w a) p = true) (hq : Qm bs (owB b w (a + 1)) q = true) : Qm bs b (.cut w a p q) = true := by
 unfold Qm
 rw [QP.mpr ⟨hw, h1, h2⟩, hp, hq]
 rfl
theorem Cov.sub {bs : List B4} {b : B4} {w a : Int} (h : Cov bs b) (hw : w = 0 ∨ w = 1) (h1 : loB b w ≤ a) (h2 : a < hiB b w) : Cov bs (upB b w a) ∧ Cov bs (owB b w (a + 1)) :=
 ⟨fun u v z => h u v ((Hl hw h1 h2).1 z), fun u v z => h u v ((Hl hw h1 h2).2 z)⟩
noncomputable def ZS (b : B4) (w : Int) (c : B4) : Bool := decide (loB b w ≤ hiB c w) && decide (hiB c w < hiB b w)
noncomputable def UU (bs : List B4) (b : B4) : Nat := bs.countP (ZS b 0) + bs.countP (ZS b 1)
theorem K3 {α : Type} {p q : α → Bool} : ∀ {l : List α}, (∀ x ∈ l, p x = true → q x = true) → (∃ x ∈ l, q x = true ∧ p x = false) → l.countP p < l.countP q
 | [], _, ⟨x, hx, _⟩ => (nomatch hx)
 | a :: l, h, ⟨x, hx, h1, h2⟩ => by
  have hm : l.countP p ≤ l.countP q := List.countP_mono_left fun y hy => h y (List.mem_cons_of_mem _ hy)
  rw [List.countP_cons, List.countP_cons]
  rcases List.mem_cons.mp hx with rfl | hx
  ·rw [h1, h2]
   simp
   omega
  ·have ih := K3 (fun y hy => h y (List.mem_cons_of_mem _ hy)) ⟨x, hx, h1, h2⟩
   cases e : p a with
   | false => simp; omega
   | true => rw [h a List.mem_cons_self e]; simp; omega
theorem Pw (bs : List B4) (b : B4) : UU bs b ≤ 2 * bs.length := by
 unfold UU
 have h1 := List.countP_le_length (l := bs) (p := ZS b 0)
 have h2 := List.countP_le_length (l := bs) (p := ZS b 1)
 omega
theorem Xq {b : B4} {w a w' : Int} (hw : w = 0 ∨ w = 1) (hw' : w' = 0 ∨ w' = 1) (h1 : loB b w ≤ a) (h2 : a < hiB b w) (c : B4) : (ZS (upB b w a) w' c = true → ZS b w' c = true) ∧ (ZS (owB b w (a + 1)) w' c = true → ZS b w' c = true) := by
 unfold ZS
 simp only [Bool.and_eq_true, decide_eq_true_eq]
 rcases hw with rfl | rfl <;> rcases hw' with rfl | rfl <;> simp only [upB, owB, loB, hiB, if_true, if_false, Int.reduceEq] at * <;> omega
theorem MB {b : B4} {w a : Int} (hw : w = 0 ∨ w = 1) (c : B4) (e : hiB c w = a) : ZS (upB b w a) w c = false ∧ ZS (owB b w (a + 1)) w c = false := by
 unfold ZS
 simp only [Bool.and_eq_false_iff, decide_eq_false_iff_not]
 rcases hw with rfl | rfl <;> simp only [upB, owB, loB, hiB, if_true, if_false, Int.reduceEq] at * <;> omega
theorem SN {bs : List B4} {b : B4} {w a : Int} (hw : w = 0 ∨ w = 1) (h1 : loB b w ≤ a) (h2 : a < hiB b w) : UU bs (upB b w a) ≤ UU bs b ∧ UU bs (owB b w (a + 1)) ≤ UU bs b := by
 unfold UU
 have k := fun w' (hw' : w' = 0 ∨ w' = 1) => (⟨List.countP_mono_left fun c _ => (Xq hw hw' h1 h2 c).1, List.countP_mono_left fun c _ => (Xq hw hw' h1 h2 c).2⟩ : bs.countP (ZS (upB b w a) w') ≤ bs.countP (ZS b w') ∧ bs.countP (ZS (owB b w (a + 1)) w') ≤ bs.countP (ZS b w'))
 have k0 := k 0 (.inl rfl)
 have k1 := k 1 (.inr rfl)
 omega
theorem LK {bs : List B4} {b : B4} {w a : Int} (hw : w = 0 ∨ w = 1) (h1 : loB b w ≤ a) (h2 : a < hiB b w) {c : B4} (hc : c ∈ bs) (e : hiB c w = a) : UU bs (upB b w a) < UU bs b ∧ UU bs (owB b w (a + 1)) < UU bs b := by
 have here : ZS b w c = true := by
  unfold ZS
  rw [e, decide_eq_true h1, decide_eq_true h2]
  rfl
 have g := MB (b := b) (a := a) hw c e
 have k := fun w' (hw' : w' = 0 ∨ w' = 1) => (⟨List.countP_mono_left fun c _ => (Xq hw hw' h1 h2 c).1, List.countP_mono_left fun c _ => (Xq hw hw' h1 h2 c).2⟩ : bs.countP (ZS (upB b w a) w') ≤ bs.countP (ZS b w') ∧ bs.countP (ZS (owB b w (a + 1)) w') ≤ bs.countP (ZS b w'))
 have s1 := K3 (l := bs) (p := ZS (upB b w a) w) (q := ZS b w) (fun c _ => (Xq hw hw h1 h2 c).1) ⟨c, hc, here, g.1⟩
 have s2 := K3 (l := bs) (p := ZS (owB b w (a + 1)) w) (q := ZS b w) (fun c _ => (Xq hw hw h1 h2 c).2) ⟨c, hc, here, g.2⟩
 unfold UU
 have k0 := k 0 (.inl rfl)
 have k1 := k 1 (.inr rfl)
 rcases hw with rfl | rfl <;> omega
theorem Za1 {bs : List B4} {b : B4} (hb : okB b = true) (hc : Cov bs b) (hn : ∀ c ∈ bs, inB c b = false) : ∃ c ∈ bs, ZS b 0 c = true ∨ ZS b 1 c = true := by
 rw [ZP] at hb
 obtain ⟨c, hm, h⟩ := List.any_eq_true.mp (hc b.x b.y (by rw [Zs]; omega))
 rw [Zs] at h
 have hi := hn c hm
 unfold inB at hi
 have hi := of_decide_eq_false hi
 refine ⟨c, hm, ?_⟩
 unfold ZS
 simp only [Bool.and_eq_true, decide_eq_true_eq, loB, hiB, if_true, if_false, Int.reduceEq]
 omega
noncomputable def ZW : PyData → Bool
 | .int _ => true
 | _ => false
noncomputable def Ts (bs : List B4) : PyData → Bool
 | .int k => DR bs k
 | _ => false
noncomputable def Y3 (b : B4) : PyData → PyData → Bool
 | .int w, .int a => Xk b w a
 | _, _ => false
noncomputable def K2 (bs : List B4) (b : B4) : PyData → Bool
 | .int k => DR bs k && (match bs[k.toNat]? with | some c => allB c b | none => false)
 | _ => false
noncomputable def upD (b : B4) : PyData → PyData → B4
 | .int w, .int a => upB b w a
 | _, _ => b
noncomputable def owD (b : B4) : PyData → PyData → B4
 | .int w, .int a => owB b w (a + 1)
 | _, _ => b
noncomputable def ZJ (bs : List B4) : Nat → B4 → PyData → Bool
 | 0, _, _ => false
 | _ + 1, b, .tuple [h, k] => isS h (Str.ofString "box") && K2 bs b k
 | n + 1, b, .tuple [h, w, a, p, q] => isS h (Str.ofString "cut") && (Y3 b w a && (ZJ bs n (upD b w a) p && ZJ bs n (owD b w a) q))
 | _ + 1, _, _ => false
noncomputable def Pap : Nat → PyData → Prop
 | 0, _ => False
 | _ + 1, .tuple [h, _] => h.canLay0 = true
 | n + 1, .tuple [h, _, _, p, q] => h.canLay0 = true ∧ Pap n p ∧ Pap n q
 | _ + 1, _ => True
theorem Yb {bs : List B4} {n : Nat} {b : B4} {ds : List PyData} (h2 : ds.length ≠ 2) (h5 : ds.length ≠ 5) : ZJ bs (n + 1) b (.tuple ds) = false := by
 unfold ZJ
 split
 ·cases ‹_›
 ·rename_i e
  simp only [PyData.tuple.injEq] at e
  rw [e] at h2
  exact absurd rfl h2
 ·rename_i e
  simp only [PyData.tuple.injEq] at e
  rw [e] at h5
  exact absurd rfl h5
 ·rfl
theorem Gh {ds : List PyData} (h : ds.length = 2) : ∃ a b, ds = [a, b] := by
 match ds, h with
 | [a, b], _ => exact ⟨a, b, rfl⟩
theorem K9 {ds : List PyData} (h : ds.length = 5) : ∃ a b c d e, ds = [a, b, c, d, e] := by
 match ds, h with
 | [a, b, c, d, e], _ => exact ⟨a, b, c, d, e, rfl⟩
theorem Pap.up : ∀ {n : Nat} {d : PyData}, Pap n d → Pap (n + 1) d
 | 0, _, h => h.elim
 | n + 1, d, h => by
  cases d with
  | tuple ds =>
   by_cases h2 : ds.length = 2
   ·obtain ⟨a, b, rfl⟩ := Gh h2
    exact h
   ·by_cases h5 : ds.length = 5
    ·obtain ⟨a, b, c, p, q, rfl⟩ := K9 h5
     exact ⟨h.1, Pap.up h.2.1, Pap.up h.2.2⟩
    ·match ds, h2, h5 with
     | [], _, _ => trivial
     | [_], _, _ => trivial
     | [_, _], h2, _ => exact absurd rfl h2
     | [_, _, _], _, _ => trivial
     | [_, _, _, _], _, _ => trivial
     | [_, _, _, _, _], _, h5 => exact absurd rfl h5
     | _ :: _ :: _ :: _ :: _ :: _ :: _, _, _ => trivial
  | _ => trivial
theorem Pap.le {n m : Nat} {d : PyData} (h : Pap n d) (hm : n ≤ m) : Pap m d := by
 obtain ⟨k, rfl⟩ := Nat.exists_eq_add_of_le hm
 clear hm
 induction k with
 | zero => exact h
 | succ k ih => exact ih.up
theorem Y5 {bs : List B4} : ∀ {n : Nat} {b : B4} {d : PyData}, Pap n d → ZJ bs (n + 1) b d = ZJ bs n b d
 | 0, _, _, h => h.elim
 | n + 1, b, d, h => by
  cases d with
  | tuple ds =>
   by_cases h2 : ds.length = 2
   ·obtain ⟨x, y, rfl⟩ := Gh h2
    rfl
   ·by_cases h5 : ds.length = 5
    ·obtain ⟨x, y, c, p, q, rfl⟩ := K9 h5
     show (isS x _ && (Y3 b y c && (ZJ bs (n + 1) _ p && ZJ bs (n + 1) _ q))) = (isS x _ && (Y3 b y c && (ZJ bs n _ p && ZJ bs n _ q)))
     rw [Y5 h.2.1, Y5 h.2.2]
    ·rw [Yb h2 h5, Yb h2 h5]
  | _ => rfl
noncomputable def Cv.wok : Cv → Prop
 | .box k => 0 ≤ k ∧ k < 7
 | .cut w _ p q => (w = 0 ∨ w = 1) ∧ p.wok ∧ q.wok
theorem Yn {s : String} (h : (PyData.str (Str.ofString s)).canLay0 = true := by decide +kernel) : (PyData.str (Str.ofString s)).canLay0 = true := h
theorem C7 : ∀ {c : Cv} {n : Nat}, c.dep ≤ n → Pap n (cvD c)
 | c, 0, h => by have := c.FR; omega
 | .box k, n + 1, _ => Yn (s := "box")
 | .cut w a p q, n + 1, h => by
  rw [Ub] at h
  exact ⟨Yn (s := "cut"), C7 (by omega), C7 (by omega)⟩
noncomputable def spW : DSp := fun xs M Φ => on1 xs fun x => onD x fun d => Φ (.dat (.bool (ZW d))) M
theorem Zd6 (xs : List DV) (M : Mp) (Φ : DK) : spW xs M Φ = (on1 xs fun x => onD x fun d => Φ (.dat (.bool (ZW d))) M) := propext Iff.rfl
noncomputable def X3 : DSp := fun xs M Φ => on2 xs fun x y => onX x fun a => onX y fun b => Φ (.dat (.bool (allB a b))) M
theorem D7 (xs : List DV) (M : Mp) (Φ : DK) : X3 xs M Φ = (on2 xs fun x y => onX x fun a => onX y fun b => Φ (.dat (.bool (allB a b))) M) := propext Iff.rfl
noncomputable def ZcS : DSp := fun xs M Φ => on3 xs fun x y z => onX x fun b => onI y fun i => onI z fun a => Φ (.dat (bD (upB b i a))) M
theorem Zcv (xs : List DV) (M : Mp) (Φ : DK) : ZcS xs M Φ = (on3 xs fun x y z => onX x fun b => onI y fun i => onI z fun a => Φ (.dat (bD (upB b i a))) M) := propext Iff.rfl
noncomputable def ZcX : DSp := fun xs M Φ => on3 xs fun x y z => onX x fun b => onI y fun i => onI z fun a => Φ (.dat (bD (owB b i a))) M
theorem ZbO (xs : List DV) (M : Mp) (Φ : DK) : ZcX xs M Φ = (on3 xs fun x y z => onX x fun b => onI y fun i => onI z fun a => Φ (.dat (bD (owB b i a))) M) := propext Iff.rfl
noncomputable def Tb : DSp := fun xs M Φ => on2 xs fun x y => VU x fun bs => onD y fun k => Φ (.dat (.bool (Ts bs k))) M
theorem Rf (xs : List DV) (M : Mp) (Φ : DK) : Tb xs M Φ = (on2 xs fun x y => VU x fun bs => onD y fun k => Φ (.dat (.bool (Ts bs k))) M) := propext Iff.rfl
noncomputable def LD : DSp := fun xs M Φ => on3 xs fun x y z => onX x fun b => onD y fun i => onD z fun a => Φ (.dat (.bool (Y3 b i a))) M
theorem ON (xs : List DV) (M : Mp) (Φ : DK) : LD xs M Φ = (on3 xs fun x y z => onX x fun b => onD y fun i => onD z fun a => Φ (.dat (.bool (Y3 b i a))) M) := propext Iff.rfl
noncomputable def XC (n : Nat) : DSp := fun xs M Φ => on3 xs fun x y z => VU x fun bs => onX y fun b => onD z fun d => Pap n d ∧ Φ (.dat (.bool (ZJ bs n b d))) M
theorem HX (n : Nat) (xs : List DV) (M : Mp) (Φ : DK) : XC n xs M Φ = (on3 xs fun x y z => VU x fun bs => onX y fun b => onD z fun d => Pap n d ∧ Φ (.dat (.bool (ZJ bs n b d))) M) := propext Iff.rfl
theorem GZ (xs : List DV) (M : Mp) (Φ : DK) : ¬ XC 0 xs M Φ := fun h => by
 replace h := Z1 h
 obtain ⟨x, y, z, rfl, h⟩ := h
 replace h := Qd h
 obtain ⟨bs, rfl, h⟩ := h
 replace h := Z0 h
 obtain ⟨b, rfl, h⟩ := h
 replace h := Q8 h
 obtain ⟨d, rfl, h, _⟩ := h
 exact h
noncomputable def shB (c : B4) : B4 := ⟨c.x, c.y, c.x - 1, c.y - 1⟩
noncomputable def dbl (bs : List B4) : List B4 := bs ++ bs.map shB
theorem ZdX (c : B4) (w : Int) : hiB (shB c) w = loB c w - 1 := by
 unfold hiB loB shB
 split <;> rfl
noncomputable def Sf (bs : List B4) (b : B4) (w z : Int) : Prop := (loB b w ≤ z ∧ z < hiB b w) ∧ ∃ c ∈ dbl bs, hiB c w = z
theorem O3 {b : B4} {w : Int} (h : w = 0 ∨ w = 1) (P : PyData → Prop) : X4 [.int b.x, .int b.y] w P = P (.int (loB b w)) := by
 rcases h with rfl | rfl <;> rfl
theorem Pm {b : B4} {w : Int} (h : w = 0 ∨ w = 1) (P : PyData → Prop) : X4 [.int b.X, .int b.Y] w P = P (.int (hiB b w)) := by
 rcases h with rfl | rfl <;> rfl
noncomputable def plB (b : B4) (w : Int) (bs : List B4) : List Int := bs.flatMap fun c => if Jw c b = 0 then [loB c w - 1, hiB c w] else []
theorem Mo {b c : B4} {w : Int} {bs : List B4} {i : Nat} (h : bs[i]? = some c) : plB b w (bs.take (i + 1)) = plB b w (bs.take i) ++ (if Jw c b = 0 then [loB c w - 1, hiB c w] else []) := by
 unfold plB
 rw [List.take_add_one, h, List.flatMap_append]
 simp
theorem EK (b : B4) (w : Int) (bs : List B4) : (plB b w bs).length ≤ bs.length * 2 :=
 X8 _ 2 bs fun c _ => by split <;> simp
theorem RF {b : B4} {w z : Int} {bs : List B4} (h : z ∈ plB b w bs) : ∃ c ∈ dbl bs, hiB c w = z := by
 obtain ⟨c, hc, hz⟩ := List.mem_flatMap.mp h
 split at hz
 ·simp only [List.mem_cons, List.not_mem_nil, or_false] at hz
  rcases hz with rfl | rfl
  ·exact ⟨shB c, List.mem_append_right _ (List.mem_map_of_mem hc), ZdX c w⟩
  ·exact ⟨c, List.mem_append_left _ hc, rfl⟩
 ·cases hz
theorem SY {b c : B4} {w : Int} {bs : List B4} (hc : c ∈ bs) (h0 : Jw c b = 0) : hiB c w ∈ plB b w bs :=
 List.mem_flatMap.mpr ⟨c, hc, by rw [if_pos h0]; simp⟩
theorem RI {bs : List B4} {b : B4} (hb : okB b = true) (hc : Cov bs b) (hn : ∀ c ∈ bs, allB c b = false) : ∃ c ∈ bs, Jw c b = 0 ∧ (ZS b 0 c = true ∨ ZS b 1 c = true) := by
 rw [ZP] at hb
 obtain ⟨c, hm, h⟩ := List.any_eq_true.mp (hc b.x b.y (by rw [Zs]; omega))
 rw [Zs] at h
 have hi : ¬ allB c b = true := by rw [hn c hm]; exact Bool.false_ne_true
 rw [allB_iff] at hi
 refine ⟨c, hm, ?_, ?_⟩
 ·unfold Jw btw gp
  omega
 ·unfold ZS
  simp only [Bool.and_eq_true, decide_eq_true_eq, loB, hiB, if_true, if_false, Int.reduceEq]
  omega
theorem Hg {b c : B4} {w : Int} : ZS b w c = true ↔ loB b w ≤ hiB c w ∧ hiB c w < hiB b w := by
 unfold ZS
 simp only [Bool.and_eq_true, decide_eq_true_eq]
noncomputable def Ut : DSp := fun xs M Φ => on3 xs fun x y z => VU x fun bs => onX y fun b => onI z fun w => (bs.length ≤ 6 ∧ (w = 0 ∨ w = 1)) ∧ ∀ ks : List Int, (∀ z ∈ ks, Sf bs b w z) → (∀ c ∈ bs, Jw c b = 0 → ZS b w c = true → hiB c w ∈ ks) → Φ (.dat (.list (ks.map PyData.int))) M
theorem Em (xs : List DV) (M : Mp) (Φ : DK) : Ut xs M Φ = (on3 xs fun x y z => VU x fun bs => onX y fun b => onI z fun w => (bs.length ≤ 6 ∧ (w = 0 ∨ w = 1)) ∧ ∀ ks : List Int, (∀ z ∈ ks, Sf bs b w z) → (∀ c ∈ bs, Jw c b = 0 → ZS b w c = true → hiB c w ∈ ks) → Φ (.dat (.list (ks.map PyData.int))) M) := propext Iff.rfl
noncomputable def Xr (n : Nat) : DSp := fun xs M Φ => on2 xs fun x y => VU x fun bs => onX y fun b => ((bs.length ≤ 6 ∧ okB b = true ∧ Cov bs b) ∧ UU (dbl bs) b < n) ∧ ∀ c, Qm bs b c = true → c.dep ≤ n → Φ (.dat (cvD c)) M
theorem Fn (n : Nat) (xs : List DV) (M : Mp) (Φ : DK) : Xr n xs M Φ = (on2 xs fun x y => VU x fun bs => onX y fun b => ((bs.length ≤ 6 ∧ okB b = true ∧ Cov bs b) ∧ UU (dbl bs) b < n) ∧ ∀ c, Qm bs b c = true → c.dep ≤ n → Φ (.dat (cvD c)) M) := propext Iff.rfl
theorem GS (xs : List DV) (M : Mp) (Φ : DK) : ¬ Xr 0 xs M Φ := fun h => by
 replace h := Zy h
 obtain ⟨x, y, rfl, h⟩ := h
 replace h := Qd h
 obtain ⟨bs, rfl, h⟩ := h
 replace h := Z0 h
 obtain ⟨b, rfl, h⟩ := h
 exact absurd h.1.2 (Nat.not_lt_zero _)
noncomputable def Lst (bs : List B4) (b : B4) (u v : Int) : Prop := (hasB b u v = true ∧ anyB bs u v = false) ∧ ∀ u' v', hasB b u' v' = true → anyB bs u' v' = false → u < u' ∨ (u = u' ∧ v ≤ v')
noncomputable def KJ : DSp := fun xs M Φ => on2 xs fun x y => VU x fun bs => onX y fun b => (Shp bs ∧ okB b = true) ∧ (Cov bs b → ∀ c, Qm bs b c = true → c.dep ≤ 25 → Φ (.dat (.tuple [.str (Str.ofString "yes"), cvD c])) M) ∧ ∀ u v, Lst bs b u v → Φ (.dat (.tuple [.str (Str.ofString "no"), .tuple [.int u, .int v]])) M
theorem BY (xs : List DV) (M : Mp) (Φ : DK) : KJ xs M Φ = (on2 xs fun x y => VU x fun bs => onX y fun b => (Shp bs ∧ okB b = true) ∧ (Cov bs b → ∀ c, Qm bs b c = true → c.dep ≤ 25 → Φ (.dat (.tuple [.str (Str.ofString "yes"), cvD c])) M) ∧ ∀ u v, Lst bs b u v → Φ (.dat (.tuple [.str (Str.ofString "no"), .tuple [.int u, .int v]])) M) := propext Iff.rfl
theorem N2 {bs : List B4} {b : B4} (hb : okB b = true) (hs : ∀ c ∈ bs, okB c = true) (r : Int × Int) (hr : r ∈ (Jo b bs).map fun p => (p.x, p.y)) (lr : ∀ s ∈ (Jo b bs).map (fun p => (p.x, p.y)), ltP s r = false) : Lst bs b r.1 r.2 := by
 obtain ⟨p, mp, rfl⟩ := List.mem_map.mp hr
 have op := ZP.mp (CH hb mp).1
 have la := Yr hb hs p.x p.y
 rw [List.any_eq_true.mpr ⟨p, mp, by rw [Zs]; omega⟩] at la
 have la := (Bool.and_eq_true _ _).mp la.symm
 refine ⟨⟨la.1, by simpa using la.2⟩, fun u v hu nu => ?_⟩
 have lb := Yr hb hs u v
 rw [hu, show (bs.any fun b => hasB b u v) = false from nu] at lb
 obtain ⟨p', mp', hp'⟩ := List.any_eq_true.mp (by exact lb)
 rw [Zs] at hp'
 have := lr (p'.x, p'.y) (List.mem_map.mpr ⟨p', mp', rfl⟩)
 unfold ltP at this
 dsimp only at this ⊢
 split at this <;> simp only [decide_eq_false_iff_not] at this <;> omega
theorem OV {bs : List B4} {b : B4} (hb : okB b = true) (hs : ∀ c ∈ bs, okB c = true) (h : Jo b bs = []) : Cov bs b := fun u v hu => by
 have la := Yr hb hs u v
 rw [h, hu] at la
 simpa using la
theorem Bd {b : Bool} {A B : Prop} (h1 : b = true → A) (h2 : ¬ b = true → B) : if b = true then A else B := by
 cases b
 ·exact h2 (by decide)
 ·exact h1 rfl
inductive Ppr where
 | inn (n a b : Int) (c : Cv)
 | out (n a b : Int)
noncomputable def ppD : Ppr → PyData
 | .inn n a b c => .tuple [.str (Str.ofString "in"), .int n, .tuple [.int a, .int b], cvD c]
 | .out n a b => .tuple [.str (Str.ofString "out"), .int n, .tuple [.int a, .int b]]
noncomputable def Ppr.ok : Ppr → Prop
 | .inn _ _ _ c => c.dep ≤ 25
 | .out _ _ _ => True
noncomputable def ZbX (x : DV) (P : Ppr → Prop) : Prop := ∃ p, x = .dat (ppD p) ∧ p.ok ∧ P p
theorem Wg {p : Ppr} {P : Ppr → Prop} (h : p.ok) (k : P p) : ZbX (.dat (ppD p)) P := ⟨p, rfl, h, k⟩
noncomputable def Rgt (bs : List B4) (u v : Int) : Ppr → Prop
 | .inn n a b c => IsD (anyB bs) u v n ∧ (anyB bs a b = false ∧ Qn u v a b = n) ∧ anyB bs u v = true ∧ Qm bs (QM u v (n - 1)) c = true
 | .out n a b => IsD (anyB bs) u v (-n) ∧ (anyB bs a b = true ∧ Qn u v a b = n) ∧ anyB bs u v = false
theorem HJ {bs : List B4} {u v d : Int} (h : IsD (anyB bs) u v d) (hp : 0 < d) : Cov bs (QM u v (d - 1)) := fun x y hx => by
 rw [Zs] at hx
 unfold QM at hx
 dsimp only at hx
 have hs := h.sg
 rw [decide_eq_true hp] at hs
 cases q : anyB bs x y with
 | true => rfl
 | false =>
  have m := h.mn x y (by rw [q, hs]; exact Bool.false_ne_true)
  have e := Q6 d
  have := ZQ.mpr (show (-(d - 1) ≤ u - x ∧ u - x ≤ d - 1) ∧ (-(d - 1) ≤ v - y ∧ v - y ≤ d - 1) by omega)
  omega
theorem Ss {bs : List B4} {u v n a b : Int} (hn : 1 ≤ n) (hc : Cov bs (QM u v (n - 1))) (ho : anyB bs a b = false) (hd : Qn u v a b = n) : IsD (anyB bs) u v n ∧ anyB bs u v = true := by
 have key : ∀ x y, Qn u v x y ≤ n - 1 → anyB bs x y = true := fun x y h => by
  have h := ZQ.mp h
  refine hc x y ?_
  rw [Zs]
  unfold QM
  dsimp only
  omega
 have uv : anyB bs u v = true := key u v (by rw [ZQ]; omega)
 have e := Q6 n
 refine ⟨⟨?_, by omega, ⟨a, b, by rw [ho, uv]; exact Bool.false_ne_true, by omega⟩, fun x y q => ?_⟩, uv⟩
 ·rw [uv, decide_eq_true (by omega)]
 ·rw [uv] at q
  by_cases z : ab n ≤ Qn u v x y
  ·exact z
  ·exact absurd (key x y (by omega)) q
theorem R8 {bs : List B4} {u v n a b : Int} (hn : 1 ≤ n) (hall : ∀ c ∈ bs, n ≤ ZI c u v) (ho : anyB bs a b = true) (hd : Qn u v a b = n) : IsD (anyB bs) u v (-n) ∧ anyB bs u v = false := by
 have key : ∀ x y, anyB bs x y = true → n ≤ Qn u v x y := fun x y h => by
  obtain ⟨c, mc, hc⟩ := JG h
  exact Int.le_trans (hall c mc) (JC hc)
 have uv : anyB bs u v = false := Bool.eq_false_iff.mpr fun z => by
  have := key u v z
  have k : Qn u v u v ≤ 0 := ZQ.mpr (by omega)
  omega
 have e := Q6 (-n)
 refine ⟨⟨?_, by omega, ⟨a, b, by rw [ho, uv]; exact (Bool.false_ne_true ·.symm), by omega⟩, fun x y q => ?_⟩, uv⟩
 ·rw [uv, decide_eq_false (by omega)]
 ·rw [uv] at q
  have := key x y (Bool.of_not_eq_false q)
  omega
theorem Ri {bs : List B4} {u v n : Int} (hs : ∀ c ∈ bs, okB c = true) (h : IsD (anyB bs) u v (-n)) (hu : anyB bs u v = false) : ∀ c ∈ bs, n ≤ ZI c u v := fun c mc => by
 obtain ⟨x, y, hx, e⟩ := Bz (hs c mc) u v
 have m := h.mn x y (by rw [hu, Bj mc hx]; exact (Bool.false_ne_true ·.symm))
 have := Q6 (-n)
 omega
theorem Kb {bs : List B4} : ∀ {c : Cv} {n : Nat} {b : B4}, c.dep ≤ n → ZJ bs n b (cvD c) = Qm bs b c
 | c, 0, _, h => by have := c.FR; omega
 | .box k, n + 1, b, _ => by
  show (isS (.str (Str.ofString "box")) (Str.ofString "box") && K2 bs b (.int k)) = Qm bs b (.box k)
  rw [show isS (.str (Str.ofString "box")) (Str.ofString "box") = true by decide +kernel, Bool.true_and]
  rfl
 | .cut w a p q, n + 1, b, h => by
  rw [Ub] at h
  show (isS (.str (Str.ofString "cut")) (Str.ofString "cut") && (Xk b w a && (ZJ bs n (upB b w a) (cvD p) && ZJ bs n (owB b w (a + 1)) (cvD q)))) = Qm bs b (.cut w a p q)
  rw [show isS (.str (Str.ofString "cut")) (Str.ofString "cut") = true by decide +kernel, Bool.true_and, Kb (by omega), Kb (by omega)]
  rfl
theorem Lst.not {bs : List B4} {b : B4} {u v : Int} (h : Lst bs b u v) : ¬ Cov bs b := fun c => by
 have := c u v h.1.1
 rw [h.1.2] at this
 cases this
noncomputable def awB (u v n a b : Int) : Bool := decide (1 ≤ n) && decide (Qn u v a b = n)
noncomputable def Ks : DSp := fun xs M Φ => on1 xs fun x => onP x fun _ _ => Φ (.dat (.bool true)) M
theorem Bq (xs : List DV) (M : Mp) (Φ : DK) : Ks xs M Φ = (on1 xs fun x => onP x fun _ _ => Φ (.dat (.bool true)) M) := propext Iff.rfl
noncomputable def Uz : DSp := fun xs M Φ => on3 xs fun x y z => onP x fun u v => onI y fun n => onP z fun a b => Φ (.dat (.bool (awB u v n a b))) M
theorem Eg (xs : List DV) (M : Mp) (Φ : DK) : Uz xs M Φ = (on3 xs fun x y z => onP x fun u v => onI y fun n => onP z fun a b => Φ (.dat (.bool (awB u v n a b))) M) := propext Iff.rfl
noncomputable def UM : DSp := fun xs M Φ => on3 xs fun x y z => VU x fun bs => onP y fun u v => onI z fun n => bs.length ≤ 6 ∧ Φ (.dat (.bool (bs.all fun c => decide (n ≤ ZI c u v)))) M
theorem Ej (xs : List DV) (M : Mp) (Φ : DK) : UM xs M Φ = (on3 xs fun x y z => VU x fun bs => onP y fun u v => onI z fun n => bs.length ≤ 6 ∧ Φ (.dat (.bool (bs.all fun c => decide (n ≤ ZI c u v)))) M) := propext Iff.rfl
noncomputable def G7 : DSp := fun xs M Φ => on2 xs fun x y => VU x fun bs => onP y fun u v => Shp bs ∧ ∀ p : Ppr, p.ok → Rgt bs u v p → Φ (.dat (ppD p)) M
theorem Hu (xs : List DV) (M : Mp) (Φ : DK) : G7 xs M Φ = (on2 xs fun x y => VU x fun bs => onP y fun u v => Shp bs ∧ ∀ p : Ppr, p.ok → Rgt bs u v p → Φ (.dat (ppD p)) M) := propext Iff.rfl
noncomputable def Bc : DSp := fun xs M Φ => on3 xs fun x y z => VU x fun bs => onP y fun u v => ZbX z fun p => Shp bs ∧ ∀ r : Bool, (r = true ↔ Rgt bs u v p) → Φ (.dat (.bool r)) M
theorem Lw (xs : List DV) (M : Mp) (Φ : DK) : Bc xs M Φ = (on3 xs fun x y z => VU x fun bs => onP y fun u v => ZbX z fun p => Shp bs ∧ ∀ r : Bool, (r = true ↔ Rgt bs u v p) → Φ (.dat (.bool r)) M) := propext Iff.rfl
noncomputable def ZbR (o : OO) : Prop := ∃ a b c : Int, 0 ≤ a ∧ (0 ≤ b ∧ b < 2147483587) ∧ 0 ≤ c ∧ o = .lst [.int a, .int b, .int c]
noncomputable def Pen (M : Mp) (p : Addr) : Prop := ∃ o, ZbR o ∧ M p = some o
theorem Pen.Z3 {M : Mp} {p : Addr} {o : OO} (h : ZbR o) : Pen (Z3 M p o) p := ⟨o, h, ZH⟩
theorem Pen.ne {M : Mp} {p q : Addr} (h : Pen M p) (hq : M q = none) : p ≠ q := fun e => by
 obtain ⟨o, _, ho⟩ := h
 rw [e, hq] at ho
 cases ho
theorem Pen.put {M : Mp} {p q : Addr} {o : OO} (h : Pen M p) (hq : p ≠ q) : Pen (DL.Z3 M q o) p := by
 obtain ⟨o', h1, h2⟩ := h
 exact ⟨o', h1, by rw [Qh hq]; exact h2⟩
theorem Pen.del {M : Mp} {p q : Addr} (h : Pen M p) (hq : p ≠ q) : Pen (DL.Ke M q) p := by
 obtain ⟨o', h1, h2⟩ := h
 exact ⟨o', h1, by rw [UD hq]; exact h2⟩
noncomputable def ZcV (x : DV) (P : List Int → Prop) : Prop := ∃ ns, x = .dat (.list (ns.map PyData.int)) ∧ P ns
theorem Td {x : DV} {P : List Int → Prop} (h : ZcV x P) : ∃ ns, x = .dat (.list (ns.map PyData.int)) ∧ P ns := h
theorem Wj : ∀ {as bs : List Int}, as.map PyData.int = bs.map PyData.int → as = bs
 | [], [], _ => rfl
 | [], _ :: _, h => by simp at h
 | _ :: _, [], h => by simp at h
 | a :: as, b :: bs, h => by
  rw [List.map_cons, List.map_cons, List.cons.injEq, PyData.int.injEq] at h
  rw [h.1, Wj h.2]
theorem R1 (bs : List Int) (P : List Int → Prop) : ZcV (.dat (.list (bs.map PyData.int))) P = P bs := propext ⟨fun ⟨cs, e, h⟩ => by
 rw [DV.dat.injEq, PyData.list.injEq] at e
 rw [Wj e]
 exact h, fun h => ⟨bs, rfl, h⟩⟩
theorem tab {l : List Int} {r : Int} (P : Int → Prop) (h0 : 0 ≤ r) (h1 : r < l.length) (hl : ∀ w ∈ l, P w) {Q : PyData → Prop} (k : ∀ w, P w → Q (.int w)) : X4 (l.map PyData.int) r Q := by
 obtain ⟨w, hw, e⟩ := R3 h0 h1
 exact JZ e (k w (hl w hw))
noncomputable def Lr : DSp := fun xs M Φ => on2 xs fun x y => ZcV x fun ns => onI y fun k => 0 ≤ k ∧ ∀ p o, M p = none → ZbR o → Φ (.own p) (Z3 M p o)
theorem MF (xs : List DV) (M : Mp) (Φ : DK) : Lr xs M Φ = (on2 xs fun x y => ZcV x fun ns => onI y fun k => 0 ≤ k ∧ ∀ p o, M p = none → ZbR o → Φ (.own p) (Z3 M p o)) := propext Iff.rfl
noncomputable def Fr (p : Addr) (M M' : Mp) : Prop := Pen M' p ∧ ∀ a, a ≠ p → M a ≠ none → M' a = M a
theorem Fr.refl {p : Addr} {M : Mp} (h : Pen M p) : Fr p M M := ⟨h, fun _ _ _ => rfl⟩
theorem Fr.trans {p : Addr} {M M1 M2 : Mp} (h : Fr p M M1) (k : Fr p M1 M2) : Fr p M M2 := ⟨k.1, fun a ha hn => by
 have e := h.2 a ha hn
 rw [← e]
 exact k.2 a ha (by rw [e]; exact hn)⟩
theorem Fr.Z3 {p : Addr} {M : Mp} {o : OO} (h : ZbR o) : Fr p M (Z3 M p o) := ⟨Pen.Z3 h, fun a ha _ => Qh ha⟩
theorem Fr.own {p q : Addr} {M M' : Mp} {o : OO} (h : Fr p M M') (hq : M q = some o) (hne : q ≠ p) : M' q = some o := by
 rw [h.2 q hne (by rw [hq]; exact Option.some_ne_none _)]
 exact hq
theorem Fr.new {p q : Addr} {M M' : Mp} {o : OO} (h : Fr p M M') (hq : M q = none) (hne : q ≠ p) : Fr p M (DL.Z3 M' q o) := ⟨h.1.put (Ne.symm hne), fun a ha hn => by
 rw [Qh (fun e => hn (by rw [e]; exact hq))]
 exact h.2 a ha hn⟩
noncomputable def Y2 : DSp := fun xs M Φ => on2 xs fun x y => onO x fun p => onI y fun m => (0 < m ∧ m < 10 ^ 20) ∧ Pen M p ∧ ∀ r M', 0 ≤ r → r < m → Fr p M M' → Φ (.dat (.int r)) M'
theorem Ml (xs : List DV) (M : Mp) (Φ : DK) : Y2 xs M Φ = (on2 xs fun x y => onO x fun p => onI y fun m => (0 < m ∧ m < 10 ^ 20) ∧ Pen M p ∧ ∀ r M', 0 ≤ r → r < m → Fr p M M' → Φ (.dat (.int r)) M') := propext Iff.rfl
theorem Pen.get {M : Mp} {p : Addr} (h : Pen M p) : ∃ a b c : Int, (0 ≤ a ∧ (0 ≤ b ∧ b < 2147483587) ∧ 0 ≤ c) ∧ M p = some (.lst [.int a, .int b, .int c]) := by
 obtain ⟨o, ⟨a, b, c, ha, hb, hc, eo⟩, hp⟩ := h
 exact ⟨a, b, c, ⟨ha, hb, hc⟩, by rw [hp, eo]⟩
theorem Nz {R : Int → Int → Prop} {bs es : List Int} {A B : Int} (hl : bs.length = es.length) (h : ∀ (i : Nat) (a b : Int), bs[i]? = some a → es[i]? = some b → R a b) (k : R A B) : ∀ (i : Nat) (a b : Int), (bs ++ [A])[i]? = some a → (es ++ [B])[i]? = some b → R a b := fun i a b ha hb => by
 by_cases hi : i < bs.length
 ·rw [List.getElem?_append_left hi] at ha
  rw [List.getElem?_append_left (by omega)] at hb
  exact h i a b ha hb
 ·have h1 := (List.getElem?_eq_some_iff.mp ha).1
  rw [List.length_append, List.length_singleton] at h1
  obtain rfl : i = bs.length := by omega
  rw [List.getElem?_append_right (Nat.le_refl _), Nat.sub_self] at ha
  rw [hl, List.getElem?_append_right (Nat.le_refl _), Nat.sub_self] at hb
  cases ha
  cases hb
  exact k
theorem UC {l : List Int} (h : l.length = 2) : ∃ a b, l = [a, b] := by
 match l, h with
 | [a, b], _ => exact ⟨a, b, rfl⟩
noncomputable def Grd (n : Nat) (bs : List B4) : Prop := 1 ≤ bs.length ∧ bs.length ≤ n ∧ ∀ b ∈ bs, Cel b
noncomputable def Frm (t ox oy : Int) : Prop := (1 ≤ t ∧ t ≤ 10 ^ 10) ∧ (-(10 ^ 12) ≤ ox ∧ ox ≤ 10 ^ 12) ∧ (-(10 ^ 12) ≤ oy ∧ oy ≤ 10 ^ 12)
noncomputable def CA (x : DV) (P : Int → Int → Int → Prop) : Prop := match x with | .dat (.tuple [.int i, .int j, .int k]) => P i j k | _ => False
theorem Hr (i j k : Int) (P : Int → Int → Int → Prop) : CA (.dat (.tuple [.int i, .int j, .int k])) P = P i j k := propext Iff.rfl
theorem KC {x : DV} {P : Int → Int → Int → Prop} (h : CA x P) : ∃ i j k, x = .dat (.tuple [.int i, .int j, .int k]) ∧ P i j k := by
 unfold CA at h
 split at h
 ·exact ⟨_, _, _, rfl, h⟩
 ·exact h.elim
noncomputable def Gi : DSp := fun xs M Φ => on1 xs fun x => onO x fun p => Pen M p ∧ ∀ bs M', Grd 6 bs → Pen M' p → Φ (.dat (.list (bs.map bD))) M'
theorem Oi (xs : List DV) (M : Mp) (Φ : DK) : Gi xs M Φ = (on1 xs fun x => onO x fun p => Pen M p ∧ ∀ bs M', Grd 6 bs → Pen M' p → Φ (.dat (.list (bs.map bD))) M') := propext Iff.rfl
noncomputable def Rk : DSp := fun xs M Φ => on2 xs fun x y => onO x fun p => onX y fun b => Cel b ∧ Pen M p ∧ ∀ c M', Cel c → Fr p M M' → Φ (.dat (bD c)) M'
theorem RT (xs : List DV) (M : Mp) (Φ : DK) : Rk xs M Φ = (on2 xs fun x y => onO x fun p => onX y fun b => Cel b ∧ Pen M p ∧ ∀ c M', Cel c → Fr p M M' → Φ (.dat (bD c)) M') := propext Iff.rfl
noncomputable def W8 : DSp := fun xs M Φ => on1 xs fun x => onO x fun p => Pen M p ∧ ∀ t ox oy M', Frm t ox oy → Pen M' p → Φ (.dat (.tuple [.int t, .int ox, .int oy])) M'
theorem D9 (xs : List DV) (M : Mp) (Φ : DK) : W8 xs M Φ = (on1 xs fun x => onO x fun p => Pen M p ∧ ∀ t ox oy M', Frm t ox oy → Pen M' p → Φ (.dat (.tuple [.int t, .int ox, .int oy])) M') := propext Iff.rfl
noncomputable def HQ : DSp := fun xs M Φ => on2 xs fun x y => Pd x fun bs => CA y fun t ox oy => Grd 6 bs ∧ Φ (.dat (.tuple ((bs.map (Jt t ox oy)).map bD))) M
theorem OH (xs : List DV) (M : Mp) (Φ : DK) : HQ xs M Φ = (on2 xs fun x y => Pd x fun bs => CA y fun t ox oy => Grd 6 bs ∧ Φ (.dat (.tuple ((bs.map (Jt t ox oy)).map bD))) M) := propext Iff.rfl
noncomputable def Cells (bs : List B4) (ks : List (List Key)) : Prop := ∀ i j, PY ks (kP i j) = anyB bs i j
noncomputable def Cj : DSp := fun xs M Φ => on1 xs fun x => Pd x fun bs => Grd 6 bs ∧ ∀ l ks, M l = none → Cells bs ks → Φ (.own l) (Z3 M l (.dct ks))
theorem Lb (xs : List DV) (M : Mp) (Φ : DK) : Cj xs M Φ = (on1 xs fun x => Pd x fun bs => Grd 6 bs ∧ ∀ l ks, M l = none → Cells bs ks → Φ (.own l) (Z3 M l (.dct ks))) := propext Iff.rfl
noncomputable def Fs (x : Int) : Prop := -999999999999 ≤ x ∧ x ≤ 999999999999
noncomputable def LM : DSp := fun xs M Φ => on2 xs fun x y => onO x fun p => CA y fun t ox oy => Frm t ox oy ∧ Pen M p ∧ ∀ u v M', Fs u → Fs v → Fr p M M' → Φ (.dat (.tuple [.int u, .int v])) M'
theorem NT (xs : List DV) (M : Mp) (Φ : DK) : LM xs M Φ = (on2 xs fun x y => onO x fun p => CA y fun t ox oy => Frm t ox oy ∧ Pen M p ∧ ∀ u v M', Fs u → Fs v → Fr p M M' → Φ (.dat (.tuple [.int u, .int v])) M') := propext Iff.rfl
noncomputable def Hw : DSp := fun xs M Φ => on3 xs fun x y z => onP x fun i j => CA y fun t ox oy => onP z fun u v => ((-(10 ^ 3) ≤ i ∧ i ≤ 10 ^ 3) ∧ (-(10 ^ 3) ≤ j ∧ j ≤ 10 ^ 3)) ∧ Φ (.dat (.int (ZI (Qf t ox oy i j) u v))) M
theorem Nt (xs : List DV) (M : Mp) (Φ : DK) : Hw xs M Φ = (on3 xs fun x y z => onP x fun i j => CA y fun t ox oy => onP z fun u v => ((-(10 ^ 3) ≤ i ∧ i ≤ 10 ^ 3) ∧ (-(10 ^ 3) ≤ j ∧ j ≤ 10 ^ 3)) ∧ Φ (.dat (.int (ZI (Qf t ox oy i j) u v))) M) := propext Iff.rfl
noncomputable def PD (t ox oy u v : Int) (c : Int × Int) : PyData := .tuple [prD c, .int (ZI (Qf t ox oy c.1 c.2) u v)]
noncomputable def Oth (bs : List B4) (t ox oy u v : Int) (cs : List (Int × Int)) : Prop := ∀ i j, (i, j) ∈ cs ↔ ((-1 ≤ i ∧ i ≤ 12) ∧ (-1 ≤ j ∧ j ≤ 12)) ∧ anyB bs i j ≠ anyB bs ((u - ox) / t) ((v - oy) / t)
noncomputable def ZaE (x : DV) (M : Mp) (P : List B4 → Prop) : Prop := ∃ l ks bs, x = .own l ∧ M l = some (.dct ks) ∧ Cells bs ks ∧ P bs
theorem Fx {x : DV} {M : Mp} {P : List B4 → Prop} (h : ZaE x M P) : ∃ l ks bs, x = .own l ∧ M l = some (.dct ks) ∧ Cells bs ks ∧ P bs := h
noncomputable def UE : DSp := fun xs M Φ => on3 xs fun x y z => CA y fun t ox oy => onP z fun u v => ZaE x M fun bs => Frm t ox oy ∧
 ∀ cs, Oth bs t ox oy u v cs → cs.length ≤ 196 → Φ (.dat (.tuple [.bool (anyB bs ((u - ox) / t) ((v - oy) / t)), .list (cs.map (PD t ox oy u v))])) M
theorem En (xs : List DV) (M : Mp) (Φ : DK) : UE xs M Φ = (on3 xs fun x y z => CA y fun t ox oy => onP z fun u v => ZaE x M fun bs => Frm t ox oy ∧ ∀ cs, Oth bs t ox oy u v cs → cs.length ≤ 196 → Φ (.dat (.tuple [.bool (anyB bs ((u - ox) / t) ((v - oy) / t)), .list (cs.map (PD t ox oy u v))])) M) := propext Iff.rfl
theorem Zen {l : List B4} (h : ∀ b ∈ l, b.x ≤ b.X ∧ b.y ≤ b.Y ∧ (0 ≤ b.x ∧ b.X ≤ 11) ∧ (0 ≤ b.y ∧ b.Y ≤ 11)) : ∀ b ∈ l, Cel b := fun b hb => ⟨ZP.mpr ⟨(h b hb).1, (h b hb).2.1⟩, (h b hb).2.2⟩
theorem Zfm {x y X Y : Int} {j : Nat} (h : j < 2) : ∃ lo hi : Int, (lo = x ∧ hi = X ∨ lo = y ∧ hi = Y) ∧ (∀ P : PyData → Prop, X4 [.int x, .int y] (j : Int) P = P (.int lo)) ∧ (∀ P : PyData → Prop, X4 [.int X, .int Y] (j : Int) P = P (.int hi)) := by
 have two : j = 0 ∨ j = 1 := by omega
 rcases two with rfl | rfl
 ·exact ⟨x, X, .inl ⟨rfl, rfl⟩, fun P => rfl, fun P => rfl⟩
 ·exact ⟨y, Y, .inr ⟨rfl, rfl⟩, fun P => rfl, fun P => rfl⟩
theorem Zcl {i j i' j' : Int} : kP i j = kP i' j' ↔ i = i' ∧ j = j' := by
 unfold kP
 simp
theorem Zfi {t ox oy : Int} {j : Nat} (h : j < 2) : ∃ o : Int, (o = ox ∨ o = oy) ∧ (∀ P : PyData → Prop, X4 [.int t, .int ox, .int oy] (1 + (j : Int)) P = P (.int o)) := by
 have two : j = 0 ∨ j = 1 := by omega
 rcases two with rfl | rfl
 ·exact ⟨ox, .inl rfl, fun P => rfl⟩
 ·exact ⟨oy, .inr rfl, fun P => rfl⟩
theorem Pk (k t o u : Int) : gp (k + o) (k + t - 1 + o) u u = max 0 (max (k + o - u) (u - (k + o) - t + 1)) := by
 unfold gp
 omega
theorem L9 (a b : Int) : max (max 0 a) b = max (max 0 a) (max 0 b) := by omega
theorem ZbK (i j t ox oy u v : Int) : max (max 0 (max (i * t + ox - u) (u - (i * t + ox) - t + 1))) (max (j * t + oy - v) (v - (j * t + oy) - t + 1)) = ZI (Qf t ox oy i j) u v := by
 show _ = max (gp (i * t + ox) (i * t + t - 1 + ox) u u) (gp (j * t + oy) (j * t + t - 1 + oy) v v)
 rw [Pk, Pk]
 exact L9 _ _
theorem strOk {f ox oy : Int} {b : B4} (hf : 1 ≤ f) (h : okB b = true) : okB (Jt f ox oy b) = true := by
 rw [ZP] at *
 unfold Jt
 dsimp only
 have h1 := Int.mul_le_mul_of_nonneg_right h.1 (show 0 ≤ f by omega)
 have h2 := Int.mul_le_mul_of_nonneg_right h.2 (show 0 ≤ f by omega)
 omega
noncomputable def GC : DSp := fun xs M Φ => on2 xs fun x y => onX x fun c => onX y fun b => Φ (.dat (.bool (inB c b))) M
theorem N7 (xs : List DV) (M : Mp) (Φ : DK) : GC xs M Φ = (on2 xs fun x y => onX x fun c => onX y fun b => Φ (.dat (.bool (inB c b))) M) := propext Iff.rfl
noncomputable def WZ : DSp := fun xs M Φ => on3 xs fun x y z => onX x fun b => onI y fun i => onI z fun a => (i = 0 ∨ i = 1) ∧ Φ (.dat (.list [bD (upB b i a), bD (owB b i (a + 1))])) M
theorem Fv (xs : List DV) (M : Mp) (Φ : DK) : WZ xs M Φ = (on3 xs fun x y z => onX x fun b => onI y fun i => onI z fun a => (i = 0 ∨ i = 1) ∧ Φ (.dat (.list [bD (upB b i a), bD (owB b i (a + 1))])) M) := propext Iff.rfl
noncomputable def Far (b : B4) : Prop := (-(10 ^ 13) ≤ b.x ∧ b.X ≤ 10 ^ 13) ∧ (-(10 ^ 13) ≤ b.y ∧ b.Y ≤ 10 ^ 13)
noncomputable def Dr (n : Nat) : DSp := fun xs M Φ => on4 xs fun x y z s => onO x fun p => VU y fun bs => onX z fun b => onI s fun f => ((0 ≤ f ∧ f ≤ 3) ∧ (bs.length ≤ 6 ∧ (∀ c ∈ bs, Far c) ∧ okB b = true ∧ Cov bs b) ∧ f.toNat + UU bs b < n) ∧ Pen M p ∧
 ∀ c M', Qm bs b c = true → c.dep ≤ n → Fr p M M' → Φ (.dat (cvD c)) M'
theorem S7 (n : Nat) (xs : List DV) (M : Mp) (Φ : DK) : Dr n xs M Φ = (on4 xs fun x y z s => onO x fun p => VU y fun bs => onX z fun b => onI s fun f => ((0 ≤ f ∧ f ≤ 3) ∧ (bs.length ≤ 6 ∧ (∀ c ∈ bs, Far c) ∧ okB b = true ∧ Cov bs b) ∧ f.toNat + UU bs b < n) ∧ Pen M p ∧ ∀ c M', Qm bs b c = true → c.dep ≤ n → Fr p M M' → Φ (.dat (cvD c)) M') := propext Iff.rfl
theorem Dl (xs : List DV) (M : Mp) (Φ : DK) : ¬ Dr 0 xs M Φ := fun h => by
 replace h := Kl h
 obtain ⟨x, y, z, s, rfl, h⟩ := h
 replace h := Q7 h
 obtain ⟨p, rfl, h⟩ := h
 replace h := Qd h
 obtain ⟨bs, rfl, h⟩ := h
 replace h := Z0 h
 obtain ⟨b, rfl, h⟩ := h
 replace h := ZM h
 obtain ⟨f, rfl, h⟩ := h
 exact absurd h.1.2.2 (Nat.not_lt_zero _)
theorem lay_ints : ∀ ks : List Nat, PyData.canLayAll0 (ks.map fun (k : Nat) => PyData.int (k : Int)) = true
 | [] => by simp [PyData.canLayAll0]
 | k :: ks => by rw [List.map_cons, PyData.canLayAll0, lay_ints ks]; simp [PyData.canLay0]
theorem P4 (ks : List Nat) {P : Bool → Prop} (h : P (decide (ks = []))) : eqD (.list (ks.map fun (k : Nat) => PyData.int (k : Int))) (.list []) P := by
 refine PN ?_ ?_
 ·unfold TC
  rw [PyData.canLay0, lay_ints]
  simp [PyData.canLay0, PyData.canLayAll0, PyData.depth, PyData.depthAll]
 ·rw [TR]
  cases ks with
  | nil => rw [List.map_nil, Br]; exact h
  | cons k ks => rw [List.map_cons, O2]; exact h
theorem SF {x y X Y : Int} {P : Bool → Prop} (h : P (decide (x = X ∧ y = Y))) : eqD (.tuple [.int x, .int y]) (.tuple [.int X, .int Y]) P := by
 refine PN (by simp [TC, PyData.canLay0, PyData.canLayAll0, PyData.depth, PyData.depthAll]) ?_
 rw [TH, UL, UL, Br, P8, P8, Bool.and_true, ← Bool.decide_and]
 exact h
theorem RK {b : B4} {j : Nat} (h : j < 2) (P : PyData → Prop) : X4 [.int b.x, .int b.y] (j : Int) P = P (.int (loB b (j : Int))) := by
 have two : j = 0 ∨ j = 1 := by omega
 rcases two with rfl | rfl <;> rfl
theorem ML {b : B4} {j : Nat} (h : j < 2) (P : PyData → Prop) : X4 [.int b.X, .int b.Y] (j : Int) P = P (.int (hiB b (j : Int))) := by
 have two : j = 0 ∨ j = 1 := by omega
 rcases two with rfl | rfl <;> rfl
theorem O0 {α : Type} {l : List α} {i : Nat} {q : α} (f : α → Bool) (h : l[i]? = some q) : (l.take (i + 1)).filter f = (l.take i).filter f ++ (if f q = true then [q] else []) := by
 rw [List.take_add_one, h, List.filter_append]
 cases e : f q <;> simp [e]
structure ZbH (bs : List B4) (b : B4) (f : Int) (x : Int × Int) : Prop where
 w : x.1 = 0 ∨ x.1 = 1
 lo : loB b x.1 ≤ x.2
 hi : x.2 < hiB b x.1
 by' : (∃ c ∈ bs, hiB c x.1 = x.2) ∨ 0 < f
noncomputable def Ext (M M' : Mp) : Prop := ∀ a, M a ≠ none → M' a = M a
theorem Ext.refl (M : Mp) : Ext M M := fun _ _ => rfl
theorem Ext.new {M M' : Mp} {q : Addr} {o : OO} (h : Ext M M') (hq : M q = none) : Ext M (Z3 M' q o) := fun a ha => by
 rw [Qh fun e => ha (by rw [e]; exact hq)]
 exact h a ha
theorem Ext.none {M M' : Mp} {q : Addr} (h : Ext M M') (hq : M' q = none) : M q = none := by
 cases e : M q with
 | none => rfl
 | some o => have := h q (by rw [e]; exact Option.some_ne_none _); rw [hq, e] at this; cases this
noncomputable def Tz : DSp := fun xs M Φ => on1 xs fun x => onD x fun d => Φ (.dat (.bool (ZW d))) M
theorem Zcx (xs : List DV) (M : Mp) (Φ : DK) : Tz xs M Φ = (on1 xs fun x => onD x fun d => Φ (.dat (.bool (ZW d))) M) := propext Iff.rfl
noncomputable def HW : DSp := fun xs M Φ => on3 xs fun x y z => VU x fun bs => onX y fun b => onT z fun ds => ∃ h k, ds = [h, k] ∧ (h.canLay0 = true ∧ okB b = true) ∧ Φ (.dat (.bool (isS h (Str.ofString "box") && K2 bs b k))) M
theorem OG (xs : List DV) (M : Mp) (Φ : DK) : HW xs M Φ = (on3 xs fun x y z => VU x fun bs => onX y fun b => onT z fun ds => ∃ h k, ds = [h, k] ∧ (h.canLay0 = true ∧ okB b = true) ∧ Φ (.dat (.bool (isS h (Str.ofString "box") && K2 bs b k))) M) := propext Iff.rfl
noncomputable def La (n : Nat) : DSp := fun xs M Φ => on3 xs fun x y z => VU x fun bs => onX y fun b => onD z fun d => (Pap n d ∧ okB b = true ∧ n ≤ 26) ∧ ∀ M', Ext M M' → Φ (.dat (.bool (ZJ bs n b d))) M'
theorem Od (n : Nat) (xs : List DV) (M : Mp) (Φ : DK) : La n xs M Φ = (on3 xs fun x y z => VU x fun bs => onX y fun b => onD z fun d => (Pap n d ∧ okB b = true ∧ n ≤ 26) ∧ ∀ M', Ext M M' → Φ (.dat (.bool (ZJ bs n b d))) M') := propext Iff.rfl
theorem Zaf {c b : B4} (hb : okB b = true) : inB c b = allB c b := by
 rw [Bool.eq_iff_iff]
 refine ⟨EE hb, fun h => ?_⟩
 have := allB_iff.mp h
 unfold inB
 exact decide_eq_true (by omega)
noncomputable def wD (e : B4 × PyData) : PyData := .tuple [bD e.1, e.2]
noncomputable def Wait (bs : List B4) (R : Bool) (ws : List (B4 × PyData)) : Prop := (∀ e ∈ ws, okB e.1 = true ∧ Pap 26 e.2) ∧ (ws.all fun e => ZJ bs 26 e.1 e.2) = R
theorem Wait.last {bs : List B4} {R : Bool} {ws : List (B4 × PyData)} {e : B4 × PyData} (h : Wait bs R (ws ++ [e])) : (okB e.1 = true ∧ Pap 26 e.2) ∧ (∀ x ∈ ws, okB x.1 = true ∧ Pap 26 x.2) ∧ ((ws.all fun e => ZJ bs 26 e.1 e.2) && ZJ bs 26 e.1 e.2) = R := by
 obtain ⟨h1, h2⟩ := h
 refine ⟨h1 e (by simp), fun x hx => h1 x (by simp [hx]), ?_⟩
 rw [← h2, List.all_append]
 simp
theorem Wait.no {bs : List B4} {R : Bool} {ws : List (B4 × PyData)} {e : B4 × PyData} (h : Wait bs R (ws ++ [e])) (k : ZJ bs 26 e.1 e.2 = false) : R = false := by
 have := h.last.2.2
 rw [k, Bool.and_false] at this
 exact this.symm
theorem Wait.drop {bs : List B4} {R : Bool} {ws : List (B4 × PyData)} {e : B4 × PyData} (h : Wait bs R (ws ++ [e])) (k : ZJ bs 26 e.1 e.2 = true) : Wait bs R ws := by
 have := h.last.2
 rw [k, Bool.and_true] at this
 exact this
theorem Wait.split {bs : List B4} {R : Bool} {ws : List (B4 × PyData)} {b : B4} {x p q : PyData} {i a : Int} (h : Wait bs R (ws ++ [(b, .tuple [x, .int i, .int a, p, q])])) (hx : isS x (Str.ofString "cut") = true) (hc : Xk b i a = true) :
  Wait bs R (ws ++ [(upB b i a, p), (owB b i (a + 1), q)]) := by
 obtain ⟨⟨hb, hp⟩, h1, h2⟩ := h.last
 have hp : Pap 25 p ∧ Pap 25 q := ⟨hp.2.1, hp.2.2⟩
 have hb : okB b = true := hb
 have cc := QP.mp hc
 have so := EM hb cc.1 cc.2.1 cc.2.2
 refine ⟨fun e he => ?_, ?_⟩
 ·rcases List.mem_append.mp he with he | he
  ·exact h1 e he
  ·simp only [List.mem_cons, List.not_mem_nil, or_false] at he
   rcases he with rfl | rfl
   ·exact ⟨so.1, hp.1.up⟩
   ·exact ⟨so.2, hp.2.up⟩
 ·rw [← h2, List.all_append]
  have e : ZJ bs 26 b (.tuple [x, .int i, .int a, p, q]) = (isS x (Str.ofString "cut") && (Xk b i a && (ZJ bs 25 (upB b i a) p && ZJ bs 25 (owB b i (a + 1)) q))) := rfl
  show (_ && _) = (_ && ZJ bs 26 b (.tuple [x, .int i, .int a, p, q]))
  rw [e, hx, hc, ← Y5 hp.1, ← Y5 hp.2]
  simp
noncomputable def wsz (ws : List (B4 × PyData)) : Nat := (ws.map fun e => sizeOf e.2).sum
theorem Dh (ws : List (B4 × PyData)) (e : B4 × PyData) : wsz (ws ++ [e]) = wsz ws + sizeOf e.2 := by
 unfold wsz
 rw [List.map_append, List.sum_append]
 simp
theorem size_pos (d : PyData) : 0 < sizeOf d := by cases d <;> simp <;> omega
theorem HD (ws : List (B4 × PyData)) (b b1 b2 : B4) (x i a p q : PyData) : wsz (ws ++ [(b1, p), (b2, q)]) < wsz (ws ++ [(b, .tuple [x, i, a, p, q])]) := by
 rw [Dh]
 unfold wsz
 rw [List.map_append, List.sum_append]
 simp
 omega
noncomputable def Dep (ws : List (B4 × PyData)) : Prop := ∀ j e, ws[j]? = some e → Pap (26 - j) e.2
theorem Dep.drop {ws : List (B4 × PyData)} {e : B4 × PyData} (h : Dep (ws ++ [e])) : Dep ws := fun j x hj => h j x (by rw [List.getElem?_append_left (List.getElem?_eq_some_iff.mp hj).1]; exact hj)
theorem Dep.len {ws : List (B4 × PyData)} (h : Dep ws) : ws.length ≤ 26 := by
 by_cases hl : ws.length ≤ 26
 ·exact hl
 ·have := h 26 _ (List.getElem?_eq_getElem (by omega))
  exact this.elim
theorem Dep.split {ws : List (B4 × PyData)} {b b1 b2 : B4} {x i a p q : PyData} (h : Dep (ws ++ [(b, .tuple [x, i, a, p, q])])) : Dep (ws ++ [(b1, p), (b2, q)]) := by
 have top := h ws.length _ (by rw [List.getElem?_append_right (Nat.le_refl _), Nat.sub_self]; rfl)
 have hl := h.len
 rw [List.length_append, List.length_singleton] at hl
 obtain ⟨n, hn⟩ : ∃ n, 26 - ws.length = n + 1 := ⟨25 - ws.length, by omega⟩
 rw [hn] at top
 have hp : Pap n p ∧ Pap n q := ⟨top.2.1, top.2.2⟩
 intro j e he
 by_cases hj : j < ws.length
 ·rw [List.getElem?_append_left hj] at he
  exact h j e (by rw [List.getElem?_append_left hj]; exact he)
 ·rw [List.getElem?_append_right (by omega)] at he
  have hz := (List.getElem?_eq_some_iff.mp he).1
  simp only [List.length_cons, List.length_nil] at hz
  have two : j = ws.length ∨ j = ws.length + 1 := by omega
  rcases two with rfl | rfl
  ·rw [Nat.sub_self] at he
   cases he
   exact hp.1.le (by omega)
  ·rw [Nat.add_sub_cancel_left] at he
   cases he
   exact hp.2.le (by omega)
theorem Zfx {i j : Nat} {x y : PyData} {Δ : DSt} {M : Mp} {K : DSt → Mp → Prop} (h : K ((Δ.set i (some (.dat x))).set j (some (.dat y))) M) : onT (.dat (.tuple [x, y])) fun ds => LZ 2 ds fun xs => CS (Wi i) (CS (Wi j) RA) xs Δ M K := h
theorem Th {h : PyData} {s : Str} {P : Bool → Prop} (hl : h.canLay0 = true) (hs : (PyData.str s).canLay0 = true) (p : P (isS h s)) : eqD h (.str s) P := WU hl hs p
theorem OU {t : DTT} {a b : DTS} {D : Q0} {Δ : DSt} {M : Mp} (h : ∀ B : DTS, B = b → ZcU t a B D Δ M) : ZcU t a b D Δ M := h b rfl
noncomputable def Zdd (bs : List B4) (b : B4) (d : PyData) (M0 : Mp) (R : Bool) (m : Nat) (Δ : DSt) (M : Mp) : Prop :=
 ∃ q ws x4 x5 x6 x7 x8, Δ = [some (.dat (.tuple (bs.map bD))), some (.dat (bD b)), some (.dat d), some (.own q), x4, x5, x6, x7, x8] ∧ M q = some (.lst (ws.map wD)) ∧ M0 q = none ∧ Ext M0 M ∧ (Wait bs R ws ∧ Dep ws) ∧ m = wsz ws
theorem Bl {t ox oy : Int} {bs : List B4} (hf : Frm t ox oy) (hg : Grd 6 bs) {c : B4} (hc : c ∈ bs.map (Jt t ox oy)) : (ox ≤ c.x ∧ c.X ≤ ox + 120000000000) ∧ (oy ≤ c.y ∧ c.Y ≤ oy + 120000000000) := by
 obtain ⟨b, hb, rfl⟩ := List.mem_map.mp hc
 obtain ⟨_, h1, h2⟩ := hg.2.2 b hb
 unfold Frm at hf
 have a1 := Int.mul_nonneg h1.1 (show 0 ≤ t by omega)
 have a2 := Int.mul_nonneg h2.1 (show 0 ≤ t by omega)
 have a3 := Int.mul_le_mul_of_nonneg_right h1.2 (show 0 ≤ t by omega)
 have a4 := Int.mul_le_mul_of_nonneg_right h2.2 (show 0 ≤ t by omega)
 unfold Jt
 dsimp only
 omega
theorem Ext.own {M M' : Mp} {a : Addr} {o : OO} (h : Ext M M') (k : M a = some o) : M' a = some o := by rw [h a (by rw [k]; exact Option.some_ne_none _)]; exact k
theorem Ext.trans {M M' M'' : Mp} (h : Ext M M') (k : Ext M' M'') : Ext M M'' := fun a ha => by
 have e := h a ha
 rw [k a (by rw [e]; exact ha), e]
theorem Ext.pen {M M' : Mp} {p : Addr} (h : Ext M M') (k : Pen M p) : Pen M' p := by
 obtain ⟨o, ho, hp⟩ := k
 exact ⟨o, ho, h.own hp⟩
theorem Kc (l : List Bool) : okIn (.bool true) (l.map PyData.bool) = true ∧ ((l.map PyData.bool).any fun e => PyData.eqv e (.bool true)) = l.any id := by
 have lay : ∀ l : List Bool, PyData.canLayAll0 (l.map PyData.bool) = true := fun l => by
  induction l with
  | nil => simp [PyData.canLayAll0]
  | cons x l ih => rw [List.map_cons, PyData.canLayAll0, ih]; simp [PyData.canLay0]
 constructor
 ·unfold okIn
  rw [lay]
  simp [PyData.canLay0, PyData.depth]
 ·rw [List.any_map]
  congr 1
  funext x
  show PyData.eqv (.bool x) (.bool true) = x
  rw [ZcD]
  cases x <;> rfl
theorem ZbU (c : B4) (a b : Int) : inB c ⟨a, b, a, b⟩ = hasB c a b := by
 unfold inB hasB
 rw [decide_eq_decide]
 dsimp only
 omega
noncomputable def Sds (bs : List B4) (t ox oy u v : Int) (cs : List (Int × Int)) : Prop := (Frm t ox oy ∧ Grd 6 bs) ∧ Oth bs t ox oy u v cs ∧ cs.length ≤ 196
noncomputable def sdD (bs : List B4) (t ox oy u v : Int) (cs : List (Int × Int)) : PyData := .tuple [.bool (anyB bs ((u - ox) / t) ((v - oy) / t)), .list (cs.map (PD t ox oy u v))]
noncomputable def Mc : DSp := fun xs M Φ => on2 xs fun x y => onP x fun u v => onI y fun n => Φ (.dat (bD (QM u v n))) M
theorem Sl (xs : List DV) (M : Mp) (Φ : DK) : Mc xs M Φ = (on2 xs fun x y => onP x fun u v => onI y fun n => Φ (.dat (bD (QM u v n))) M) := propext Iff.rfl
noncomputable def Tc : DSp := fun xs M Φ => on1 xs fun x => onP x fun _ _ => Φ (.dat (.bool true)) M
theorem Sq (xs : List DV) (M : Mp) (Φ : DK) : Tc xs M Φ = (on1 xs fun x => onP x fun _ _ => Φ (.dat (.bool true)) M) := propext Iff.rfl
noncomputable def BP : DSp := fun xs M Φ => on4 xs fun x y z w => onP z fun u v => ZbX w fun p => ∃ bs t ox oy cs, x = .dat (.tuple ((bs.map (Jt t ox oy)).map bD)) ∧ y = .dat (sdD bs t ox oy u v cs) ∧ Sds bs t ox oy u v cs ∧
 ∀ (r : Bool) M', Ext M M' → (r = true ↔ Rgt (bs.map (Jt t ox oy)) u v p) → Φ (.dat (.bool r)) M'
theorem Ld (xs : List DV) (M : Mp) (Φ : DK) : BP xs M Φ = (on4 xs fun x y z w => onP z fun u v => ZbX w fun p => ∃ bs t ox oy cs, x = .dat (.tuple ((bs.map (Jt t ox oy)).map bD)) ∧ y = .dat (sdD bs t ox oy u v cs) ∧ Sds bs t ox oy u v cs ∧ ∀ (r : Bool) M', Ext M M' → (r = true ↔ Rgt (bs.map (Jt t ox oy)) u v p) → Φ (.dat (.bool r)) M') := propext Iff.rfl
noncomputable def Kx : DSp := fun xs M Φ => on5 xs fun x y z f g => onO x fun q => onP g fun u v => ∃ bs t ox oy cs, y = .dat (.tuple ((bs.map (Jt t ox oy)).map bD)) ∧ z = .dat (sdD bs t ox oy u v cs) ∧ f = .dat (.tuple [.int t, .int ox, .int oy]) ∧ Sds bs t ox oy u v cs ∧ Pen M q ∧
 ∀ (p : Ppr) M', p.ok → Rgt (bs.map (Jt t ox oy)) u v p → Fr q M M' → Φ (.dat (ppD p)) M'
theorem BS (xs : List DV) (M : Mp) (Φ : DK) : Kx xs M Φ = (on5 xs fun x y z f g => onO x fun q => onP g fun u v => ∃ bs t ox oy cs, y = .dat (.tuple ((bs.map (Jt t ox oy)).map bD)) ∧ z = .dat (sdD bs t ox oy u v cs) ∧ f = .dat (.tuple [.int t, .int ox, .int oy]) ∧ Sds bs t ox oy u v cs ∧ Pen M q ∧ ∀ (p : Ppr) M', p.ok → Rgt (bs.map (Jt t ox oy)) u v p → Fr q M M' → Φ (.dat (ppD p)) M') := propext Iff.rfl
theorem Sds.least {bs : List B4} {t ox oy u v : Int} {cs : List (Int × Int)} (h : Sds bs t ox oy u v cs) {m : Int} (hm : m ∈ cs.map fun c => ZI (Qf t ox oy c.1 c.2) u v) (hn : ∀ a ∈ cs.map (fun c => ZI (Qf t ox oy c.1 c.2) u v), m ≤ a) :
  IsD (anyB (bs.map (Jt t ox oy))) u v (if anyB (bs.map (Jt t ox oy)) u v = true then m else -m) := by
 obtain ⟨⟨hf, hg⟩, hcs, _⟩ := h
 have pc := XH hf.1.1 hg.2.2 (fun z => by have := hg.1; rw [z] at this; exact absurd this (by decide)) hcs
 refine pc.depth ?_ fun q mq => ?_
 ·obtain ⟨c, mc, e⟩ := List.mem_map.mp hm
  exact ⟨_, List.mem_map.mpr ⟨c, mc, rfl⟩, e⟩
 ·obtain ⟨c, mc, rfl⟩ := List.mem_map.mp mq
  exact hn _ (List.mem_map.mpr ⟨c, mc, rfl⟩)
theorem Sds.pos {bs : List B4} {t ox oy u v : Int} {cs : List (Int × Int)} (h : Sds bs t ox oy u v cs) : 0 < cs.length := by
 obtain ⟨⟨hf, hg⟩, hcs, _⟩ := h
 have pc := XH hf.1.1 hg.2.2 (fun z => by have := hg.1; rw [z] at this; exact absurd this (by decide)) hcs
 exact List.length_pos_iff.mpr fun z => pc.ne (by rw [z]; rfl)
theorem ZdU {t ox oy i j u v m x y : Int} (ht : 1 ≤ t) (ed : ZI (Qf t ox oy i j) u v = m) (hx : x = max (i * t + ox) (u - m) ∨ x = min (i * t + ox + t - 1) (u + m)) (hy : y = max (j * t + oy) (v - m) ∨ y = min (j * t + oy + t - 1) (v + m)) :
  hasB (Qf t ox oy i j) x y = true ∧ Qn u v x y = m := by
 have nn : 0 ≤ m := by rw [← ed]; exact Ye _ _ _
 have k := (Q3 nn).mp (Int.le_of_eq ed)
 have hs : hasB (Qf t ox oy i j) x y = true := by
  rw [Zs]
  unfold Qf Jt at k ⊢
  dsimp only at k ⊢
  omega
 refine ⟨hs, Int.le_antisymm ?_ ?_⟩
 ·rw [ZQ]
  unfold Qf Jt at k
  dsimp only at k
  omega
 ·rw [← ed]
  exact JC hs
noncomputable def Zdm : DSp := fun xs M Φ => on4 xs fun x y z f => onO x fun q => CA f fun t ox oy => ZaE z M fun bs => y = .dat (.tuple ((bs.map (Jt t ox oy)).map bD)) ∧ (Frm t ox oy ∧ Grd 6 bs) ∧ Pen M q ∧
 ∀ M', (∀ l ks, M l = some (.dct ks) → M' l = some (.dct ks)) → Pen M' q → Φ (.dat (.bool true)) M'
theorem Zbn (xs : List DV) (M : Mp) (Φ : DK) : Zdm xs M Φ = (on4 xs fun x y z f => onO x fun q => CA f fun t ox oy => ZaE z M fun bs => y = .dat (.tuple ((bs.map (Jt t ox oy)).map bD)) ∧ (Frm t ox oy ∧ Grd 6 bs) ∧ Pen M q ∧ ∀ M', (∀ l ks, M l = some (.dct ks) → M' l = some (.dct ks)) → Pen M' q → Φ (.dat (.bool true)) M') := propext Iff.rfl
theorem B6 {M : Mp} {q l : Addr} {ks : List (List Key)} (h : Pen M q) (hl : M l = some (.dct ks)) : q ≠ l := fun e => by
 obtain ⟨o, ho, hq⟩ := h
 rw [e, hl] at hq
 cases hq
 obtain ⟨a, b, c, _, _, _, e⟩ := ho
 cases e
local macro_rules | `(tactic| walk_at "rk") => `(tactic| try simp (config := { maxSteps := 10000000 }) only [↓OB, ↓N0, ↓N1, ↓Me, ↓MD, ↓ME, ↓N4, ↓FE, ↓HI, ↓SJ, ↓RY, ↓P1, ↓S3, ↓SK, ↓Oh, ↓N3, ↓MJ, ↓MN, ↓NR, ↓OA, ↓OC, ↓MS, ↓Ox, ↓ND, ↓Mx, ↓OL, ↓Nu, ↓Zap, ↓Zfu, ↓Zde, ↓Zeb, ↓ZfP, ↓OI, ↓Zb5, ↓Zda, ↓ZaX, ↓RC, ↓ZcI, ↓Rb, ↓ZdK, ↓Zcg, ↓Zdc, ↓Zbd, ↓Zdg, ↓TK, ↓Ru, ↓Zb3, ↓Zb7, ↓Rc, ↓TY, ↓N9, ↓Mm, ↓NN, ↓NO, ↓Ol, ↓Zag, ↓Zd3, ↓P2, ↓SQ, ↓Zcu, ↓Eo, ↓Dm, ↓OR, ↓N6, ↓Mu, ↓ZaA, ↓ZaG, ↓Sb, ↓ZbE, ↓Sx, ↓Zcf, ↓Ro, ↓ZcF, ↓Zcs, ↓VO, ↓El, ↓Cg, ↓NG, ↓Oo, ↓S4, ↓S9, ↓ZaO, ↓Fb, ↓P6, ↓RS, ↓NQ, ↓Nf, ↓Rt, ↓ZbV, ↓Zbm, ↓RL, ↓OY, ↓O1, ↓SA, ↓ZaC, ↓Ng, ↓Nj, ↓ZbB, ↓LF, ↓SR, ↓R0, ↓Zah, ↓Ff, ↓Nm, ↓Mz, ↓Oa, ↓NA, ↓Dj, ↓LH, ↓Sw, ↓Mq, ↓P9, ↓OK, ↓ZaS, ↓Hb, Lo, FK, Mr, NC, NM, HV, XW, H0, ZdF, Nl, Za4, PJ, Pn, Pb, ZbW, isNone_none, Bg, DU, Ef, G5, GU, Bb,
 Option.bind_some, Option.bind_none, Option.join_some, Option.join_none, Option.getD_some, Option.map_some, Option.map_none, List.getElem?_cons_zero, List.getElem?_cons_succ, List.set_cons_zero, List.set_cons_succ, List.map_cons, List.map_nil, List.length_cons, List.length_nil, List.replicate, List.cons_append, List.nil_append, List.any_cons, List.any_nil,
 ZH, HZ, ↓reduceIte, Bool.not_true, Bool.not_false, Bool.or_false, Bool.or_true, Bool.true_or, Bool.false_or, Bool.and_true, Bool.and_false, Bool.true_and, Bool.false_and, Bool.bne_true, Bool.bne_false, Bool.false_eq_true, eq_self, true_and, and_true, Zay, ZbJ, Zcm, exists_eq_left', exists_eq_left, Option.some.injEq, Nat.reduceAdd, Nat.reduceSub, Nat.zero_add, Nat.reduceLT, Nat.reduceLeDiff, Int.reduceToNat, Int.reducePow, Int.reduceSub, Int.reduceMul, Int.reduceAdd, Int.reduceNeg,
 Int.reduceLT, Int.reduceLE, Int.reduceEq, Int.zero_add, Int.cast_ofNat_Int, decide_true, decide_false, sizeLine_eq, Br, UL, O2, Zbx, TH, TR, Zee, P8, Zef, ZcD, Bo, Bt, Er, DN, BM, GQ, BO, GL, U6, Bu, BH, G2, Um, U5, W3, Uw, U8, GR, Uj, Wu, Ux, U9, UY, By, Cf, U0, Ud, Gf, Cb, BU, Eu, DB, BI, Gp, G9, GV, Gw, B3, Bf, GI, UP, GA, ↓MK, ↓OT, ↓Na, ↓Mv, Sv, Rw, ↓Ry, ↓P7, ↓Ck, ↓Zce, ↓MC, ↓EJ, ↓Dk, ↓Ea, ↓Tn, ↓OX, ↓Ni, ↓Hy, ↓NH, ↓EW, ↓Lk, ↓BV, ↓Zd6, ↓D7, ↓Zcv, ↓ZbO, ↓Rf, ↓ON, ↓HX, ↓Em, ↓Fn, ↓Zei, ↓Zcc, ↓Dj, ↓Bq, ↓Eg, ↓Ej, ↓Hu, ↓BY, ↓MF, ↓Ml, R1, ↓Hr, ↓Oi, ↓RT, ↓D9, ↓OH, ↓Lb, ↓NT, ↓Nt, ↓S7, ↓N7, ↓Fv, ↓Zck, ↓SV, ↓Zcx, ↓HG, ↓FG, ↓OG, ↓Sl, ↓Sq, ↓Ld, ↓BS, ↓Od, ↓En, ↓Lw, ↓Zbn])
theorem Gq (T : Tx K mg) : ZC P w K mg base CX0 1 T.YC T.Yz ["box"] (lift K SG) := by
 refine okD T.VR.F GF (fun xs M Φ h => by obtain ⟨_, rfl, _⟩ := Z6 h; rfl) fun cdv A outer s H E hr => ⟨_, (Zi (Zo (QK (J4 XZ (Zg (Zg (Zb 0) Zc) Zc) (Zg (Zg (Zb 0) Zc) Zc)) (JX (J4 XZ (Zg (Zg (Zb 0) Zc) Zc) (Zg (Zg (Zb 0) Zc) Zc)))))), fun xs M Φ h => ?_⟩
 replace h := Z6 h
 obtain ⟨x1, rfl, h⟩ := h
 replace h := Z0 h
 obtain ⟨b, rfl, h⟩ := h
 walk_at "rk"
 refine Zm (fun h1 => ?_) (fun h1 => ?_)
 ·unfold okB at h
  simpa [h1] using h
 ·unfold okB at h
  simpa [h1] using h
theorem TU (T : Tx K mg) : ZC P w K mg base CX0 1 T.RN T.RZ ["one", "other", "way"] (lift K S0) := by
 refine okD T.BZ.F ZbS (fun xs M Φ h => by obtain ⟨_, _, _, rfl, _⟩ := Z1 h; rfl) fun cdv A outer s H E hr => ⟨_, (Zi (Zo (Zj (EG rfl) rfl T.YE JW (Za Zc (Za (Zl ZG (Zg (Zg (Zb 1) Zc) (Zb 2)) (Zg (Zg (Zb 0) Zc) (Zb 2))) (Za (Zl ZG (Zg (Zg (Zb 0) Zc) (Zb 2)) (Zg (Zg (Zb 1) Zc) (Zb 2))) Zd)))))), fun xs M Φ h => ?_⟩
 replace h := Z1 h
 obtain ⟨x1, x2, x3, rfl, h⟩ := h
 replace h := Z0 h
 obtain ⟨a, rfl, h⟩ := h
 replace h := Z0 h
 obtain ⟨b, rfl, h⟩ := h
 replace h := ZM h
 obtain ⟨i, rfl, hi, h⟩ := h
 rcases hi with rfl | rfl
 ·walk_at "rk"
  exact h
 ·walk_at "rk"
  exact h
theorem QT (T : Tx K mg) : ZC P w K mg base CX0 2 T.Qc T.Qe ["one", "other"] (lift K Vn) := by
 have G_gap : ZC P w K mg base CX0 1 T.RN T.RZ ["one", "other", "way"] (lift K S0) := TU T
 refine okD T.Zx.F X1 (fun xs M Φ h => by obtain ⟨_, _, rfl, _⟩ := Zy h; rfl) fun cdv A outer s H E hr => ⟨_, (Zi (Zo (Zj (JY rfl) rfl T.YE JW (Za (Zh G_gap (hr.mono (by first | decide | omega)) rfl T.BZ.m T.BZ.F.kp T.BZ.b Zr (Za (Zb 0) (Za (Zb 1) (Za Zc Zd)))) (Za (Zh G_gap (hr.mono (by first | decide | omega)) rfl T.BZ.m T.BZ.F.kp T.BZ.b Zr (Za (Zb 0) (Za (Zb 1) (Za Zc Zd)))) Zd))))), fun xs M Φ h => ?_⟩
 replace h := Zy h
 obtain ⟨x1, x2, rfl, h⟩ := h
 replace h := Z0 h
 obtain ⟨a, rfl, h⟩ := h
 replace h := Z0 h
 obtain ⟨b, rfl, h⟩ := h
 walk_at "rk"
 exact ⟨.inl trivial, .inr trivial, h⟩
theorem Yy (T : Tx K mg) : ZC P w K mg base CX0 3 T.Vs T.Vk ["box", "spot"] (lift K Zcj) := by
 have G_steps_between : ZC P w K mg base CX0 2 T.Qc T.Qe ["one", "other"] (lift K Vn) := QT T
 refine okD T.Qo.F Bw (fun xs M Φ h => by obtain ⟨_, _, rfl, _⟩ := Zy h; rfl) fun cdv A outer s H E hr => ⟨_, (Zi (Zo (Zh G_steps_between (hr.mono (by first | decide | omega)) rfl T.Zx.m T.Zx.F.kp T.Zx.b Zr (Za (Zb 0) (Za (Zq (Za (Zb 1) (Za (Zb 1) Zd))) Zd))))), fun xs M Φ h => ?_⟩
 replace h := Zy h
 obtain ⟨x1, x2, rfl, h⟩ := h
 replace h := Z0 h
 obtain ⟨a, rfl, h⟩ := h
 replace h := Qr h
 obtain ⟨u, v, rfl, h⟩ := h
 walk_at "rk"
 exact h
theorem Pr (T : Tx K mg) : ZC P w K mg base CX0 4 T.Nq T.Ms ["box", "spot"] (lift K CI) := by
 have G_steps_to : ZC P w K mg base CX0 3 T.Vs T.Vk ["box", "spot"] (lift K Zcj) := Yy T
 refine okD T.Wk.F Za0 (fun xs M Φ h => by obtain ⟨_, _, rfl, _⟩ := Zy h; rfl) fun cdv A outer s H E hr => ⟨_, (Zi (Zo (J4 (Jf hr) (Zh G_steps_to (hr.mono (by first | decide | omega)) rfl T.Qo.m T.Qo.F.kp T.Qo.b Zr (Za (Zb 0) (Za (Zb 1) Zd))) Zc))), fun xs M Φ h => ?_⟩
 replace h := Zy h
 obtain ⟨x1, x2, rfl, h⟩ := h
 replace h := Z0 h
 obtain ⟨a, rfl, h⟩ := h
 replace h := Qr h
 obtain ⟨u, v, rfl, h⟩ := h
 walk_at "rk"
 rw [Ob]
 exact h
theorem Gm (T : Tx K mg) : ZC P w K mg base CX0 1 T.X9 T.X7 ["one", "other"] (lift K Kg) := by
 refine okD T.VI.F Kh (fun xs M Φ h => by obtain ⟨_, _, rfl, _⟩ := Zy h; rfl) fun cdv A outer s H E hr => ⟨_, (Ze (Zn 2 Kh.nd (Zq (Za (Zj (JY rfl) rfl T.YE JW (Za (Zg (Zg (Zb 0) Zc) Zc) (Za (Zg (Zg (Zb 1) Zc) Zc) Zd))) (Za (Zj (JY rfl) rfl T.YE JW (Za (Zg (Zg (Zb 0) Zc) Zc) (Za (Zg (Zg (Zb 1) Zc) Zc) Zd))) Zd))))
 (Ze (Zn 3 Kh.nd (Zq (Za (Zj (VD rfl) rfl T.Yt Jv (Za (Zg (Zg (Zb 0) Zc) Zc) (Za (Zg (Zg (Zb 1) Zc) Zc) Zd))) (Za (Zj (VD rfl) rfl T.Yt Jv (Za (Zg (Zg (Zb 0) Zc) Zc) (Za (Zg (Zg (Zb 1) Zc) Zc) Zd))) Zd))))
 (Zi (Zo (Zq (Za (Zb 2) (Za (Zb 3) Zd))))))), fun xs M Φ h => ?_⟩
 replace h := Zy h
 obtain ⟨x1, x2, rfl, h⟩ := h
 replace h := Z0 h
 obtain ⟨a, rfl, h⟩ := h
 replace h := Z0 h
 obtain ⟨b, rfl, h⟩ := h
 walk_at "hd"
 walk_at "rk"
 walk_at "hd"
 walk_at "rk"
 subst_vars
 walk_at "rk"
 exact h
theorem Kp (T : Tx K mg) : ZC P w K mg base CX0 1 T.YV T.YK ["spot", "r"] (lift K Y4) := by
 refine okD T.Jj.F LQ (fun xs M Φ h => by obtain ⟨_, _, rfl, _⟩ := Zy h; rfl) fun cdv A outer s H E hr => ⟨_, (Zi (Zo (Zq (Za (Zq (Za (Zl ZG (Zg (Zb 0) Zc) (Zb 1)) (Za (Zl ZG (Zg (Zb 0) Zc) (Zb 1)) Zd))) (Za (Zq (Za (Zl ZA (Zg (Zb 0) Zc) (Zb 1)) (Za (Zl ZA (Zg (Zb 0) Zc) (Zb 1)) Zd))) Zd))))), fun xs M Φ h => ?_⟩
 replace h := Zy h
 obtain ⟨x1, x2, rfl, h⟩ := h
 replace h := Qr h
 obtain ⟨u, v, rfl, h⟩ := h
 replace h := ZM h
 obtain ⟨r, rfl, h⟩ := h
 walk_at "rk"
 exact h
theorem Oj (T : Tx K mg) : ZC P w K mg base CX0 1 T.Cc T.G4 ["one", "other"] (lift K Bi) := by
 refine okD T.o_steps.F MY (fun xs M Φ h => by obtain ⟨_, _, rfl, _⟩ := Zy h; rfl) fun cdv A outer s H E hr => ⟨_, (Zi (Zo (Zj (JY rfl) rfl T.YE JW (Za (Zj WH rfl T.Dv WR (Za (Zl ZG (Zg (Zb 0) Zc) (Zg (Zb 1) Zc)) Zd)) (Za (Zj WH rfl T.Dv WR (Za (Zl ZG (Zg (Zb 0) Zc) (Zg (Zb 1) Zc)) Zd)) Zd))))), fun xs M Φ h => ?_⟩
 replace h := Zy h
 obtain ⟨x1, x2, rfl, h⟩ := h
 replace h := Qr h
 obtain ⟨a, b, rfl, h⟩ := h
 replace h := Qr h
 obtain ⟨u, v, rfl, h⟩ := h
 walk_at "rk"
 exact h
theorem Ep (T : Tx K mg) : ZC P w K mg base CX0 3 T.Wf T.KP ["one", "other"] (lift K RE) := by
 have G_common : ZC P w K mg base CX0 1 T.X9 T.X7 ["one", "other"] (lift K Kg) := Gm T
 have G_steps_between : ZC P w K mg base CX0 2 T.Qc T.Qe ["one", "other"] (lift K Vn) := QT T
 have G_has_spots : ZC P w K mg base CX0 1 T.YC T.Yz ["box"] (lift K SG) := Gq T
 refine okD T.YL.F JO (fun xs M Φ h => by obtain ⟨_, _, rfl, _⟩ := Zy h; rfl) fun cdv A outer s H E hr => ⟨_, (Ze (Ql (ZE Mi (Zh G_steps_between (hr.mono (by first | decide | omega)) rfl T.Zx.m T.Zx.F.kp T.Zx.b Zr (Za (Zb 0) (Za (Zb 1) Zd))) Zc) (Zi (Zo (Qz (Za (Zb 0) Zd)))) ZD)
 (Ze (Zn 2 JO.nd (Zh G_common (hr.mono (by first | decide | omega)) rfl T.VI.m T.VI.F.kp T.VI.b Zr (Za (Zb 0) (Za (Zb 1) Zd))))
 (Ze (Zn 3 JO.nd (Zq (Za (Zg (Zb 0) Zc) (Za (Zq (Za (Zl ZG (Zg (Zg (Zb 2) Zc) Zc) Zc) (Za (Zg (Zg (Zb 0) Zc) Zc) Zd))) Zd))))
 (Ze (Zn 4 JO.nd (Zq (Za (Zq (Za (Zl ZA (Zg (Zg (Zb 2) Zc) Zc) Zc) (Za (Zg (Zg (Zb 0) Zc) Zc) Zd))) (Za (Zg (Zb 0) Zc) Zd))))
 (Ze (Zn 5 JO.nd (Zq (Za (Zq (Za (Zg (Zg (Zb 2) Zc) Zc) (Za (Zg (Zg (Zb 0) Zc) Zc) Zd))) (Za (Zq (Za (Zg (Zg (Zb 2) Zc) Zc) (Za (Zl ZG (Zg (Zg (Zb 2) Zc) Zc) Zc) Zd))) Zd))))
 (Ze (Zn 6 JO.nd (Zq (Za (Zq (Za (Zg (Zg (Zb 2) Zc) Zc) (Za (Zl ZA (Zg (Zg (Zb 2) Zc) Zc) Zc) Zd))) (Za (Zq (Za (Zg (Zg (Zb 2) Zc) Zc) (Za (Zg (Zg (Zb 0) Zc) Zc) Zd))) Zd))))
 (Zi (Zo (QL true (ZL (sc := Zf JR) (XN := ["one", "other", "middle", "left", "right", "below", "above"]) (N := ["piece"]) (ix := [none]) rfl rfl (by decide +kernel)) (Vf (QZ (Za (Zb 3) (Za (Zb 4) (Za (Zb 5) (Za (Zb 6) Zd)))))) (fun C ex s H => (Zk 0 (show List.Nodup (["piece"] : List Str) by decide +kernel))) (fun C ex s H => (XE (QO (Zh G_has_spots (hr.mono (by first | decide | omega)) rfl T.VR.m T.VR.F.kp T.VR.b Zr (Za (Zb 0) Zd))))) (fun C ex s H => (Zb 0)) rfl))))))))), fun xs M Φ h => ?_⟩
 replace h := Zy h
 obtain ⟨x1, x2, rfl, h⟩ := h
 replace h := Z0 h
 obtain ⟨a, rfl, h⟩ := h
 replace h := Z0 h
 obtain ⟨b, rfl, h⟩ := h
 walk_at "hd"
 walk_at "rk"
 refine Zm (fun hk => ?_) (fun hk => ?_)
 ·intro p hp
  have h' := h p hp
  rw [show Ws a b = [a] from if_pos hk] at h'
  exact h'
 ·have ec : Ws a b = (EC a b).filter okB := if_neg hk
  walk_at "hd"
  walk_at "rk"
  walk_at "hd"
  walk_at "rk"
  walk_at "hd"
  walk_at "rk"
  walk_at "hd"
  walk_at "rk"
  walk_at "hd"
  walk_at "rk"
  subst_vars
  walk_at "rk"
  refine ⟨fun i acc M' => acc = (((EC a b).take i).filter okB).map bD ∧ M' = M, ⟨rfl, rfl⟩, ?_, ?_⟩
  ·rintro i d acc M' hd ⟨rfl, rfl⟩
   have hd' : ((EC a b).map bD)[i]? = some d := hd
   obtain ⟨q, eq, rfl⟩ := ZY hd'
   walk_at "rk"
   rw [Vz okB eq, List.map_append]
   cases okB q with
   | true => rfl
   | false => simp
  ·rintro acc M' ⟨rfl, rfl⟩
   rw [ec] at h
   exact h
theorem XT (T : Tx K mg) : ZC P w K mg base CX0 4 T.Vx T.VE ["box", "others"] (lift K C2) := by
 have G_cut_out : ZC P w K mg base CX0 3 T.Wf T.KP ["one", "other"] (lift K RE) := Ep T
 refine okD T.QU.F QW (fun xs M Φ h => by obtain ⟨_, _, rfl, _⟩ := Zy h; rfl) fun cdv A outer s H E hr => ⟨_, (Ze (Zn 2 QW.nd (QZ (Za (Zb 0) Zd)))
 (Ze (BA (Zb 1) (Zk 3 QW.nd) (Ze (Zn 4 QW.nd (Qz Zd))
 (Ze (Bk (Zb 2) (Zk 5 QW.nd) (Zi (Jb (KH (Zb 4) (Zh G_cut_out (hr.mono (by first | decide | omega)) rfl T.YL.m T.YL.F.kp T.YL.b Zr (Za (Zb 5) (Za (Zb 3) Zd)))))) PassesOwn.never rfl)
 (Zi (Zn 2 QW.nd (CP (Zb 4)))))) PassesOwn.never rfl)
 (Zi (Zo (Zb 2))))), fun xs M Φ h => ?_⟩
 replace h := Zy h
 obtain ⟨x1, x2, rfl, h⟩ := h
 replace h := Z0 h
 obtain ⟨a, rfl, h⟩ := h
 replace h := Qd h
 obtain ⟨bs, rfl, hl, h⟩ := h
 walk_at "hd"
 walk_at "rk"
 walk_at "hd"
 walk_at "rk"
 refine ⟨fun i Δ M' => ∃ k3 k4 k5, Δ = [some (.dat (bD a)), some (.dat (.tuple (bs.map bD))), some (.dat (.list ((Jo a (bs.take i)).map bD))), k3, k4, k5] ∧ M' = M, ⟨none, none, none, rfl, rfl⟩, ?_, ?_⟩
 ·rintro i d Δ M' hd ⟨k3, k4, k5, rfl, rfl⟩
  obtain ⟨b, eb, rfl⟩ := ZY hd
  have len := Wc a (bs.take i) (by rw [List.length_take]; omega)
  walk_at "rk"
  intro q hq
  refine ⟨fun j Δ M2 => ∃ k5, Δ = [some (.dat (bD a)), some (.dat (.tuple (bs.map bD))), some (.dat (.list ((Jo a (bs.take i)).map bD))), some (.dat (bD b)), some (.own q), k5] ∧ M2 = Z3 M' q (.lst ((((Jo a (bs.take i)).take j).flatMap fun p => Ws p b).map bD)), ⟨k5, rfl, rfl⟩, ?_, ?_⟩
  ·rintro j d Δ M2 hd2 ⟨k5, rfl, rfl⟩
   obtain ⟨p, ep, rfl⟩ := ZY hd2
   walk_at "rk"
   intro c hc
   have hne := fresh_ne hc
   simp only [Qh (Ne.symm hne)]
   walk_at "rk"
   refine ⟨hne, ?_, _, rfl, ?_⟩
   ·have h1 := X8 (fun p => Ws p b) 4 ((Jo a (bs.take i)).take j) fun p _ => US p b
    have h2 := US p b
    rw [List.length_take] at h1
    rw [List.length_map, List.length_map]
    omega
   ·rw [Hm hc, ← List.map_append, Lu (fun p => Ws p b) ep]
  ·rintro Δ M2 ⟨k5, rfl, rfl⟩
   rw [List.length_map, List.take_length]
   walk_at "rk"
   exact ⟨_, _, _, by rw [DX eb], Y1 hq⟩
 ·rintro Δ M' ⟨k3, k4, k5, rfl, rfl⟩
  rw [List.length_map, List.take_length]
  subst_vars
  walk_at "rk"
  exact h
theorem XA (T : Tx K mg) : ZC P w K mg base CX0 5 T.V7 T.V6 ["shape", "spot"] (lift K GD) := by
 have G_has : ZC P w K mg base CX0 4 T.Nq T.Ms ["box", "spot"] (lift K CI) := Pr T
 refine okD T.Qa.F DM (fun xs M Φ h => by obtain ⟨_, _, rfl, _⟩ := Zy h; rfl) fun cdv A outer s H E hr => ⟨_, (Zi (Zo (Zj (ZcG rfl) rfl T.Zc7 TX (Za (QL false (ZL (sc := Zf JQ) (XN := ["shape", "spot"]) (N := ["box", "spot"]) (ix := [none, some 1]) rfl rfl (by decide +kernel)) (XR (Zb 0)) (fun C ex s H => (Zk 0 (show List.Nodup (["box", "spot"] : List Str) by decide +kernel))) (fun C ex s H => Q4) (fun C ex s H => (Zh G_has (hr.mono (by first | decide | omega)) rfl T.Wk.m T.Wk.F.kp T.Wk.b Zr (Za (Zb 0) (Za (Zb 1) Zd)))) rfl) Zd)))), fun xs M Φ h => ?_⟩
 replace h := Zy h
 obtain ⟨x1, x2, rfl, h⟩ := h
 replace h := Qd h
 obtain ⟨bs, rfl, h⟩ := h
 replace h := Qr h
 obtain ⟨u, v, rfl, hl, h⟩ := h
 walk_at "rk"
 refine ⟨by rw [List.length_map]; omega, fun i acc M' => acc = ((bs.take i).map fun b => hasB b u v).map PyData.bool ∧ M' = M, ⟨rfl, rfl⟩, ?_, ?_⟩
 ·rintro i d acc M' hd ⟨rfl, rfl⟩
  obtain ⟨b, eb, rfl⟩ := ZY hd
  walk_at "rk"
  rw [← take_snoc _ eb, List.map_append]
  rfl
 ·rintro acc M' ⟨rfl, rfl⟩
  refine ⟨_, rfl, ?_⟩
  rw [List.length_map, List.take_length, List.any_map]
  exact h
theorem L8 (T : Tx K mg) : ZC P w K mg base CX0 1 T.Bn T.B7 ["shape"] (lift K Cn) := by
 refine okD T.UI.F Ue (fun xs M Φ h => by obtain ⟨_, rfl, _⟩ := Z6 h; rfl) fun cdv A outer s H E hr => ⟨_, (Ze (Zn 1 Ue.nd (Zq (Za (Zl ZG (Zj (Km rfl) rfl T.Yt Jv (Za (QL false (ZL (sc := Zf Vd) (XN := ["shape", "low", "high"]) (N := ["box"]) (ix := [none]) rfl rfl (by decide +kernel)) (XR (Zb 0)) (fun C ex s H => (Zk 0 (show List.Nodup (["box"] : List Str) by decide +kernel))) (fun C ex s H => Q4) (fun C ex s H => (Zg (Zg (Zb 0) Zc) Zc)) rfl) Zd)) Zc) (Za (Zl ZG (Zj (Km rfl) rfl T.Yt Jv (Za (QL false (ZL (sc := Zf Vd) (XN := ["shape", "low", "high"]) (N := ["box"]) (ix := [none]) rfl rfl (by decide +kernel)) (XR (Zb 0)) (fun C ex s H => (Zk 0 (show List.Nodup (["box"] : List Str) by decide +kernel))) (fun C ex s H => Q4) (fun C ex s H => (Zg (Zg (Zb 0) Zc) Zc)) rfl) Zd)) Zc) Zd))))
 (Ze (Zn 2 Ue.nd (Zq (Za (Zl ZA (Zj (EL rfl) rfl T.YE JW (Za (QL false (ZL (sc := Zf Vd) (XN := ["shape", "low", "high"]) (N := ["box"]) (ix := [none]) rfl rfl (by decide +kernel)) (XR (Zb 0)) (fun C ex s H => (Zk 0 (show List.Nodup (["box"] : List Str) by decide +kernel))) (fun C ex s H => Q4) (fun C ex s H => (Zg (Zg (Zb 0) Zc) Zc)) rfl) Zd)) Zc) (Za (Zl ZA (Zj (EL rfl) rfl T.YE JW (Za (QL false (ZL (sc := Zf Vd) (XN := ["shape", "low", "high"]) (N := ["box"]) (ix := [none]) rfl rfl (by decide +kernel)) (XR (Zb 0)) (fun C ex s H => (Zk 0 (show List.Nodup (["box"] : List Str) by decide +kernel))) (fun C ex s H => Q4) (fun C ex s H => (Zg (Zg (Zb 0) Zc) Zc)) rfl) Zd)) Zc) Zd))))
 (Zi (Zo (Zq (Za (Zb 1) (Za (Zb 2) Zd))))))), fun xs M Φ h => ?_⟩
 replace h := Z6 h
 obtain ⟨x1, rfl, h⟩ := h
 replace h := Qd h
 obtain ⟨bs, rfl, ⟨h1, h2⟩, h⟩ := h
 walk_at "hd"
 walk_at "rk"
 refine ⟨by rw [List.length_map]; omega, fun i acc M' => acc = ((bs.take i).map B4.x).map PyData.int ∧ M' = M, ⟨rfl, rfl⟩, ?_, ?_⟩
 ·rintro i d acc M' hd ⟨rfl, rfl⟩
  obtain ⟨b, eb, rfl⟩ := ZY hd
  walk_at "rk"
  rw [← take_snoc _ eb, List.map_append]
  rfl
 ·rintro acc M1 ⟨rfl, rfl⟩
  rw [List.length_map, List.take_length]
  refine ⟨_, .inl rfl, by rw [List.length_map]; omega, fun mx hmx nx => ⟨by omega, fun i acc M' => acc = ((bs.take i).map B4.y).map PyData.int ∧ M' = M1, ⟨rfl, rfl⟩, ?_, ?_⟩⟩
  ·rintro i d acc M' hd ⟨rfl, rfl⟩
   obtain ⟨b, eb, rfl⟩ := ZY hd
   walk_at "rk"
   rw [← take_snoc _ eb, List.map_append]
   rfl
  ·rintro acc M2 ⟨rfl, rfl⟩
   rw [List.take_length]
   refine ⟨_, .inl rfl, by rw [List.length_map]; omega, fun my hmy ny => ?_⟩
   walk_at "hd"
   walk_at "rk"
   refine ⟨by rw [List.length_map]; omega, fun i acc M' => acc = ((bs.take i).map B4.X).map PyData.int ∧ M' = M2, ⟨rfl, rfl⟩, ?_, ?_⟩
   ·rintro i d acc M' hd ⟨rfl, rfl⟩
    obtain ⟨b, eb, rfl⟩ := ZY hd
    walk_at "rk"
    rw [← take_snoc _ eb, List.map_append]
    rfl
   ·rintro acc M3 ⟨rfl, rfl⟩
    rw [List.length_map, List.take_length]
    refine ⟨_, .inl rfl, by rw [List.length_map]; omega, fun mX hmX nX => ⟨by omega, fun i acc M' => acc = ((bs.take i).map B4.Y).map PyData.int ∧ M' = M3, ⟨rfl, rfl⟩, ?_, ?_⟩⟩
    ·rintro i d acc M' hd ⟨rfl, rfl⟩
     obtain ⟨b, eb, rfl⟩ := ZY hd
     walk_at "rk"
     rw [← take_snoc _ eb, List.map_append]
     rfl
    ·rintro acc M4 ⟨rfl, rfl⟩
     rw [List.take_length]
     refine ⟨_, .inl rfl, by rw [List.length_map]; omega, fun mY hmY nY => ?_⟩
     subst_vars
     walk_at "rk"
     refine h ⟨mx - 1, my - 1, mX + 1, mY + 1⟩ fun b hb => ?_
     have q1 := nx b.x (List.mem_map.mpr ⟨b, hb, rfl⟩)
     have q2 := ny b.y (List.mem_map.mpr ⟨b, hb, rfl⟩)
     have q3 := nX b.X (List.mem_map.mpr ⟨b, hb, rfl⟩)
     have q4 := nY b.Y (List.mem_map.mpr ⟨b, hb, rfl⟩)
     dsimp only
     omega
theorem YR (T : Tx K mg) : ZC P w K mg base CX0 4 T.Vb T.Vc ["pieces", "spot"] (lift K CM) := by
 have G_steps_to : ZC P w K mg base CX0 3 T.Vs T.Vk ["box", "spot"] (lift K Zcj) := Yy T
 refine okD T.Qy.F W5 (fun xs M Φ h => by obtain ⟨_, _, rfl, _⟩ := Zy h; rfl) fun cdv A outer s H E hr => ⟨_, (Zi (Zo (Zj (Km rfl) rfl T.Yt Jv (Za (QL false (ZL (sc := Zf QB) (XN := ["pieces", "spot"]) (N := ["piece", "spot"]) (ix := [none, some 1]) rfl rfl (by decide +kernel)) (Vf (Zb 0)) (fun C ex s H => (Zk 0 (show List.Nodup (["piece", "spot"] : List Str) by decide +kernel))) (fun C ex s H => Q4) (fun C ex s H => (Zh G_steps_to (hr.mono (by first | decide | omega)) rfl T.Qo.m T.Qo.F.kp T.Qo.b Zr (Za (Zb 0) (Za (Zb 1) Zd)))) rfl) Zd)))), fun xs M Φ h => ?_⟩
 replace h := Zy h
 obtain ⟨x1, x2, rfl, h⟩ := h
 replace h := Bp h
 obtain ⟨ps, rfl, h⟩ := h
 replace h := Qr h
 obtain ⟨u, v, rfl, ⟨h1, h2⟩, h⟩ := h
 walk_at "rk"
 refine ⟨by rw [List.length_map]; omega, fun i acc M' => acc = ((ps.take i).map fun p => ZI p u v).map PyData.int ∧ M' = M, ⟨rfl, rfl⟩, ?_, ?_⟩
 ·rintro i d acc M' hd ⟨rfl, rfl⟩
  obtain ⟨b, eb, rfl⟩ := ZY hd
  walk_at "rk"
  rw [← take_snoc _ eb, List.map_append]
  rfl
 ·rintro acc M1 ⟨rfl, rfl⟩
  rw [List.length_map, List.take_length]
  have hl : 0 < ps.length := List.length_pos_iff.mpr h1
  refine ⟨_, .inl rfl, by rw [List.length_map]; exact hl, fun m hm hn => h m ?_ fun p hp => hn _ (List.mem_map.mpr ⟨p, hp, rfl⟩)⟩
  obtain ⟨p, mp, e⟩ := List.mem_map.mp hm
  exact ⟨p, mp, e⟩
theorem YQ (T : Tx K mg) : ZC P w K mg base CX0 6 T.J8 T.J7 ["shape", "spot"] (lift K UK) := by
 have G_lies_in : ZC P w K mg base CX0 5 T.V7 T.V6 ["shape", "spot"] (lift K GD) := XA T
 have G_left_over : ZC P w K mg base CX0 4 T.Vx T.VE ["box", "others"] (lift K C2) := XT T
 have G_frame : ZC P w K mg base CX0 1 T.Bn T.B7 ["shape"] (lift K Cn) := L8 T
 refine okD T.Qt.F Ur (fun xs M Φ h => by obtain ⟨_, _, rfl, _⟩ := Zy h; rfl) fun cdv A outer s H E hr => ⟨_, (Ze (Ql (QO (Zh G_lies_in (hr.mono (by first | decide | omega)) rfl T.Qa.m T.Qa.F.kp T.Qa.b Zr (Za (Zb 0) (Za (Zb 1) Zd)))) (Zi (Zo (Zh G_left_over (hr.mono (by first | decide | omega)) rfl T.QU.m T.QU.F.kp T.QU.b Zr (Za (Zh G_frame (hr.mono (by first | decide | omega)) rfl T.UI.m T.UI.F.kp T.UI.b Zr (Za (Zb 0) Zd)) (Za (Zb 0) Zd))))) ZD)
 (Zi (Zo (Qw EY rfl T.Za8 Tj (Za (Zb 0) Zd))))), fun xs M Φ h => ?_⟩
 replace h := Zy h
 obtain ⟨x1, x2, rfl, h⟩ := h
 replace h := Qd h
 obtain ⟨bs, rfl, h⟩ := h
 replace h := Qr h
 obtain ⟨u, v, rfl, ⟨h1, h2, hb⟩, h⟩ := h
 walk_at "rk"
 refine ⟨h2, PL (fun q => ⟨⟨h1, h2⟩, fun fr hf => ?_⟩) fun q => ?_⟩
 ·exact ⟨h2, h _ (EX hb hf q) (fun m z => Sm hb hf q z) (Wc _ _ h2)⟩
 ·exact h bs (D6 hb (fun z => by rw [z] at h1; exact absurd h1 (by decide)) q) (fun m _ => Nv q) (by omega)
theorem Ou (T : Tx K mg) : ZC P w K mg base CX0 7 T.BD T.G6 ["shape", "spot"] (lift K BR) := by
 have G_steps_away : ZC P w K mg base CX0 4 T.Vb T.Vc ["pieces", "spot"] (lift K CM) := YR T
 have G_other_side : ZC P w K mg base CX0 6 T.J8 T.J7 ["shape", "spot"] (lift K UK) := YQ T
 have G_lies_in : ZC P w K mg base CX0 5 T.V7 T.V6 ["shape", "spot"] (lift K GD) := XA T
 refine okD T.UG.F De (fun xs M Φ h => by obtain ⟨_, _, rfl, _⟩ := Zy h; rfl) fun cdv A outer s H E hr => ⟨_, (Ze (Zn 2 De.nd (Zh G_steps_away (hr.mono (by first | decide | omega)) rfl T.Qy.m T.Qy.F.kp T.Qy.b Zr (Za (Zh G_other_side (hr.mono (by first | decide | omega)) rfl T.Qt.m T.Qt.F.kp T.Qt.b Zr (Za (Zb 0) (Za (Zb 1) Zd))) (Za (Zb 1) Zd))))
 (Zi (Zo (HU (QO (Zh G_lies_in (hr.mono (by first | decide | omega)) rfl T.Qa.m T.Qa.F.kp T.Qa.b Zr (Za (Zb 0) (Za (Zb 1) Zd)))) (Zb 2) (Gs (Zb 2)))))), fun xs M Φ h => ?_⟩
 replace h := Zy h
 obtain ⟨x1, x2, rfl, h⟩ := h
 replace h := Qd h
 obtain ⟨bs, rfl, h⟩ := h
 replace h := Qr h
 obtain ⟨u, v, rfl, hs, h⟩ := h
 walk_at "rk"
 refine ⟨hs, fun ps hp hF hl => ⟨⟨hp.ne, hl⟩, fun m m1 m2 => ?_⟩⟩
 have k := hp.depth m1 m2
 refine ⟨hs.2.1, PL (fun q => ?_) fun q => ?_⟩
 ·rw [q, if_pos rfl] at k
  exact h _ k
 ·rw [q, if_neg Bool.false_ne_true] at k
  exact h _ k
theorem Es (T : Tx K mg) : ZC P w K mg base CX0 7 T.KS T.Ki ["shape", "spot"] (lift K KL) := by
 have G_other_side : ZC P w K mg base CX0 6 T.J8 T.J7 ["shape", "spot"] (lift K UK) := YQ T
 have G_square : ZC P w K mg base CX0 1 T.YV T.YK ["spot", "r"] (lift K Y4) := Kp T
 have G_steps_away : ZC P w K mg base CX0 4 T.Vb T.Vc ["pieces", "spot"] (lift K CM) := YR T
 have G_common : ZC P w K mg base CX0 1 T.X9 T.X7 ["one", "other"] (lift K Kg) := Gm T
 have G_steps_between : ZC P w K mg base CX0 2 T.Qc T.Qe ["one", "other"] (lift K Vn) := QT T
 refine okD T.YW.F Xw (fun xs M Φ h => by obtain ⟨_, _, rfl, _⟩ := Zy h; rfl) fun cdv A outer s H E hr => ⟨_, (Ze (Zn 2 Xw.nd (Zh G_other_side (hr.mono (by first | decide | omega)) rfl T.Qt.m T.Qt.F.kp T.Qt.b Zr (Za (Zb 0) (Za (Zb 1) Zd))))
 (Ze (Zn 3 Xw.nd (Zh G_square (hr.mono (by first | decide | omega)) rfl T.Jj.m T.Jj.F.kp T.Jj.b Zr (Za (Zb 1) (Za (Zh G_steps_away (hr.mono (by first | decide | omega)) rfl T.Qy.m T.Qy.F.kp T.Qy.b Zr (Za (Zb 2) (Za (Zb 1) Zd))) Zd))))
 (Zi (Zo (Zj (Lf hr rfl) rfl T.Yt Jv (Za (QL false (ZL (sc := Zf J1) (XN := ["shape", "spot", "pieces", "reach"]) (N := ["piece", "reach"]) (ix := [none, some 3]) rfl rfl (by decide +kernel)) (Vf (Zb 2)) (fun C ex s H => (Zk 0 (show List.Nodup (["piece", "reach"] : List Str) by decide +kernel))) (fun C ex s H => (XE (ZE (Jf hr) (Zh G_steps_between (hr.mono (by first | decide | omega)) rfl T.Zx.m T.Zx.F.kp T.Zx.b Zr (Za (Zb 0) (Za (Zb 1) Zd))) Zc))) (fun C ex s H => (Zg (Zh G_common (hr.mono (by first | decide | omega)) rfl T.VI.m T.VI.F.kp T.VI.b Zr (Za (Zb 0) (Za (Zb 1) Zd))) Zc)) rfl) Zd)))))), fun xs M Φ h => ?_⟩
 replace h := Zy h
 obtain ⟨x1, x2, rfl, h⟩ := h
 replace h := Qd h
 obtain ⟨bs, rfl, h⟩ := h
 replace h := Qr h
 obtain ⟨u, v, rfl, hs, h⟩ := h
 walk_at "hd"
 walk_at "rk"
 refine ⟨hs, fun ps hp hF hl => ?_⟩
 walk_at "hd"
 walk_at "rk"
 refine ⟨⟨hp.ne, hl⟩, fun m m1 m2 => ?_⟩
 subst_vars
 walk_at "rk"
 refine ⟨by rw [List.length_map]; omega, fun i acc M' => acc = (((ps.take i).filter fun p => decide (Jw p (QM u v m) = 0)).map (DC u v m)).map prD ∧ M' = M, ⟨rfl, rfl⟩, ?_, ?_⟩
 ·rintro i d acc M' hd ⟨rfl, rfl⟩
  obtain ⟨b, eb, rfl⟩ := ZY hd
  walk_at "rk"
  rw [Vz _ eb]
  cases decide (Jw b (QM u v m) = 0) with
  | true =>
   rw [if_pos rfl, if_pos rfl, List.map_append, List.map_append]
   rfl
  | false => rw [if_neg Bool.false_ne_true, if_neg Bool.false_ne_true, List.append_nil]
 ·rintro acc M1 ⟨rfl, rfl⟩
  rw [List.length_map, List.take_length]
  have hm : 0 ≤ m := by
   obtain ⟨pm, mpm, epm⟩ := m1
   rw [← epm]; exact Ye _ _ _
  refine ⟨_, rfl, ?_, fun q hq hmin => ?_⟩
  ·obtain ⟨pm, mpm, epm⟩ := m1
   rw [List.length_map]
   exact List.length_pos_iff.mpr (List.ne_nil_of_mem (List.mem_filter.mpr ⟨mpm, decide_eq_true ((Xb hm (m2 pm mpm)).mpr epm)⟩))
  ·obtain ⟨p, hp', e⟩ := List.mem_map.mp hq
   obtain ⟨mp, c⟩ := List.mem_filter.mp hp'
   have k := hp.least m1 m2 (hF m m2) mp ((Xb hm (m2 p mp)).mp (of_decide_eq_true c)) (fun r mr er => by
    rw [e]
    exact hmin _ (List.mem_map.mpr ⟨r, List.mem_filter.mpr ⟨mr, decide_eq_true ((Xb hm (m2 r mr)).mpr er)⟩, rfl⟩))
   subst e
   refine h _ _ fun d hd => ?_
   have kd := hp.depth m1 m2
   rw [hd.eq kd]
   have ea : ab (if anyB bs u v = true then m else -m) = m := by
    split
    ·have := Q6 m
     omega
    ·have := Q6 (-m)
     omega
   rw [ea]
   exact k
theorem VP (T : Tx K mg) : ZC P w K mg base CX0 1 T.JK T.JJ ["thing"] (lift K spW) := by
 refine okD T.ZF.F G3 (fun xs M Φ h => by obtain ⟨_, rfl, _⟩ := Z6 h; rfl) fun cdv A outer s H E hr => ⟨_, (Zi (Zo (QK (Zj (V2 (EV _)) rfl T.ZV ZN (Za (Zb 0) (Za (Kr rfl T.EF GP) Zd))) (JX (CU (Zj (V2 (UN _)) rfl T.ZV ZN (Za (Zb 0) (Za (Kr rfl T.EU Cq) Zd)))))))), fun xs M Φ h => ?_⟩
 replace h := Z6 h
 obtain ⟨x1, rfl, h⟩ := h
 replace h := Q8 h
 obtain ⟨d, rfl, h⟩ := h
 walk_at "rk"
 cases d <;> simpa [ZX, tyN, ZW] using h
theorem Wz (T : Tx K mg) : ZC P w K mg base CX0 5 T.YX T.Y9 ["box", "other"] (lift K X3) := by
 have G_has : ZC P w K mg base CX0 4 T.Nq T.Ms ["box", "spot"] (lift K CI) := Pr T
 refine okD T.JT.F Ee (fun xs M Φ h => by obtain ⟨_, _, rfl, _⟩ := Zy h; rfl) fun cdv A outer s H E hr => ⟨_, (Zi (Zo (QK (Zh G_has (hr.mono (by first | decide | omega)) rfl T.Wk.m T.Wk.F.kp T.Wk.b Zr (Za (Zb 0) (Za (Zg (Zb 1) Zc) Zd))) (JX (Zh G_has (hr.mono (by first | decide | omega)) rfl T.Wk.m T.Wk.F.kp T.Wk.b Zr (Za (Zb 0) (Za (Zg (Zb 1) Zc) Zd))))))), fun xs M Φ h => ?_⟩
 replace h := Zy h
 obtain ⟨x1, x2, rfl, h⟩ := h
 replace h := Z0 h
 obtain ⟨a, rfl, h⟩ := h
 replace h := Z0 h
 obtain ⟨b, rfl, h⟩ := h
 walk_at "rk"
 unfold allB at h
 cases q : hasB a b.x b.y with
 | true => rw [q] at h; simpa using h
 | false => rw [q] at h; simpa using h
theorem Dd (T : Tx K mg) : ZC P w K mg base CX0 1 T.WY T.Uv ["box", "way", "at"] (lift K ZcS) := by
 refine okD T.YB.F Cw (fun xs M Φ h => by obtain ⟨_, _, _, rfl, _⟩ := Z1 h; rfl) fun cdv A outer s H E hr => ⟨_, (Ze (Zn 3 Cw.nd (HU (ZE (Jf hr) (Zb 1) Zc) (Zq (Za (Zb 2) (Za (Zg (Zg (Zb 0) Zc) Zc) Zd))) (Zq (Za (Zg (Zg (Zb 0) Zc) Zc) (Za (Zb 2) Zd)))))
 (Zi (Zo (Zq (Za (Zg (Zb 0) Zc) (Za (Zb 3) Zd)))))), fun xs M Φ h => ?_⟩
 replace h := Z1 h
 obtain ⟨x1, x2, x3, rfl, h⟩ := h
 replace h := Z0 h
 obtain ⟨b, rfl, h⟩ := h
 replace h := ZM h
 obtain ⟨i, rfl, h⟩ := h
 replace h := ZM h
 obtain ⟨a, rfl, h⟩ := h
 unfold upB at h
 walk_at "hd"
 walk_at "rk"
 refine Zm (fun z => ?_) fun z => ?_
 ·rw [if_pos z] at h
  subst_vars
  walk_at "rk"
  exact h
 ·rw [if_neg z] at h
  subst_vars
  walk_at "rk"
  exact h
theorem Yw (T : Tx K mg) : ZC P w K mg base CX0 1 T.JB T.JF ["box", "way", "at"] (lift K ZcX) := by
 refine okD T.Qk.F Yu (fun xs M Φ h => by obtain ⟨_, _, _, rfl, _⟩ := Z1 h; rfl) fun cdv A outer s H E hr => ⟨_, (Ze (Zn 3 Yu.nd (HU (ZE (Jf hr) (Zb 1) Zc) (Zq (Za (Zb 2) (Za (Zg (Zg (Zb 0) Zc) Zc) Zd))) (Zq (Za (Zg (Zg (Zb 0) Zc) Zc) (Za (Zb 2) Zd)))))
 (Zi (Zo (Zq (Za (Zb 3) (Za (Zg (Zb 0) Zc) Zd)))))), fun xs M Φ h => ?_⟩
 replace h := Z1 h
 obtain ⟨x1, x2, x3, rfl, h⟩ := h
 replace h := Z0 h
 obtain ⟨b, rfl, h⟩ := h
 replace h := ZM h
 obtain ⟨i, rfl, h⟩ := h
 replace h := ZM h
 obtain ⟨a, rfl, h⟩ := h
 unfold owB at h
 walk_at "hd"
 walk_at "rk"
 refine Zm (fun z => ?_) fun z => ?_
 ·rw [if_pos z] at h
  subst_vars
  walk_at "rk"
  exact h
 ·rw [if_neg z] at h
  subst_vars
  walk_at "rk"
  exact h
theorem KW (T : Tx K mg) : ZC P w K mg base CX0 2 T.Vh T.Ve ["shape", "k"] (lift K Tb) := by
 have G_is_whole : ZC P w K mg base CX0 1 T.JK T.JJ ["thing"] (lift K spW) := VP T
 refine okD T.Jk.F Kq (fun xs M Φ h => by obtain ⟨_, _, rfl, _⟩ := Zy h; rfl) fun cdv A outer s H E hr => ⟨_, (Zi (Zo (QK (Zh G_is_whole (hr.mono (by first | decide | omega)) rfl T.ZF.m T.ZF.F.kp T.ZF.b Zr (Za (Zb 1) Zd)) (JX (UO XZ Xo Zc (Zb 1) (Zj QD rfl T.JV Qs (Za (Zb 0) Zd))))))), fun xs M Φ h => ?_⟩
 replace h := Zy h
 obtain ⟨x1, x2, rfl, h⟩ := h
 replace h := Qd h
 obtain ⟨bs, rfl, h⟩ := h
 replace h := Q8 h
 obtain ⟨k, rfl, h⟩ := h
 walk_at "rk"
 cases k with
 | int k =>
  unfold Ts DR at h
  unfold ZW
  walk_at "rk"
  rw [List.length_map]
  refine Zm (fun z => ?_) fun z => ?_
  ·simpa [z] using h
  ·simpa [z] using h
 | _ => simpa [ZW, Ts] using h
theorem RH (T : Tx K mg) : ZC P w K mg base CX0 2 T.HC T.He ["box", "way", "at"] (lift K LD) := by
 have G_is_whole : ZC P w K mg base CX0 1 T.JK T.JJ ["thing"] (lift K spW) := VP T
 refine okD T.Cz.F To (fun xs M Φ h => by obtain ⟨_, _, _, rfl, _⟩ := Z1 h; rfl) fun cdv A outer s H E hr => ⟨_, (Zi (Zo (QK (Zh G_is_whole (hr.mono (by first | decide | omega)) rfl T.ZF.m T.ZF.F.kp T.ZF.b Zr (Za (Zb 1) Zd)) (QK (UO XZ XZ Zc (Zb 1) Zc) (QK (Zh G_is_whole (hr.mono (by first | decide | omega)) rfl T.ZF.m T.ZF.F.kp T.ZF.b Zr (Za (Zb 2) Zd)) (JX (UO XZ Xo (Zg (Zg (Zb 0) Zc) (Zb 1)) (Zb 2) (Zg (Zg (Zb 0) Zc) (Zb 1))))))))), fun xs M Φ h => ?_⟩
 replace h := Z1 h
 obtain ⟨x1, x2, x3, rfl, h⟩ := h
 replace h := Z0 h
 obtain ⟨b, rfl, h⟩ := h
 replace h := Q8 h
 obtain ⟨i, rfl, h⟩ := h
 replace h := Q8 h
 obtain ⟨a, rfl, h⟩ := h
 walk_at "rk"
 cases i with
 | int i =>
  unfold ZW
  walk_at "rk"
  have no : (¬ 0 ≤ i ∨ ¬ i ≤ 1) → Y3 b (.int i) a = false := fun z => by
   cases a with
   | int a =>
    show Xk b i a = false
    rw [Bool.eq_false_iff]
    intro y
    have := (QP.mp y).1
    omega
   | _ => rfl
  refine Zm (fun z0 => ?_) fun z0 => ?_
  ·refine Zm (fun z1 => ?_) fun z1 => ?_
   ·cases a with
    | int a =>
     walk_at "rk"
     unfold Y3 Xk at h
     have two : i = 0 ∨ i = 1 := by omega
     rcases two with rfl | rfl
     ·walk_at "rk"
      unfold loB hiB at h
      refine Zm (fun z => ?_) fun z => ?_
      ·simpa [z] using h
      ·simpa [z] using h
     ·walk_at "rk"
      unfold loB hiB at h
      refine Zm (fun z => ?_) fun z => ?_
      ·simpa [z] using h
      ·simpa [z] using h
    | _ => simpa [Y3] using h
   ·rw [no (.inr z1)] at h
    walk_at "rk"
    exact h
  ·rw [no (.inl z0)] at h
   exact h
 | _ => simpa [ZW, Y3] using h
theorem Wn (T : Tx K mg) (n : Nat) : ZC P w K mg base CX0 (5 + n) T.Q2 T.Q5 ["shape", "box", "thing"] (lift K (XC n)) := by
 refine Nat.rec (motive := fun n => ZC P w K mg base CX0 (5 + n) T.Q2 T.Q5 ["shape", "box", "thing"] (lift K (XC n))) ?_ (fun n G_holds_cover => ?_) n
 ·exact FZ GZ
 show ZC P w K mg base CX0 (5 + n + 1) T.Q2 T.Q5 ["shape", "box", "thing"] (lift K (XC (n + 1)))
 have G_cuts : ZC P w K mg base CX0 2 T.HC T.He ["box", "way", "at"] (lift K LD) := RH T
 have G_up_to : ZC P w K mg base CX0 1 T.WY T.Uv ["box", "way", "at"] (lift K ZcS) := Dd T
 have G_onward_from : ZC P w K mg base CX0 1 T.JB T.JF ["box", "way", "at"] (lift K ZcX) := Yw T
 have G_is_number_of : ZC P w K mg base CX0 2 T.Vh T.Ve ["shape", "k"] (lift K Tb) := KW T
 have G_has_all : ZC P w K mg base CX0 5 T.YX T.Y9 ["box", "other"] (lift K X3) := Wz T
 refine okD T.ZR.F Vg (fun xs M Φ h => by obtain ⟨_, _, _, rfl, _⟩ := Z1 h; rfl) fun cdv A outer s H E hr => ⟨_, (Ze (Ql (Jn (QO (Zj (V2 (kit_tuple _)) rfl T.ZV ZN (Za (Zb 2) (Za (Kr rfl T.Jd QG) Zd))))) (Zi (Zo Js)) ZD)
 (Ze (Ql (DW.dt (XG (ZE (Jf hr) (Zj QD rfl T.JV Qs (Za (Zb 2) Zd)) Zc) (YH (ZE (Jf hr) (Zg (Zb 2) Zc) Q9)))) (Zi (Zo (QK (Zh G_is_number_of (hr.mono (by first | decide | omega)) rfl T.Jk.m T.Jk.F.kp T.Jk.b Zr (Za (Zb 0) (Za (Zg (Zb 2) Zc) Zd))) (JX (Zh G_has_all (hr.mono (by first | decide | omega)) rfl T.JT.m T.JT.F.kp T.JT.b Zr (Za (Zg (Zb 0) (Zg (Zb 2) Zc)) (Za (Zb 1) Zd))))))) ZD)
 (Ze (Ql (DW.dt (XG (ZE (Jf hr) (Zj QD rfl T.JV Qs (Za (Zb 2) Zd)) Zc) (XG (ZE (Jf hr) (Zg (Zb 2) Zc) Q9) (YH (QO (Zh G_cuts (hr.mono (by first | decide | omega)) rfl T.Cz.m T.Cz.F.kp T.Cz.b Zr (Za (Zb 1) (Za (Zg (Zb 2) Zc) (Za (Zg (Zb 2) Zc) Zd))))))))) (Ze (Zn 3 Vg.nd (Zh G_up_to (hr.mono (by first | decide | omega)) rfl T.YB.m T.YB.F.kp T.YB.b Zr (Za (Zb 1) (Za (Zg (Zb 2) Zc) (Za (Zg (Zb 2) Zc) Zd)))))
 (Ze (Zn 4 Vg.nd (Zh G_onward_from (hr.mono (by first | decide | omega)) rfl T.Qk.m T.Qk.F.kp T.Qk.b Zr (Za (Zb 1) (Za (Zg (Zb 2) Zc) (Za (Zl ZA (Zg (Zb 2) Zc) Zc) Zd)))))
 (Zi (Zo (QK (Zh G_holds_cover (hr.mono (by first | decide | omega)) rfl T.ZR.m T.ZR.F.kp T.ZR.b Zr (Za (Zb 0) (Za (Zb 3) (Za (Zg (Zb 2) Zc) Zd)))) (JX (Zh G_holds_cover (hr.mono (by first | decide | omega)) rfl T.ZR.m T.ZR.F.kp T.ZR.b Zr (Za (Zb 0) (Za (Zb 4) (Za (Zg (Zb 2) Zc) Zd)))))))))) ZD)
 (Zi (Zo Js))))), fun xs M Φ h => ?_⟩
 replace h := Z1 h
 obtain ⟨x1, x2, x3, rfl, h⟩ := h
 replace h := Qd h
 obtain ⟨bs, rfl, h⟩ := h
 replace h := Z0 h
 obtain ⟨b, rfl, h⟩ := h
 replace h := Q8 h
 obtain ⟨d, rfl, hp, h⟩ := h
 cases d with
 | tuple ds =>
  by_cases h2 : ds.length = 2
  ·obtain ⟨x, k, rfl⟩ := Gh h2
   have e : ZJ bs (n + 1) b (.tuple [x, k]) = (isS x (Str.ofString "box") && K2 bs b k) := rfl
   rw [e] at h
   walk_at "hd"
   walk_at "rk"
   walk_at "hd"
   walk_at "rk"
   refine WU hp Yn ?_
   cases q : isS x (Str.ofString "box") with
   | false =>
    rw [q] at h
    subst_vars
    walk_at "rk"
    simpa using h
   | true =>
    rw [q, Bool.true_and] at h
    walk_at "rk"
    cases k with
    | int k =>
     have el : K2 bs b (.int k) = (DR bs k && (match bs[k.toNat]? with | some c => allB c b | none => false)) := rfl
     rw [el] at h
     have en : Ts bs (.int k) = DR bs k := rfl
     rw [en]
     cases hn : DR bs k with
     | false =>
      rw [hn] at h
      walk_at "rk"
      simpa using h
     | true =>
      rw [hn] at h
      walk_at "rk"
      have hk : 0 ≤ k ∧ k < bs.length := by
       unfold DR at hn
       simpa using hn
      obtain ⟨c, ec⟩ : ∃ c, bs[k.toNat]? = some c := ⟨_, List.getElem?_eq_getElem (by omega)⟩
      rw [ec] at h
      obtain ⟨j, rfl⟩ := Int.eq_ofNat_of_zero_le hk.1
      refine JZ (d := bD c) (Vy (by rw [List.getElem?_map]; rw [Int.toNat_natCast] at ec; rw [ec]; rfl)) ?_
      walk_at "rk"
      simpa using h
    | _ =>
     unfold Ts
     walk_at "rk"
     simpa [K2] using h
  ·by_cases h5 : ds.length = 5
   ·obtain ⟨x, i, a, p, q, rfl⟩ := K9 h5
    have e : ZJ bs (n + 1) b (.tuple [x, i, a, p, q]) = (isS x (Str.ofString "cut") && (Y3 b i a && (ZJ bs n (upD b i a) p && ZJ bs n (owD b i a) q))) := rfl
    rw [e] at h
    walk_at "hd"
    walk_at "rk"
    walk_at "hd"
    walk_at "rk"
    subst_vars
    walk_at "rk"
    refine WU hp.1 Yn ?_
    cases hx : isS x (Str.ofString "cut") with
    | false =>
     rw [hx] at h
     walk_at "rk"
     simpa using h
    | true =>
     rw [hx, Bool.true_and] at h
     walk_at "rk"
     cases hc : Y3 b i a with
     | false =>
      rw [hc] at h
      walk_at "rk"
      simpa using h
     | true =>
      rw [hc, Bool.true_and] at h
      cases i with
      | int i =>
       cases a with
       | int a =>
        walk_at "rk"
        refine ⟨hp.2.1, ?_⟩
        have e1 : upD b (.int i) (.int a) = upB b i a := rfl
        have e2 : owD b (.int i) (.int a) = owB b i (a + 1) := rfl
        rw [e1, e2] at h
        cases hq : ZJ bs n (upB b i a) p with
        | false =>
         rw [hq] at h
         walk_at "rk"
         simpa using h
        | true =>
         rw [hq, Bool.true_and] at h
         walk_at "rk"
         exact ⟨hp.2.2, h⟩
       | _ => cases hc
      | _ => cases hc
   ·rw [Yb h2 h5] at h
    walk_at "hd"
    walk_at "rk"
    walk_at "hd"
    walk_at "rk"
    refine Zm (fun z => absurd z (by omega)) fun _ => ?_
    subst_vars
    walk_at "rk"
    refine Zm (fun z => absurd z (by omega)) fun _ => ?_
    exact h
 | _ =>
  walk_at "hd"
  walk_at "rk"
  simpa [ZJ] using h
theorem Uc (T : Tx K mg) : ZC P w K mg base CX0 3 T.V5 T.V8 ["shape", "box", "way"] (lift K Ut) := by
 have G_steps_between : ZC P w K mg base CX0 2 T.Qc T.Qe ["one", "other"] (lift K Vn) := QT T
 refine okG T.QC.F VA (fun xs M Φ h => by obtain ⟨_, _, _, rfl, _⟩ := Z1 h; rfl) fun cdv A outer s H E hr => ⟨_, (Ze (Zn 3 VA.nd (Qz Zd))
 (Ze (BA (Zb 0) (Zk 4 VA.nd) (Zi (Ql (ZE (Jf hr) (Zh G_steps_between (hr.mono (by first | decide | omega)) rfl T.Zx.m T.Zx.F.kp T.Zx.b Zr (Za (Zb 4) (Za (Zb 1) Zd))) Zc) (Zi (Jb (KH (Zb 3) (Qz (Za (Zl ZG (Zg (Zg (Zb 4) Zc) (Zb 2)) Zc) (Za (Zg (Zg (Zb 4) Zc) (Zb 2)) Zd)))))) ZD)) PassesOwn.never rfl)
 (Zi (Zo (GG rfl T.NP rfl T.Zdb (Za (QL false (ZL (sc := Zf Qx) (XN := ["shape", "box", "way", "places", "other"]) (N := ["at", "way", "box"]) (ix := [none, some 2, some 1]) rfl rfl (by decide +kernel)) (Vf (CP (Zb 3))) (fun C ex s H => (Zk 0 (show List.Nodup (["at", "way", "box"] : List Str) by decide +kernel))) (fun C ex s H => (XE (X6 XZ Xo (Zg (Zg (Zb 2) Zc) (Zb 1)) (Zb 0) (Zg (Zg (Zb 2) Zc) (Zb 1))))) (fun C ex s H => (Zb 0)) rfl) Zd)))))), fun xs M Φ h => ?_⟩
 replace h := Z1 h
 obtain ⟨x1, x2, x3, rfl, h⟩ := h
 replace h := Qd h
 obtain ⟨bs, rfl, h⟩ := h
 replace h := Z0 h
 obtain ⟨b, rfl, h⟩ := h
 replace h := ZM h
 obtain ⟨i, rfl, ⟨hl, hi⟩, h⟩ := h
 walk_at "hd"
 walk_at "rk"
 intro q hq
 walk_at "hd"
 walk_at "rk"
 refine ⟨fun n Δ M' => ∃ k4, Δ = [some (.dat (.tuple (bs.map bD))), some (.dat (bD b)), some (.dat (.int i)), some (.own q), k4] ∧ M' = Z3 M q (.lst ((plB b i (bs.take n)).map PyData.int)), ⟨none, rfl, rfl⟩, ?_, ?_⟩
 ·rintro n d Δ M' hd ⟨k4, rfl, rfl⟩
  obtain ⟨c, ec, rfl⟩ := ZY hd
  have len := EK b i (bs.take n)
  rw [List.length_take] at len
  have sn := Mo (b := b) (w := i) ec
  rw [VO]
  walk_at "rk"
  refine Zm (fun z => ?_) fun z => ?_
  ·rw [if_pos z] at sn
   simp only [O3 hi, Pm hi]
   walk_at "rk"
   intro p hp
   have hne := fresh_ne hp
   simp only [Qh (Ne.symm hne)]
   walk_at "rk"
   refine ⟨hne, by rw [List.length_map]; omega, _, rfl, ?_⟩
   rw [Hm hp, sn, List.map_append]
   rfl
  ·rw [if_neg z, List.append_nil] at sn
   rw [← sn]
   exact ⟨_, rfl, rfl⟩
 ·rintro Δ M' ⟨k4, rfl, rfl⟩
  rw [List.length_map, List.take_length]
  subst_vars
  walk_at "rk"
  have len := EK b i bs
  rw [Y1 hq]
  refine ⟨by rw [List.length_map]; omega, fun n acc M' => acc = (((plB b i bs).take n).filter fun z => decide (loB b i ≤ z) && decide (z < hiB b i)).map PyData.int ∧ M' = M, ⟨rfl, rfl⟩, ?_, ?_⟩
  ·rintro n d acc M' hd ⟨rfl, rfl⟩
   obtain ⟨z, ez, rfl⟩ := ZY hd
   have flt := Vz (fun z => decide (loB b i ≤ z) && decide (z < hiB b i)) ez
   rw [O3 hi]
   walk_at "rk"
   refine Zm (fun z0 => ?_) fun z0 => ?_
   ·rw [Pm hi]
    walk_at "rk"
    refine Zm (fun z1 => ?_) fun z1 => ?_
    ·rw [flt, if_pos (by rw [decide_eq_true z0, decide_eq_true z1]; rfl), List.map_append]
     rfl
    ·rw [flt, if_neg (by rw [decide_eq_false z1, Bool.and_false]; exact Bool.false_ne_true), List.append_nil]
   ·rw [flt, if_neg (by rw [decide_eq_false z0, Bool.false_and]; exact Bool.false_ne_true), List.append_nil]
  ·rintro acc M' ⟨rfl, rfl⟩
   rw [List.length_map, List.take_length]
   refine ⟨_, .inl rfl, Nat.lt_of_le_of_lt (List.length_filter_le _ _) (by omega), fun ks _ _ hk => ZdQ (h ks (fun z hz => ?_) fun c hc h0 he => ?_)⟩
   ·obtain ⟨h1, h2⟩ := List.mem_filter.mp ((hk z).mp hz)
    simp only [Bool.and_eq_true, decide_eq_true_eq] at h2
    exact ⟨h2, RF h1⟩
   ·have he := Hg.mp he
    exact (hk _).mpr (List.mem_filter.mpr ⟨SY hc h0, by simp only [Bool.and_eq_true, decide_eq_true_eq]; exact he⟩)
theorem BC (T : Tx K mg) (n : Nat) : ZC P w K mg base CX0 (6 + n) T.Vj T.Vq ["shape", "box"] (lift K (Xr n)) := by
 refine Nat.rec (motive := fun n => ZC P w K mg base CX0 (6 + n) T.Vj T.Vq ["shape", "box"] (lift K (Xr n))) ?_ (fun n G_cover_of => ?_) n
 ·exact FZ GS
 show ZC P w K mg base CX0 (6 + n + 1) T.Vj T.Vq ["shape", "box"] (lift K (Xr (n + 1)))
 have G_cut_places : ZC P w K mg base CX0 3 T.V5 T.V8 ["shape", "box", "way"] (lift K Ut) := Uc T
 have G_has_all : ZC P w K mg base CX0 5 T.YX T.Y9 ["box", "other"] (lift K X3) := Wz T
 have G_up_to : ZC P w K mg base CX0 1 T.WY T.Uv ["box", "way", "at"] (lift K ZcS) := Dd T
 have G_onward_from : ZC P w K mg base CX0 1 T.JB T.JF ["box", "way", "at"] (lift K ZcX) := Yw T
 refine okD T.Qq.F Qu (fun xs M Φ h => by obtain ⟨_, _, rfl, _⟩ := Zy h; rfl) fun cdv A outer s H E hr => ⟨_, (Ze (Jl rfl T.QV (Za (Zj QD rfl T.JV Qs (Za (Zb 0) Zd)) Zd) (Zk 2 Qu.nd) (Zi (Ql (QO (Zh G_has_all (hr.mono (by first | decide | omega)) rfl T.JT.m T.JT.F.kp T.JT.b Zr (Za (Zg (Zb 0) (Zb 2)) (Za (Zb 1) Zd)))) (Zi (Zo (Zq (Za Q9 (Za (Zb 2) Zd))))) ZD)) PassesOwn.never rfl)
 (Ze (Zn 3 Qu.nd (Zh G_cut_places (hr.mono (by first | decide | omega)) rfl T.QC.m T.QC.F.kp T.QC.b Zr (Za (Zb 0) (Za (Zb 1) (Za Zc Zd)))))
 (Ze (Zn 4 Qu.nd (Zh G_cut_places (hr.mono (by first | decide | omega)) rfl T.QC.m T.QC.F.kp T.QC.b Zr (Za (Zb 0) (Za (Zb 1) (Za Zc Zd)))))
 (Ze (Zn 5 Qu.nd (HU (ZE NK (Zj QD rfl T.JV Qs (Za (Zb 3) Zd)) (Zj QD rfl T.JV Qs (Za (Zb 4) Zd))) Zc Zc))
 (Ze (Zn 6 Qu.nd (HU (ZE (Jf hr) (Zb 5) Zc) (Zb 3) (Zb 4)))
 (Ze (Zn 7 Qu.nd (Zg (Zb 6) (Zl E9 (Zj QD rfl T.JV Qs (Za (Zb 6) Zd)) Zc)))
 (Ze (Zn 8 Qu.nd (Zh G_cover_of (hr.mono (by first | decide | omega)) rfl T.Qq.m T.Qq.F.kp T.Qq.b Zr (Za (Zb 0) (Za (Zh G_up_to (hr.mono (by first | decide | omega)) rfl T.YB.m T.YB.F.kp T.YB.b Zr (Za (Zb 1) (Za (Zb 5) (Za (Zb 7) Zd)))) Zd))))
 (Zi (Zo (Zq (Za Q9 (Za (Zb 5) (Za (Zb 7) (Za (Zb 8) (Za (Zh G_cover_of (hr.mono (by first | decide | omega)) rfl T.Qq.m T.Qq.F.kp T.Qq.b Zr (Za (Zb 0) (Za (Zh G_onward_from (hr.mono (by first | decide | omega)) rfl T.Qk.m T.Qk.F.kp T.Qk.b Zr (Za (Zb 1) (Za (Zb 5) (Za (Zl ZA (Zb 7) Zc) Zd)))) Zd))) Zd))))))))))))))), fun xs M Φ h => ?_⟩
 replace h := Zy h
 obtain ⟨x1, x2, rfl, h⟩ := h
 replace h := Qd h
 obtain ⟨bs, rfl, h⟩ := h
 replace h := Z0 h
 obtain ⟨b, rfl, ⟨⟨hl, hb, hc⟩, hn⟩, h⟩ := h
 walk_at "hd"
 walk_at "rk"
 rw [List.length_map]
 refine ⟨⟨by omega, by omega⟩, fun i Δ M' => ∃ k2, Δ = [some (.dat (.tuple (bs.map bD))), some (.dat (bD b)), k2, none, none, none, none, none, none] ∧ M' = M ∧ ∀ j c, j < i → bs[j]? = some c → allB c b = false, ⟨none, rfl, rfl, fun j c hj => absurd hj (Nat.not_lt_zero _)⟩, ?_, ?_⟩
 ·rintro i Δ M' hi ⟨k2, rfl, rfl, ha⟩
  have hi : i < bs.length := by omega
  obtain ⟨c, ec⟩ : ∃ c, bs[i]? = some c := ⟨_, List.getElem?_eq_getElem hi⟩
  rw [VO]
  walk_at "rk"
  refine JZ (d := bD c) (Vy (by rw [List.getElem?_map, ec]; rfl)) ?_
  walk_at "rk"
  cases q : allB c b with
  | true =>
   walk_at "rk"
   exact h (.box (i : Int)) (Gv ec q) (Nat.succ_le_succ (Nat.zero_le _))
  | false =>
   walk_at "rk"
   refine ⟨_, rfl, fun j c' hj ej => ?_⟩
   by_cases e : j = i
   ·rw [e, ec] at ej
    cases ej
    exact q
   ·exact ha j c' (by omega) ej
 ·rintro Δ M' ⟨k2, rfl, rfl, ha⟩
  have no : ∀ c ∈ bs, allB c b = false := fun c mc => by
   obtain ⟨j, hj, ej⟩ := List.mem_iff_getElem.mp mc
   exact ha j c (by omega) (by rw [← ej]; exact List.getElem?_eq_getElem hj)
  obtain ⟨c0, m0, a0, e0⟩ := RI hb hc no
  walk_at "hd"
  walk_at "rk"
  refine ⟨⟨hl, .inl trivial⟩, fun k0 c0' x0 => ?_⟩
  walk_at "hd"
  walk_at "rk"
  refine ⟨⟨hl, .inr trivial⟩, fun k1 c1' x1 => ?_⟩
  walk_at "hd"
  walk_at "rk"
  rename_i R hR
  rw [List.length_map, List.length_map]
  suffices rest : ∀ (w : Int) (ks : List Int), (w = 0 ∧ ks = k0) ∨ (w = 1 ∧ ks = k1) → ks ≠ [] → R { nx := fun _ M' => Φ (.dat .none) M', rt := Φ } [some (.dat (.tuple (bs.map bD))), some (.dat (bD b)), k2, some (.dat (.list (k0.map PyData.int))), some (.dat (.list (k1.map PyData.int))), some (.dat (.int w)), none, none, none] M' by
   have some0 : k0 ≠ [] ∨ k1 ≠ [] := e0.imp (fun e z => by have := x0 c0 m0 a0 e; rw [z] at this; cases this) fun e z => by have := x1 c0 m0 a0 e; rw [z] at this; cases this
   refine Zm (fun z => rest 0 k0 (.inl ⟨rfl, rfl⟩) fun e => ?_) fun z => rest 1 k1 (.inr ⟨rfl, rfl⟩) fun e => ?_
   ·rcases some0 with y | y
    ·exact y e
    ·have := List.length_pos_iff.mpr y
     rw [e] at z
     simp only [List.length_nil] at z
     omega
   ·rw [e] at z
    simp only [List.length_nil] at z
    omega
  intro w ks hw hne
  have hw' : w = 0 ∨ w = 1 := hw.imp (·.1) (·.1)
  have hks : ∀ z ∈ ks, Sf bs b w z := by rcases hw with ⟨rfl, rfl⟩ | ⟨rfl, rfl⟩ <;> assumption
  have hpos := List.length_pos_iff.mpr hne
  have hm : ks.length / 2 < ks.length := by omega
  have ck := hks _ (List.getElem_mem hm)
  have idx : L2.atI (ks.map PyData.int) ((ks.length : Int) / 2) = some (.int (ks[ks.length / 2]'hm)) := by
   rw [show (ks.length : Int) / 2 = ((ks.length / 2 : Nat) : Int) by omega]
   exact Vy (by rw [List.getElem?_map, List.getElem?_eq_getElem hm]; rfl)
  generalize ks[ks.length / 2]'hm = a at *
  obtain ⟨⟨ck1, ck2⟩, cd, mcd, ecd⟩ := ck
  have ok2 := EM hb hw' ck1 ck2
  have cv2 := hc.sub hw' ck1 ck2
  have ms := LK (bs := dbl bs) hw' ck1 ck2 mcd ecd
  clear ecd
  subst hR
  walk_at "hd"
  rename_i R hR
  suffices rest : R { nx := fun _ M' => Φ (.dat .none) M', rt := Φ } [some (.dat (.tuple (bs.map bD))), some (.dat (bD b)), k2, some (.dat (.list (k0.map PyData.int))), some (.dat (.list (k1.map PyData.int))), some (.dat (.int w)), some (.dat (.list (ks.map PyData.int))), none, none] M' by
   rcases hw with ⟨rfl, rfl⟩ | ⟨rfl, rfl⟩
   ·walk_at "rk"
    exact rest
   ·walk_at "rk"
    exact rest
  subst hR
  walk_at "hd"
  walk_at "rk"
  rw [List.length_map]
  refine ⟨by unfold Zd5; decide, JZ idx ?_⟩
  walk_at "hd"
  walk_at "rk"
  refine ⟨⟨⟨hl, ok2.1, cv2.1⟩, by omega⟩, fun c1 h1 d1 => ?_⟩
  subst_vars
  walk_at "rk"
  refine ⟨⟨⟨hl, ok2.2, cv2.2⟩, by omega⟩, fun c2 h2 d2 => ?_⟩
  exact h (.cut w a c1 c2) (Gx hw' ck1 ck2 h1 h2) (by rw [Ub]; omega)
theorem Ex (T : Tx K mg) : ZC P w K mg base CX0 32 T.Ku T.KU ["shape", "box"] (lift K KJ) := by
 have G_left_over : ZC P w K mg base CX0 4 T.Vx T.VE ["box", "others"] (lift K C2) := XT T
 have G_cover_of : ZC P w K mg base CX0 31 T.Vj T.Vq ["shape", "box"] (lift K (Xr 25)) := BC T 25
 refine okD T.Y8.F WE (fun xs M Φ h => by obtain ⟨_, _, rfl, _⟩ := Zy h; rfl) fun cdv A outer s H E hr => ⟨_, (Ze (Zn 2 WE.nd (Zh G_left_over (hr.mono (by first | decide | omega)) rfl T.QU.m T.QU.F.kp T.QU.b Zr (Za (Zb 1) (Za (Zb 0) Zd))))
 (Ze (Ql (ZbY (Zb 2)) (Zi (Zo (Zq (Za Q9 (Za (Zj (Lf hr rfl) rfl T.Yt Jv (Za (QL false (ZL (sc := Zf JU) (XN := ["shape", "box", "lacking"]) (N := ["piece"]) (ix := [none]) rfl rfl (by decide +kernel)) (Vf (Zb 2)) (fun C ex s H => (Zk 0 (show List.Nodup (["piece"] : List Str) by decide +kernel))) (fun C ex s H => Q4) (fun C ex s H => (Zg (Zb 0) Zc)) rfl) Zd)) Zd))))) ZD)
 (Zi (Zo (Zq (Za Q9 (Za (Zh G_cover_of (hr.mono (by first | decide | omega)) rfl T.Qq.m T.Qq.F.kp T.Qq.b Zr (Za (Zb 0) (Za (Zb 1) Zd))) Zd))))))), fun xs M Φ h => ?_⟩
 replace h := Zy h
 obtain ⟨x1, x2, rfl, h⟩ := h
 replace h := Qd h
 obtain ⟨bs, rfl, h⟩ := h
 replace h := Z0 h
 obtain ⟨b, rfl, ⟨hs, hb⟩, h1, h2⟩ := h
 walk_at "hd"
 walk_at "rk"
 refine ⟨hs.2.1, ?_⟩
 have len := Wc b bs hs.2.1
 walk_at "hd"
 walk_at "rk"
 refine Bd (fun z => ?_) fun z => ?_
 ·refine ⟨by rw [List.length_map]; omega, fun i acc M' => acc = (((Jo b bs).take i).map fun p => (p.x, p.y)).map prD ∧ M' = M, ⟨rfl, rfl⟩, ?_, ?_⟩
  ·rintro i d acc M' hd ⟨rfl, rfl⟩
   obtain ⟨p, ep, rfl⟩ := ZY hd
   walk_at "rk"
   rw [← take_snoc _ ep, List.map_append]
   rfl
  ·rintro acc M' ⟨rfl, rfl⟩
   rw [List.length_map, List.take_length]
   refine ⟨_, rfl, ?_, fun q hq lq => h2 q.1 q.2 (N2 hb hs.2.2 q hq lq)⟩
   rw [List.length_map]
   cases e : Jo b bs with
   | nil => rw [e] at z; exact absurd z (by decide)
   | cons x xs => exact Nat.succ_pos _
 ·have e : Jo b bs = [] := by
   cases e : Jo b bs with
   | nil => rfl
   | cons x xs => rw [e] at z; exact absurd rfl z
  have cv := OV hb hs.2.2 e
  have cn := Pw (dbl bs) b
  have dl : (dbl bs).length = bs.length + bs.length := by
   unfold dbl
   rw [List.length_append, List.length_map]
  have hs6 := hs.2.1
  subst_vars
  walk_at "rk"
  exact ⟨⟨⟨hs.2.1, hb, cv⟩, by omega⟩, h1 cv⟩
theorem Wv (T : Tx K mg) : ZC P w K mg base CX0 2 T.VL T.VN ["thing"] (lift K Ks) := by
 have G_is_whole : ZC P w K mg base CX0 1 T.JK T.JJ ["thing"] (lift K spW) := VP T
 refine okD T.JH.F Wm (fun xs M Φ h => by obtain ⟨_, rfl, _⟩ := Z6 h; rfl) fun cdv A outer s H E hr => ⟨_, (Zi (Zo (QK (Zj (V2 (kit_tuple _)) rfl T.ZV ZN (Za (Zb 0) (Za (Kr rfl T.Jd QG) Zd))) (QK (J4 (Jf hr) (Zj QD rfl T.JV Qs (Za (Zb 0) Zd)) Zc) (QK (Zh G_is_whole (hr.mono (by first | decide | omega)) rfl T.ZF.m T.ZF.F.kp T.ZF.b Zr (Za (Zg (Zb 0) Zc) Zd)) (JX (Zh G_is_whole (hr.mono (by first | decide | omega)) rfl T.ZF.m T.ZF.F.kp T.ZF.b Zr (Za (Zg (Zb 0) Zc) Zd)))))))), fun xs M Φ h => ?_⟩
 replace h := Z6 h
 obtain ⟨x1, rfl, h⟩ := h
 replace h := Qr h
 obtain ⟨a, b, rfl, h⟩ := h
 walk_at "rk"
 unfold ZW
 walk_at "rk"
 exact h
theorem Dx (T : Tx K mg) : ZC P w K mg base CX0 3 T.We T.KO ["spot", "d", "other"] (lift K Uz) := by
 have G_is_whole : ZC P w K mg base CX0 1 T.JK T.JJ ["thing"] (lift K spW) := VP T
 have G_is_any_spot : ZC P w K mg base CX0 2 T.VL T.VN ["thing"] (lift K Ks) := Wv T
 have G_steps : ZC P w K mg base CX0 1 T.Cc T.G4 ["one", "other"] (lift K Bi) := Oj T
 refine okD T.Y6.F Dq (fun xs M Φ h => by obtain ⟨_, _, _, rfl, _⟩ := Z1 h; rfl) fun cdv A outer s H E hr => ⟨_, (Zi (Zo (QK (Zh G_is_whole (hr.mono (by first | decide | omega)) rfl T.ZF.m T.ZF.F.kp T.ZF.b Zr (Za (Zb 1) Zd)) (QK (J4 NK (Zb 1) Zc) (QK (Zh G_is_any_spot (hr.mono (by first | decide | omega)) rfl T.JH.m T.JH.F.kp T.JH.b Zr (Za (Zb 2) Zd)) (JX (J4 (Jf hr) (Zh G_steps (hr.mono (by first | decide | omega)) rfl T.o_steps.m T.o_steps.F.kp T.o_steps.b Zr (Za (Zb 0) (Za (Zb 2) Zd))) (Zb 1)))))))), fun xs M Φ h => ?_⟩
 replace h := Z1 h
 obtain ⟨x1, x2, x3, rfl, h⟩ := h
 replace h := Qr h
 obtain ⟨u, v, rfl, h⟩ := h
 replace h := ZM h
 obtain ⟨n, rfl, h⟩ := h
 replace h := Qr h
 obtain ⟨a, b, rfl, h⟩ := h
 walk_at "rk"
 unfold ZW
 walk_at "rk"
 unfold awB at h
 refine Zm (fun z => ?_) fun z => ?_
 ·simpa [z] using h
 ·simpa [z] using h
theorem Ww (T : Tx K mg) : ZC P w K mg base CX0 4 T.VM T.Vu ["shape", "spot", "d"] (lift K UM) := by
 have G_steps_to : ZC P w K mg base CX0 3 T.Vs T.Vk ["box", "spot"] (lift K Zcj) := Yy T
 refine okD T.JE.F Wt (fun xs M Φ h => by obtain ⟨_, _, _, rfl, _⟩ := Z1 h; rfl) fun cdv A outer s H E hr => ⟨_, (Zi (Zo (Zj (Zb1 rfl) rfl T.Zd0 TZ (Za (QL false (ZL (sc := Zf Qg) (XN := ["shape", "spot", "d"]) (N := ["box", "d", "spot"]) (ix := [none, some 2, some 1]) rfl rfl (by decide +kernel)) (XR (Zb 0)) (fun C ex s H => (Zk 0 (show List.Nodup (["box", "d", "spot"] : List Str) by decide +kernel))) (fun C ex s H => Q4) (fun C ex s H => (J4 NK (Zh G_steps_to (hr.mono (by first | decide | omega)) rfl T.Qo.m T.Qo.F.kp T.Qo.b Zr (Za (Zb 0) (Za (Zb 2) Zd))) (Zb 1))) rfl) Zd)))), fun xs M Φ h => ?_⟩
 replace h := Z1 h
 obtain ⟨x1, x2, x3, rfl, h⟩ := h
 replace h := Qd h
 obtain ⟨bs, rfl, h⟩ := h
 replace h := Qr h
 obtain ⟨u, v, rfl, h⟩ := h
 replace h := ZM h
 obtain ⟨n, rfl, hl, h⟩ := h
 walk_at "rk"
 refine ⟨by rw [List.length_map]; omega, fun i acc M' => acc = ((bs.take i).map fun c => decide (n ≤ ZI c u v)).map PyData.bool ∧ M' = M, ⟨rfl, rfl⟩, ?_, ?_⟩
 ·rintro i d acc M' hd ⟨rfl, rfl⟩
  obtain ⟨b, eb, rfl⟩ := ZY hd
  walk_at "rk"
  rw [← take_snoc _ eb, List.map_append]
  rfl
 ·rintro acc M' ⟨rfl, rfl⟩
  refine ⟨_, rfl, ?_⟩
  rw [List.length_map, List.take_length, List.all_map]
  exact h
theorem OD (T : Tx K mg) : ZC P w K mg base CX0 33 T.B1 T.B9 ["shape", "spot"] (lift K G7) := by
 have G_depth : ZC P w K mg base CX0 7 T.BD T.G6 ["shape", "spot"] (lift K BR) := Ou T
 have G_nearest : ZC P w K mg base CX0 7 T.KS T.Ki ["shape", "spot"] (lift K KL) := Es T
 have G_covered : ZC P w K mg base CX0 32 T.Ku T.KU ["shape", "box"] (lift K KJ) := Ex T
 have G_square : ZC P w K mg base CX0 1 T.YV T.YK ["spot", "r"] (lift K Y4) := Kp T
 refine okD T.WW.F WV (fun xs M Φ h => by obtain ⟨_, _, rfl, _⟩ := Zy h; rfl) fun cdv A outer s H E hr => ⟨_, (Ze (Zn 2 WV.nd (Zh G_depth (hr.mono (by first | decide | omega)) rfl T.UG.m T.UG.F.kp T.UG.b Zr (Za (Zb 0) (Za (Zb 1) Zd))))
 (Ze (Zn 3 WV.nd (Zh G_nearest (hr.mono (by first | decide | omega)) rfl T.YW.m T.YW.F.kp T.YW.b Zr (Za (Zb 0) (Za (Zb 1) Zd))))
 (Ze (Ql (ZE Xo (Zb 2) Zc) (Zi (Zo (Zq (Za Q9 (Za (Gs (Zb 2)) (Za (Zb 3) Zd)))))) ZD)
 (Zi (Zo (Zq (Za Q9 (Za (Zb 2) (Za (Zb 3) (Za (Zg (Zh G_covered (hr.mono (by first | decide | omega)) rfl T.Y8.m T.Y8.F.kp T.Y8.b Zr (Za (Zb 0) (Za (Zh G_square (hr.mono (by first | decide | omega)) rfl T.Jj.m T.Jj.F.kp T.Jj.b Zr (Za (Zb 1) (Za (Zl ZG (Zb 2) Zc) Zd))) Zd))) Zc) Zd)))))))))), fun xs M Φ h => ?_⟩
 replace h := Zy h
 obtain ⟨x1, x2, rfl, h⟩ := h
 replace h := Qd h
 obtain ⟨bs, rfl, h⟩ := h
 replace h := Qr h
 obtain ⟨u, v, rfl, hs, h⟩ := h
 walk_at "hd"
 walk_at "rk"
 refine ⟨hs, fun d hd => ?_⟩
 walk_at "hd"
 walk_at "rk"
 refine ⟨hs, fun a b hab => ?_⟩
 have ln := hab d hd
 walk_at "hd"
 walk_at "rk"
 refine Zm (fun z => ?_) fun z => ?_
 ·have uv : anyB bs u v = false := by rw [hd.sg]; exact decide_eq_false (by omega)
  refine h (.out (-d) a b) trivial ⟨by rw [Int.neg_neg]; exact hd, ⟨?_, ?_⟩, uv⟩
  ·have := ln.o
   rw [uv] at this
   exact Bool.of_not_eq_false this
  ·have := ln.c
   have := Q6 d
   omega
 ·have hp : 0 < d := by have := hd.ne; omega
  have uv : anyB bs u v = true := by rw [hd.sg]; exact decide_eq_true hp
  have cv := HJ hd hp
  subst_vars
  walk_at "rk"
  refine ⟨⟨hs, ?_⟩, fun _ c hc dc => ?_, fun x y hl => absurd cv hl.not⟩
  ·rw [ZP]
   unfold QM
   dsimp only
   omega
  ·walk_at "rk"
   refine h (.inn d a b c) dc ⟨hd, ⟨?_, ?_⟩, uv, hc⟩
   ·have := ln.o
    rw [uv] at this
    exact Bool.eq_false_iff.mpr this
   ·have := ln.c
    have := Q6 d
    omega
theorem Wl (T : Tx K mg) : ZC P w K mg base CX0 32 T.VJ T.Vt ["shape", "spot", "thing"] (lift K Bc) := by
 have G_is_away : ZC P w K mg base CX0 3 T.We T.KO ["spot", "d", "other"] (lift K Uz) := Dx T
 have G_holds_cover : ZC P w K mg base CX0 31 T.Q2 T.Q5 ["shape", "box", "thing"] (lift K (XC 26)) := Wn T 26
 have G_lies_in : ZC P w K mg base CX0 5 T.V7 T.V6 ["shape", "spot"] (lift K GD) := XA T
 have G_none_nearer : ZC P w K mg base CX0 4 T.VM T.Vu ["shape", "spot", "d"] (lift K UM) := Ww T
 have G_square : ZC P w K mg base CX0 1 T.YV T.YK ["spot", "r"] (lift K Y4) := Kp T
 refine okD T.ZT.F Wq (fun xs M Φ h => by obtain ⟨_, _, _, rfl, _⟩ := Z1 h; rfl) fun cdv A outer s H E hr => ⟨_, (Ze (Ql (DW.dt (Ya (Jn (QO (Zj (V2 (kit_tuple _)) rfl T.ZV ZN (Za (Zb 2) (Za (Kr rfl T.Jd QG) Zd))))) (Ya (ZE Xo (Zj QD rfl T.JV Qs (Za (Zb 2) Zd)) Zc) (Yv (Jn (QO (Zh G_is_away (hr.mono (by first | decide | omega)) rfl T.Y6.m T.Y6.F.kp T.Y6.b Zr (Za (Zb 1) (Za (Zg (Zb 2) Zc) (Za (Zg (Zb 2) Zc) Zd)))))))))) (Zi (Zo Js)) ZD)
 (Ze (Ql (DW.dt (XG (ZE (Jf hr) (Zj QD rfl T.JV Qs (Za (Zb 2) Zd)) Zc) (YH (ZE (Jf hr) (Zg (Zb 2) Zc) Q9)))) (Zi (Zo (QK (CU (Zh G_lies_in (hr.mono (by first | decide | omega)) rfl T.Qa.m T.Qa.F.kp T.Qa.b Zr (Za (Zb 0) (Za (Zg (Zb 2) Zc) Zd)))) (JX (Zh G_holds_cover (hr.mono (by first | decide | omega)) rfl T.ZR.m T.ZR.F.kp T.ZR.b Zr (Za (Zb 0) (Za (Zh G_square (hr.mono (by first | decide | omega)) rfl T.Jj.m T.Jj.F.kp T.Jj.b Zr (Za (Zb 1) (Za (Zl ZG (Zg (Zb 2) Zc) Zc) Zd))) (Za (Zg (Zb 2) Zc) Zd)))))))) ZD)
 (Ze (Ql (DW.dt (XG (ZE (Jf hr) (Zj QD rfl T.JV Qs (Za (Zb 2) Zd)) Zc) (YH (ZE (Jf hr) (Zg (Zb 2) Zc) Q9)))) (Zi (Zo (QK (Zh G_lies_in (hr.mono (by first | decide | omega)) rfl T.Qa.m T.Qa.F.kp T.Qa.b Zr (Za (Zb 0) (Za (Zg (Zb 2) Zc) Zd))) (JX (Zh G_none_nearer (hr.mono (by first | decide | omega)) rfl T.JE.m T.JE.F.kp T.JE.b Zr (Za (Zb 0) (Za (Zb 1) (Za (Zg (Zb 2) Zc) Zd)))))))) ZD)
 (Zi (Zo Js))))), fun xs M Φ h => ?_⟩
 replace h := Z1 h
 obtain ⟨x1, x2, x3, rfl, h⟩ := h
 replace h := Qd h
 obtain ⟨bs, rfl, h⟩ := h
 replace h := Qr h
 obtain ⟨u, v, rfl, p, rfl, hp, hs, h⟩ := h
 cases p with
 | inn n a b c =>
  unfold ppD
  walk_at "hd"
  walk_at "rk"
  cases qa : awB u v n a b with
  | false =>
   rw [if_pos (by decide)]
   refine h false ⟨fun z => (by cases z), fun ⟨h1, ⟨h2, h3⟩, h4, _⟩ => ?_⟩
   have := h1.pos h4
   unfold awB at qa
   rw [decide_eq_true h3, decide_eq_true (by omega)] at qa
   cases qa
  | true =>
   rw [if_neg (by decide)]
   have aw : 1 ≤ n ∧ Qn u v a b = n := by
    unfold awB at qa
    simpa using qa
   walk_at "hd"
   walk_at "rk"
   refine ⟨hs.2.1, ?_⟩
   cases qo : anyB bs a b with
   | true =>
    walk_at "rk"
    exact h false ⟨fun z => (by cases z), fun ⟨_, ⟨h2, _⟩, _⟩ => by rw [qo] at h2; cases h2⟩
   | false =>
    walk_at "rk"
    refine ⟨C7 (Nat.le_succ_of_le hp), ?_⟩
    rw [Kb (Nat.le_succ_of_le hp)]
    refine h _ ⟨fun z => ?_, fun ⟨_, _, _, z⟩ => z⟩
    have k := Ss aw.1 (VB z) qo aw.2
    exact ⟨k.1, ⟨qo, aw.2⟩, k.2, z⟩
 | out n a b =>
  unfold ppD
  walk_at "hd"
  walk_at "rk"
  cases qa : awB u v n a b with
  | false =>
   rw [if_pos (by decide)]
   refine h false ⟨fun z => (by cases z), fun ⟨h1, ⟨h2, h3⟩, h4⟩ => ?_⟩
   have := h1.neg h4
   unfold awB at qa
   rw [decide_eq_true h3, decide_eq_true (by omega)] at qa
   cases qa
  | true =>
   rw [if_neg (by decide)]
   have aw : 1 ≤ n ∧ Qn u v a b = n := by
    unfold awB at qa
    simpa using qa
   walk_at "hd"
   walk_at "rk"
   walk_at "hd"
   walk_at "rk"
   refine ⟨hs.2.1, ?_⟩
   cases qo : anyB bs a b with
   | false =>
    walk_at "rk"
    exact h false ⟨fun z => (by cases z), fun ⟨_, ⟨h2, _⟩, _⟩ => by rw [qo] at h2; cases h2⟩
   | true =>
    walk_at "rk"
    refine ⟨hs.2.1, h _ ⟨fun z => ?_, fun ⟨h1, _, h4⟩ => ?_⟩⟩
    ·have z : ∀ c ∈ bs, n ≤ ZI c u v := fun c mc => of_decide_eq_true (List.all_eq_true.mp z c mc)
     have k := R8 aw.1 z qo aw.2
     exact ⟨k.1, ⟨qo, aw.2⟩, k.2⟩
    ·exact List.all_eq_true.mpr fun c mc => decide_eq_true (Ri hs.2.2 h1 h4 c mc)
theorem ZbC (T : Tx K mg) : ZC P w K mg base CX0 1 T.Rl T.RV ["_law_script", "_law_k"] (lift K Lr) := by
 refine okD T.MI.F E4 (fun xs M Φ h => by obtain ⟨_, _, rfl, _⟩ := Zy h; rfl) fun cdv A outer s H E hr => ⟨_, (Ze (Zn 2 E4.nd Zc)
 (Ze (Ql (ZE Mi (Zj QD rfl T.JV Qs (Za (Zb 0) Zd)) Zc) (Zi (Zn 2 E4.nd (Zg (Zb 0) (Zl YY (Zb 1) (Zj QD rfl T.JV Qs (Za (Zb 0) Zd)))))) ZD)
 (Ze (Ql (DW.dt (XG (ZE Xo (Zb 1) (Zj QD rfl T.JV Qs (Za (Zb 0) Zd))) (YH (ZE NK (Zj WH rfl T.Dv WR (Za (Zb 2) Zd)) (Zl K8 Zc Zc))))) (Zi (Zo (Qz (Za (Zj WH rfl T.Dv WR (Za (Zb 2) Zd)) (Za Zc (Za Zc Zd)))))) ZD)
 (Zi (Zo (Qz (Za Zc (Za (Zl YY (Zl ZA (Zl ZA (Zl YY (Zb 2) Zc) (Zl JA Zc (Zb 1))) Zc) Zc) (Za Zc Zd))))))))), fun xs M Φ h => ?_⟩
 replace h := Zy h
 obtain ⟨x1, x2, rfl, h⟩ := h
 replace h := Td h
 obtain ⟨ns, rfl, h⟩ := h
 replace h := ZM h
 obtain ⟨k, rfl, h0, h⟩ := h
 have fin : ∀ c : Int, (0 : Int) < 2147483587 ∧ T1 40709 k ∧ (0 : Int) < 2147483587 ∧ ∀ p, M p = none → Φ (.own p) (Z3 M p (.lst [.int 0, .int ((c % 2147483587 + 40709 * k + 31) % 2147483587), .int 0])) :=
  fun c => ⟨by decide, .inl (by decide), by decide, fun p hp => h p _ hp ⟨0, _, 0, Int.le_refl 0, Ec _ (by decide), Int.le_refl 0, rfl⟩⟩
 walk_at "hd"
 walk_at "rk"
 walk_at "hd"
 walk_at "rk"
 rw [List.length_map]
 refine Zm (fun hl => ?_) (fun hl => ?_)
 ·have hm := Ec k hl
  obtain ⟨c, hc⟩ := RR (ns := ns) hm.1 hm.2
  refine ⟨hl, JZ hc ?_⟩
  walk_at "hd"
  walk_at "rk"
  rw [List.length_map]
  refine Zm (fun h2 => ⟨R6 _ (by decide), Zm (fun h3 => fun p hp => h p _ hp ⟨_, 0, 0, ?_, ⟨by decide, by decide⟩, Int.le_refl 0, rfl⟩) fun h3 => ?_⟩) fun h2 => ?_
  ·split <;> omega
  ·subst_vars
   walk_at "rk"
   exact ⟨(fin c).2.1, (fin c).2.2.2⟩
  ·subst_vars
   walk_at "rk"
   exact ⟨(fin c).2.1, (fin c).2.2.2⟩
 ·walk_at "hd"
  walk_at "rk"
  rw [List.length_map]
  refine Zm (fun h2 => absurd h2 (by omega)) fun h2 => ?_
  subst_vars
  walk_at "rk"
  exact ⟨(fin 5).2.1, (fin 5).2.2.2⟩
theorem YD (T : Tx K mg) : ZC P w K mg base CX0 1 T.YJ T.YU ["_law_pen_here", "_law_many"] (lift K Y2) := by
 refine okD T.Zp.F KD (fun xs M Φ h => by obtain ⟨_, _, rfl, _⟩ := Zy h; rfl) fun cdv A outer s H E hr => ⟨_, (Ze (Ql (ZE Mi (Zg (Zb 0) Zc) Zc) (Ze (Zn 3 KD.nd (Zl YY (Zg (Zb 0) Zc) (Zb 1)))
 (Ze (J2 (Zl CT (Zg (Zb 0) Zc) (Zb 1)) (LO (Zb 0) Zc))
 (Zi (Zo (Zb 3))))) ZD)
 (Ze (J2 (Zl ZA (Zg (Zb 0) Zc) Zc) (LO (Zb 0) Zc))
 (Ze (Zn 2 KD.nd (Zl YY (Zl ZA (Zl ZA (Zl JA (Zg (Zb 0) Zc) Zc) (Zl JA (Zg (Zb 0) Zc) Zc)) Zc) Zc))
 (Ze (Zn 2 KD.nd (Zl YY (Zl ZA (Zl JA (Zb 2) (Zb 2)) (Zg (Zb 0) Zc)) Zc))
 (Ze (Zn 2 KD.nd (Zl YY (Zl JA (Zb 2) (Zl ZA (Zl YY (Zb 2) Zc) Zc)) Zc))
 (Zi (Zo (Zl YY (Zl E9 (Zb 2) Zc) (Zb 1))))))))), fun xs M Φ h => ?_⟩
 replace h := Zy h
 obtain ⟨x1, x2, rfl, h⟩ := h
 replace h := Q7 h
 obtain ⟨p, rfl, h⟩ := h
 replace h := ZM h
 obtain ⟨m, rfl, ⟨h0, h1⟩, hp, h⟩ := h
 obtain ⟨a, b, c, ⟨ha, hb, hc⟩, hp⟩ := hp.get
 have lg : m.natAbs.log2 < 9000 := Nat.lt_of_lt_of_le (Uk (k := 70) (by omega) (by decide)) (by decide)
 walk_at "hd"
 walk_at "rk"
 simp only [hp]
 walk_at "rk"
 refine Zm (fun h2 => ?_) fun h2 => ?_
 ·exact ⟨h0, ⟨h0, lg⟩, h _ _ (Ec a h0).1 (Ec a h0).2 (Fr.Z3 ⟨a / m, b, c, Int.ediv_nonneg ha (by omega), hb, hc, rfl⟩)⟩
 ·walk_at "hd"
  walk_at "rk"
  simp only [hp]
  walk_at "rk"
  walk_at "hd"
  walk_at "rk"
  refine ⟨.inr (by decide), .inr (by decide), ?_⟩
  walk_at "hd"
  walk_at "rk"
  refine ⟨.inl (by omega), ?_⟩
  walk_at "hd"
  walk_at "rk"
  refine ⟨.inl (by omega), ?_⟩
  subst_vars
  walk_at "rk"
  refine ⟨⟨by decide, by decide⟩, h0, ?_⟩
  exact h _ _ (Ec _ h0).1 (Ec _ h0).2 (Fr.Z3 ⟨a, b, c + 1, ha, hb, by omega, rfl⟩)
theorem RD (T : Tx K mg) : ZC P w K mg base CX0 2 T.LR T.Ln ["_law_pen_here"] (lift K Gi) := by
 have G_draw : ZC P w K mg base CX0 1 T.YJ T.YU ["_law_pen_here", "_law_many"] (lift K Y2) := YD T
 refine okD T.CG.F KQ (fun xs M Φ h => by obtain ⟨_, rfl, _⟩ := Z6 h; rfl) fun cdv A outer s H E hr => ⟨_, (Ze (Zn 1 KQ.nd (QZ (Za (Zh G_draw (hr.mono (by first | decide | omega)) rfl T.Zp.m T.Zp.F.kp T.Zp.b Zr (Za (Zb 0) (Za Zc Zd))) (Za (Zh G_draw (hr.mono (by first | decide | omega)) rfl T.Zp.m T.Zp.F.kp T.Zp.b Zr (Za (Zb 0) (Za Zc Zd))) Zd))))
 (Ze (L3 2 false KQ.nd (ZL (sc := Zf Kt) (XN := ["_law_pen_here", "_law_low", "_law_high", "_law_thick", "_law_found"]) (N := ["_law_one", "_law_pen_here"]) (ix := [none, some 0]) rfl rfl (by decide +kernel)) (Vf (Zb 1)) (fun C ex s H => (Zk 0 (show List.Nodup (["_law_one", "_law_pen_here"] : List Str) by decide +kernel))) (fun C ex s H => Q4) (fun C ex s H => (Zl ZA (Zl ZA (Zb 0) Zc) (Zh G_draw (hr.mono (by first | decide | omega)) rfl T.Zp.m T.Zp.F.kp T.Zp.b Zr (Za (Zb 1) (Za Zc Zd))))) rfl)
 (Ze (Zn 3 KQ.nd (Zh G_draw (hr.mono (by first | decide | omega)) rfl T.Zp.m T.Zp.F.kp T.Zp.b Zr (Za (Zb 0) (Za Zc Zd))))
 (Ze (Zn 4 KQ.nd (Qz (Za (Zq (Za (Zq (Za (Zg (Zb 1) Zc) (Za (Zg (Zb 1) Zc) Zd))) (Za (Zq (Za (Zg (Zb 2) Zc) (Za (Zl ZA (Zg (Zb 1) Zc) (Zb 3)) Zd))) Zd))) (Za (Zq (Za (Zq (Za (Zl ZG (Zg (Zb 2) Zc) (Zb 3)) (Za (Zg (Zb 1) Zc) Zd))) (Za (Zq (Za (Zg (Zb 2) Zc) (Za (Zg (Zb 2) Zc) Zd))) Zd))) Zd))))
 (Ze (Jb (QN (Zb 4) (Zq (Za (Zq (Za (Zg (Zb 1) Zc) (Za (Zl ZG (Zg (Zb 2) Zc) (Zb 3)) Zd))) (Za (Zq (Za (Zg (Zb 2) Zc) (Za (Zg (Zb 2) Zc) Zd))) Zd)))))
 (Zi (Zo (Zl EZ (Zb 4) (QZ (Za (Zq (Za (Zq (Za (Zg (Zb 1) Zc) (Za (Zg (Zb 1) Zc) Zd))) (Za (Zq (Za (Zl ZA (Zg (Zb 1) Zc) (Zb 3)) (Za (Zg (Zb 2) Zc) Zd))) Zd))) Zd)))))))))), fun xs M Φ h => ?_⟩
 replace h := Z6 h
 obtain ⟨x1, rfl, h⟩ := h
 replace h := Q7 h
 obtain ⟨p, rfl, hp, h⟩ := h
 walk_at "hd"
 walk_at "rk"
 refine ⟨hp, fun r1 M1 a1 b1 f1 => ⟨f1.1, fun r2 M2 a2 b2 f2 => ?_⟩⟩
 walk_at "hd"
 walk_at "rk"
 refine ⟨f2.1, fun s1 M3 c1 d1 f3 => ⟨f3.1, fun s2 M4 c2 d2 f4 => ?_⟩⟩
 walk_at "hd"
 walk_at "rk"
 refine ⟨f4.1, fun th M5 t0 t1 f5 => ?_⟩
 walk_at "hd"
 walk_at "rk"
 intro q hq
 walk_at "hd"
 walk_at "rk"
 subst_vars
 walk_at "rk"
 refine h [⟨r1, r2, r1 + 3 + s1, r2 + th⟩, ⟨r1 + 3 + s1 - th, r2, r1 + 3 + s1, r2 + 3 + s2⟩, ⟨r1, r2 + 3 + s2 - th, r1 + 3 + s1, r2 + 3 + s2⟩, ⟨r1, r2, r1 + th, r2 + 3 + s2⟩] _ ⟨by simp, by simp, Zen fun b hb => ?_⟩ (f5.1.put (f5.1.ne hq))
 simp only [List.mem_cons, List.not_mem_nil, or_false] at hb
 rcases hb with rfl | rfl | rfl | rfl
 all_goals (dsimp only; omega)
theorem ZaH (T : Tx K mg) : ZC P w K mg base CX0 2 T.R7 T.R5 ["_law_pen_here", "_law_box_here"] (lift K Rk) := by
 have G_draw : ZC P w K mg base CX0 1 T.YJ T.YU ["_law_pen_here", "_law_many"] (lift K Y2) := YD T
 refine okD T.Bh.F WL (fun xs M Φ h => by obtain ⟨_, _, rfl, _⟩ := Zy h; rfl) fun cdv A outer s H E hr => ⟨_, (Ze (Zn 2 WL.nd (Qz Zd))
 (Ze (Zn 3 WL.nd (Qz Zd))
 (Ze (Jl rfl T.QV (Za Zc Zd) (Zk 4 WL.nd) (Ze (Zn 5 WL.nd (Zj (JY rfl) rfl T.YE JW (Za Zc (Za (Zl ZG (Zg (Zg (Zb 1) Zc) (Zb 4)) Zc) Zd))))
 (Ze (Zn 6 WL.nd (Zl ZA (Zb 5) (Zh G_draw (hr.mono (by first | decide | omega)) rfl T.Zp.m T.Zp.F.kp T.Zp.b Zr (Za (Zb 0) (Za (Zl ZA (Zl ZG (Zj (VD rfl) rfl T.Yt Jv (Za Zc (Za (Zl ZA (Zg (Zg (Zb 1) Zc) (Zb 4)) Zc) Zd))) (Zb 5)) Zc) Zd)))))
 (Ze (Jb (QN (Zb 2) (Zj (JY rfl) rfl T.YE JW (Za Zc (Za (Zl ZG (Zb 6) (Zg (QZ (Za Zc (Za Zc (Za Zc (Za Zc (Za Zc Zd)))))) (Zh G_draw (hr.mono (by first | decide | omega)) rfl T.Zp.m T.Zp.F.kp T.Zp.b Zr (Za (Zb 0) (Za Zc Zd))))) Zd)))))
 (Zi (Jb (QN (Zb 3) (Zj (VD rfl) rfl T.Yt Jv (Za Zc (Za (Zl ZA (Zb 6) (Zg (QZ (Za Zc (Za Zc (Za Zc (Za Zc (Za Zc Zd)))))) (Zh G_draw (hr.mono (by first | decide | omega)) rfl T.Zp.m T.Zp.F.kp T.Zp.b Zr (Za (Zb 0) (Za Zc Zd))))) Zd))))))))) PassesOwn.never rfl)
 (Zi (Zo (Zq (Za (Qw Jh rfl T.Jd QG (Za (Zb 2) Zd)) (Za (Qw Jh rfl T.Jd QG (Za (Zb 3) Zd)) Zd)))))))), fun xs M Φ h => ?_⟩
 replace h := Zy h
 obtain ⟨x1, x2, rfl, h⟩ := h
 replace h := Q7 h
 obtain ⟨p, rfl, h⟩ := h
 replace h := Z0 h
 obtain ⟨b, rfl, hb, hp, h⟩ := h
 have ok := ZP.mp hb.1
 have hb2 := hb.2
 walk_at "hd"
 walk_at "rk"
 intro q1 hq1
 walk_at "hd"
 walk_at "rk"
 intro q2 hq2
 have n1 : q1 ≠ p := Ne.symm (hp.ne hq1)
 have n12 : q2 ≠ q1 := fresh_ne hq2
 have hq2' : M q2 = none := (Qh n12).symm.trans hq2
 have n2 : q2 ≠ p := Ne.symm (hp.ne hq2')
 walk_at "hd"
 walk_at "rk"
 refine ⟨⟨by decide, by decide⟩, fun j Δ M2 => ∃ (k4 k5 k6 : Option DV) (bs es : List Int), Δ = [some (.own p), some (.dat (bD b)), some (.own q1), some (.own q2), k4, k5, k6] ∧ bs.length = j ∧ es.length = j ∧
  (∀ (i : Nat) (a b : Int), bs[i]? = some a → es[i]? = some b → 0 ≤ a ∧ a ≤ b ∧ b ≤ 11) ∧ M2 q1 = some (.lst (bs.map PyData.int)) ∧ M2 q2 = some (.lst (es.map PyData.int)) ∧ Fr p M M2,
  ⟨none, none, none, [], [], rfl, rfl, rfl, fun i a b ha => (nomatch ha), by rw [Qh (Ne.symm n12), ZH]; rfl, ZH, Fr.new (Fr.new (Fr.refl hp) hq1 n1) hq2' n2⟩, ?_, ?_⟩
 ·rintro j Δ M2 hj ⟨k4, k5, k6, bs, es, rfl, l1, l2, hbs, h1, h2, hF⟩
  obtain ⟨lo, hi, hlo, e1, e2⟩ := Zfm (x := b.x) (y := b.y) (X := b.X) (Y := b.Y) hj
  have hlo' : 0 ≤ lo ∧ lo ≤ hi ∧ hi ≤ 11 := by
   rcases hlo with ⟨rfl, rfl⟩ | ⟨rfl, rfl⟩ <;> omega
  walk_at "hd"
  walk_at "rk"
  simp only [e1]
  walk_at "rk"
  walk_at "hd"
  walk_at "rk"
  simp only [e2]
  walk_at "rk"
  refine ⟨by omega, hF.1, fun r M3 r0 r1 f3 => ?_⟩
  have g1 := f3.own h1 n1
  have g2 := f3.own h2 n2
  walk_at "hd"
  walk_at "rk"
  simp only [g1]
  walk_at "rk"
  refine ⟨f3.1, fun r2 M4 a2 b2 f4 => tab (l := [0, 0, 1, 2, 5]) (fun w => 0 ≤ w) a2 (by simp only [List.length_cons, List.length_nil]; omega) (by decide) fun w1 c1 => ?_⟩
  have g3 := f4.own g1 n1
  have g4 := f4.own g2 n2
  walk_at "rk"
  simp only [g3]
  walk_at "rk"
  refine ⟨by rw [List.length_map]; omega, ?_⟩
  subst_vars
  walk_at "rk"
  simp only [Qh n12, g4]
  walk_at "rk"
  refine ⟨f4.1.put (Ne.symm n1), fun r3 M5 a3 b3 f5 => tab (l := [0, 1, 2, 3, 6]) (fun w => 0 ≤ w) a3 (by simp only [List.length_cons, List.length_nil]; omega) (by decide) fun w2 c2 => ?_⟩
  have g5 := f5.own ZH n1
  have g6 := f5.own ((Qh n12).trans g4) n2
  walk_at "rk"
  simp only [g6]
  walk_at "rk"
  refine ⟨by rw [List.length_map]; omega, _, _, _, bs ++ [max 0 ((max 0 (lo - 1) + r) - w1)], es ++ [min 11 ((max 0 (lo - 1) + r) + w2)], rfl, by rw [List.length_append]; rfl, by rw [List.length_append, l2]; rfl, ?_, ?_, ?_, ?_⟩
  ·exact Nz (R := fun a b => 0 ≤ a ∧ a ≤ b ∧ b ≤ 11) l2.symm hbs (by omega)
  ·rw [Qh (Ne.symm n12), g5, List.map_append]
   rfl
  ·rw [List.map_append]
   rfl
  ·exact Fr.new ((Fr.new ((hF.trans f3).trans f4) hq1 n1).trans f5) hq2' n2
 ·rintro Δ M2 ⟨k4, k5, k6, bs, es, rfl, l1, l2, hbs, h1, h2, hF⟩
  subst_vars
  walk_at "rk"
  obtain ⟨a, b, rfl⟩ := UC l1
  obtain ⟨c, d, rfl⟩ := UC l2
  have k0 := hbs 0 a c rfl rfl
  have k1 := hbs 1 b d rfl rfl
  simp only [h1, h2]
  walk_at "rk"
  exact h ⟨a, b, c, d⟩ M2 ⟨ZP.mpr (by dsimp only; omega), by dsimp only; omega⟩ hF
theorem MG (T : Tx K mg) : ZC P w K mg base CX0 3 T.Ci T.B2 ["_law_pen_here"] (lift K Gi) := by
 have G_draw : ZC P w K mg base CX0 1 T.YJ T.YU ["_law_pen_here", "_law_many"] (lift K Y2) := YD T
 have G_hole : ZC P w K mg base CX0 2 T.LR T.Ln ["_law_pen_here"] (lift K Gi) := RD T
 have G_box : ZC P w K mg base CX0 2 T.R7 T.R5 ["_law_pen_here", "_law_box_here"] (lift K Rk) := ZaH T
 refine okD T.Uq.F Yf (fun xs M Φ h => by obtain ⟨_, rfl, _⟩ := Z6 h; rfl) fun cdv A outer s H E hr => ⟨_, (Ze (Zn 1 Yf.nd (Zh G_draw (hr.mono (by first | decide | omega)) rfl T.Zp.m T.Zp.F.kp T.Zp.b Zr (Za (Zb 0) (Za Zc Zd))))
 (Ze (Ql (ZE (Jf hr) (Zb 1) Zc) (Zi (Zo (Zh G_hole (hr.mono (by first | decide | omega)) rfl T.CG.m T.CG.F.kp T.CG.b Zr (Za (Zb 0) Zd)))) ZD)
 (Ze (Zn 2 Yf.nd (Qz (Za (Zh G_box (hr.mono (by first | decide | omega)) rfl T.Bh.m T.Bh.F.kp T.Bh.b Zr (Za (Zb 0) (Za (Zq (Za (Zq (Za Zc (Za Zc Zd))) (Za (Zq (Za Zc (Za Zc Zd))) Zd))) Zd))) Zd)))
 (Ze (Ql (ZE (Jf hr) (Zb 1) Zc) (Ze (J2 (Zg (Zb 2) Zc) (Jy (n := 2) rfl (Zw (Zk 4 Yf.nd) (Zw (Zk 5 Yf.nd) QA))))
 (Zi (Zo (Zl EZ (Zb 2) (QZ (Za (Zq (Za (Zq (Za (Zj (VD rfl) rfl T.Yt Jv (Za Zc (Za (Zl ZA (Zg (Zb 5) Zc) Zc) Zd))) (Za (Zg (Zb 4) Zc) Zd))) (Za (Zq (Za (Zj (VD rfl) rfl T.Yt Jv (Za Zc (Za (Zl ZA (Zl ZA (Zg (Zb 5) Zc) Zc) (Zh G_draw (hr.mono (by first | decide | omega)) rfl T.Zp.m T.Zp.F.kp T.Zp.b Zr (Za (Zb 0) (Za Zc Zd)))) Zd))) (Za (Zg (Zb 5) Zc) Zd))) Zd))) Zd)))))) ZD)
 (Ze (Jl rfl T.QV (Za (Zg (QZ (Za Zc (Za Zc (Za Zc (Za Zc (Za Zc (Za Zc Zd))))))) (Zh G_draw (hr.mono (by first | decide | omega)) rfl T.Zp.m T.Zp.F.kp T.Zp.b Zr (Za (Zb 0) (Za Zc Zd)))) Zd) (Zk 3 Yf.nd) (Zi (Jb (QN (Zb 2) (Zh G_box (hr.mono (by first | decide | omega)) rfl T.Bh.m T.Bh.F.kp T.Bh.b Zr (Za (Zb 0) (Za (Zg (Zb 2) (Gs Zc)) Zd)))))) PassesOwn.never rfl)
 (Zi (Zo (CP (Zb 2))))))))), fun xs M Φ h => ?_⟩
 replace h := Z6 h
 obtain ⟨x1, rfl, h⟩ := h
 replace h := Q7 h
 obtain ⟨p, rfl, hp, h⟩ := h
 walk_at "hd"
 walk_at "rk"
 refine ⟨hp, fun r1 M1 a1 b1 f1 => ?_⟩
 walk_at "hd"
 walk_at "rk"
 refine Zm (fun h0 => ⟨f1.1, h⟩) fun h0 => ?_
 walk_at "hd"
 walk_at "rk"
 refine ⟨⟨rfl, by decide, by decide⟩, f1.1, fun b M2 hb f2 q hq => ?_⟩
 have n1 : p ≠ q := f2.1.ne hq
 walk_at "hd"
 walk_at "rk"
 have ok := ZP.mp hb.1
 have hb2 := hb.2
 refine Zm (fun h1 => ?_) fun h1 => ?_
 ·refine ⟨f2.1.put n1, fun r2 M3 a2 b2 f3 => ?_⟩
  simp only [f3.own ZH (Ne.symm n1)]
  walk_at "rk"
  refine h [b, ⟨min 11 (b.X + 1), b.y, min 11 (b.X + 1 + r2), b.Y⟩] M3 ⟨by simp, by simp, Zen fun c hc => ?_⟩ f3.1
  simp only [List.mem_cons, List.not_mem_nil, or_false] at hc
  rcases hc with rfl | rfl
  ·exact ⟨ok.1, ok.2, hb2⟩
  ·dsimp only
   omega
 ·walk_at "hd"
  walk_at "rk"
  refine ⟨f2.1.put n1, fun r2 M3 a2 b2 f3 => tab (l := [0, 1, 1, 2, 2, 5]) (fun w => 0 ≤ w ∧ w ≤ 5) a2 (by simp only [List.length_cons, List.length_nil]; omega) (by decide) fun m hm => ?_⟩
  walk_at "rk"
  refine ⟨⟨by omega, by omega⟩, fun i Δ M' => ∃ (cs : List B4) (b : B4) (k3 k4 k5 : Option DV), Δ = [some (.own p), some (.dat (.int r1)), some (.own q), k3, k4, k5] ∧ cs.length = i ∧ (∀ c ∈ cs ++ [b], Cel c) ∧ M' q = some (.lst (cs.map bD ++ [bD b])) ∧ Pen M' p,
    ⟨[], b, _, _, _, rfl, rfl, fun c hc => by rw [List.mem_singleton.mp hc]; exact hb, f3.own ZH (Ne.symm n1), f3.1⟩, ?_, ?_⟩
  ·rintro i Δ M' hi ⟨cs, b, k3, k4, k5, rfl, hl, hcs, hq', hP⟩
   walk_at "rk"
   simp only [hq']
   walk_at "rk"
   refine ⟨hcs b (List.mem_append_right _ (List.mem_singleton.mpr rfl)), hP, fun c' M4 hc' f4 => ?_⟩
   simp only [f4.own hq' (Ne.symm n1)]
   walk_at "rk"
   refine ⟨by rw [List.length_append, List.length_map, List.length_singleton]; omega, cs ++ [b], c', _, _, _, rfl, by rw [List.length_append, hl]; rfl, fun z hz => ?_, by rw [List.map_append]; rfl, f4.1.put n1⟩
   rcases List.mem_append.mp hz with hz | hz
   ·exact hcs z hz
   ·rw [List.mem_singleton.mp hz]
    exact hc'
  ·rintro Δ M' ⟨cs, b, k3, k4, k5, rfl, hl, hcs, hq', hP⟩
   subst_vars
   walk_at "rk"
   simp only [hq']
   walk_at "rk"
   rw [show cs.map bD ++ [bD b] = (cs ++ [b]).map bD by rw [List.map_append]; rfl]
   exact h _ _ ⟨by rw [List.length_append, List.length_singleton]; omega, by rw [List.length_append, List.length_singleton]; omega, hcs⟩ (hP.del n1)
theorem Dn (T : Tx K mg) : ZC P w K mg base CX0 2 T.KY T.Kn ["_law_pen_here"] (lift K W8) := by
 have G_draw : ZC P w K mg base CX0 1 T.YJ T.YU ["_law_pen_here", "_law_many"] (lift K Y2) := YD T
 refine okD T.YO.F JL (fun xs M Φ h => by obtain ⟨_, rfl, _⟩ := Z6 h; rfl) fun cdv A outer s H E hr => ⟨_, (Ze (Zn 1 JL.nd (Zg (QZ (Za Zc (Za Zc (Za Zc (Za Zc (Za (Zl ZA Zc (Zh G_draw (hr.mono (by first | decide | omega)) rfl T.Zp.m T.Zp.F.kp T.Zp.b Zr (Za (Zb 0) (Za (Zl K8 Zc Zc) Zd)))) (Za Zc Zd))))))) (Zh G_draw (hr.mono (by first | decide | omega)) rfl T.Zp.m T.Zp.F.kp T.Zp.b Zr (Za (Zb 0) (Za Zc Zd)))))
 (Ze (Zn 2 JL.nd (QZ (Za (Zl ZG Zc (Zl K8 Zc Zc)) (Za (Zl ZG (Zl K8 Zc Zc) (Zl JA Zc (Zb 1))) Zd))))
 (Ze (Zn 3 JL.nd (Qz Zd))
 (Ze (Jl rfl T.QV (Za Zc Zd) (Zk 4 JL.nd) (Ze (Zn 5 JL.nd (Zl ZG (Zh G_draw (hr.mono (by first | decide | omega)) rfl T.Zp.m T.Zp.F.kp T.Zp.b Zr (Za (Zb 0) (Za (Zl K8 Zc Zc) Zd))) (Zl JA Zc (Zl K8 Zc Zc))))
 (Zi (Jb (QN (Zb 3) (Zg (QZ (Za Zc (Za Zc (Za Zc (Za (Zb 5) (Za (Zb 5) (Za (Zb 5) (Za (Zg (Zb 2) Zc) (Za (Zg (Zb 2) Zc) Zd))))))))) (Zh G_draw (hr.mono (by first | decide | omega)) rfl T.Zp.m T.Zp.F.kp T.Zp.b Zr (Za (Zb 0) (Za Zc Zd)))))))) PassesOwn.never rfl)
 (Zi (Zo (Zq (Za (Zb 1) (Za (Zg (Zb 3) Zc) (Za (Zg (Zb 3) Zc) Zd)))))))))), fun xs M Φ h => ?_⟩
 replace h := Z6 h
 obtain ⟨x1, rfl, h⟩ := h
 replace h := Q7 h
 obtain ⟨p, rfl, hp, h⟩ := h
 walk_at "hd"
 walk_at "rk"
 refine ⟨R6 _ (by decide), hp, fun r1 M1 a1 b1 f1 => ⟨f1.1, fun r2 M2 a2 b2 f2 => tab (l := [1, 1, 2, 3, 1 + r1, 1]) (fun t => 1 ≤ t ∧ t ≤ 10 ^ 10) a2 (by simp only [List.length_cons, List.length_nil]; omega) (fun w hw => ?_) fun t ht => ?_⟩⟩
 ·simp only [List.mem_cons, List.not_mem_nil, or_false] at hw
  omega
 walk_at "hd"
 walk_at "rk"
 refine ⟨R6 _ (by decide), R6 _ (by decide), .inl (by decide), ?_⟩
 walk_at "hd"
 walk_at "rk"
 intro q hq
 have n1 : p ≠ q := f2.1.ne hq
 walk_at "hd"
 walk_at "rk"
 refine ⟨⟨by decide, by decide⟩, fun j Δ M3 => ∃ (k4 k5 : Option DV) (ns : List Int), Δ = [some (.own p), some (.dat (.int t)), some (.dat (.list [.int (-999999999999), .int (1000000000000 - 12 * t)])), some (.own q), k4, k5] ∧ ns.length = j ∧ (∀ n ∈ ns, -(10 ^ 12) ≤ n ∧ n ≤ 10 ^ 12) ∧ M3 q = some (.lst (ns.map PyData.int)) ∧ Pen M3 p,
  ⟨_, _, [], rfl, rfl, fun n hn => (nomatch hn), ZH, f2.1.put n1⟩, ?_, ?_⟩
 ·rintro j Δ M3 hj ⟨k4, k5, ns, rfl, hl, hns, hq3, hP⟩
  walk_at "hd"
  walk_at "rk"
  refine ⟨R6 _ (by decide), hP, fun r3 M4 a3 b3 f4 => ⟨R6 _ (by decide), .inl (by decide), ?_⟩⟩
  have g4 := f4.own hq3 (Ne.symm n1)
  subst_vars
  walk_at "rk"
  simp only [g4]
  walk_at "rk"
  refine ⟨f4.1, fun r4 M5 a4 b4 f5 => tab (l := [0, 0, 0, r3 - 500000000000, r3 - 500000000000, r3 - 500000000000, -999999999999, 1000000000000 - 12 * t]) (fun w => -(10 ^ 12) ≤ w ∧ w ≤ 10 ^ 12) a4 (by simp only [List.length_cons, List.length_nil]; omega) (fun w hw => ?_) fun w hw => ?_⟩
  ·simp only [List.mem_cons, List.not_mem_nil, or_false] at hw
   omega
  have g5 := f5.own g4 (Ne.symm n1)
  (try walk_at "rk")
  simp only [g5]
  walk_at "rk"
  refine ⟨by rw [List.length_map]; omega, _, _, ns ++ [w], rfl, by rw [List.length_append]; rfl, fun n hn => ?_, by rw [List.map_append]; rfl, f5.1.put n1⟩
  rcases List.mem_append.mp hn with hn | hn
  ·exact hns n hn
  ·rw [List.mem_singleton.mp hn]
   exact hw
 ·rintro Δ M3 ⟨k4, k5, ns, rfl, hl, hns, hq3, hP⟩
  obtain ⟨a, b, rfl⟩ := UC hl
  subst_vars
  walk_at "rk"
  simp only [hq3]
  walk_at "rk"
  exact h t a b M3 ⟨ht, hns a List.mem_cons_self, hns b (List.mem_cons_of_mem _ List.mem_cons_self)⟩ hP
theorem Ra (T : Tx K mg) : ZC P w K mg base CX0 1 T.E8 T.H9 ["_law_boxes_here", "_law_frame_here"] (lift K HQ) := by
 refine okG T.CY.F VY (fun xs M Φ h => by obtain ⟨_, _, rfl, _⟩ := Zy h; rfl) fun cdv A outer s H E hr => ⟨_, (Ze (J2 (Zb 1) (Jy (n := 3) rfl (Zw (Zk 3 VY.nd) (Zw (Zk 4 VY.nd) (Zw (Zk 5 VY.nd) QA)))))
 (Ze (Zn 2 VY.nd (Qz Zd))
 (Ze (Bk (Zb 0) (Jy (n := 2) rfl (Zw (Zk 6 VY.nd) (Zw (Zk 7 VY.nd) QA))) (Ze (Zn 8 VY.nd (Zq (Za (Zl ZA (Zl JA (Zg (Zb 6) Zc) (Zb 3)) (Zb 4)) (Za (Zl ZA (Zl JA (Zg (Zb 6) Zc) (Zb 3)) (Zb 5)) Zd))))
 (Zi (Jb (QN (Zb 2) (Zq (Za (Zb 8) (Za (Zq (Za (Zl ZA (Zl ZG (Zl ZA (Zl JA (Zg (Zb 7) Zc) (Zb 3)) (Zb 3)) Zc) (Zb 4)) (Za (Zl ZA (Zl ZG (Zl ZA (Zl JA (Zg (Zb 7) Zc) (Zb 3)) (Zb 3)) Zc) (Zb 5)) Zd))) Zd))))))) PassesOwn.never rfl)
 (Zi (Zo (Qw Jh rfl T.Jd QG (Za (Zb 2) Zd))))))), fun xs M Φ h => ?_⟩
 replace h := Zy h
 obtain ⟨x1, x2, rfl, h⟩ := h
 replace h := Bp h
 obtain ⟨bs, rfl, h⟩ := h
 replace h := KC h
 obtain ⟨f, ox, oy, rfl, hs, h⟩ := h
 walk_at "hd"
 walk_at "rk"
 walk_at "hd"
 walk_at "rk"
 intro q hq
 walk_at "hd"
 walk_at "rk"
 refine ⟨fun i Δ M' => ∃ k6 k7 k8, Δ = [some (.dat (.list (bs.map bD))), some (.dat (.tuple [.int f, .int ox, .int oy])), some (.own q), some (.dat (.int f)), some (.dat (.int ox)), some (.dat (.int oy)), k6, k7, k8] ∧ M' = Z3 M q (.lst (((bs.take i).map (Jt f ox oy)).map bD)), ⟨none, none, none, rfl, rfl⟩, ?_, ?_⟩
 ·rintro i d Δ M' hd ⟨k6, k7, k8, rfl, rfl⟩
  obtain ⟨b, eb, rfl⟩ := ZY hd
  have hb := hs.2.2 _ (List.mem_of_getElem? eb)
  have ok := ZP.mp hb.1
  have hb2 := hb.2
  walk_at "rk"
  refine ⟨.inl (by omega), .inl (by omega), .inl (by omega), .inl (by omega), by rw [List.length_map, List.length_map, List.length_take]; have := hs.2.1; omega, _, _, _, rfl, ?_⟩
  rw [← take_snoc (Jt f ox oy) eb, List.map_append]
  rfl
 ·rintro Δ M' ⟨k6, k7, k8, rfl, rfl⟩
  rw [List.length_map, List.take_length]
  subst_vars
  walk_at "rk"
  exact Zbh hq h
theorem Ov (T : Tx K mg) : ZC P w K mg base CX0 1 T.BQ T.BJ ["_law_boxes_here"] (lift K Cj) := by
 refine okD T.Ul.F Yk (fun xs M Φ h => by obtain ⟨_, rfl, _⟩ := Z6 h; rfl) fun cdv A outer s H E hr => ⟨_, (Ze (Zn 1 Yk.nd ER)
 (Ze (Bk (Zb 0) (Jy (n := 2) rfl (Zw (Zk 2 Yk.nd) (Zw (Zk 3 Yk.nd) QA))) (Zi (Kf rfl T.QV (Za (Zg (Zb 2) Zc) (Za (Zl ZA (Zg (Zb 3) Zc) Zc) Zd)) (Zk 4 Yk.nd) (Zi (Kf rfl T.QV (Za (Zg (Zb 2) Zc) (Za (Zl ZA (Zg (Zb 3) Zc) Zc) Zd)) (Zk 5 Yk.nd) (Zi (RX hr (Zb 1) (Za (Zb 4) (Za (Zb 5) Zd)) Js)) PassesOwn.never rfl)) PassesOwn.never rfl)) PassesOwn.never rfl)
 (Zi (Zo (Zb 1))))), fun xs M Φ h => ?_⟩
 replace h := Z6 h
 obtain ⟨x1, rfl, h⟩ := h
 replace h := Bp h
 obtain ⟨bs, rfl, hs, h⟩ := h
 walk_at "hd"
 walk_at "rk"
 intro q hq
 walk_at "hd"
 walk_at "rk"
 refine ⟨fun n Δ M' => ∃ (k2 k3 k4 k5 : Option DV) (ks : List (List Key)), Δ = [some (.dat (.list (bs.map bD))), some (.own q), k2, k3, k4, k5] ∧ M' = Z3 M q (.dct ks) ∧ (∀ i j, kP i j ∈ ks ↔ ((bs.take n).any fun b => hasB b i j) = true) ∧ ks.length ≤ n * 144, ⟨none, none, none, none, [], rfl, rfl, fun i j => ?_, Nat.zero_le _⟩, ?_, ?_⟩
 ·simp
 ·rintro n d Δ M' hd ⟨k2, k3, k4, k5, ks, rfl, rfl, hk, hl⟩
  obtain ⟨b, eb, rfl⟩ := ZY hd
  have hn : n < bs.length := (List.getElem?_eq_some_iff.mp eb).1
  have hb := hs.2.2 _ (List.mem_of_getElem? eb)
  have ok := ZP.mp hb.1
  have hb2 := hb.2
  have h6 := hs.2.1
  walk_at "rk"
  refine ⟨⟨⟨by omega, by omega⟩, by omega, by omega⟩, fun a Δ M' => ∃ (k4 k5 : Option DV) (ks : List (List Key)), Δ = [some (.dat (.list (bs.map bD))), some (.own q), some (.dat (.tuple [.int b.x, .int b.y])), some (.dat (.tuple [.int b.X, .int b.Y])), k4, k5] ∧ M' = Z3 M q (.dct ks) ∧
   (∀ i j, kP i j ∈ ks ↔ (((bs.take n).any fun b => hasB b i j) = true ∨ (b.x ≤ i ∧ i < b.x + (a : Int) ∧ b.y ≤ j ∧ j ≤ b.Y))) ∧ ks.length ≤ n * 144 + a * 12, ⟨k4, k5, ks, rfl, rfl, fun i j => ?_, by omega⟩, ?_, ?_⟩
  ·rw [hk]
   exact ⟨.inl, fun z => z.elim id fun z => by omega⟩
  ·rintro a Δ M' ha ⟨k4, k5, ks, rfl, rfl, hk2, hl2⟩
   walk_at "rk"
   refine ⟨⟨⟨by omega, by omega⟩, by omega, by omega⟩, fun c Δ M' => ∃ (k5 : Option DV) (ks : List (List Key)), Δ = [some (.dat (.list (bs.map bD))), some (.own q), some (.dat (.tuple [.int b.x, .int b.y])), some (.dat (.tuple [.int b.X, .int b.Y])), some (.dat (.int (b.x + (a : Int)))), k5] ∧ M' = Z3 M q (.dct ks) ∧
    (∀ i j, kP i j ∈ ks ↔ ((((bs.take n).any fun b => hasB b i j) = true ∨ (b.x ≤ i ∧ i < b.x + (a : Int) ∧ b.y ≤ j ∧ j ≤ b.Y)) ∨ (i = b.x + (a : Int) ∧ b.y ≤ j ∧ j < b.y + (c : Int)))) ∧ ks.length ≤ n * 144 + a * 12 + c, ⟨k5, ks, rfl, rfl, fun i j => ?_, by omega⟩, ?_, ?_⟩
   ·rw [hk2]
    exact ⟨.inl, fun z => z.elim id fun z => by omega⟩
   ·rintro c Δ M' hc ⟨k5, ks, rfl, rfl, hk3, hl3⟩
    walk_at "rk"
    refine ⟨by omega, _, LY ks (kP (b.x + (a : Int)) (b.y + (c : Int))), rfl, rfl, fun i j => ?_, by have := Mw ks (kP (b.x + (a : Int)) (b.y + (c : Int))); omega⟩
    rw [Oq, hk3, Zcl]
    constructor
    ·rintro (z | z)
     ·rcases z with z | z
      ·exact .inl z
      ·exact .inr (by omega)
     ·exact .inr (by omega)
    ·rintro (z | z)
     ·exact .inl (.inl z)
     ·by_cases c' : j = b.y + (c : Int)
      ·exact .inr (by omega)
      ·exact .inl (.inr (by omega))
   ·rintro Δ M' ⟨k5, ks, rfl, rfl, hk3, hl3⟩
    refine ⟨_, _, ks, rfl, rfl, fun i j => ?_, by omega⟩
    rw [hk3]
    constructor
    ·rintro ((z | z) | z)
     ·exact .inl z
     ·exact .inr (by omega)
     ·exact .inr (by omega)
    ·rintro (z | z)
     ·exact .inl (.inl z)
     ·by_cases c : i = b.x + (a : Int)
      ·exact .inr (by omega)
      ·exact .inl (.inr (by omega))
  ·rintro Δ M' ⟨k4, k5, ks, rfl, rfl, hk2, hl2⟩
   refine ⟨_, _, _, _, ks, rfl, rfl, fun i j => ?_, by omega⟩
   rw [hk2, MR _ eb, Bool.or_eq_true, Zs]
   constructor
   ·exact fun z => z.elim .inl fun z => .inr (by omega)
   ·exact fun z => z.elim .inl fun z => .inr (by omega)
 ·rintro Δ M' ⟨k2, k3, k4, k5, ks, rfl, rfl, hk, hl⟩
  rw [List.length_map, List.take_length] at hk
  subst_vars
  walk_at "rk"
  refine h q ks hq fun i j => ?_
  rw [Bool.eq_iff_iff, Mt]
  exact hk i j
theorem Ta (T : Tx K mg) : ZC P w K mg base CX0 2 T.HL T.Fu ["_law_pen_here", "_law_frame_here"] (lift K LM) := by
 have G_draw : ZC P w K mg base CX0 1 T.YJ T.YU ["_law_pen_here", "_law_many"] (lift K Y2) := YD T
 refine okD T.Cr.F Xi (fun xs M Φ h => by obtain ⟨_, _, rfl, _⟩ := Zy h; rfl) fun cdv A outer s H E hr => ⟨_, (Ze (Zn 2 Xi.nd (Zl ZG (Zl K8 Zc Zc) Zc))
 (Ze (Zn 3 Xi.nd (Qz Zd))
 (Ze (Jl rfl T.QV (Za Zc Zd) (Zk 4 Xi.nd) (Ze (Zn 5 Xi.nd (Zl ZA (Zl JA (Zl ZG (Zh G_draw (hr.mono (by first | decide | omega)) rfl T.Zp.m T.Zp.F.kp T.Zp.b Zr (Za (Zb 0) (Za Zc Zd))) Zc) (Zg (Zb 1) Zc)) (Zg (Zb 1) (Zl ZA Zc (Zb 4)))))
 (Ze (Zn 6 Xi.nd (Zl ZA (Zb 5) (Zg (QZ (Za Zc (Za (Zl ZG (Zg (Zb 1) Zc) Zc) (Za (Zh G_draw (hr.mono (by first | decide | omega)) rfl T.Zp.m T.Zp.F.kp T.Zp.b Zr (Za (Zb 0) (Za (Zg (Zb 1) Zc) Zd))) Zd)))) (Zh G_draw (hr.mono (by first | decide | omega)) rfl T.Zp.m T.Zp.F.kp T.Zp.b Zr (Za (Zb 0) (Za Zc Zd))))))
 (Zi (Jb (QN (Zb 3) (Zj (JY rfl) rfl T.YE JW (Za (Zl ZG Zc (Zb 2)) (Za (Zj (VD rfl) rfl T.Yt Jv (Za (Zb 2) (Za (Zb 6) Zd))) Zd)))))))) PassesOwn.never rfl)
 (Ze (Ql (ZE (Jf hr) (Zh G_draw (hr.mono (by first | decide | omega)) rfl T.Zp.m T.Zp.F.kp T.Zp.b Zr (Za (Zb 0) (Za Zc Zd))) Zc) (Zi (J2 (Zg (QZ (Za (Zl ZG (Zh G_draw (hr.mono (by first | decide | omega)) rfl T.Zp.m T.Zp.F.kp T.Zp.b Zr (Za (Zb 0) (Za (Zl ZA (Zl JA Zc (Zb 2)) Zc) Zd))) (Zb 2)) (Za (Zb 2) (Za (Zl ZG Zc (Zb 2)) Zd)))) (Zh G_draw (hr.mono (by first | decide | omega)) rfl T.Zp.m T.Zp.F.kp T.Zp.b Zr (Za (Zb 0) (Za Zc Zd)))) (LO (Zb 3) (Zh G_draw (hr.mono (by first | decide | omega)) rfl T.Zp.m T.Zp.F.kp T.Zp.b Zr (Za (Zb 0) (Za Zc Zd)))))) ZD)
 (Zi (Zo (Qw Jh rfl T.Jd QG (Za (Zb 3) Zd)))))))), fun xs M Φ h => ?_⟩
 replace h := Zy h
 obtain ⟨x1, x2, rfl, h⟩ := h
 replace h := Q7 h
 obtain ⟨p, rfl, h⟩ := h
 replace h := KC h
 obtain ⟨t, ox, oy, rfl, hf, hp, h⟩ := h
 have hf' := hf
 unfold Frm at hf'
 walk_at "hd"
 walk_at "rk"
 refine ⟨R6 _ (by decide), ?_⟩
 walk_at "hd"
 walk_at "rk"
 intro q hq
 have n1 : p ≠ q := hp.ne hq
 walk_at "hd"
 walk_at "rk"
 refine ⟨⟨by decide, by decide⟩, fun j Δ M2 => ∃ (k4 k5 k6 : Option DV) (ns : List Int), Δ = [some (.own p), some (.dat (.tuple [.int t, .int ox, .int oy])), some (.dat (.int 999999999999)), some (.own q), k4, k5, k6] ∧ ns.length = j ∧ (∀ n ∈ ns, Fs n) ∧ M2 q = some (.lst (ns.map PyData.int)) ∧ Fr p M M2,
  ⟨none, none, none, [], rfl, rfl, fun n hn => (nomatch hn), ZH, Fr.new (Fr.refl hp) hq (Ne.symm n1)⟩, ?_, ?_⟩
 ·rintro j Δ M2 hj ⟨k4, k5, k6, ns, rfl, hl, hns, hq2, hF⟩
  obtain ⟨o, ho, eo⟩ := Zfi (t := t) (ox := ox) (oy := oy) hj
  walk_at "hd"
  walk_at "rk"
  refine ⟨hF.1, fun r1 M3 a1 b1 f3 => ⟨.inl (by omega), ?_⟩⟩
  simp only [eo]
  walk_at "rk"
  walk_at "hd"
  walk_at "rk"
  refine ⟨by omega, f3.1, fun r2 M4 a2 b2 f4 => ⟨f4.1, fun r3 M5 a3 b3 f5 => tab (l := [0, t - 1, r2]) (fun _ => True) a3 (by simp only [List.length_cons, List.length_nil]; omega) (fun _ _ => trivial) fun w _ => ?_⟩⟩
  have g5 := f5.own (f4.own (f3.own hq2 (Ne.symm n1)) (Ne.symm n1)) (Ne.symm n1)
  walk_at "rk"
  subst_vars
  walk_at "rk"
  simp only [g5]
  walk_at "rk"
  refine ⟨by rw [List.length_map]; omega, _, _, _, ns ++ [max (-999999999999) (min 999999999999 ((r1 - 2) * t + o + w))], rfl, by rw [List.length_append]; rfl, fun n hn => ?_, by rw [List.map_append]; rfl, Fr.new (((hF.trans f3).trans f4).trans f5) hq (Ne.symm n1)⟩
  rcases List.mem_append.mp hn with hn | hn
  ·exact hns n hn
  ·rw [List.mem_singleton.mp hn]
   unfold Fs
   omega
 ·rintro Δ M2 ⟨k4, k5, k6, ns, rfl, hl, hns, hq2, hF⟩
  obtain ⟨a, b, rfl⟩ := UC hl
  have fa := hns a List.mem_cons_self
  have fb := hns b (List.mem_cons_of_mem _ List.mem_cons_self)
  walk_at "hd"
  walk_at "rk"
  refine ⟨hF.1, fun r1 M3 a1 b1 f3 => ?_⟩
  have g3 := f3.own hq2 (Ne.symm n1)
  refine Zm (fun h0 => ?_) fun h0 => ?_
  ·refine ⟨.inl (by decide), f3.1, fun r2 M4 a2 b2 f4 => ⟨f4.1, fun r3 M5 a3 b3 f5 => tab (l := [r2 - 999999999999, 999999999999, -999999999999]) Fs a3 (by simp only [List.length_cons, List.length_nil]; omega) (fun w hw => ?_) fun w hw => ?_⟩⟩
   ·simp only [List.mem_cons, List.not_mem_nil, or_false] at hw
    unfold Fs
    omega
   walk_at "rk"
   refine ⟨f5.1, fun r4 M6 a4 b4 f6 => ?_⟩
   have g6 := f6.own (f5.own (f4.own g3 (Ne.symm n1)) (Ne.symm n1)) (Ne.symm n1)
   simp only [g6]
   walk_at "rk"
   have two : r4 = 0 ∨ r4 = 1 := by omega
   rcases two with rfl | rfl
   ·refine ⟨0, rfl, ?_⟩
    subst_vars
    walk_at "rk"
    exact h w b _ hw fb (Fr.new ((((hF.trans f3).trans f4).trans f5).trans f6) hq (Ne.symm n1))
   ·refine ⟨1, rfl, ?_⟩
    subst_vars
    walk_at "rk"
    exact h a w _ fa hw (Fr.new ((((hF.trans f3).trans f4).trans f5).trans f6) hq (Ne.symm n1))
  ·subst_vars
   walk_at "rk"
   simp only [g3]
   walk_at "rk"
   exact h a b _ fa fb (hF.trans f3)
theorem MU (T : Tx K mg) : ZC P w K mg base CX0 1 T.Cd T.B0 ["_law_cell", "_law_frame_here", "_law_spot_here"] (lift K Hw) := by
 refine okD T.Us.F YN (fun xs M Φ h => by obtain ⟨_, _, _, rfl, _⟩ := Z1 h; rfl) fun cdv A outer s H E hr => ⟨_, (Ze (Zn 3 YN.nd Zc)
 (Ze (Jl rfl T.QV (Za Zc Zd) (Zk 4 YN.nd) (Ze (Zn 5 YN.nd (Zl ZA (Zl JA (Zg (Zb 0) (Zb 4)) (Zg (Zb 1) Zc)) (Zg (Zb 1) (Zl ZA Zc (Zb 4)))))
 (Zi (Zn 3 YN.nd (Zj (EG rfl) rfl T.YE JW (Za (Zb 3) (Za (Zl ZG (Zb 5) (Zg (Zb 2) (Zb 4))) (Za (Zl ZA (Zl ZG (Zl ZG (Zg (Zb 2) (Zb 4)) (Zb 5)) (Zg (Zb 1) Zc)) Zc) Zd))))))) PassesOwn.never rfl)
 (Zi (Zo (Zb 3))))), fun xs M Φ h => ?_⟩
 replace h := Z1 h
 obtain ⟨x1, x2, x3, rfl, h⟩ := h
 replace h := Qr h
 obtain ⟨i, j, rfl, h⟩ := h
 replace h := KC h
 obtain ⟨t, ox, oy, rfl, h⟩ := h
 replace h := Qr h
 obtain ⟨u, v, rfl, ⟨hi, hj⟩, h⟩ := h
 walk_at "hd"
 walk_at "rk"
 walk_at "hd"
 walk_at "rk"
 refine ⟨⟨by decide, by decide⟩, Hv ?_⟩
 walk_at "rk"
 refine ⟨.inl (by omega), .inl (by omega), ?_⟩
 subst_vars
 walk_at "rk"
 rw [ZbK]
 exact h
theorem Fd (T : Tx K mg) : ZC P w K mg base CX0 2 T.UA T.W6 ["_law_cells_here", "_law_frame_here", "_law_spot_here"] (lift K UE) := by
 have G_l_gap : ZC P w K mg base CX0 1 T.Cd T.B0 ["_law_cell", "_law_frame_here", "_law_spot_here"] (lift K Hw) := MU T
 refine okD T.Vv.F Vr (fun xs M Φ h => by obtain ⟨_, _, _, rfl, _⟩ := Z1 h; rfl) fun cdv A outer s H E hr => ⟨_, (Ze (Zn 3 Vr.nd (Qw Jh rfl T.Jd QG (Za (L4 false (ZL (sc := Zf VQ) (XN := ["_law_cells_here", "_law_frame_here", "_law_spot_here", "_law_here", "_law_inside", "_law_found", "_law_x", "_law_y"]) (N := ["_law_way", "_law_frame_here", "_law_spot_here"]) (ix := [none, some 1, some 2]) rfl rfl (by decide +kernel)) (Fw rfl T.QV (Za Zc Zd)) (fun C ex s H => (Zk 0 (show List.Nodup (["_law_way", "_law_frame_here", "_law_spot_here"] : List Str) by decide +kernel))) (fun C ex s H => Q4) (fun C ex s H => (Zl CT (Zl ZG (Zg (Zb 2) (Zb 0)) (Zg (Zb 1) (Zl ZA Zc (Zb 0)))) (Zg (Zb 1) Zc))) rfl) Zd)))
 (Ze (Zn 4 Vr.nd (J4 (Pc hr) (Zb 3) (Zb 0)))
 (Ze (Zn 5 Vr.nd (Qz Zd))
 (Ze (Kf rfl T.QV (Za (Gs Zc) (Za Zc Zd)) (Zk 6 Vr.nd) (Zi (Kf rfl T.QV (Za (Gs Zc) (Za Zc Zd)) (Zk 7 Vr.nd) (Zi (Ql (ZE (W2 hr) (J4 (Pc hr) (Zq (Za (Zb 6) (Za (Zb 7) Zd))) (Zb 0)) (Zb 4)) (Zi (Jb (QN (Zb 5) (Zq (Za (Zq (Za (Zb 6) (Za (Zb 7) Zd))) (Za (Zh G_l_gap (hr.mono (by first | decide | omega)) rfl T.Us.m T.Us.F.kp T.Us.b Zr (Za (Zq (Za (Zb 6) (Za (Zb 7) Zd))) (Za (Zb 1) (Za (Zb 2) Zd)))) Zd)))))) ZD)) PassesOwn.never rfl)) PassesOwn.never rfl)
 (Zi (Zo (Zq (Za (Zb 4) (Za (CP (Zb 5)) Zd))))))))), fun xs M Φ h => ?_⟩
 replace h := Z1 h
 obtain ⟨x1, x2, x3, rfl, h⟩ := h
 replace h := KC h
 obtain ⟨t, ox, oy, rfl, h⟩ := h
 replace h := Qr h
 obtain ⟨u, v, rfl, h⟩ := h
 replace h := Fx h
 obtain ⟨l, ks, bs, rfl, hl, hk, hf, h⟩ := h
 have hf' := hf
 unfold Frm at hf'
 have lg : t.natAbs.log2 < 9000 := Nat.lt_of_lt_of_le (Uk (k := 70) (by omega) (by decide)) (by decide)
 walk_at "hd"
 walk_at "rk"
 refine ⟨⟨by decide, by decide⟩, ⟨by omega, lg⟩, ⟨by omega, lg⟩, ?_⟩
 walk_at "hd"
 walk_at "rk"
 simp only [hl]
 walk_at "rk"
 rw [hk]
 unfold Oth at h
 generalize anyB bs ((u - ox) / t) ((v - oy) / t) = S at h ⊢
 walk_at "hd"
 walk_at "rk"
 intro p hp
 have hlp : l ≠ p := fun z => by rw [z, hp] at hl; cases hl
 walk_at "hd"
 walk_at "rk"
 refine ⟨⟨⟨by decide, by decide⟩, by decide, by decide⟩, fun a Δ M2 => ∃ (k3 k6 k7 : Option DV) (cs : List (Int × Int)), Δ = [some (.own l), some (.dat (.tuple [.int t, .int ox, .int oy])), some (.dat (.tuple [.int u, .int v])), k3, some (.dat (.bool S)), some (.own p), k6, k7] ∧ M2 = Z3 M p (.lst (cs.map (PD t ox oy u v))) ∧
   (∀ i j, (i, j) ∈ cs ↔ (-1 ≤ i ∧ i < -1 + (a : Int) ∧ -1 ≤ j ∧ j ≤ 12 ∧ anyB bs i j ≠ S)) ∧ cs.length ≤ a * 14, ⟨_, _, _, [], rfl, rfl, fun i j => ?_, Nat.zero_le _⟩, ?_, ?_⟩
 ·constructor
  ·intro z
   cases z
  ·intro z
   omega
 ·rintro a Δ M2 ha ⟨k3, k6, k7, cs, rfl, rfl, hc, hlen⟩
  walk_at "rk"
  refine ⟨⟨⟨by decide, by decide⟩, by decide, by decide⟩, fun b Δ M2 => ∃ (k7 : Option DV) (cs : List (Int × Int)), Δ = [some (.own l), some (.dat (.tuple [.int t, .int ox, .int oy])), some (.dat (.tuple [.int u, .int v])), k3, some (.dat (.bool S)), some (.own p), some (.dat (.int (-1 + (a : Int)))), k7] ∧ M2 = Z3 M p (.lst (cs.map (PD t ox oy u v))) ∧
    (∀ i j, (i, j) ∈ cs ↔ ((-1 ≤ i ∧ i < -1 + (a : Int) ∧ -1 ≤ j ∧ j ≤ 12 ∧ anyB bs i j ≠ S) ∨ (i = -1 + (a : Int) ∧ -1 ≤ j ∧ j < -1 + (b : Int) ∧ anyB bs i j ≠ S))) ∧ cs.length ≤ a * 14 + b, ⟨_, cs, rfl, rfl, fun i j => ?_, by omega⟩, ?_, ?_⟩
  ·rw [hc]
   exact ⟨.inl, fun z => z.elim id fun z => by omega⟩
  ·rintro b Δ M2 hb ⟨k7, cs, rfl, rfl, hc2, hlen2⟩
   walk_at "rk"
   simp only [Qh hlp, hl]
   walk_at "rk"
   rw [hk]
   by_cases c : anyB bs (-1 + (a : Int)) (-1 + (b : Int)) = S
   ·rw [c, beq_self_eq_true, if_neg (by decide)]
    refine ⟨_, cs, rfl, rfl, fun i j => ?_, by omega⟩
    rw [hc2]
    constructor
    ·rintro (z | ⟨z1, z2, z3, z4⟩)
     ·exact .inl z
     ·exact .inr ⟨z1, z2, by omega, z4⟩
    ·rintro (z | ⟨z1, z2, z3, z4⟩)
     ·exact .inl z
     ·by_cases e : j = -1 + (b : Int)
      ·rw [z1, e] at z4
       exact absurd c z4
      ·exact .inr ⟨z1, z2, by omega, z4⟩
   ·rw [beq_eq_false_iff_ne.mpr c, if_pos (by decide)]
    refine ⟨⟨by omega, by omega⟩, by rw [List.length_map]; omega, _, cs ++ [(-1 + (a : Int), -1 + (b : Int))], rfl, by rw [List.map_append]; rfl, fun i j => ?_, by rw [List.length_append, List.length_singleton]; omega⟩
    rw [List.mem_append, List.mem_singleton, hc2, Prod.mk.injEq]
    constructor
    ·rintro ((z | ⟨z1, z2, z3, z4⟩) | ⟨z1, z2⟩)
     ·exact .inl z
     ·exact .inr ⟨z1, z2, by omega, z4⟩
     ·exact .inr ⟨z1, by omega, by omega, by rw [z1, z2]; exact c⟩
    ·rintro (z | ⟨z1, z2, z3, z4⟩)
     ·exact .inl (.inl z)
     ·by_cases e : j = -1 + (b : Int)
      ·exact .inr ⟨z1, e⟩
      ·exact .inl (.inr ⟨z1, z2, by omega, z4⟩)
  ·rintro Δ M2 ⟨k7, cs, rfl, rfl, hc2, hlen2⟩
   refine ⟨_, _, _, cs, rfl, rfl, fun i j => ?_, by omega⟩
   rw [hc2]
   constructor
   ·rintro (⟨z1, z2, z3, z4, z5⟩ | ⟨z1, z2, z3, z5⟩)
    ·exact ⟨z1, by omega, z3, z4, z5⟩
    ·exact ⟨by omega, by omega, z2, by omega, z5⟩
   ·rintro ⟨z1, z2, z3, z4, z5⟩
    by_cases c : i = -1 + (a : Int)
    ·exact .inr ⟨c, z3, by omega, z5⟩
    ·exact .inl ⟨z1, by omega, z3, z4, z5⟩
 ·rintro Δ M2 ⟨k3, k6, k7, cs, rfl, rfl, hc, hlen⟩
  subst_vars
  walk_at "rk"
  rw [Y1 hp]
  refine h cs (fun i j => ?_) (by omega)
  rw [hc]
  constructor
  ·rintro ⟨z1, z2, z3, z4, z5⟩
   exact ⟨⟨⟨z1, by omega⟩, z3, z4⟩, z5⟩
  ·rintro ⟨⟨⟨z1, z2⟩, z3, z4⟩, z5⟩
   exact ⟨z1, by omega, z3, z4, z5⟩
theorem W4 (T : Tx K mg) : ZC P w K mg base CX0 1 T.K4 T.Kz ["_law_one", "_law_box_here"] (lift K GC) := by
 refine okD T.Vi.F UH (fun xs M Φ h => by obtain ⟨_, _, rfl, _⟩ := Zy h; rfl) fun cdv A outer s H E hr => ⟨_, (Ze (J2 (Zb 1) (Jy (n := 2) rfl (Zw (Zk 2 UH.nd) (Zw (Zk 3 UH.nd) QA))))
 (Ze (Ql (DW.dt (Ya (ZE Xo (Zg (Zb 2) Zc) (Zg (Zg (Zb 0) Zc) Zc)) (Yv (ZE Xo (Zg (Zb 2) Zc) (Zg (Zg (Zb 0) Zc) Zc))))) (Zi (Zo Js)) ZD)
 (Zi (Zo (QK (J4 XZ (Zg (Zb 3) Zc) (Zg (Zg (Zb 0) Zc) Zc)) (JX (J4 XZ (Zg (Zb 3) Zc) (Zg (Zg (Zb 0) Zc) Zc)))))))), fun xs M Φ h => ?_⟩
 replace h := Zy h
 obtain ⟨x1, x2, rfl, h⟩ := h
 replace h := Z0 h
 obtain ⟨c, rfl, h⟩ := h
 replace h := Z0 h
 obtain ⟨b, rfl, h⟩ := h
 unfold inB at h
 walk_at "hd"
 walk_at "rk"
 walk_at "hd"
 walk_at "rk"
 refine Zm (fun z => ?_) fun z => Zm (fun z1 => ?_) fun z1 => ?_
 ·rw [decide_eq_false (by omega)] at h
  exact h
 ·rw [decide_eq_false (by omega)] at h
  exact h
 ·subst_vars
  walk_at "rk"
  refine Zm (fun z2 => ?_) fun z2 => ?_
  ·rw [show decide (c.x ≤ b.x ∧ c.y ≤ b.y ∧ b.X ≤ c.X ∧ b.Y ≤ c.Y) = decide (b.Y ≤ c.Y) from decide_eq_decide.mpr (by omega)] at h
   exact h
  ·rw [decide_eq_false (by omega)] at h
   exact h
theorem C8 (T : Tx K mg) : ZC P w K mg base CX0 1 T.Ui T.UQ ["_law_box_here", "_law_way", "_law_at"] (lift K WZ) := by
 refine okD T.YF.F Uo (fun xs M Φ h => by obtain ⟨_, _, _, rfl, _⟩ := Z1 h; rfl) fun cdv A outer s H E hr => ⟨_, (Ze (J2 (Zb 0) (Jy (n := 2) rfl (Zw (Zk 3 Uo.nd) (Zw (Zk 4 Uo.nd) QA))))
 (Ze (Ql (ZE (Jf hr) (Zb 1) Zc) (Zi (Zo (QZ (Za (Zq (Za (Zb 3) (Za (Zq (Za (Zb 2) (Za (Zg (Zb 4) Zc) Zd))) Zd))) (Za (Zq (Za (Zq (Za (Zl ZA (Zb 2) Zc) (Za (Zg (Zb 3) Zc) Zd))) (Za (Zb 4) Zd))) Zd))))) ZD)
 (Zi (Zo (QZ (Za (Zq (Za (Zb 3) (Za (Zq (Za (Zg (Zb 4) Zc) (Za (Zb 2) Zd))) Zd))) (Za (Zq (Za (Zq (Za (Zg (Zb 3) Zc) (Za (Zl ZA (Zb 2) Zc) Zd))) (Za (Zb 4) Zd))) Zd))))))), fun xs M Φ h => ?_⟩
 replace h := Z1 h
 obtain ⟨x1, x2, x3, rfl, h⟩ := h
 replace h := Z0 h
 obtain ⟨b, rfl, h⟩ := h
 replace h := ZM h
 obtain ⟨i, rfl, h⟩ := h
 replace h := ZM h
 obtain ⟨a, rfl, hi, h⟩ := h
 unfold upB owB at h
 rcases hi with rfl | rfl
 ·walk_at "hd"
  walk_at "rk"
  subst_vars
  walk_at "rk"
  exact h
 ·walk_at "hd"
  walk_at "rk"
  subst_vars
  walk_at "rk"
  subst_vars
  walk_at "rk"
  exact h
theorem GX (T : Tx K mg) (n : Nat) : ZC P w K mg base CX0 (2 + n) T.J0 T.JS ["_law_pen_here", "_law_shape", "_law_box_here", "_law_free"] (lift K (Dr n)) := by
 refine Nat.rec (motive := fun n => ZC P w K mg base CX0 (2 + n) T.J0 T.JS ["_law_pen_here", "_law_shape", "_law_box_here", "_law_free"] (lift K (Dr n))) ?_ (fun n G_any_cover => ?_) n
 ·exact FZ Dl
 show ZC P w K mg base CX0 (2 + n + 1) T.J0 T.JS ["_law_pen_here", "_law_shape", "_law_box_here", "_law_free"] (lift K (Dr (n + 1)))
 have G_parts : ZC P w K mg base CX0 1 T.Ui T.UQ ["_law_box_here", "_law_way", "_law_at"] (lift K WZ) := C8 T
 have G_draw : ZC P w K mg base CX0 1 T.YJ T.YU ["_law_pen_here", "_law_many"] (lift K Y2) := YD T
 have G_l_has : ZC P w K mg base CX0 1 T.K4 T.Kz ["_law_one", "_law_box_here"] (lift K GC) := W4 T
 refine okD T.Z5.F ZO (fun xs M Φ h => by obtain ⟨_, _, _, _, rfl, _⟩ := Kl h; rfl) fun cdv A outer s H E hr => ⟨_, (Ze (J2 (Zb 2) (Jy (n := 2) rfl (Zw (Zk 8 ZO.nd) (Zw (Zk 9 ZO.nd) QA))))
 (Ze (UR 4 false ZO.nd (ZL (sc := Zf Qj) (XN := ["_law_pen_here", "_law_shape", "_law_box_here", "_law_free", "_law_own", "_law_cuts", "_law_way", "_law_less", "_law_low", "_law_high", "_law_ends", "_law_at", "_law_one", "_law_other"]) (N := ["_law_k", "_law_one", "_law_box_here"]) (ix := [none, none, some 2]) rfl rfl (by decide +kernel)) (RW rfl T.BE (Za (Zb 1) Zd)) (fun C ex s H => (Jy (n := 2) rfl (Zw (Zk 0 (show List.Nodup (["_law_k", "_law_one", "_law_box_here"] : List Str) by decide +kernel)) (Zw (Zk 1 (show List.Nodup (["_law_k", "_law_one", "_law_box_here"] : List Str) by decide +kernel)) QA)))) (fun C ex s H => (XE (QO (Zh G_l_has (hr.mono (by first | decide | omega)) rfl T.Vi.m T.Vi.F.kp T.Vi.b Zr (Za (Zb 1) (Za (Zb 2) Zd)))))) (fun C ex s H => (Zb 0)) rfl)
 (Ze (Ql (DW.dt (XG (ZE (W2 hr) (Zb 4) (QZ Zd)) (YH (DW.dt (Ya (ZE (Jf hr) (Zb 3) Zc) (Ya (ZE (Jf hr) (Zb 8) (Zb 9)) (Yv (ZE (Jf hr) (Zh G_draw (hr.mono (by first | decide | omega)) rfl T.Zp.m T.Zp.F.kp T.Zp.b Zr (Za (Zb 0) (Za Zc Zd))) Zc)))))))) (Zi (Zo (Zq (Za Q9 (Za (Zg (Zb 4) (Zh G_draw (hr.mono (by first | decide | omega)) rfl T.Zp.m T.Zp.F.kp T.Zp.b Zr (Za (Zb 0) (Za (Zj QD rfl T.JV Qs (Za (Zb 4) Zd)) Zd)))) Zd))))) ZD)
 (Ze (Zn 5 ZO.nd (Qz Zd))
 (Ze (Jl rfl T.QV (Za Zc Zd) (Zk 6 ZO.nd) (Ze (UR 10 false ZO.nd (ZL (sc := Zf Qj) (XN := ["_law_pen_here", "_law_shape", "_law_box_here", "_law_free", "_law_own", "_law_cuts", "_law_way", "_law_less", "_law_low", "_law_high", "_law_ends", "_law_at", "_law_one", "_law_other"]) (N := ["_law_one", "_law_way"]) (ix := [none, some 6]) rfl rfl (by decide +kernel)) (XR (Zb 1)) (fun C ex s H => (Zk 0 (show List.Nodup (["_law_one", "_law_way"] : List Str) by decide +kernel))) (fun C ex s H => Q4) (fun C ex s H => (Zg (Zg (Zb 0) Zc) (Zb 1))) rfl)
 (Ze (Jb (KH (Zb 5) (QL true (ZL (sc := Zf Qj) (XN := ["_law_pen_here", "_law_shape", "_law_box_here", "_law_free", "_law_own", "_law_cuts", "_law_way", "_law_less", "_law_low", "_law_high", "_law_ends", "_law_at", "_law_one", "_law_other"]) (N := ["_law_at", "_law_way", "_law_low", "_law_high"]) (ix := [none, some 6, some 8, some 9]) rfl rfl (by decide +kernel)) (Vf (Zb 10)) (fun C ex s H => (Zk 0 (show List.Nodup (["_law_at", "_law_way", "_law_low", "_law_high"] : List Str) by decide +kernel))) (fun C ex s H => (XE (X6 XZ Xo (Zg (Zb 2) (Zb 1)) (Zb 0) (Zg (Zb 3) (Zb 1))))) (fun C ex s H => (Zq (Za (Zb 1) (Za (Zb 0) Zd)))) rfl)))
 (Zi (Ql (DW.dt (XG (ZE Mi (Zb 3) Zc) (YH (ZE Xo (Zg (Zb 8) (Zb 6)) (Zg (Zb 9) (Zb 6)))))) (Zi (Jb (QN (Zb 5) (Zq (Za (Zb 6) (Za (Zl ZA (Zg (Zb 8) (Zb 6)) (Zh G_draw (hr.mono (by first | decide | omega)) rfl T.Zp.m T.Zp.F.kp T.Zp.b Zr (Za (Zb 0) (Za (Zl ZG (Zg (Zb 9) (Zb 6)) (Zg (Zb 8) (Zb 6))) Zd)))) Zd)))))) ZD)))) PassesOwn.never rfl)
 (Ze (J2 (Zg (Zb 5) (Zh G_draw (hr.mono (by first | decide | omega)) rfl T.Zp.m T.Zp.F.kp T.Zp.b Zr (Za (Zb 0) (Za (Zj QD rfl T.JV Qs (Za (Zb 5) Zd)) Zd)))) (Jy (n := 2) rfl (Zw (Zk 6 ZO.nd) (Zw (Zk 11 ZO.nd) QA))))
 (Ze (J2 (Zh G_parts (hr.mono (by first | decide | omega)) rfl T.YF.m T.YF.F.kp T.YF.b Zr (Za (Zb 2) (Za (Zb 6) (Za (Zb 11) Zd)))) (Zct (n := 2) rfl (Zw (Zk 12 ZO.nd) (Zw (Zk 13 ZO.nd) QA))))
 (Ze (Zn 7 ZO.nd (Zj (JY rfl) rfl T.YE JW (Za Zc (Za (Zl ZG (Zb 3) Zc) Zd))))
 (Zi (Zo (Zq (Za Q9 (Za (Zb 6) (Za (Zb 11) (Za (Zh G_any_cover (hr.mono (by first | decide | omega)) rfl T.Z5.m T.Z5.F.kp T.Z5.b Zr (Za (Zb 0) (Za (Zb 1) (Za (Zb 12) (Za (Zb 7) Zd))))) (Za (Zh G_any_cover (hr.mono (by first | decide | omega)) rfl T.Z5.m T.Z5.F.kp T.Z5.b Zr (Za (Zb 0) (Za (Zb 1) (Za (Zb 13) (Za (Zb 7) Zd))))) Zd)))))))))))))))), fun xs M Φ h => ?_⟩
 replace h := Kl h
 obtain ⟨x1, x2, x3, x4, rfl, h⟩ := h
 replace h := Q7 h
 obtain ⟨p, rfl, h⟩ := h
 replace h := Qd h
 obtain ⟨bs, rfl, h⟩ := h
 replace h := Z0 h
 obtain ⟨b, rfl, h⟩ := h
 replace h := ZM h
 obtain ⟨f, rfl, ⟨hf, ⟨h6, hB, hb, hc⟩, hn⟩, hp, h⟩ := h
 walk_at "hd"
 walk_at "rk"
 walk_at "hd"
 walk_at "rk"
 have el : (U1 (bs.map bD)).length = bs.length := by unfold U1; rw [List.length_mapIdx, List.length_map]
 refine ⟨by rw [el]; omega, fun i acc M' => (∃ ks : List Nat, acc = ks.map (fun (k : Nat) => PyData.int (k : Int)) ∧ ks.length ≤ i ∧ (∀ k ∈ ks, ∃ c, bs[k]? = some c ∧ inB c b = true) ∧ ∀ j c, j < i → bs[j]? = some c → inB c b = true → ks ≠ []) ∧ M' = M, ⟨⟨[], rfl, Nat.le_refl _, fun k hk => (nomatch hk), fun j c hj => absurd hj (Nat.not_lt_zero _)⟩, rfl⟩, ?_, ?_⟩
 ·rintro i d acc M' hd ⟨⟨ks, rfl, hkl, hks, hkc⟩, rfl⟩
  have hi : i < bs.length := by have := (List.getElem?_eq_some_iff.mp hd).1; rw [el] at this; exact this
  obtain ⟨c, ec⟩ : ∃ c, bs[i]? = some c := ⟨_, List.getElem?_eq_getElem hi⟩
  rw [Gg (d := bD c) (by rw [List.getElem?_map, ec]; rfl)] at hd
  cases hd
  walk_at "rk"
  cases q : inB c b with
  | true =>
   walk_at "rk"
   refine ⟨ks ++ [i], by rw [List.map_append]; rfl, by rw [List.length_append, List.length_singleton]; omega, fun k hk => ?_, fun j c' _ _ _ z => by simp at z⟩
   rcases List.mem_append.mp hk with hk | hk
   ·exact hks k hk
   ·rw [List.mem_singleton.mp hk]
    exact ⟨c, ec, q⟩
  | false =>
   walk_at "rk"
   refine ⟨ks, rfl, by omega, hks, fun j c' hj ej ij => ?_⟩
   by_cases e : j = i
   ·rw [e, ec] at ej
    cases ej
    rw [q] at ij
    cases ij
   ·exact hkc j c' (by omega) ej ij
 ·rintro acc M' ⟨⟨ks, rfl, hkl, hks, hkc⟩, rfl⟩
  rw [el] at hkl hkc
  walk_at "hd"
  walk_at "rk"
  rename_i R hR
  have leaf : ∀ M0, Fr p M' M0 → ks ≠ [] → (0 < ((ks.map fun (k : Nat) => PyData.int (k : Int)).length : Int) ∧ ((ks.map fun (k : Nat) => PyData.int (k : Int)).length : Int) < 100000000000000000000) ∧ Pen M0 p ∧ ∀ (r : Int) (M1 : Mp), 0 ≤ r → r < ((ks.map fun (k : Nat) => PyData.int (k : Int)).length : Int) → Fr p M0 M1 →
    X4 (ks.map fun (k : Nat) => PyData.int (k : Int)) r fun d => Φ (.dat (.tuple [.str (Str.ofString "box"), d])) M1 := fun M0 f0 hne => by
   rw [List.length_map]
   have := List.length_pos_iff.mpr hne
   refine ⟨⟨by omega, by omega⟩, f0.1, fun r M1 r0 r1 f1 => ?_⟩
   obtain ⟨m, rfl⟩ := Int.eq_ofNat_of_zero_le r0
   have hm : m < ks.length := by omega
   obtain ⟨c, ec, ic⟩ := hks ks[m] (List.getElem_mem hm)
   refine JZ (d := .int (ks[m] : Int)) (Vy (by rw [List.getElem?_map, List.getElem?_eq_getElem hm]; rfl)) ?_
   exact h (.box (ks[m] : Int)) M1 (Gv ec (EE hb ic)) (Nat.succ_le_succ (Nat.zero_le _)) (f0.trans f1)
  suffices rest : ∀ M0, Fr p M' M0 → (ks = [] ∨ (f ≠ 0 ∧ ¬ (b.x = b.X ∧ b.y = b.Y))) → R { nx := fun _ M' => Φ (.dat .none) M', rt := Φ } [some (.own p), some (.dat (.tuple (bs.map bD))), some (.dat (bD b)), some (.dat (.int f)), some (.dat (.list (ks.map fun (k : Nat) => PyData.int (k : Int)))), none, none, none, some (.dat (.tuple [.int b.x, .int b.y])), some (.dat (.tuple [.int b.X, .int b.Y])), none, none, none, none] M0 by
   refine P4 ks ?_
   by_cases hne : ks = []
   ·rw [decide_eq_true hne, if_neg (by decide)]
    exact rest M' (Fr.refl hp) (.inl hne)
   ·rw [decide_eq_false hne, if_pos (by decide)]
    refine Zm (fun z => leaf M' (Fr.refl hp) hne) fun z => SF ?_
    by_cases he : b.x = b.X ∧ b.y = b.Y
    ·rw [decide_eq_true he, if_pos rfl]
     exact leaf M' (Fr.refl hp) hne
    ·rw [decide_eq_false he, if_neg (by decide)]
     exact ⟨hp, fun r M1 r0 r1 f1 => Zm (fun z => leaf M1 f1 hne) fun _ => rest M1 f1 (.inr ⟨z, he⟩)⟩
  intro M0 f0 cond
  have bnd : ∀ j : Nat, j < 2 → hiB b (j : Int) - loB b (j : Int) < 100000000000000000000 := fun j hj => by
   have ok := ZP.mp hb
   obtain ⟨c1, m1, e1⟩ := List.any_eq_true.mp (hc b.x b.y (by rw [Zs]; omega))
   obtain ⟨c2, m2, e2⟩ := List.any_eq_true.mp (hc b.X b.Y (by rw [Zs]; omega))
   rw [Zs] at e1 e2
   have g1 := hB c1 m1
   have g2 := hB c2 m2
   unfold Far at g1 g2
   have two : j = 0 ∨ j = 1 := by omega
   rcases two with rfl | rfl
   ·show b.X - b.x < _
    omega
   ·show b.Y - b.y < _
    omega
  walk_at "hd"
  walk_at "rk"
  intro q hq
  have n1 : p ≠ q := f0.1.ne hq
  have hMq : M' q = none := by
   cases e : M' q with
   | none => rfl
   | some o => have := f0.2 q (Ne.symm n1) (by rw [e]; exact Option.some_ne_none _); rw [hq, e] at this; cases this
  walk_at "hd"
  walk_at "rk"
  refine ⟨⟨by decide, by decide⟩, fun j Δ M2 => ∃ (k6 k10 : Option DV) (cs : List (Int × Int)), Δ = [some (.own p), some (.dat (.tuple (bs.map bD))), some (.dat (bD b)), some (.dat (.int f)), some (.dat (.list (ks.map fun (k : Nat) => PyData.int (k : Int)))), some (.own q), k6, none, some (.dat (.tuple [.int b.x, .int b.y])), some (.dat (.tuple [.int b.X, .int b.Y])), k10, none, none, none] ∧
   M2 q = some (.lst (cs.map prD)) ∧ Fr p M' M2 ∧ (∀ x ∈ cs, ZbH bs b f x) ∧ cs.length ≤ 7 * j ∧ ∀ i : Nat, i < j → ((∃ c ∈ bs, ZS b (i : Int) c = true) ∨ (0 < f ∧ loB b (i : Int) < hiB b (i : Int))) → cs ≠ [],
   ⟨none, none, [], rfl, ZH, ?_, fun x hx => (nomatch hx), Nat.le_refl _, fun i hi => absurd hi (Nat.not_lt_zero _)⟩, ?_, ?_⟩
  ·exact f0.new hMq (Ne.symm n1)
  ·rintro j Δ M2 hj ⟨k6, k10, cs, rfl, hq2, f2, hcs, hlen, hne⟩
   have two : (j : Int) = 0 ∨ (j : Int) = 1 := by omega
   rw [VO]
   walk_at "hd"
   walk_at "rk"
   refine ⟨by rw [List.length_map]; omega, fun i acc M3 => acc = ((bs.take i).map fun c => hiB c (j : Int)).map PyData.int ∧ M3 = M2, ⟨rfl, rfl⟩, ?_, ?_⟩
   ·rintro i d acc M3 hd ⟨rfl, rfl⟩
    obtain ⟨c, ec, rfl⟩ := ZY hd
    walk_at "rk"
    rw [ML hj, ← take_snoc _ ec, List.map_append]
    first | exact ⟨rfl, rfl⟩ | rfl
   rintro acc M3 ⟨rfl, rfl⟩
   rw [List.length_map, List.take_length]
   walk_at "hd"
   walk_at "rk"
   rw [hq2]
   walk_at "rk"
   refine ⟨by rw [List.length_map, List.length_map]; omega, fun i acc M4 => acc = (((bs.take i).filter (ZS b (j : Int))).map fun c => prD ((j : Int), hiB c (j : Int))) ∧ M4 = M3, ⟨rfl, rfl⟩, ?_, ?_⟩
   ·rintro i d acc M4 hd ⟨rfl, rfl⟩
    obtain ⟨v, ev, rfl⟩ := ZY hd
    obtain ⟨c, ec, rfl⟩ := ZY ev
    walk_at "rk"
    rw [RK hj]
    walk_at "rk"
    have flt := O0 (ZS b (j : Int)) ec
    unfold ZS at flt
    refine Zm (fun z => ?_) fun z => ?_
    ·rw [ML hj]
     walk_at "rk"
     refine Zm (fun z1 => ?_) fun z1 => ?_
     ·rw [decide_eq_true z, decide_eq_true z1] at flt
      unfold ZS
      rw [flt, if_pos (by decide), List.map_append]
      rfl
     ·rw [decide_eq_true z, decide_eq_false z1] at flt
      unfold ZS
      rw [flt, if_neg (by decide), List.append_nil]
    ·rw [decide_eq_false z, Bool.false_and] at flt
     unfold ZS
     rw [flt, if_neg (by decide), List.append_nil]
   ·rintro acc M4 ⟨rfl, rfl⟩
    rw [List.length_map, List.length_map, List.take_length]
    intro q3 hq3
    have n3 : q3 ≠ q := fun e => by rw [e, hq2] at hq3; cases hq3
    rw [Qh (Ne.symm n3), hq2]
    walk_at "rk"
    have f4 : Fr p M' M4 := f2
    have n4 : p ≠ q3 := f4.1.ne hq3
    have ecs : cs.map prD ++ ((bs.filter (ZS b (j : Int))).map fun c => prD ((j : Int), hiB c (j : Int))) = (cs ++ (bs.filter (ZS b (j : Int))).map fun c => ((j : Int), hiB c (j : Int))).map prD := by
     rw [List.map_append, List.map_map]
     rfl
    have hfl : (bs.filter (ZS b (j : Int))).length ≤ 6 := Nat.le_trans (List.length_filter_le _ _) h6
    have hcs' : ∀ x ∈ cs ++ (bs.filter (ZS b (j : Int))).map (fun c => ((j : Int), hiB c (j : Int))), ZbH bs b f x := fun x hx => by
     rcases List.mem_append.mp hx with hx | hx
     ·exact hcs x hx
     ·obtain ⟨c, mc, rfl⟩ := List.mem_map.mp hx
      obtain ⟨mc, ic⟩ := List.mem_filter.mp mc
      unfold ZS at ic
      have ic : loB b (j : Int) ≤ hiB c (j : Int) ∧ hiB c (j : Int) < hiB b (j : Int) := by simpa using ic
      exact ⟨two, ic.1, ic.2, .inl ⟨c, mc, rfl⟩⟩
    have hne' : ∀ i : Nat, i < j → ((∃ c ∈ bs, ZS b (i : Int) c = true) ∨ (0 < f ∧ loB b (i : Int) < hiB b (i : Int))) → cs ++ (bs.filter (ZS b (j : Int))).map (fun c => ((j : Int), hiB c (j : Int))) ≠ [] := fun i hi z e => hne i hi z (List.append_eq_nil_iff.mp e).1
    have hneJ : (∃ c ∈ bs, ZS b (j : Int) c = true) → cs ++ (bs.filter (ZS b (j : Int))).map (fun c => ((j : Int), hiB c (j : Int))) ≠ [] := fun ⟨c, mc, ic⟩ e => by
     have := List.map_eq_nil_iff.mp (List.append_eq_nil_iff.mp e).2
     have hm : c ∈ bs.filter (ZS b (j : Int)) := List.mem_filter.mpr ⟨mc, ic⟩
     rw [this] at hm
     cases hm
    rw [ecs]
    generalize hes : cs ++ (bs.filter (ZS b (j : Int))).map (fun c => ((j : Int), hiB c (j : Int))) = es at hcs' hne' hneJ ⊢
    have hel : es.length ≤ 7 * j + 6 := by rw [← hes, List.length_append, List.length_map]; omega
    clear hes ecs
    have M5q : ∀ o o' : OO, Ke (Z3 (Z3 M4 q3 o) q o') q3 q = some o' := fun o o' => by rw [UD (Ne.symm n3), ZH]
    have F5 : ∀ o o' : OO, Fr p M' (Ke (Z3 (Z3 M4 q3 o) q o') q3) := fun o o' => ⟨(((f4.1.put n4).put n1).del n4), fun a ha hn' => by
     have e1 := f4.2 a ha hn'
     have a1 : a ≠ q3 := fun e => by rw [← e] at hq3; rw [hq3] at e1; exact hn' e1.symm
     have a2 : a ≠ q := fun e => hn' (by rw [e]; exact hMq)
     rw [UD a1, Qh a2, Qh a1]
     exact e1⟩
    refine ⟨n3, by rw [List.length_map, List.length_map]; omega, ?_⟩
    subst_vars
    walk_at "rk"
    refine Zm (fun z => ?_) fun z => ?_
    ·rw [RK hj]
     walk_at "rk"
     rw [ML hj]
     walk_at "rk"
     refine Zm (fun z1 => ?_) fun z1 => ?_
     ·rw [M5q]
      walk_at "rk"
      simp only [RK hj, ML hj]
      walk_at "rk"
      refine ⟨⟨by omega, bnd j hj⟩, (F5 _ _).1, fun r M6 r0 r1 f6 => ?_⟩
      rw [f6.own (M5q _ _) (Ne.symm n1)]
      walk_at "rk"
      refine ⟨by rw [List.length_map]; omega, _, _, es ++ [((j : Int), loB b (j : Int) + r)], rfl, by rw [List.map_append]; rfl, ((F5 _ _).trans f6).new hMq (Ne.symm n1), fun x hx => ?_, by rw [List.length_append, List.length_singleton]; omega, fun i hi y e => by simp at e⟩
      rcases List.mem_append.mp hx with hx | hx
      ·exact hcs' x hx
      ·rw [List.mem_singleton.mp hx]
       exact ⟨two, by dsimp only; omega, by dsimp only; omega, .inr z⟩
     ·refine ⟨_, _, es, rfl, M5q _ _, F5 _ _, hcs', by omega, fun i hi y => ?_⟩
      by_cases e : i = j
      ·rw [e] at y
       rcases y with y | y
       ·exact hneJ y
       ·exact absurd y.2 z1
      ·exact hne' i (by omega) y
    ·refine ⟨_, _, es, rfl, M5q _ _, F5 _ _, hcs', by omega, fun i hi y => ?_⟩
     by_cases e : i = j
     ·rw [e] at y
      rcases y with y | y
      ·exact hneJ y
      ·exact absurd y.1 z
     ·exact hne' i (by omega) y
  ·rintro Δ M2 ⟨k6, k10, cs, rfl, hq2, f2, hcs, hlen, hne⟩
   have hcs0 : cs ≠ [] := by
    rcases cond with e | ⟨e1, e2⟩
    ·obtain ⟨c, mc, z⟩ := Za1 hb hc fun c mc => Bool.eq_false_iff.mpr fun z => by
      obtain ⟨j, hj, ej⟩ := List.mem_iff_getElem.mp mc
      exact hkc j c hj (by rw [← ej]; exact List.getElem?_eq_getElem hj) z e
     rcases z with z | z
     ·exact hne 0 (by decide) (.inl ⟨c, mc, z⟩)
     ·exact hne 1 (by decide) (.inl ⟨c, mc, z⟩)
    ·have ok := ZP.mp hb
     by_cases ex : b.x = b.X
     ·exact hne 1 (by decide) (.inr ⟨by omega, by show b.y < b.Y; omega⟩)
     ·exact hne 0 (by decide) (.inr ⟨by omega, by show b.x < b.X; omega⟩)
   have hpos := List.length_pos_iff.mpr hcs0
   walk_at "hd"
   walk_at "rk"
   rw [hq2]
   walk_at "rk"
   rw [List.length_map]
   refine ⟨⟨by omega, by omega⟩, f2.1, fun r M3 r0 r1 f3 => ?_⟩
   rw [f3.own hq2 (Ne.symm n1)]
   walk_at "rk"
   obtain ⟨m, rfl⟩ := Int.eq_ofNat_of_zero_le r0
   have hm : m < cs.length := by omega
   have ck := hcs cs[m] (List.getElem_mem hm)
   refine JZ (d := prD cs[m]) (Vy (by rw [List.getElem?_map, List.getElem?_eq_getElem hm]; rfl)) ?_
   generalize cs[m] = x at ck
   obtain ⟨i, a⟩ := x
   unfold prD
   walk_at "rk"
   have ok2 := EM hb ck.w ck.lo ck.hi
   have cv2 := hc.sub ck.w ck.lo ck.hi
   have ms : (max 0 (f - 1)).toNat + UU bs (upB b i a) < n ∧ (max 0 (f - 1)).toNat + UU bs (owB b i (a + 1)) < n := by
    rcases ck.by' with ⟨c, mc, ec⟩ | hpf
    ·have := LK (bs := bs) ck.w ck.lo ck.hi mc ec
     dsimp only at this
     omega
    ·have := SN (bs := bs) ck.w ck.lo ck.hi
     dsimp only at this
     omega
   walk_at "hd"
   walk_at "rk"
   refine ⟨ck.w, ?_⟩
   walk_at "rk"
   walk_at "hd"
   walk_at "rk"
   subst_vars
   walk_at "rk"
   refine ⟨⟨⟨by omega, by omega⟩, ⟨h6, hB, ok2.1, cv2.1⟩, ms.1⟩, f3.1, fun c1 M4 h1 d1 f4 => ⟨⟨⟨by omega, by omega⟩, ⟨h6, hB, ok2.2, cv2.2⟩, ms.2⟩, f4.1, fun c2 M5 h2 d2 f5 => ?_⟩⟩
   exact h (.cut i a c1 c2) M5 (Gx ck.w ck.lo ck.hi h1 h2) (by rw [Ub]; omega) ((f2.trans f3).trans (f4.trans f5))
theorem Ka (T : Tx K mg) : ZC P w K mg base CX0 1 T.Xd T.Xv ["_law_thing"] (lift K Tz) := by
 refine okD T.Qi.F Nb (fun xs M Φ h => by obtain ⟨_, rfl, _⟩ := Z6 h; rfl) fun cdv A outer s H E hr => ⟨_, (Zi (Zo (QK (Zj (V2 (EV _)) rfl T.ZV ZN (Za (Zb 0) (Za (Kr rfl T.EF GP) Zd))) (JX (CU (Zj (V2 (UN _)) rfl T.ZV ZN (Za (Zb 0) (Za (Kr rfl T.EU Cq) Zd)))))))), fun xs M Φ h => ?_⟩
 replace h := Z6 h
 obtain ⟨x1, rfl, h⟩ := h
 replace h := Q8 h
 obtain ⟨d, rfl, h⟩ := h
 walk_at "rk"
 cases d <;> simpa [ZX, tyN, ZW] using h
theorem Ug (T : Tx K mg) : ZC P w K mg base CX0 2 T.V9 T.V3 ["_law_shape", "_law_box_here", "_law_paper"] (lift K HW) := by
 have G_l_has : ZC P w K mg base CX0 1 T.K4 T.Kz ["_law_one", "_law_box_here"] (lift K GC) := W4 T
 have G_whole : ZC P w K mg base CX0 1 T.Xd T.Xv ["_law_thing"] (lift K Tz) := Ka T
 refine okD T.Va.F W9 (fun xs M Φ h => by obtain ⟨_, _, _, rfl, _⟩ := Z1 h; rfl) fun cdv A outer s H E hr => ⟨_, (Ze (Ql (DW.dt (Ya (ZE (W2 hr) (Zg (Zb 2) Zc) Q9) (Ya (Jn (QO (Zh G_whole (hr.mono (by first | decide | omega)) rfl T.Qi.m T.Qi.F.kp T.Qi.b Zr (Za (Zg (Zb 2) Zc) Zd)))) (Yv (Jn (X6 XZ Xo Zc (Zg (Zb 2) Zc) (Zj QD rfl T.JV Qs (Za (Zb 0) Zd)))))))) (Zi (Zo Js)) ZD)
 (Zi (Zo (Zh G_l_has (hr.mono (by first | decide | omega)) rfl T.Vi.m T.Vi.F.kp T.Vi.b Zr (Za (Zg (Zb 0) (Zg (Zb 2) Zc)) (Za (Zb 1) Zd)))))), fun xs M Φ h => ?_⟩
 replace h := Z1 h
 obtain ⟨x1, x2, x3, rfl, h⟩ := h
 replace h := Qd h
 obtain ⟨bs, rfl, h⟩ := h
 replace h := Z0 h
 obtain ⟨b, rfl, h⟩ := h
 replace h := WT h
 obtain ⟨ds, rfl, x, k, rfl, ⟨hl, hb⟩, h⟩ := h
 walk_at "hd"
 walk_at "rk"
 refine WU hl Yn ?_
 cases q : isS x (Str.ofString "box") with
 | false =>
  rw [q] at h
  walk_at "rk"
  simpa using h
 | true =>
  rw [q, Bool.true_and] at h
  walk_at "rk"
  cases k with
  | int k =>
   have el : K2 bs b (.int k) = (DR bs k && (match bs[k.toNat]? with | some c => allB c b | none => false)) := rfl
   rw [el] at h
   unfold ZW
   walk_at "rk"
   rw [List.length_map]
   unfold DR at h
   refine Zm (fun z0 => ?_) fun z0 => ?_
   ·by_cases z1 : k < bs.length
    ·rw [decide_eq_true z0, decide_eq_true z1] at h
     rw [decide_eq_true z1]
     subst_vars
     walk_at "rk"
     obtain ⟨c, ec⟩ : ∃ c, bs[k.toNat]? = some c := ⟨_, List.getElem?_eq_getElem (by omega)⟩
     rw [ec] at h
     obtain ⟨j, rfl⟩ := Int.eq_ofNat_of_zero_le z0
     refine JZ (d := bD c) (Vy (by rw [List.getElem?_map]; rw [Int.toNat_natCast] at ec; rw [ec]; rfl)) ?_
     walk_at "rk"
     rw [Zaf hb]
     simpa using h
    ·rw [decide_eq_false z1] at h
     rw [decide_eq_false z1]
     walk_at "rk"
     simpa using h
   ·rw [decide_eq_false z0] at h
    simpa using h
  | _ =>
   unfold ZW
   walk_at "rk"
   simpa [K2] using h
theorem Nd (T : Tx K mg) : ZC P w K mg base CX0 3 T.BB T.Co ["_law_shape", "_law_box_here", "_law_thing"] (lift K (La 26)) := by
 have G_parts : ZC P w K mg base CX0 1 T.Ui T.UQ ["_law_box_here", "_law_way", "_law_at"] (lift K WZ) := C8 T
 have G_leaf_holds : ZC P w K mg base CX0 2 T.V9 T.V3 ["_law_shape", "_law_box_here", "_law_paper"] (lift K HW) := Ug T
 have G_whole : ZC P w K mg base CX0 1 T.Xd T.Xv ["_law_thing"] (lift K Tz) := Ka T
 refine okD T.UB.F J3 (fun xs M Φ h => by obtain ⟨_, _, _, rfl, _⟩ := Z1 h; rfl) fun cdv A outer s H E hr => ⟨_, (Ze (Zn 3 J3.nd (Qz (Za (Zq (Za (Zb 1) (Za (Zb 2) Zd))) Zd)))
 (Ze (MP (ZE (NF hr) (Zb 3) (QZ Zd)) (Ze (J2 (Zcd (Zb 3)) (Jy (n := 2) rfl (Zw (Zk 4 J3.nd) (Zw (Zk 5 J3.nd) QA))))
 (Ze (Ql (DW.dt (Ya (Jn (QO (Zj (V2 (kit_tuple _)) rfl T.ZV ZN (Za (Zb 5) (Za (Kr rfl T.Jd QG) Zd))))) (Yv (ZE (CL hr) (Zj QD rfl T.JV Qs (Za (Zb 5) Zd)) (Zq (Za Zc (Za Zc Zd))))))) (Zi (Zo Js)) ZD)
 (Zi (Ql (ZE (Jf hr) (Zj QD rfl T.JV Qs (Za (Zb 5) Zd)) Zc) (Zi (Ql (Jn (QO (Zh G_leaf_holds (hr.mono (by first | decide | omega)) rfl T.Va.m T.Va.F.kp T.Va.b Zr (Za (Zb 0) (Za (Zb 4) (Za (Zb 5) Zd)))))) (Zi (Zo Js)) ZD)) (Ze (J2 (Hj (Zb 5) (LJ Zc) (LJ Zc)) (Jy (n := 2) rfl (Zw (Zk 7 J3.nd) (Zw (Zk 8 J3.nd) QA))))
 (Ze (Ql (DW.dt (Ya (ZE (W2 hr) (Zg (Zb 5) Zc) Q9) (Ya (Jn (QO (Zh G_whole (hr.mono (by first | decide | omega)) rfl T.Qi.m T.Qi.F.kp T.Qi.b Zr (Za (Zb 7) Zd)))) (Ya (Jn (QO (Zh G_whole (hr.mono (by first | decide | omega)) rfl T.Qi.m T.Qi.F.kp T.Qi.b Zr (Za (Zb 8) Zd)))) (Yv (ZE (CL hr) (Zb 7) (Zq (Za Zc (Za Zc Zd))))))))) (Zi (Zo Js)) ZD)
 (Ze (Ql (Jn (X6 XZ Xo (Zg (Zg (Zb 4) Zc) (Zb 7)) (Zb 8) (Zg (Zg (Zb 4) Zc) (Zb 7)))) (Zi (Zo Js)) ZD)
 (Ze (Zn 6 J3.nd (Zh G_parts (hr.mono (by first | decide | omega)) rfl T.YF.m T.YF.F.kp T.YF.b Zr (Za (Zb 4) (Za (Zb 7) (Za (Zb 8) Zd)))))
 (Zi (Zn 3 J3.nd (Zl Oe (Zb 3) (QZ (Za (Zq (Za (Zg (Zb 6) Zc) (Za (Zg (Zb 5) Zc) Zd))) (Za (Zq (Za (Zg (Zb 6) Zc) (Za (Zg (Zb 5) Zc) Zd))) Zd)))))))))))))) PassesOwn.never)
 (Zi (Zo Js)))), fun xs M Φ h => ?_⟩
 replace h := Z1 h
 obtain ⟨x1, x2, x3, rfl, h⟩ := h
 replace h := Qd h
 obtain ⟨bs, rfl, h⟩ := h
 replace h := Z0 h
 obtain ⟨b, rfl, h⟩ := h
 replace h := Q8 h
 obtain ⟨d, rfl, ⟨hp, hb, hn⟩, h⟩ := h
 walk_at "hd"
 walk_at "rk"
 intro q hq
 walk_at "hd"
 walk_at "rk"
 generalize hR : ZJ bs 26 b d = R at h
 refine ⟨Zdd bs b d M R, ⟨_, q, [(b, d)], _, _, _, _, _, rfl, ZH, hq, (Ext.refl M).new hq, ⟨⟨fun e he => ?_, ?_⟩, fun j e he => ?_⟩, rfl⟩, ?_⟩
 ·rw [List.mem_singleton.mp he]
  exact ⟨hb, hp⟩
 ·simp [hR]
 ·cases j with
  | zero => cases he; exact hp
  | succ j => cases he
 clear hR hp hb hn
 intro n Δ M1 hJ
 clear hq q
 obtain ⟨q, ws, x4, x5, x6, x7, x8, rfl, hM, hq, hE, ⟨hW, hD⟩, rfl⟩ := hJ
 walk_at "rk"
 rw [hM]
 walk_at "rk"
 rcases List.eq_nil_or_concat ws with rfl | ⟨ws, e, rfl⟩
 ·subst_vars
  walk_at "rk"
  simp only [List.isEmpty_nil, Bool.not_true, Bool.false_eq_true, if_false]
  have := hW.2
  simp only [List.all_nil] at this
  rw [← this] at h
  exact h _ hE
 ·rw [List.concat_eq_append] at hM hW hD ⊢
  have ne : (!(List.map wD (ws ++ [e])).isEmpty) = true := by simp
  rw [if_pos ne]
  refine ⟨ws.map wD, wD e, by rw [List.map_append]; rfl, ?_⟩
  obtain ⟨b', d'⟩ := e
  refine Zfx (x := bD b') (y := d') ?_
  have hl := hW.last.1
  have E1 : Ext M (Z3 M1 q (OO.lst (ws.map wD))) := hE.new hq
  cases d' with
  | tuple ds =>
   by_cases h2 : ds.length = 2
   ·obtain ⟨x, k, rfl⟩ := Gh h2
    have e : ZJ bs 26 b' (.tuple [x, k]) = (isS x (Str.ofString "box") && K2 bs b' k) := rfl
    walk_at "hd"
    walk_at "rk"
    refine ⟨rfl, ?_⟩
    subst_vars
    walk_at "rk"
    refine ⟨_, _, rfl, ⟨hl.2, hl.1⟩, ?_⟩
    rw [← e]
    cases hd : ZJ bs 26 b' (.tuple [x, k]) with
    | false =>
     rw [hW.no hd] at h
     walk_at "rk"
     exact h _ E1
    | true =>
     walk_at "rk"
     refine ⟨_, ?_, q, ws, _, _, _, _, _, rfl, ZH, hq, E1, ⟨hW.drop hd, hD.drop⟩, rfl⟩
     rw [Dh]
     exact Nat.lt_add_of_pos_right (size_pos _)
   ·by_cases h5 : ds.length = 5
    ·obtain ⟨x, i, a, p, q', rfl⟩ := K9 h5
     have e : ZJ bs 26 b' (.tuple [x, i, a, p, q']) = (isS x (Str.ofString "cut") && (Y3 b' i a && (ZJ bs 25 (upD b' i a) p && ZJ bs 25 (owD b' i a) q'))) := rfl
     walk_at "hd"
     walk_at "rk"
     refine ⟨rfl, ?_⟩
     subst_vars
     refine OU fun B hB => ?_
     walk_at "rk"
     subst hB
     walk_at "hd"
     walk_at "rk"
     refine ⟨by decide, ?_⟩
     rw [show DL.cutD [x, i, a, p, q'] (some 1) (some 3) = [i, a] from rfl]
     walk_at "rk"
     walk_at "hd"
     walk_at "rk"
     refine Th hl.2.1 Yn ?_
     cases hx : isS x (Str.ofString "cut") with
     | false =>
      rw [hx, Bool.false_and] at e
      rw [hW.no e] at h
      walk_at "rk"
      exact h _ E1
     | true =>
      walk_at "rk"
      rw [hx, Bool.true_and] at e
      cases i with
      | int i =>
       cases a with
       | int a =>
        have hc : Y3 b' (.int i) (.int a) = Xk b' i a := rfl
        rw [hc] at e
        have no : Xk b' i a = false → Φ (.dat (.bool false)) (Z3 M1 q (OO.lst (ws.map wD))) := fun z => by
         rw [z, Bool.false_and] at e
         rw [hW.no e] at h
         exact h _ E1
        unfold ZW
        walk_at "rk"
        refine ⟨rfl, ?_⟩
        by_cases hi : i = 0 ∨ i = 1
        ·rw [show (decide (0 = i) || decide (1 = i)) = true by simp; omega]
         walk_at "rk"
         walk_at "hd"
         walk_at "rk"
         refine JZ (d := .int (loB b' i)) (by rcases hi with rfl | rfl <;> rfl) ?_
         walk_at "rk"
         refine Zm (fun z0 => ?_) fun z0 => no (Bool.eq_false_iff.mpr fun y => z0 (QP.mp y).2.1)
         refine JZ (d := .int (hiB b' i)) (by rcases hi with rfl | rfl <;> rfl) ?_
         walk_at "rk"
         by_cases z1 : a < hiB b' i
         ·rw [decide_eq_true z1]
          have yes : Xk b' i a = true := QP.mpr ⟨hi, z0, z1⟩
          walk_at "rk"
          walk_at "hd"
          walk_at "rk"
          refine ⟨hi, ?_⟩
          subst_vars
          walk_at "rk"
          have hs := hW.split hx yes
          have hz := hD.split (b1 := upB b' i a) (b2 := owB b' i (a + 1))
          have hl2 := hD.len
          rw [List.length_append, List.length_singleton] at hl2
          refine ⟨by rw [List.length_map]; omega, fun r hr2 => ⟨_, HD _ _ _ _ _ _ _ _ _, r, _, _, _, _, _, _, rfl, ?_, E1.none hr2, E1.new (E1.none hr2), ⟨hs, hz⟩, rfl⟩⟩
          rw [ZH, List.map_append]
          rfl
         ·rw [decide_eq_false z1]
          walk_at "rk"
          exact no (Bool.eq_false_iff.mpr fun y => z1 (QP.mp y).2.2)
        ·rw [show (decide (0 = i) || decide (1 = i)) = false by simp; omega]
         walk_at "rk"
         refine no (Bool.eq_false_iff.mpr fun y => ?_)
         have := (QP.mp y).1
         omega
       | _ =>
        rw [hW.no (by rw [e]; rfl)] at h
        unfold ZW
        walk_at "rk"
        exact h _ E1
      | _ =>
       rw [hW.no (by rw [e]; rfl)] at h
       unfold ZW
       walk_at "rk"
       exact h _ E1
    ·have no := hW.no (Yb h2 h5)
     rw [no] at h
     walk_at "hd"
     walk_at "rk"
     refine ⟨rfl, ?_⟩
     rw [decide_eq_false (show ¬ (2 : Int) = ds.length by omega), decide_eq_false (show ¬ (5 : Int) = ds.length by omega)]
     exact h _ E1
  | _ =>
   have no := hW.no rfl
   rw [no] at h
   walk_at "hd"
   walk_at "rk"
   exact h _ E1
theorem Kj (T : Tx K mg) : ZC P w K mg base CX0 1 T.Yh T.Yj ["_law_spot_here", "_law_far"] (lift K Mc) := by
 refine okD T.Je.F Be (fun xs M Φ h => by obtain ⟨_, _, rfl, _⟩ := Zy h; rfl) fun cdv A outer s H E hr => ⟨_, (Zi (Zo (Zq (Za (Zq (Za (Zl ZG (Zg (Zb 0) Zc) (Zb 1)) (Za (Zl ZG (Zg (Zb 0) Zc) (Zb 1)) Zd))) (Za (Zq (Za (Zl ZA (Zg (Zb 0) Zc) (Zb 1)) (Za (Zl ZA (Zg (Zb 0) Zc) (Zb 1)) Zd))) Zd))))), fun xs M Φ h => ?_⟩
 replace h := Zy h
 obtain ⟨x1, x2, rfl, h⟩ := h
 replace h := Qr h
 obtain ⟨u, v, rfl, h⟩ := h
 replace h := ZM h
 obtain ⟨n, rfl, h⟩ := h
 walk_at "rk"
 exact h
theorem DF (T : Tx K mg) : ZC P w K mg base CX0 2 T.K7 T.K6 ["_law_thing"] (lift K Tc) := by
 have G_whole : ZC P w K mg base CX0 1 T.Xd T.Xv ["_law_thing"] (lift K Tz) := Ka T
 refine okD T.YS.F Dp (fun xs M Φ h => by obtain ⟨_, rfl, _⟩ := Z6 h; rfl) fun cdv A outer s H E hr => ⟨_, (Zi (Zo (QK (Zj (V2 (kit_tuple _)) rfl T.ZV ZN (Za (Zb 0) (Za (Kr rfl T.Jd QG) Zd))) (QK (J4 (Jf hr) (Zj QD rfl T.JV Qs (Za (Zb 0) Zd)) Zc) (QK (Zh G_whole (hr.mono (by first | decide | omega)) rfl T.Qi.m T.Qi.F.kp T.Qi.b Zr (Za (Zg (Zb 0) Zc) Zd)) (JX (Zh G_whole (hr.mono (by first | decide | omega)) rfl T.Qi.m T.Qi.F.kp T.Qi.b Zr (Za (Zg (Zb 0) Zc) Zd)))))))), fun xs M Φ h => ?_⟩
 replace h := Z6 h
 obtain ⟨x1, rfl, h⟩ := h
 replace h := Qr h
 obtain ⟨u, v, rfl, h⟩ := h
 walk_at "rk"
 unfold ZW
 walk_at "rk"
 exact h
theorem NZ (T : Tx K mg) : ZC P w K mg base CX0 4 T.Bx T.BK ["_law_shape", "_law_sides", "_law_spot_here", "_law_paper"] (lift K BP) := by
 have G_holds : ZC P w K mg base CX0 3 T.BB T.Co ["_law_shape", "_law_box_here", "_law_thing"] (lift K (La 26)) := Nd T
 have G_whole : ZC P w K mg base CX0 1 T.Xd T.Xv ["_law_thing"] (lift K Tz) := Ka T
 have G_is_spot : ZC P w K mg base CX0 2 T.K7 T.K6 ["_law_thing"] (lift K Tc) := DF T
 have G_l_square : ZC P w K mg base CX0 1 T.Yh T.Yj ["_law_spot_here", "_law_far"] (lift K Mc) := Kj T
 have G_l_has : ZC P w K mg base CX0 1 T.K4 T.Kz ["_law_one", "_law_box_here"] (lift K GC) := W4 T
 refine okD T.YI.F YZ (fun xs M Φ h => by obtain ⟨_, _, _, _, rfl, _⟩ := Kl h; rfl) fun cdv A outer s H E hr => ⟨_, (Ze (J2 (Zb 1) (Jy (n := 2) rfl (Zw (Zk 6 YZ.nd) (Zw (Zk 7 YZ.nd) QA))))
 (Ze (Zn 4 YZ.nd (Zj (Km rfl) rfl T.Yt Jv (Za (QL false (ZL (sc := Zf V0) (XN := ["_law_shape", "_law_sides", "_law_spot_here", "_law_paper", "_law_least", "_law_other", "_law_inside", "_law_others_here"]) (N := ["_law_cell", "_law_gap_here"]) (ix := [none, none]) rfl rfl (by decide +kernel)) (Vf (Zb 7)) (fun C ex s H => (Jy (n := 2) rfl (Zw (Zk 0 (show List.Nodup (["_law_cell", "_law_gap_here"] : List Str) by decide +kernel)) (Zw (Zk 1 (show List.Nodup (["_law_cell", "_law_gap_here"] : List Str) by decide +kernel)) QA)))) (fun C ex s H => Q4) (fun C ex s H => (Zb 1)) rfl) Zd)))
 (Ze (Ql (DW.dt (Ya (Jn (QO (Zj (V2 (kit_tuple _)) rfl T.ZV ZN (Za (Zb 3) (Za (Kr rfl T.Jd QG) Zd))))) (Ya (ZE (W2 hr) (Zj QD rfl T.JV Qs (Za (Zb 3) Zd)) (Zl ZA Zc (Qw Ho rfl T.EF GP (Za (Zb 6) Zd)))) (Yv (ZE (W2 hr) (Zg (Zb 3) Zc) (Zg (QZ (Za Q9 (Za Q9 Zd))) (Qw Ho rfl T.EF GP (Za (Zb 6) Zd)))))))) (Zi (Zo Js)) ZD)
 (Ze (Ql (DW.dt (Ya (Jn (QO (Zh G_whole (hr.mono (by first | decide | omega)) rfl T.Qi.m T.Qi.F.kp T.Qi.b Zr (Za (Zg (Zb 3) Zc) Zd)))) (Ya (ZE (W2 hr) (Zg (Zb 3) Zc) (Zb 4)) (Yv (Jn (QO (Zh G_is_spot (hr.mono (by first | decide | omega)) rfl T.YS.m T.YS.F.kp T.YS.b Zr (Za (Zg (Zb 3) Zc) Zd)))))))) (Zi (Zo Js)) ZD)
 (Ze (Zn 5 YZ.nd (Zg (Zb 3) Zc))
 (Ze (Ql (ZE (W2 hr) (Zj (JY rfl) rfl T.YE JW (Za (Zj WH rfl T.Dv WR (Za (Zl ZG (Zg (Zb 5) Zc) (Zg (Zb 2) Zc)) Zd)) (Za (Zj WH rfl T.Dv WR (Za (Zl ZG (Zg (Zb 5) Zc) (Zg (Zb 2) Zc)) Zd)) Zd))) (Zb 4)) (Zi (Zo Js)) ZD)
 (Ze (Ql (ZE (Jf hr) (J4 (ZdS hr) Js (QL false (ZL (sc := Zf V0) (XN := ["_law_shape", "_law_sides", "_law_spot_here", "_law_paper", "_law_least", "_law_other", "_law_inside", "_law_others_here"]) (N := ["_law_box_here", "_law_other"]) (ix := [none, some 5]) rfl rfl (by decide +kernel)) (XR (Zb 0)) (fun C ex s H => (Zk 0 (show List.Nodup (["_law_box_here", "_law_other"] : List Str) by decide +kernel))) (fun C ex s H => Q4) (fun C ex s H => (Zh G_l_has (hr.mono (by first | decide | omega)) rfl T.Vi.m T.Vi.F.kp T.Vi.b Zr (Za (Zb 0) (Za (Zq (Za (Zb 1) (Za (Zb 1) Zd))) Zd)))) rfl)) (Zb 6)) (Zi (Zo Js)) ZD)
 (Zi (Zo (ZdY (CU (Zb 6)) (JX (Zh G_holds (hr.mono (by first | decide | omega)) rfl T.UB.m T.UB.F.kp T.UB.b Zr (Za (Zb 0) (Za (Zh G_l_square (hr.mono (by first | decide | omega)) rfl T.Je.m T.Je.F.kp T.Je.b Zr (Za (Zb 2) (Za (Zl ZG (Zb 4) Zc) Zd))) (Za (Zg (Zb 3) Zc) Zd))))))))))))))), fun xs M Φ h => ?_⟩
 replace h := Kl h
 obtain ⟨x1, x2, x3, x4, rfl, h⟩ := h
 replace h := Qr h
 obtain ⟨u, v, rfl, p, rfl, hp, bs, t, ox, oy, cs, rfl, rfl, hS, h⟩ := h
 unfold sdD
 walk_at "hd"
 walk_at "rk"
 walk_at "hd"
 walk_at "rk"
 refine ⟨by rw [List.length_map]; have := hS.2.2; omega, fun i acc M' => acc = ((cs.take i).map fun c => ZI (Qf t ox oy c.1 c.2) u v).map PyData.int ∧ M' = M, ⟨rfl, rfl⟩, ?_, ?_⟩
 ·rintro i d acc M' hd ⟨rfl, rfl⟩
  obtain ⟨c, ec, rfl⟩ := ZY hd
  show Hs 2 _ (.dat (.tuple [.tuple [.int c.1, .int c.2], .int (ZI (Qf t ox oy c.1 c.2) u v)])) _ _ _
  walk_at "rk"
  rw [← take_snoc _ ec, List.map_append]
  rfl
 rintro acc M' ⟨rfl, rfl⟩
 rw [List.length_map, List.take_length]
 refine ⟨_, .inl rfl, by rw [List.length_map]; exact hS.pos, fun m hm hn => ?_⟩
 have kd := hS.least hm hn
 have ht := hS.1.1.1.1
 have shp : Shp (bs.map (Jt t ox oy)) := by
  have hg := hS.1.2
  refine ⟨by rw [List.length_map]; exact hg.1, by rw [List.length_map]; exact hg.2.1, fun c hc => ?_⟩
  obtain ⟨b, hb, rfl⟩ := List.mem_map.mp hc
  exact strOk ht (hg.2.2 b hb).1
 have eS : anyB bs ((u - ox) / t) ((v - oy) / t) = anyB (bs.map (Jt t ox oy)) u v := (Jm ht _ _ _).symm
 rw [eS]
 clear eS hm hn hS
 generalize cs.map (PD t ox oy u v) = rs
 generalize bs.map (Jt t ox oy) = cs' at *
 have no : ¬ Rgt cs' u v p → Φ (.dat (.bool false)) M' := fun z => h false M' (Ext.refl _) ⟨fun y => (by cases y), fun y => absurd y z⟩
 cases p with
 | inn n a b c =>
  unfold ppD
  cases qS : anyB cs' u v with
  | false =>
   walk_at "hd"
   walk_at "rk"
   exact no fun z => by have y := z.2.2.1; rw [qS] at y; cases y
  | true =>
   rw [qS, if_pos rfl] at kd
   walk_at "hd"
   walk_at "rk"
   walk_at "hd"
   walk_at "rk"
   rw [show ZW (.int n) = true from rfl, if_neg (by decide)]
   by_cases e : n = m
   ·subst e
    rw [decide_eq_true rfl, if_neg (by decide)]
    walk_at "hd"
    walk_at "rk"
    walk_at "hd"
    walk_at "rk"
    rw [show max (if a - u < 0 then -(a - u) else a - u) (if b - v < 0 then -(b - v) else b - v) = Qn u v a b from Yd a b u v]
    by_cases e2 : Qn u v a b = n
    ·rw [decide_eq_true e2, if_neg (by decide)]
     walk_at "hd"
     walk_at "rk"
     refine ⟨by rw [List.length_map]; have := shp.2.1; omega, fun i acc M2 => acc = ((cs'.take i).map fun c => hasB c a b).map PyData.bool ∧ M2 = M', ⟨rfl, rfl⟩, ?_, ?_⟩
     ·rintro i d acc M2 hd ⟨rfl, rfl⟩
      obtain ⟨x, ex, rfl⟩ := ZY hd
      walk_at "rk"
      rw [ZbU, ← take_snoc _ ex, List.map_append]
      rfl
     rintro acc M2 ⟨rfl, rfl⟩
     rw [List.length_map, List.take_length]
     refine ⟨(Kc _).1, ?_⟩
     rw [(Kc _).2, List.any_map, show (cs'.any (id ∘ fun c => hasB c a b)) = anyB cs' a b from rfl]
     cases qa : anyB cs' a b with
     | true =>
      rw [if_pos (by decide)]
      exact no fun z => by have y := z.2.1.1; rw [qa] at y; cases y
     | false =>
      rw [if_neg (by decide)]
      subst_vars
      walk_at "rk"
      have pos := kd.pos qS
      refine ⟨⟨C7 (Nat.le_succ_of_le hp), ?_⟩, fun M3 e3 => ?_⟩
      ·rw [ZP]
       unfold QM
       dsimp only
       omega
      ·rw [Kb (Nat.le_succ_of_le hp)]
       exact h _ M3 e3 ⟨fun z => ⟨kd, ⟨qa, rfl⟩, qS, z⟩, fun z => z.2.2.2⟩
    ·rw [decide_eq_false e2, if_pos (by decide)]
     exact no fun z => e2 z.2.1.2
   ·rw [decide_eq_false e, if_pos (by decide)]
    exact no fun z => e (z.1.eq kd)
 | out n a b =>
  unfold ppD
  cases qS : anyB cs' u v with
  | true =>
   walk_at "hd"
   walk_at "rk"
   exact no fun z => by have y := z.2.2; rw [qS] at y; cases y
  | false =>
   rw [qS, if_neg Bool.false_ne_true] at kd
   walk_at "hd"
   walk_at "rk"
   walk_at "hd"
   walk_at "rk"
   rw [show ZW (.int n) = true from rfl, if_neg (by decide)]
   by_cases e : n = m
   ·subst e
    rw [decide_eq_true rfl, if_neg (by decide)]
    walk_at "hd"
    walk_at "rk"
    walk_at "hd"
    walk_at "rk"
    rw [show max (if a - u < 0 then -(a - u) else a - u) (if b - v < 0 then -(b - v) else b - v) = Qn u v a b from Yd a b u v]
    by_cases e2 : Qn u v a b = n
    ·rw [decide_eq_true e2, if_neg (by decide)]
     walk_at "hd"
     walk_at "rk"
     refine ⟨by rw [List.length_map]; have := shp.2.1; omega, fun i acc M2 => acc = ((cs'.take i).map fun c => hasB c a b).map PyData.bool ∧ M2 = M', ⟨rfl, rfl⟩, ?_, ?_⟩
     ·rintro i d acc M2 hd ⟨rfl, rfl⟩
      obtain ⟨x, ex, rfl⟩ := ZY hd
      walk_at "rk"
      rw [ZbU, ← take_snoc _ ex, List.map_append]
      rfl
     rintro acc M2 ⟨rfl, rfl⟩
     rw [List.length_map, List.take_length]
     refine ⟨(Kc _).1, ?_⟩
     rw [(Kc _).2, List.any_map, show (cs'.any (id ∘ fun c => hasB c a b)) = anyB cs' a b from rfl]
     cases qa : anyB cs' a b with
     | false =>
      rw [if_pos (by decide)]
      exact no fun z => by have y := z.2.1.1; rw [qa] at y; cases y
     | true =>
      rw [if_neg (by decide)]
      subst_vars
      walk_at "rk"
      exact h _ _ (Ext.refl _) ⟨fun _ => ⟨kd, ⟨qa, rfl⟩, qS⟩, fun _ => rfl⟩
    ·rw [decide_eq_false e2, if_pos (by decide)]
     exact no fun z => e2 z.2.1.2
   ·rw [decide_eq_false e, if_pos (by decide)]
    exact no fun z => e (by have := z.1.eq kd; omega)
theorem Ds (T : Tx K mg) : ZC P w K mg base CX0 20 T.Wb T.K1 ["_law_pen_here", "_law_shape", "_law_sides", "_law_frame_here", "_law_spot_here"] (lift K Kx) := by
 have G_any_cover : ZC P w K mg base CX0 19 T.J0 T.JS ["_law_pen_here", "_law_shape", "_law_box_here", "_law_free"] (lift K (Dr 17)) := GX T 17
 have G_draw : ZC P w K mg base CX0 1 T.YJ T.YU ["_law_pen_here", "_law_many"] (lift K Y2) := YD T
 have G_l_square : ZC P w K mg base CX0 1 T.Yh T.Yj ["_law_spot_here", "_law_far"] (lift K Mc) := Kj T
 refine okD T.Y0.F Qb (fun xs M Φ h => by obtain ⟨_, _, _, _, _, rfl, _⟩ := PV h; rfl) fun cdv A outer s H E hr => ⟨_, (Ze (J2 (Zb 2) (Jy (n := 2) rfl (Zw (Zk 11 Qb.nd) (Zw (Zk 12 Qb.nd) QA))))
 (Ze (Zn 5 Qb.nd (Zj (Km rfl) rfl T.Yt Jv (Za (QL false (ZL (sc := Zf Jp) (XN := ["_law_pen_here", "_law_shape", "_law_sides", "_law_frame_here", "_law_spot_here", "_law_least", "_law_near", "_law_cell", "_law_other", "_law_way", "_law_paper", "_law_inside", "_law_others_here", "_law_low", "_law_ends"]) (N := ["_law_cell", "_law_gap_here"]) (ix := [none, none]) rfl rfl (by decide +kernel)) (Vf (Zb 12)) (fun C ex s H => (Jy (n := 2) rfl (Zw (Zk 0 (show List.Nodup (["_law_cell", "_law_gap_here"] : List Str) by decide +kernel)) (Zw (Zk 1 (show List.Nodup (["_law_cell", "_law_gap_here"] : List Str) by decide +kernel)) QA)))) (fun C ex s H => Q4) (fun C ex s H => (Zb 1)) rfl) Zd)))
 (Ze (UR 6 false Qb.nd (ZL (sc := Zf Jp) (XN := ["_law_pen_here", "_law_shape", "_law_sides", "_law_frame_here", "_law_spot_here", "_law_least", "_law_near", "_law_cell", "_law_other", "_law_way", "_law_paper", "_law_inside", "_law_others_here", "_law_low", "_law_ends"]) (N := ["_law_cell", "_law_gap_here", "_law_least"]) (ix := [none, none, some 5]) rfl rfl (by decide +kernel)) (Vf (Zb 12)) (fun C ex s H => (Jy (n := 2) rfl (Zw (Zk 0 (show List.Nodup (["_law_cell", "_law_gap_here", "_law_least"] : List Str) by decide +kernel)) (Zw (Zk 1 (show List.Nodup (["_law_cell", "_law_gap_here", "_law_least"] : List Str) by decide +kernel)) QA)))) (fun C ex s H => (XE (ZE (Jf hr) (Zb 1) (Zb 2)))) (fun C ex s H => (Zb 0)) rfl)
 (Ze (Zn 7 Qb.nd (Zg (Zb 6) (Zh G_draw (hr.mono (by first | decide | omega)) rfl T.Zp.m T.Zp.F.kp T.Zp.b Zr (Za (Zb 0) (Za (Zj QD rfl T.JV Qs (Za (Zb 6) Zd)) Zd)))))
 (Ze (Zn 8 Qb.nd (Qz Zd))
 (Ze (Jl rfl T.QV (Za Zc Zd) (Zk 9 Qb.nd) (Ze (Zn 13 Qb.nd (Zl ZA (Zl JA (Zg (Zb 7) (Zb 9)) (Zg (Zb 3) Zc)) (Zg (Zb 3) (Zl ZA Zc (Zb 9)))))
 (Ze (Zn 14 Qb.nd (QZ (Za (Zj (JY rfl) rfl T.YE JW (Za (Zb 13) (Za (Zl ZG (Zg (Zb 4) (Zb 9)) (Zb 5)) Zd))) (Za (Zj (VD rfl) rfl T.Yt Jv (Za (Zl ZG (Zl ZA (Zb 13) (Zg (Zb 3) Zc)) Zc) (Za (Zl ZA (Zg (Zb 4) (Zb 9)) (Zb 5)) Zd))) Zd))))
 (Zi (Jb (QN (Zb 8) (Zg (Zb 14) (Zh G_draw (hr.mono (by first | decide | omega)) rfl T.Zp.m T.Zp.F.kp T.Zp.b Zr (Za (Zb 0) (Za Zc Zd))))))))) PassesOwn.never rfl)
 (Ze (Ql (Jn (QO (Zb 11))) (Zi (Zo (Zq (Za Q9 (Za (Zb 5) (Za (Qw Jh rfl T.Jd QG (Za (Zb 8) Zd)) Zd)))))) ZD)
 (Ze (Zn 10 Qb.nd (Zh G_any_cover (hr.mono (by first | decide | omega)) rfl T.Z5.m T.Z5.F.kp T.Z5.b Zr (Za (Zb 0) (Za (Zb 1) (Za (Zh G_l_square (hr.mono (by first | decide | omega)) rfl T.Je.m T.Je.F.kp T.Je.b Zr (Za (Zb 4) (Za (Zl ZG (Zb 5) Zc) Zd))) (Za (Zh G_draw (hr.mono (by first | decide | omega)) rfl T.Zp.m T.Zp.F.kp T.Zp.b Zr (Za (Zb 0) (Za Zc Zd))) Zd))))))
 (Zi (Zo (Zq (Za Q9 (Za (Zb 5) (Za (Qw Jh rfl T.Jd QG (Za (Zb 8) Zd)) (Za (Zb 10) Zd))))))))))))))), fun xs M Φ h => ?_⟩
 replace h := PV h
 obtain ⟨x1, x2, x3, x4, x5, rfl, h⟩ := h
 replace h := Q7 h
 obtain ⟨q, rfl, h⟩ := h
 replace h := Qr h
 obtain ⟨u, v, rfl, bs, t, ox, oy, cs, rfl, rfl, rfl, hS, hP, h⟩ := h
 unfold sdD
 walk_at "hd"
 walk_at "rk"
 walk_at "hd"
 walk_at "rk"
 refine ⟨by rw [List.length_map]; have := hS.2.2; omega, fun i acc M' => acc = ((cs.take i).map fun c => ZI (Qf t ox oy c.1 c.2) u v).map PyData.int ∧ M' = M, ⟨rfl, rfl⟩, ?_, ?_⟩
 ·rintro i d acc M' hd ⟨rfl, rfl⟩
  obtain ⟨c, ec, rfl⟩ := ZY hd
  show Hs 2 _ (.dat (.tuple [.tuple [.int c.1, .int c.2], .int (ZI (Qf t ox oy c.1 c.2) u v)])) _ _ _
  walk_at "rk"
  rw [← take_snoc _ ec, List.map_append]
  rfl
 rintro acc M' ⟨rfl, rfl⟩
 rw [List.length_map, List.take_length]
 refine ⟨_, .inl rfl, by rw [List.length_map]; exact hS.pos, fun m hm hn => ?_⟩
 have kd := hS.least hm hn
 have ht := hS.1.1.1.1
 walk_at "hd"
 walk_at "rk"
 refine ⟨by rw [List.length_map]; have := hS.2.2; omega, fun i acc M2 => acc = ((cs.take i).filter fun c => decide (ZI (Qf t ox oy c.1 c.2) u v = m)).map prD ∧ M2 = M', ⟨rfl, rfl⟩, ?_, ?_⟩
 ·rintro i d acc M2 hd ⟨rfl, rfl⟩
  obtain ⟨c, ec, rfl⟩ := ZY hd
  show Hs 2 _ (.dat (.tuple [.tuple [.int c.1, .int c.2], .int (ZI (Qf t ox oy c.1 c.2) u v)])) _ _ _
  walk_at "rk"
  rw [Vz _ ec]
  refine Zm (fun z => ?_) fun z => ?_
  ·rw [if_pos (decide_eq_true z), List.map_append]
   rfl
  ·rw [if_neg (by rw [decide_eq_true_eq]; exact z), List.append_nil]
 rintro acc M2 ⟨rfl, rfl⟩
 rw [List.length_map, List.take_length]
 have hne : 0 < (cs.filter fun c => decide (ZI (Qf t ox oy c.1 c.2) u v = m)).length := by
  obtain ⟨c, mc, e⟩ := List.mem_map.mp hm
  exact List.length_pos_iff.mpr (List.ne_nil_of_mem (List.mem_filter.mpr ⟨mc, decide_eq_true e⟩))
 have hle := List.length_filter_le (fun c : Int × Int => decide (ZI (Qf t ox oy c.1 c.2) u v = m)) cs
 have h196 := hS.2.2
 have hmem : ∀ c ∈ cs.filter (fun c => decide (ZI (Qf t ox oy c.1 c.2) u v = m)), c ∈ cs ∧ ZI (Qf t ox oy c.1 c.2) u v = m := fun c hc => ⟨(List.mem_filter.mp hc).1, of_decide_eq_true (List.mem_filter.mp hc).2⟩
 generalize cs.filter (fun c => decide (ZI (Qf t ox oy c.1 c.2) u v = m)) = nr at *
 walk_at "hd"
 walk_at "rk"
 rw [List.length_map]
 refine ⟨⟨by omega, by omega⟩, hP, fun r M3 r0 r1 f3 => ?_⟩
 obtain ⟨k, rfl⟩ := Int.eq_ofNat_of_zero_le r0
 have hk : k < nr.length := by omega
 obtain ⟨mc, ed⟩ := hmem _ (List.getElem_mem hk)
 refine JZ (d := prD nr[k]) (Vy (by rw [List.getElem?_map, List.getElem?_eq_getElem hk]; rfl)) ?_
 generalize nr[k] = c at mc ed
 obtain ⟨i, j⟩ := c
 have ij := (hS.2.1 i j).mp mc
 have hg := hS.1.2
 have hf := hS.1.1
 have key : ∀ x y : Int, (x = max (i * t + ox) (u - m) ∨ x = min (i * t + ox + t - 1) (u + m)) → (y = max (j * t + oy) (v - m) ∨ y = min (j * t + oy + t - 1) (v + m)) → anyB (bs.map (Jt t ox oy)) x y ≠ anyB (bs.map (Jt t ox oy)) u v ∧ Qn u v x y = m := fun x y hx hy => by
  obtain ⟨k1, k2⟩ := ZdU ht ed hx hy
  obtain ⟨e1, e2⟩ := (VF ht).mp k1
  refine ⟨?_, k2⟩
  rw [Jm ht, Jm ht, e1, e2]
  exact ij.2
 clear ed
 unfold prD
 walk_at "hd"
 walk_at "rk"
 intro p hp
 have n1 : q ≠ p := f3.1.ne hp
 have hMp : M2 p = none := by
  cases e : M2 p with
  | none => rfl
  | some o => have := f3.2 p (Ne.symm n1) (by rw [e]; exact Option.some_ne_none _); rw [hp, e] at this; cases this
 walk_at "hd"
 walk_at "rk"
 refine ⟨⟨by decide, by decide⟩, Hv ?_⟩
 walk_at "rk"
 refine ⟨.inl (by omega), f3.1.put n1, fun r1 M4 a1 b1 f4 => tab (l := [max (i * t + ox) (u - m), min (i * t + ox + t - 1) (u + m)]) (fun x => x = max (i * t + ox) (u - m) ∨ x = min (i * t + ox + t - 1) (u + m)) a1 (by simp only [List.length_cons, List.length_nil]; omega) (fun w hw => by simpa using hw) fun x hx => ?_⟩
 have g4 : M4 p = some (.lst []) := f4.own ZH (Ne.symm n1)
 rw [g4]
 walk_at "rk"
 refine ⟨.inl (by omega), f4.1.put n1, fun r2 M5 a2 b2 f5 => tab (l := [max (j * t + oy) (v - m), min (j * t + oy + t - 1) (v + m)]) (fun y => y = max (j * t + oy) (v - m) ∨ y = min (j * t + oy + t - 1) (v + m)) a2 (by simp only [List.length_cons, List.length_nil]; omega) (fun w hw => by simpa using hw) fun y hy => ?_⟩
 have g5 : M5 p = some (.lst [.int x]) := f5.own ZH (Ne.symm n1)
 rw [g5]
 walk_at "rk"
 obtain ⟨ky, kc⟩ := key x y hx hy
 clear key hx hy
 have F4 : Fr q M2 M4 := (f3.new hMp (Ne.symm n1)).trans f4
 have F5 : Fr q M2 M5 := (F4.new hMp (Ne.symm n1)).trans f5
 have F6 : ∀ o, Fr q M2 (Z3 M5 p o) := fun o => F5.new hMp (Ne.symm n1)
 rw [show anyB bs ((u - ox) / t) ((v - oy) / t) = anyB (bs.map (Jt t ox oy)) u v from (Jm ht _ _ _).symm]
 walk_at "hd"
 walk_at "rk"
 cases qS : anyB (bs.map (Jt t ox oy)) u v with
 | false =>
  rw [qS, if_neg Bool.false_ne_true] at kd
  rw [qS] at ky
  walk_at "rk"
  exact h (.out _ x y) _ trivial ⟨kd, ⟨Bool.of_not_eq_false ky, rfl⟩, qS⟩ (F6 _)
 | true =>
  rw [qS, if_pos rfl] at kd
  rw [qS] at ky
  walk_at "rk"
  walk_at "hd"
  walk_at "rk"
  have pos := kd.pos qS
  have cv := HJ kd pos
  have l6 : (bs.map (Jt t ox oy)).length ≤ 6 := by rw [List.length_map]; exact hg.2.1
  have cn := Pw (bs.map (Jt t ox oy)) (QM u v (Qn u v x y - 1))
  have hB : ∀ c ∈ bs.map (Jt t ox oy), Far c := fun c hc => by
   have := Bl hf hg hc
   have hf' := hf
   unfold Frm at hf'
   unfold Far
   omega
  refine ⟨(F6 _).1, fun r3 M6 a3 b3 f6 => ⟨⟨⟨by omega, by omega⟩, ⟨l6, hB, ?_, cv⟩, by omega⟩, f6.1, fun c M7 hc dc f7 => ?_⟩⟩
  ·rw [ZP]
   unfold QM
   dsimp only
   omega
  ·have g7 : M7 p = some (.lst [.int x, .int y]) := (f6.trans f7).own ZH (Ne.symm n1)
   subst_vars
   walk_at "rk"
   rw [g7]
   walk_at "rk"
   exact h (.inn _ x y c) _ (Nat.le_trans dc (by decide)) ⟨kd, ⟨Bool.eq_false_iff.mpr ky, rfl⟩, qS, hc⟩ (((F6 _).trans f6).trans f7)
theorem Wr (T : Tx K mg) : ZC P w K mg base CX0 34 T.VH T.VG ["_law_pen_here", "_law_shape", "_law_cells_here", "_law_frame_here"] (lift K Zdm) := by
 have G_spot : ZC P w K mg base CX0 2 T.HL T.Fu ["_law_pen_here", "_law_frame_here"] (lift K LM) := Ta T
 have G_others : ZC P w K mg base CX0 2 T.UA T.W6 ["_law_cells_here", "_law_frame_here", "_law_spot_here"] (lift K UE) := Fd T
 have G_shown : ZC P w K mg base CX0 33 T.B1 T.B9 ["shape", "spot"] (lift K G7) := OD T
 have G_another : ZC P w K mg base CX0 20 T.Wb T.K1 ["_law_pen_here", "_law_shape", "_law_sides", "_law_frame_here", "_law_spot_here"] (lift K Kx) := Ds T
 have G_shows_depth : ZC P w K mg base CX0 32 T.VJ T.Vt ["shape", "spot", "thing"] (lift K Bc) := Wl T
 have G_right : ZC P w K mg base CX0 4 T.Bx T.BK ["_law_shape", "_law_sides", "_law_spot_here", "_law_paper"] (lift K BP) := NZ T
 refine okD T.JD.F ZU (fun xs M Φ h => by obtain ⟨_, _, _, _, rfl, _⟩ := Kl h; rfl) fun cdv A outer s H E hr => ⟨_, (Ze (Zn 4 ZU.nd (Zh G_spot (hr.mono (by first | decide | omega)) rfl T.Cr.m T.Cr.F.kp T.Cr.b Zr (Za (Zb 0) (Za (Zb 3) Zd))))
 (Ze (Zn 5 ZU.nd (Zh G_others (hr.mono (by first | decide | omega)) rfl T.Vv.m T.Vv.F.kp T.Vv.b Zr (Za (Zb 2) (Za (Zb 3) (Za (Zb 4) Zd)))))
 (Ze (Zn 6 ZU.nd (Zh G_shown (hr.mono (by first | decide | omega)) rfl T.WW.m T.WW.F.kp T.WW.b Zr (Za (Zb 1) (Za (Zb 4) Zd))))
 (Ze (Ql (DW.dt (Ya (Jn (QO (Zh G_right (hr.mono (by first | decide | omega)) rfl T.YI.m T.YI.F.kp T.YI.b Zr (Za (Zb 1) (Za (Zb 5) (Za (Zb 4) (Za (Zb 6) Zd))))))) (Yv (ZE U2 (Zh G_shows_depth (hr.mono (by first | decide | omega)) rfl T.ZT.m T.ZT.F.kp T.ZT.b Zr (Za (Zb 1) (Za (Zb 4) (Za (Zb 6) Zd)))) Js)))) (Zi (Zo Js)) ZD)
 (Ze (Zn 7 ZU.nd (Zh G_another (hr.mono (by first | decide | omega)) rfl T.Y0.m T.Y0.F.kp T.Y0.b Zr (Za (Zb 0) (Za (Zb 1) (Za (Zb 5) (Za (Zb 3) (Za (Zb 4) Zd)))))))
 (Ze (Ql (ZE U2 (Zh G_shows_depth (hr.mono (by first | decide | omega)) rfl T.ZT.m T.ZT.F.kp T.ZT.b Zr (Za (Zb 1) (Za (Zb 4) (Za (Zb 7) Zd)))) Js) (Zi (Zo Js)) ZD)
 (Ze (Zn 8 ZU.nd (Zq (Za (Zl ZA (Zl ZG (Zg (Zb 4) Zc) Zc) (Zl JA Zc (Qw Ho rfl T.EF GP (Za (J4 Xo (Zg (Zb 4) Zc) Zc) Zd)))) (Za (Zg (Zb 4) Zc) Zd))))
 (Ze (Zn 9 ZU.nd (Zh G_others (hr.mono (by first | decide | omega)) rfl T.Vv.m T.Vv.F.kp T.Vv.b Zr (Za (Zb 2) (Za (Zb 3) (Za (Zb 8) Zd)))))
 (Ze (BA (Zq (Za (Zb 6) (Za (Zb 7) Zd))) (Zk 10 ZU.nd) (Ze (Zn 11 ZU.nd (Zh G_shows_depth (hr.mono (by first | decide | omega)) rfl T.ZT.m T.ZT.F.kp T.ZT.b Zr (Za (Zb 1) (Za (Zb 8) (Za (Zb 10) Zd)))))
 (Zi (Ql (DW.dt (Ya (Jn (QO (Zj (V2 (UN _)) rfl T.ZV ZN (Za (Zb 11) (Za (Kr rfl T.EU Cq) Zd))))) (Yv (ZE (W2 hr) (Zb 11) (Zh G_right (hr.mono (by first | decide | omega)) rfl T.YI.m T.YI.F.kp T.YI.b Zr (Za (Zb 1) (Za (Zb 9) (Za (Zb 8) (Za (Zb 10) Zd))))))))) (Zi (Zo Js)) ZD))) PassesOwn.never rfl)
 (Zi (Zo Js))))))))))), fun xs M Φ h => ?_⟩
 replace h := Kl h
 obtain ⟨x1, x2, x3, x4, rfl, h⟩ := h
 replace h := Q7 h
 obtain ⟨q, rfl, h⟩ := h
 replace h := KC h
 obtain ⟨t, ox, oy, rfl, h⟩ := h
 replace h := Fx h
 obtain ⟨l, ks, bs, rfl, hl, hk, rfl, ⟨hf, hg⟩, hP, h⟩ := h
 have shp : Shp (bs.map (Jt t ox oy)) := by
  refine ⟨by rw [List.length_map]; exact hg.1, by rw [List.length_map]; exact hg.2.1, fun c hc => ?_⟩
  obtain ⟨b, hb, rfl⟩ := List.mem_map.mp hc
  exact strOk hf.1.1 (hg.2.2 b hb).1
 walk_at "hd"
 walk_at "rk"
 refine ⟨hf, hP, fun u v M1 hu hv f1 => ?_⟩
 have n1 : q ≠ l := B6 hP hl
 have gl1 := f1.own hl (Ne.symm n1)
 walk_at "hd"
 walk_at "rk"
 refine ⟨l, ks, bs, rfl, gl1, hk, hf, fun cs hcs hlen => ?_⟩
 have hS : Sds bs t ox oy u v cs := ⟨⟨hf, hg⟩, hcs, hlen⟩
 walk_at "hd"
 walk_at "rk"
 refine ⟨shp, fun p hp rp => ?_⟩
 walk_at "hd"
 walk_at "rk"
 refine Wg hp ⟨bs, t, ox, oy, cs, rfl, rfl, hS, fun r M2 e2 hr => ?_⟩
 obtain rfl : r = true := hr.mpr rp
 rw [if_neg (by decide)]
 refine Wg hp ⟨shp, fun r hr => ?_⟩
 obtain rfl : r = true := hr.mpr rp
 rw [if_neg (by decide)]
 walk_at "hd"
 walk_at "rk"
 refine ⟨bs, t, ox, oy, cs, rfl, rfl, rfl, hS, e2.pen f1.1, fun p2 M3 hp2 rp2 f3 => ?_⟩
 have gl3 := f3.own (e2.own gl1) (Ne.symm n1)
 walk_at "hd"
 walk_at "rk"
 refine Wg hp2 ⟨shp, fun r hr => ?_⟩
 obtain rfl : r = true := hr.mpr rp2
 rw [if_neg (by decide)]
 walk_at "hd"
 walk_at "rk"
 refine ⟨.inl (by decide), ?_⟩
 generalize u - 1 + 2 * (if decide (u < 0) = true then (1 : Int) else 0) = u'
 walk_at "hd"
 walk_at "rk"
 refine ⟨l, ks, bs, rfl, gl3, hk, hf, fun cs' hcs' hlen' => ?_⟩
 have hS' : Sds bs t ox oy u' v cs' := ⟨⟨hf, hg⟩, hcs', hlen'⟩
 walk_at "hd"
 walk_at "rk"
 refine ⟨fun n Δ M4 => ∃ k10 k11 : Option DV, Δ = [some (.own q), some (.dat (.tuple ((bs.map (Jt t ox oy)).map bD))), some (.own l), some (.dat (.tuple [.int t, .int ox, .int oy])), some (.dat (.tuple [.int u, .int v])), some (.dat (.tuple [.bool (anyB bs ((u - ox) / t) ((v - oy) / t)), .list (cs.map (PD t ox oy u v))])), some (.dat (ppD p)), some (.dat (ppD p2)), some (.dat (.tuple [.int u', .int v])), some (.dat (.tuple [.bool (anyB bs ((u' - ox) / t) ((v - oy) / t)), .list (cs'.map (PD t ox oy u' v))])), k10, k11] ∧ Ext M3 M4, ⟨_, _, rfl, Ext.refl _⟩, ?_, ?_⟩
 ·rintro n d Δ M4 hd ⟨k10, k11, rfl, e4⟩
  obtain ⟨pp, hpp, rfl⟩ : ∃ pp : Ppr, pp.ok ∧ d = ppD pp := by
   rcases n with _ | _ | n
   ·cases hd; exact ⟨p, hp, rfl⟩
   ·cases hd; exact ⟨p2, hp2, rfl⟩
   ·cases hd
  rw [VO]
  walk_at "hd"
  walk_at "rk"
  refine Wg hpp ⟨shp, fun r hr => ?_⟩
  subst_vars
  walk_at "rk"
  refine Wg hpp ⟨bs, t, ox, oy, cs', rfl, rfl, hS', fun r' M5 e5 hr' => ?_⟩
  obtain rfl : r = r' := Bool.eq_iff_iff.mpr (hr.trans hr'.symm)
  walk_at "rk"
  rw [show (!(r == r)) = false by cases r <;> rfl, if_neg Bool.false_ne_true]
  exact ⟨_, _, rfl, e4.trans e5⟩
 ·rintro Δ M4 ⟨k10, k11, rfl, e4⟩
  subst_vars
  walk_at "rk"
  exact h M4 (fun l' ks' hl' => e4.own (f3.own (e2.own (f1.own hl' (B6 hP hl').symm)) (B6 hP hl').symm)) (e4.pen f3.1)
theorem Za6 (T : Tx K mg) : ZC P w K mg base CX0 35 T.Zaq T.Zal ["_law_script"] (lift K E7) := by
 have G_pen : ZC P w K mg base CX0 1 T.Rl T.RV ["_law_script", "_law_k"] (lift K Lr) := ZbC T
 have G_boxes : ZC P w K mg base CX0 3 T.Ci T.B2 ["_law_pen_here"] (lift K Gi) := MG T
 have G_l_frame : ZC P w K mg base CX0 2 T.KY T.Kn ["_law_pen_here"] (lift K W8) := Dn T
 have G_laid : ZC P w K mg base CX0 1 T.E8 T.H9 ["_law_boxes_here", "_law_frame_here"] (lift K HQ) := Ra T
 have G_cells : ZC P w K mg base CX0 1 T.BQ T.BJ ["_law_boxes_here"] (lift K Cj) := Ov T
 have G_shown_right : ZC P w K mg base CX0 34 T.VH T.VG ["_law_pen_here", "_law_shape", "_law_cells_here", "_law_frame_here"] (lift K Zdm) := Wr T
 refine okD T.o_law.F XI (fun xs M Φ ⟨ns, e, _⟩ => by rw [e]; rfl) fun cdv A outer s H E hr => ⟨_, (Ze (Jl rfl T.QV (Za (Zj (JY rfl) rfl T.YE JW (Za Zc (Za (Zj (VD rfl) rfl T.Yt Jv (Za (Zj QD rfl T.JV Qs (Za (Zb 0) Zd)) (Za Zc Zd))) Zd))) Zd) (Zk 1 XI.nd) (Ze (Zn 2 XI.nd (Zh G_pen (hr.mono (by first | decide | omega)) rfl T.MI.m T.MI.F.kp T.MI.b Zr (Za (Zb 0) (Za (Zb 1) Zd))))
 (Ze (Zn 3 XI.nd (Zh G_boxes (hr.mono (by first | decide | omega)) rfl T.Uq.m T.Uq.F.kp T.Uq.b Zr (Za (Zb 2) Zd)))
 (Ze (Zn 4 XI.nd (Zh G_l_frame (hr.mono (by first | decide | omega)) rfl T.YO.m T.YO.F.kp T.YO.b Zr (Za (Zb 2) Zd)))
 (Ze (Zn 5 XI.nd (Zh G_laid (hr.mono (by first | decide | omega)) rfl T.CY.m T.CY.F.kp T.CY.b Zr (Za (Zb 3) (Za (Zb 4) Zd))))
 (Ze (Zn 6 XI.nd (Zh G_cells (hr.mono (by first | decide | omega)) rfl T.Ul.m T.Ul.F.kp T.Ul.b Zr (Za (Zb 3) Zd)))
 (Zi (Jl rfl T.QV (Za Zc Zd) (Zk 7 XI.nd) (Zi (Ql (Jn (QO (Zh G_shown_right (hr.mono (by first | decide | omega)) rfl T.JD.m T.JD.F.kp T.JD.b Zr (Za (Zb 2) (Za (Zb 5) (Za (Zb 6) (Za (Zb 4) Zd))))))) (Zi (Zo Js)) ZD)) PassesOwn.never rfl))))))) PassesOwn.never rfl)
 (Zi (Zo Js))), fun xs M Φ ⟨ns, e, hn, h⟩ => ?_⟩
 subst e
 walk_at "hd"
 walk_at "rk"
 rw [List.length_map]
 refine ⟨⟨by omega, by omega⟩, fun i Δ M' => ∃ k1 k2 k3 k4 k5 k6 k7 : Option DV, Δ = [some (.dat (.list (ns.map PyData.int))), k1, k2, k3, k4, k5, k6, k7], ⟨none, none, none, none, none, none, none, rfl⟩, ?_, ?_⟩
 ·rintro i Δ M' hi ⟨k1, k2, k3, k4, k5, k6, k7, rfl⟩
  rw [VO]
  walk_at "hd"
  walk_at "rk"
  refine ⟨by omega, fun p o hp ho => ?_⟩
  walk_at "hd"
  walk_at "rk"
  refine ⟨Pen.Z3 ho, fun bs M1 hg hP => ?_⟩
  walk_at "hd"
  walk_at "rk"
  refine ⟨hP, fun t ox oy M2 hf hP2 => ?_⟩
  walk_at "hd"
  walk_at "rk"
  refine ⟨hg, ?_⟩
  walk_at "hd"
  walk_at "rk"
  refine ⟨hg, fun l ks hl hk => ?_⟩
  have n1 : p ≠ l := hP2.ne hl
  subst_vars
  walk_at "rk"
  refine ⟨⟨by decide, by decide⟩, fun j Δ M3 => ∃ k7 : Option DV, Δ = [some (.dat (.list (ns.map PyData.int))), some (.dat (.int (i : Int))), some (.own p), some (.dat (.list (bs.map bD))), some (.dat (.tuple [.int t, .int ox, .int oy])), some (.dat (.tuple ((bs.map (Jt t ox oy)).map bD))), some (.own l), k7] ∧ M3 l = some (.dct ks) ∧ Pen M3 p,
   ⟨_, rfl, ZH, hP2.put n1⟩, ?_, ?_⟩
  ·rintro j Δ M3 hj ⟨k7, rfl, hl3, hP3⟩
   rw [VO]
   walk_at "rk"
   refine ⟨l, ks, bs, rfl, hl3, hk, rfl, ⟨hf, hg⟩, hP3, fun M4 k4 p4 => ?_⟩
   walk_at "rk"
   exact ⟨_, rfl, k4 l ks hl3, p4⟩
  ·rintro Δ M3 ⟨k7, rfl, hl3, hP3⟩
   exact ⟨_, _, _, _, _, _, _, rfl⟩
 ·rintro Δ M' ⟨k1, k2, k3, k4, k5, k6, k7, rfl⟩
  subst_vars
  walk_at "rk"
  exact h _
end
theorem Ko {α : Type} {l : List α} (h : l.length = 1) : ∃ a0, l = [a0] := by
 match l, h with
 | [a0], _ => exact ⟨a0, rfl⟩
theorem Jq {α : Type} {l : List α} (h : l.length = 2) : ∃ a0 a1, l = [a0, a1] := by
 match l, h with
 | [a0, a1], _ => exact ⟨a0, a1, rfl⟩
theorem Y7 {α : Type} {l : List α} (h : l.length = 3) : ∃ a0 a1 a2, l = [a0, a1, a2] := by
 match l, h with
 | [a0, a1, a2], _ => exact ⟨a0, a1, a2, rfl⟩
theorem R4 {α : Type} {l : List α} (h : l.length = 4) : ∃ a0 a1 a2 a3, l = [a0, a1, a2, a3] := by
 match l, h with
 | [a0, a1, a2, a3], _ => exact ⟨a0, a1, a2, a3, rfl⟩
theorem ZdP {α : Type} {l : List α} (h : l.length = 5) : ∃ a0 a1 a2 a3 a4, l = [a0, a1, a2, a3, a4] := by
 match l, h with
 | [a0, a1, a2, a3, a4], _ => exact ⟨a0, a1, a2, a3, a4, rfl⟩
theorem all_mk {l : PySem.W.OpenLaw} {w : World} {K : PySem.W.Frag} {h : Heap} {mg : Str → Option Value} {fa : Addr} (X : K.In h) (G : h.Ns mainGlobals mg) (hfa : mg "law" = some (.ref fa))
  {f0 : Addr} {od0 an0 : Option Addr} {sl0 : Array (Option Value)} {oc0 kV0 dc0 pm0 cd0 ct0 : Value} {f1 : Addr} {od1 an1 : Option Addr} {sl1 : Array (Option Value)} {oc1 kV1 dc1 pm1 cd1 ct1 : Value} {f2 : Addr} {od2 an2 : Option Addr} {sl2 : Array (Option Value)} {oc2 kV2 dc2 pm2 cd2 ct2 : Value} {f3 : Addr} {od3 an3 : Option Addr} {sl3 : Array (Option Value)} {oc3 kV3 dc3 pm3 cd3 ct3 : Value} {f4 : Addr} {od4 an4 : Option Addr} {sl4 : Array (Option Value)} {oc4 kV4 dc4 pm4 cd4 ct4 : Value} {f5 : Addr} {od5 an5 : Option Addr} {sl5 : Array (Option Value)} {oc5 kV5 dc5 pm5 cd5 ct5 : Value} {f6 : Addr} {od6 an6 : Option Addr} {sl6 : Array (Option Value)} {oc6 kV6 dc6 pm6 cd6 ct6 : Value} {f7 : Addr} {od7 an7 : Option Addr} {sl7 : Array (Option Value)} {oc7 kV7 dc7 pm7 cd7 ct7 : Value} {f8 : Addr} {od8 an8 : Option Addr} {sl8 : Array (Option Value)} {oc8 kV8 dc8 pm8 cd8 ct8 : Value} {f9 : Addr} {od9 an9 : Option Addr} {sl9 : Array (Option Value)} {oc9 kV9 dc9 pm9 cd9 ct9 : Value} {f10 : Addr} {od10 an10 : Option Addr} {sl10 : Array (Option Value)} {oc10 kV10 dc10 pm10 cd10 ct10 : Value} {f11 : Addr} {od11 an11 : Option Addr} {sl11 : Array (Option Value)} {oc11 kV11 dc11 pm11 cd11 ct11 : Value} {f12 : Addr} {od12 an12 : Option Addr} {sl12 : Array (Option Value)} {oc12 kV12 dc12 pm12 cd12 ct12 : Value} {f13 : Addr} {od13 an13 : Option Addr} {sl13 : Array (Option Value)} {oc13 kV13 dc13 pm13 cd13 ct13 : Value} {f14 : Addr} {od14 an14 : Option Addr} {sl14 : Array (Option Value)} {oc14 kV14 dc14 pm14 cd14 ct14 : Value} {f15 : Addr} {od15 an15 : Option Addr} {sl15 : Array (Option Value)} {oc15 kV15 dc15 pm15 cd15 ct15 : Value} {f16 : Addr} {od16 an16 : Option Addr} {sl16 : Array (Option Value)} {oc16 kV16 dc16 pm16 cd16 ct16 : Value} {f17 : Addr} {od17 an17 : Option Addr} {sl17 : Array (Option Value)} {oc17 kV17 dc17 pm17 cd17 ct17 : Value} {f18 : Addr} {od18 an18 : Option Addr} {sl18 : Array (Option Value)} {oc18 kV18 dc18 pm18 cd18 ct18 : Value} {f19 : Addr} {od19 an19 : Option Addr} {sl19 : Array (Option Value)} {oc19 kV19 dc19 pm19 cd19 ct19 : Value} {f20 : Addr} {od20 an20 : Option Addr} {sl20 : Array (Option Value)} {oc20 kV20 dc20 pm20 cd20 ct20 : Value} {f21 : Addr} {od21 an21 : Option Addr} {sl21 : Array (Option Value)} {oc21 kV21 dc21 pm21 cd21 ct21 : Value} {f22 : Addr} {od22 an22 : Option Addr} {sl22 : Array (Option Value)} {oc22 kV22 dc22 pm22 cd22 ct22 : Value} {f23 : Addr} {od23 an23 : Option Addr} {sl23 : Array (Option Value)} {oc23 kV23 dc23 pm23 cd23 ct23 : Value} {f24 : Addr} {od24 an24 : Option Addr} {sl24 : Array (Option Value)} {oc24 kV24 dc24 pm24 cd24 ct24 : Value} {f25 : Addr} {od25 an25 : Option Addr} {sl25 : Array (Option Value)} {oc25 kV25 dc25 pm25 cd25 ct25 : Value} {f26 : Addr} {od26 an26 : Option Addr} {sl26 : Array (Option Value)} {oc26 kV26 dc26 pm26 cd26 ct26 : Value} {f27 : Addr} {od27 an27 : Option Addr} {sl27 : Array (Option Value)} {oc27 kV27 dc27 pm27 cd27 ct27 : Value} {f28 : Addr} {od28 an28 : Option Addr} {sl28 : Array (Option Value)} {oc28 kV28 dc28 pm28 cd28 ct28 : Value} {f29 : Addr} {od29 an29 : Option Addr} {sl29 : Array (Option Value)} {oc29 kV29 dc29 pm29 cd29 ct29 : Value} {f30 : Addr} {od30 an30 : Option Addr} {sl30 : Array (Option Value)} {oc30 kV30 dc30 pm30 cd30 ct30 : Value} {f31 : Addr} {od31 an31 : Option Addr} {sl31 : Array (Option Value)} {oc31 kV31 dc31 pm31 cd31 ct31 : Value} {f32 : Addr} {od32 an32 : Option Addr} {sl32 : Array (Option Value)} {oc32 kV32 dc32 pm32 cd32 ct32 : Value} {f33 : Addr} {od33 an33 : Option Addr} {sl33 : Array (Option Value)} {oc33 kV33 dc33 pm33 cd33 ct33 : Value} {f34 : Addr} {od34 an34 : Option Addr} {sl34 : Array (Option Value)} {oc34 kV34 dc34 pm34 cd34 ct34 : Value} {f35 : Addr} {od35 an35 : Option Addr} {sl35 : Array (Option Value)} {oc35 kV35 dc35 pm35 cd35 ct35 : Value} {f36 : Addr} {od36 an36 : Option Addr} {sl36 : Array (Option Value)} {oc36 kV36 dc36 pm36 cd36 ct36 : Value} {f37 : Addr} {od37 an37 : Option Addr} {sl37 : Array (Option Value)} {oc37 kV37 dc37 pm37 cd37 ct37 : Value} {f38 : Addr} {od38 an38 : Option Addr} {sl38 : Array (Option Value)} {oc38 kV38 dc38 pm38 cd38 ct38 : Value} {f39 : Addr} {od39 an39 : Option Addr} {sl39 : Array (Option Value)} {oc39 kV39 dc39 pm39 cd39 ct39 : Value} {f40 : Addr} {od40 an40 : Option Addr} {sl40 : Array (Option Value)} {oc40 kV40 dc40 pm40 cd40 ct40 : Value} {f41 : Addr} {od41 an41 : Option Addr} {sl41 : Array (Option Value)} {oc41 kV41 dc41 pm41 cd41 ct41 : Value} {f42 : Addr} {od42 an42 : Option Addr} {sl42 : Array (Option Value)} {oc42 kV42 dc42 pm42 cd42 ct42 : Value} {f43 : Addr} {od43 an43 : Option Addr} {sl43 : Array (Option Value)} {oc43 kV43 dc43 pm43 cd43 ct43 : Value} {f44 : Addr} {od44 an44 : Option Addr} {sl44 : Array (Option Value)} {oc44 kV44 dc44 pm44 cd44 ct44 : Value} {f45 : Addr} {od45 an45 : Option Addr} {sl45 : Array (Option Value)} {oc45 kV45 dc45 pm45 cd45 ct45 : Value} {f46 : Addr} {od46 an46 : Option Addr} {sl46 : Array (Option Value)} {oc46 kV46 dc46 pm46 cd46 ct46 : Value} {f47 : Addr} {od47 an47 : Option Addr} {sl47 : Array (Option Value)} {oc47 kV47 dc47 pm47 cd47 ct47 : Value} {f48 : Addr} {od48 an48 : Option Addr} {sl48 : Array (Option Value)} {oc48 kV48 dc48 pm48 cd48 ct48 : Value} {f49 : Addr} {od49 an49 : Option Addr} {sl49 : Array (Option Value)} {oc49 kV49 dc49 pm49 cd49 ct49 : Value} {f50 : Addr} {od50 an50 : Option Addr} {sl50 : Array (Option Value)} {oc50 kV50 dc50 pm50 cd50 ct50 : Value} {f51 : Addr} {od51 an51 : Option Addr} {sl51 : Array (Option Value)} {oc51 kV51 dc51 pm51 cd51 ct51 : Value} {f52 : Addr} {od52 an52 : Option Addr} {sl52 : Array (Option Value)} {oc52 kV52 dc52 pm52 cd52 ct52 : Value} {f53 : Addr} {od53 an53 : Option Addr} {sl53 : Array (Option Value)} {oc53 kV53 dc53 pm53 cd53 ct53 : Value}
  (a0 : PySem.W.nsIn K mainGlobals "is_whole" = some (some (.ref f0))) (l0 : K.lookup f0 = some ⟨oc0, od0, .func (PySem.W.fnOf "is_whole" "is_whole" (Zv JM) (Zt JM) (Zf JM) .none kV0 dc0 pm0 an0 cd0 ct0), sl0⟩) (c0 : PySem.W.codeIn K cd0 "is_whole" = true) (k0 : PySem.W.keepIn K (.ref f0) = true)
  (a1 : PySem.W.nsIn K mainGlobals "is_any_spot" = some (some (.ref f1))) (l1 : K.lookup f1 = some ⟨oc1, od1, .func (PySem.W.fnOf "is_any_spot" "is_any_spot" (Zv QF) (Zt QF) (Zf QF) .none kV1 dc1 pm1 an1 cd1 ct1), sl1⟩) (c1 : PySem.W.codeIn K cd1 "is_any_spot" = true) (k1 : PySem.W.keepIn K (.ref f1) = true)
  (a2 : PySem.W.nsIn K mainGlobals "has_spots" = some (some (.ref f2))) (l2 : K.lookup f2 = some ⟨oc2, od2, .func (PySem.W.fnOf "has_spots" "has_spots" (Zv Jg) (Zt Jg) (Zf Jg) .none kV2 dc2 pm2 an2 cd2 ct2), sl2⟩) (c2 : PySem.W.codeIn K cd2 "has_spots" = true) (k2 : PySem.W.keepIn K (.ref f2) = true)
  (a3 : PySem.W.nsIn K mainGlobals "steps" = some (some (.ref f3))) (l3 : K.lookup f3 = some ⟨oc3, od3, .func (PySem.W.fnOf "steps" "steps" (Zv Xg) (Zt Xg) (Zf Xg) .none kV3 dc3 pm3 an3 cd3 ct3), sl3⟩) (c3 : PySem.W.codeIn K cd3 "steps" = true) (k3 : PySem.W.keepIn K (.ref f3) = true)
  (a4 : PySem.W.nsIn K mainGlobals "has" = some (some (.ref f4))) (l4 : K.lookup f4 = some ⟨oc4, od4, .func (PySem.W.fnOf "has" "has" (Zv Eh) (Zt Eh) (Zf Eh) .none kV4 dc4 pm4 an4 cd4 ct4), sl4⟩) (c4 : PySem.W.codeIn K cd4 "has" = true) (k4 : PySem.W.keepIn K (.ref f4) = true)
  (a5 : PySem.W.nsIn K mainGlobals "has_all" = some (some (.ref f5))) (l5 : K.lookup f5 = some ⟨oc5, od5, .func (PySem.W.fnOf "has_all" "has_all" (Zv Vp) (Zt Vp) (Zf Vp) .none kV5 dc5 pm5 an5 cd5 ct5), sl5⟩) (c5 : PySem.W.codeIn K cd5 "has_all" = true) (k5 : PySem.W.keepIn K (.ref f5) = true)
  (a6 : PySem.W.nsIn K mainGlobals "steps_to" = some (some (.ref f6))) (l6 : K.lookup f6 = some ⟨oc6, od6, .func (PySem.W.fnOf "steps_to" "steps_to" (Zv JP) (Zt JP) (Zf JP) .none kV6 dc6 pm6 an6 cd6 ct6), sl6⟩) (c6 : PySem.W.codeIn K cd6 "steps_to" = true) (k6 : PySem.W.keepIn K (.ref f6) = true)
  (a7 : PySem.W.nsIn K mainGlobals "steps_between" = some (some (.ref f7))) (l7 : K.lookup f7 = some ⟨oc7, od7, .func (PySem.W.fnOf "steps_between" "steps_between" (Zv Z9) (Zt Z9) (Zf Z9) .none kV7 dc7 pm7 an7 cd7 ct7), sl7⟩) (c7 : PySem.W.codeIn K cd7 "steps_between" = true) (k7 : PySem.W.keepIn K (.ref f7) = true)
  (a8 : PySem.W.nsIn K mainGlobals "gap" = some (some (.ref f8))) (l8 : K.lookup f8 = some ⟨oc8, od8, .func (PySem.W.fnOf "gap" "gap" (Zv Ei) (Zt Ei) (Zf Ei) .none kV8 dc8 pm8 an8 cd8 ct8), sl8⟩) (c8 : PySem.W.codeIn K cd8 "gap" = true) (k8 : PySem.W.keepIn K (.ref f8) = true)
  (a9 : PySem.W.nsIn K mainGlobals "square" = some (some (.ref f9))) (l9 : K.lookup f9 = some ⟨oc9, od9, .func (PySem.W.fnOf "square" "square" (Zv Yq) (Zt Yq) (Zf Yq) .none kV9 dc9 pm9 an9 cd9 ct9), sl9⟩) (c9 : PySem.W.codeIn K cd9 "square" = true) (k9 : PySem.W.keepIn K (.ref f9) = true)
  (a10 : PySem.W.nsIn K mainGlobals "up_to" = some (some (.ref f10))) (l10 : K.lookup f10 = some ⟨oc10, od10, .func (PySem.W.fnOf "up_to" "up_to" (Zv Xh) (Zt Xh) (Zf Xh) .none kV10 dc10 pm10 an10 cd10 ct10), sl10⟩) (c10 : PySem.W.codeIn K cd10 "up_to" = true) (k10 : PySem.W.keepIn K (.ref f10) = true)
  (a11 : PySem.W.nsIn K mainGlobals "onward_from" = some (some (.ref f11))) (l11 : K.lookup f11 = some ⟨oc11, od11, .func (PySem.W.fnOf "onward_from" "onward_from" (Zv QI) (Zt QI) (Zf QI) .none kV11 dc11 pm11 an11 cd11 ct11), sl11⟩) (c11 : PySem.W.codeIn K cd11 "onward_from" = true) (k11 : PySem.W.keepIn K (.ref f11) = true)
  (a12 : PySem.W.nsIn K mainGlobals "common" = some (some (.ref f12))) (l12 : K.lookup f12 = some ⟨oc12, od12, .func (PySem.W.fnOf "common" "common" (Zv Ym) (Zt Ym) (Zf Ym) .none kV12 dc12 pm12 an12 cd12 ct12), sl12⟩) (c12 : PySem.W.codeIn K cd12 "common" = true) (k12 : PySem.W.keepIn K (.ref f12) = true)
  (a13 : PySem.W.nsIn K mainGlobals "cut_out" = some (some (.ref f13))) (l13 : K.lookup f13 = some ⟨oc13, od13, .func (PySem.W.fnOf "cut_out" "cut_out" (Zv JR) (Zt JR) (Zf JR) .none kV13 dc13 pm13 an13 cd13 ct13), sl13⟩) (c13 : PySem.W.codeIn K cd13 "cut_out" = true) (k13 : PySem.W.keepIn K (.ref f13) = true)
  (a14 : PySem.W.nsIn K mainGlobals "left_over" = some (some (.ref f14))) (l14 : K.lookup f14 = some ⟨oc14, od14, .func (PySem.W.fnOf "left_over" "left_over" (Zv Ji) (Zt Ji) (Zf Ji) .none kV14 dc14 pm14 an14 cd14 ct14), sl14⟩) (c14 : PySem.W.codeIn K cd14 "left_over" = true) (k14 : PySem.W.keepIn K (.ref f14) = true)
  (a15 : PySem.W.nsIn K mainGlobals "covered" = some (some (.ref f15))) (l15 : K.lookup f15 = some ⟨oc15, od15, .func (PySem.W.fnOf "covered" "covered" (Zv JU) (Zt JU) (Zf JU) .none kV15 dc15 pm15 an15 cd15 ct15), sl15⟩) (c15 : PySem.W.codeIn K cd15 "covered" = true) (k15 : PySem.W.keepIn K (.ref f15) = true)
  (a16 : PySem.W.nsIn K mainGlobals "cover_of" = some (some (.ref f16))) (l16 : K.lookup f16 = some ⟨oc16, od16, .func (PySem.W.fnOf "cover_of" "cover_of" (Zv JI) (Zt JI) (Zf JI) .none kV16 dc16 pm16 an16 cd16 ct16), sl16⟩) (c16 : PySem.W.codeIn K cd16 "cover_of" = true) (k16 : PySem.W.keepIn K (.ref f16) = true)
  (a17 : PySem.W.nsIn K mainGlobals "cut_places" = some (some (.ref f17))) (l17 : K.lookup f17 = some ⟨oc17, od17, .func (PySem.W.fnOf "cut_places" "cut_places" (Zv Qx) (Zt Qx) (Zf Qx) .none kV17 dc17 pm17 an17 cd17 ct17), sl17⟩) (c17 : PySem.W.codeIn K cd17 "cut_places" = true) (k17 : PySem.W.keepIn K (.ref f17) = true)
  (a18 : PySem.W.nsIn K mainGlobals "holds_cover" = some (some (.ref f18))) (l18 : K.lookup f18 = some ⟨oc18, od18, .func (PySem.W.fnOf "holds_cover" "holds_cover" (Zv QH) (Zt QH) (Zf QH) .none kV18 dc18 pm18 an18 cd18 ct18), sl18⟩) (c18 : PySem.W.codeIn K cd18 "holds_cover" = true) (k18 : PySem.W.keepIn K (.ref f18) = true)
  (a19 : PySem.W.nsIn K mainGlobals "is_number_of" = some (some (.ref f19))) (l19 : K.lookup f19 = some ⟨oc19, od19, .func (PySem.W.fnOf "is_number_of" "is_number_of" (Zv Qp) (Zt Qp) (Zf Qp) .none kV19 dc19 pm19 an19 cd19 ct19), sl19⟩) (c19 : PySem.W.codeIn K cd19 "is_number_of" = true) (k19 : PySem.W.keepIn K (.ref f19) = true)
  (a20 : PySem.W.nsIn K mainGlobals "cuts" = some (some (.ref f20))) (l20 : K.lookup f20 = some ⟨oc20, od20, .func (PySem.W.fnOf "cuts" "cuts" (Zv WK) (Zt WK) (Zf WK) .none kV20 dc20 pm20 an20 cd20 ct20), sl20⟩) (c20 : PySem.W.codeIn K cd20 "cuts" = true) (k20 : PySem.W.keepIn K (.ref f20) = true)
  (a21 : PySem.W.nsIn K mainGlobals "lies_in" = some (some (.ref f21))) (l21 : K.lookup f21 = some ⟨oc21, od21, .func (PySem.W.fnOf "lies_in" "lies_in" (Zv JQ) (Zt JQ) (Zf JQ) .none kV21 dc21 pm21 an21 cd21 ct21), sl21⟩) (c21 : PySem.W.codeIn K cd21 "lies_in" = true) (k21 : PySem.W.keepIn K (.ref f21) = true)
  (a22 : PySem.W.nsIn K mainGlobals "depth" = some (some (.ref f22))) (l22 : K.lookup f22 = some ⟨oc22, od22, .func (PySem.W.fnOf "depth" "depth" (Zv Xs) (Zt Xs) (Zf Xs) .none kV22 dc22 pm22 an22 cd22 ct22), sl22⟩) (c22 : PySem.W.codeIn K cd22 "depth" = true) (k22 : PySem.W.keepIn K (.ref f22) = true)
  (a23 : PySem.W.nsIn K mainGlobals "nearest" = some (some (.ref f23))) (l23 : K.lookup f23 = some ⟨oc23, od23, .func (PySem.W.fnOf "nearest" "nearest" (Zv J1) (Zt J1) (Zf J1) .none kV23 dc23 pm23 an23 cd23 ct23), sl23⟩) (c23 : PySem.W.codeIn K cd23 "nearest" = true) (k23 : PySem.W.keepIn K (.ref f23) = true)
  (a24 : PySem.W.nsIn K mainGlobals "other_side" = some (some (.ref f24))) (l24 : K.lookup f24 = some ⟨oc24, od24, .func (PySem.W.fnOf "other_side" "other_side" (Zv QX) (Zt QX) (Zf QX) .none kV24 dc24 pm24 an24 cd24 ct24), sl24⟩) (c24 : PySem.W.codeIn K cd24 "other_side" = true) (k24 : PySem.W.keepIn K (.ref f24) = true)
  (a25 : PySem.W.nsIn K mainGlobals "frame" = some (some (.ref f25))) (l25 : K.lookup f25 = some ⟨oc25, od25, .func (PySem.W.fnOf "frame" "frame" (Zv Vd) (Zt Vd) (Zf Vd) .none kV25 dc25 pm25 an25 cd25 ct25), sl25⟩) (c25 : PySem.W.codeIn K cd25 "frame" = true) (k25 : PySem.W.keepIn K (.ref f25) = true)
  (a26 : PySem.W.nsIn K mainGlobals "steps_away" = some (some (.ref f26))) (l26 : K.lookup f26 = some ⟨oc26, od26, .func (PySem.W.fnOf "steps_away" "steps_away" (Zv QB) (Zt QB) (Zf QB) .none kV26 dc26 pm26 an26 cd26 ct26), sl26⟩) (c26 : PySem.W.codeIn K cd26 "steps_away" = true) (k26 : PySem.W.keepIn K (.ref f26) = true)
  (a27 : PySem.W.nsIn K mainGlobals "shown" = some (some (.ref f27))) (l27 : K.lookup f27 = some ⟨oc27, od27, .func (PySem.W.fnOf "shown" "shown" (Zv Xl) (Zt Xl) (Zf Xl) .none kV27 dc27 pm27 an27 cd27 ct27), sl27⟩) (c27 : PySem.W.codeIn K cd27 "shown" = true) (k27 : PySem.W.keepIn K (.ref f27) = true)
  (a28 : PySem.W.nsIn K mainGlobals "shows_depth" = some (some (.ref f28))) (l28 : K.lookup f28 = some ⟨oc28, od28, .func (PySem.W.fnOf "shows_depth" "shows_depth" (Zv QE) (Zt QE) (Zf QE) .none kV28 dc28 pm28 an28 cd28 ct28), sl28⟩) (c28 : PySem.W.codeIn K cd28 "shows_depth" = true) (k28 : PySem.W.keepIn K (.ref f28) = true)
  (a29 : PySem.W.nsIn K mainGlobals "is_away" = some (some (.ref f29))) (l29 : K.lookup f29 = some ⟨oc29, od29, .func (PySem.W.fnOf "is_away" "is_away" (Zv Vm) (Zt Vm) (Zf Vm) .none kV29 dc29 pm29 an29 cd29 ct29), sl29⟩) (c29 : PySem.W.codeIn K cd29 "is_away" = true) (k29 : PySem.W.keepIn K (.ref f29) = true)
  (a30 : PySem.W.nsIn K mainGlobals "none_nearer" = some (some (.ref f30))) (l30 : K.lookup f30 = some ⟨oc30, od30, .func (PySem.W.fnOf "none_nearer" "none_nearer" (Zv Qg) (Zt Qg) (Zf Qg) .none kV30 dc30 pm30 an30 cd30 ct30), sl30⟩) (c30 : PySem.W.codeIn K cd30 "none_nearer" = true) (k30 : PySem.W.keepIn K (.ref f30) = true)
  (a31 : PySem.W.nsIn K mainGlobals "_law_pen" = some (some (.ref f31))) (l31 : K.lookup f31 = some ⟨oc31, od31, .func (PySem.W.fnOf "_law_pen" "_law_pen" (Zv Dy) (Zt Dy) (Zf Dy) .none kV31 dc31 pm31 an31 cd31 ct31), sl31⟩) (c31 : PySem.W.codeIn K cd31 "_law_pen" = true) (k31 : PySem.W.keepIn K (.ref f31) = true)
  (a32 : PySem.W.nsIn K mainGlobals "_law_draw" = some (some (.ref f32))) (l32 : K.lookup f32 = some ⟨oc32, od32, .func (PySem.W.fnOf "_law_draw" "_law_draw" (Zv WS) (Zt WS) (Zf WS) .none kV32 dc32 pm32 an32 cd32 ct32), sl32⟩) (c32 : PySem.W.codeIn K cd32 "_law_draw" = true) (k32 : PySem.W.keepIn K (.ref f32) = true)
  (a33 : PySem.W.nsIn K mainGlobals "_law_hole" = some (some (.ref f33))) (l33 : K.lookup f33 = some ⟨oc33, od33, .func (PySem.W.fnOf "_law_hole" "_law_hole" (Zv Kt) (Zt Kt) (Zf Kt) .none kV33 dc33 pm33 an33 cd33 ct33), sl33⟩) (c33 : PySem.W.codeIn K cd33 "_law_hole" = true) (k33 : PySem.W.keepIn K (.ref f33) = true)
  (a34 : PySem.W.nsIn K mainGlobals "_law_box" = some (some (.ref f34))) (l34 : K.lookup f34 = some ⟨oc34, od34, .func (PySem.W.fnOf "_law_box" "_law_box" (Zv D5) (Zt D5) (Zf D5) .none kV34 dc34 pm34 an34 cd34 ct34), sl34⟩) (c34 : PySem.W.codeIn K cd34 "_law_box" = true) (k34 : PySem.W.keepIn K (.ref f34) = true)
  (a35 : PySem.W.nsIn K mainGlobals "_law_boxes" = some (some (.ref f35))) (l35 : K.lookup f35 = some ⟨oc35, od35, .func (PySem.W.fnOf "_law_boxes" "_law_boxes" (Zv XB) (Zt XB) (Zf XB) .none kV35 dc35 pm35 an35 cd35 ct35), sl35⟩) (c35 : PySem.W.codeIn K cd35 "_law_boxes" = true) (k35 : PySem.W.keepIn K (.ref f35) = true)
  (a36 : PySem.W.nsIn K mainGlobals "_law_frame" = some (some (.ref f36))) (l36 : K.lookup f36 = some ⟨oc36, od36, .func (PySem.W.fnOf "_law_frame" "_law_frame" (Zv Vl) (Zt Vl) (Zf Vl) .none kV36 dc36 pm36 an36 cd36 ct36), sl36⟩) (c36 : PySem.W.codeIn K cd36 "_law_frame" = true) (k36 : PySem.W.keepIn K (.ref f36) = true)
  (a37 : PySem.W.nsIn K mainGlobals "_law_laid" = some (some (.ref f37))) (l37 : K.lookup f37 = some ⟨oc37, od37, .func (PySem.W.fnOf "_law_laid" "_law_laid" (Zv WQ) (Zt WQ) (Zf WQ) .none kV37 dc37 pm37 an37 cd37 ct37), sl37⟩) (c37 : PySem.W.codeIn K cd37 "_law_laid" = true) (k37 : PySem.W.keepIn K (.ref f37) = true)
  (a38 : PySem.W.nsIn K mainGlobals "_law_cells" = some (some (.ref f38))) (l38 : K.lookup f38 = some ⟨oc38, od38, .func (PySem.W.fnOf "_law_cells" "_law_cells" (Zv Xn) (Zt Xn) (Zf Xn) .none kV38 dc38 pm38 an38 cd38 ct38), sl38⟩) (c38 : PySem.W.codeIn K cd38 "_law_cells" = true) (k38 : PySem.W.keepIn K (.ref f38) = true)
  (a39 : PySem.W.nsIn K mainGlobals "_law_spot" = some (some (.ref f39))) (l39 : K.lookup f39 = some ⟨oc39, od39, .func (PySem.W.fnOf "_law_spot" "_law_spot" (Zv WO) (Zt WO) (Zf WO) .none kV39 dc39 pm39 an39 cd39 ct39), sl39⟩) (c39 : PySem.W.codeIn K cd39 "_law_spot" = true) (k39 : PySem.W.keepIn K (.ref f39) = true)
  (a40 : PySem.W.nsIn K mainGlobals "_law_gap" = some (some (.ref f40))) (l40 : K.lookup f40 = some ⟨oc40, od40, .func (PySem.W.fnOf "_law_gap" "_law_gap" (Zv Xu) (Zt Xu) (Zf Xu) .none kV40 dc40 pm40 an40 cd40 ct40), sl40⟩) (c40 : PySem.W.codeIn K cd40 "_law_gap" = true) (k40 : PySem.W.keepIn K (.ref f40) = true)
  (a41 : PySem.W.nsIn K mainGlobals "_law_others" = some (some (.ref f41))) (l41 : K.lookup f41 = some ⟨oc41, od41, .func (PySem.W.fnOf "_law_others" "_law_others" (Zv VQ) (Zt VQ) (Zf VQ) .none kV41 dc41 pm41 an41 cd41 ct41), sl41⟩) (c41 : PySem.W.codeIn K cd41 "_law_others" = true) (k41 : PySem.W.keepIn K (.ref f41) = true)
  (a42 : PySem.W.nsIn K mainGlobals "_law_has" = some (some (.ref f42))) (l42 : K.lookup f42 = some ⟨oc42, od42, .func (PySem.W.fnOf "_law_has" "_law_has" (Zv Xp) (Zt Xp) (Zf Xp) .none kV42 dc42 pm42 an42 cd42 ct42), sl42⟩) (c42 : PySem.W.codeIn K cd42 "_law_has" = true) (k42 : PySem.W.keepIn K (.ref f42) = true)
  (a43 : PySem.W.nsIn K mainGlobals "_law_parts" = some (some (.ref f43))) (l43 : K.lookup f43 = some ⟨oc43, od43, .func (PySem.W.fnOf "_law_parts" "_law_parts" (Zv Xx) (Zt Xx) (Zf Xx) .none kV43 dc43 pm43 an43 cd43 ct43), sl43⟩) (c43 : PySem.W.codeIn K cd43 "_law_parts" = true) (k43 : PySem.W.keepIn K (.ref f43) = true)
  (a44 : PySem.W.nsIn K mainGlobals "_law_whole" = some (some (.ref f44))) (l44 : K.lookup f44 = some ⟨oc44, od44, .func (PySem.W.fnOf "_law_whole" "_law_whole" (Zv XD) (Zt XD) (Zf XD) .none kV44 dc44 pm44 an44 cd44 ct44), sl44⟩) (c44 : PySem.W.codeIn K cd44 "_law_whole" = true) (k44 : PySem.W.keepIn K (.ref f44) = true)
  (a45 : PySem.W.nsIn K mainGlobals "_law_leaf_holds" = some (some (.ref f45))) (l45 : K.lookup f45 = some ⟨oc45, od45, .func (PySem.W.fnOf "_law_leaf_holds" "_law_leaf_holds" (Zv QY) (Zt QY) (Zf QY) .none kV45 dc45 pm45 an45 cd45 ct45), sl45⟩) (c45 : PySem.W.codeIn K cd45 "_law_leaf_holds" = true) (k45 : PySem.W.keepIn K (.ref f45) = true)
  (a46 : PySem.W.nsIn K mainGlobals "_law_holds" = some (some (.ref f46))) (l46 : K.lookup f46 = some ⟨oc46, od46, .func (PySem.W.fnOf "_law_holds" "_law_holds" (Zv XF) (Zt XF) (Zf XF) .none kV46 dc46 pm46 an46 cd46 ct46), sl46⟩) (c46 : PySem.W.codeIn K cd46 "_law_holds" = true) (k46 : PySem.W.keepIn K (.ref f46) = true)
  (a47 : PySem.W.nsIn K mainGlobals "_law_any_cover" = some (some (.ref f47))) (l47 : K.lookup f47 = some ⟨oc47, od47, .func (PySem.W.fnOf "_law_any_cover" "_law_any_cover" (Zv Qj) (Zt Qj) (Zf Qj) .none kV47 dc47 pm47 an47 cd47 ct47), sl47⟩) (c47 : PySem.W.codeIn K cd47 "_law_any_cover" = true) (k47 : PySem.W.keepIn K (.ref f47) = true)
  (a48 : PySem.W.nsIn K mainGlobals "_law_square" = some (some (.ref f48))) (l48 : K.lookup f48 = some ⟨oc48, od48, .func (PySem.W.fnOf "_law_square" "_law_square" (Zv JN) (Zt JN) (Zf JN) .none kV48 dc48 pm48 an48 cd48 ct48), sl48⟩) (c48 : PySem.W.codeIn K cd48 "_law_square" = true) (k48 : PySem.W.keepIn K (.ref f48) = true)
  (a49 : PySem.W.nsIn K mainGlobals "_law_is_spot" = some (some (.ref f49))) (l49 : K.lookup f49 = some ⟨oc49, od49, .func (PySem.W.fnOf "_law_is_spot" "_law_is_spot" (Zv Vo) (Zt Vo) (Zf Vo) .none kV49 dc49 pm49 an49 cd49 ct49), sl49⟩) (c49 : PySem.W.codeIn K cd49 "_law_is_spot" = true) (k49 : PySem.W.keepIn K (.ref f49) = true)
  (a50 : PySem.W.nsIn K mainGlobals "_law_right" = some (some (.ref f50))) (l50 : K.lookup f50 = some ⟨oc50, od50, .func (PySem.W.fnOf "_law_right" "_law_right" (Zv V0) (Zt V0) (Zf V0) .none kV50 dc50 pm50 an50 cd50 ct50), sl50⟩) (c50 : PySem.W.codeIn K cd50 "_law_right" = true) (k50 : PySem.W.keepIn K (.ref f50) = true)
  (a51 : PySem.W.nsIn K mainGlobals "_law_another" = some (some (.ref f51))) (l51 : K.lookup f51 = some ⟨oc51, od51, .func (PySem.W.fnOf "_law_another" "_law_another" (Zv Jp) (Zt Jp) (Zf Jp) .none kV51 dc51 pm51 an51 cd51 ct51), sl51⟩) (c51 : PySem.W.codeIn K cd51 "_law_another" = true) (k51 : PySem.W.keepIn K (.ref f51) = true)
  (a52 : PySem.W.nsIn K mainGlobals "_law_shown_right" = some (some (.ref f52))) (l52 : K.lookup f52 = some ⟨oc52, od52, .func (PySem.W.fnOf "_law_shown_right" "_law_shown_right" (Zv QJ) (Zt QJ) (Zf QJ) .none kV52 dc52 pm52 an52 cd52 ct52), sl52⟩) (c52 : PySem.W.codeIn K cd52 "_law_shown_right" = true) (k52 : PySem.W.keepIn K (.ref f52) = true)
  (a53 : PySem.W.nsIn K mainGlobals "law" = some (some (.ref f53))) (l53 : K.lookup f53 = some ⟨oc53, od53, .func (PySem.W.fnOf "law" "law" (Zv DP) (Zt DP) (Zf DP) .none kV53 dc53 pm53 an53 cd53 ct53), sl53⟩) (c53 : PySem.W.codeIn K cd53 "law" = true) (k53 : PySem.W.keepIn K (.ref f53) = true)
  (z0 : PySem.W.nsIn K mainGlobals "abs" = some none)
  (z1 : PySem.W.nsIn K mainGlobals "all" = some none)
  (z2 : PySem.W.nsIn K mainGlobals "any" = some none)
  (z3 : PySem.W.nsIn K mainGlobals "bool" = some none)
  (z4 : PySem.W.nsIn K mainGlobals "enumerate" = some none)
  (z5 : PySem.W.nsIn K mainGlobals "int" = some none)
  (z6 : PySem.W.nsIn K mainGlobals "isinstance" = some none)
  (z7 : PySem.W.nsIn K mainGlobals "len" = some none)
  (z8 : PySem.W.nsIn K mainGlobals "list" = some none)
  (z9 : PySem.W.nsIn K mainGlobals "max" = some none)
  (z10 : PySem.W.nsIn K mainGlobals "min" = some none)
  (z11 : PySem.W.nsIn K mainGlobals "range" = some none)
  (z12 : PySem.W.nsIn K mainGlobals "set" = some none)
  (z13 : PySem.W.nsIn K mainGlobals "sorted" = some none)
  (z14 : PySem.W.nsIn K mainGlobals "tuple" = some none) :
  ∃ fd : FuncData, (∀ (s : Shared) (v : Value), BindsTo s fd ⟨[v], []⟩ [("_law_script", v)]) ∧ ∀ base : Heap, K.In base → base.Ns mainGlobals mg → ZC l.prog w K mg base CX0 35 fa fd ["_law_script"] (lift K E7) := by
 have e := hfa.symm.trans (PySem.W.mg_of X G a53)
 cases e
 have F0 := Zz (st := JM) l0 c0 k0
 have b0 := F0.binds (ps := ["thing"]) fun _ _ _ _ _ _ us hl => by obtain ⟨_, rfl⟩ := Ko hl; rfl
 have F1 := Zz (st := QF) l1 c1 k1
 have b1 := F1.binds (ps := ["thing"]) fun _ _ _ _ _ _ us hl => by obtain ⟨_, rfl⟩ := Ko hl; rfl
 have F2 := Zz (st := Jg) l2 c2 k2
 have b2 := F2.binds (ps := ["box"]) fun _ _ _ _ _ _ us hl => by obtain ⟨_, rfl⟩ := Ko hl; rfl
 have F3 := Zz (st := Xg) l3 c3 k3
 have b3 := F3.binds (ps := ["one", "other"]) fun _ _ _ _ _ _ us hl => by obtain ⟨_, _, rfl⟩ := Jq hl; rfl
 have F4 := Zz (st := Eh) l4 c4 k4
 have b4 := F4.binds (ps := ["box", "spot"]) fun _ _ _ _ _ _ us hl => by obtain ⟨_, _, rfl⟩ := Jq hl; rfl
 have F5 := Zz (st := Vp) l5 c5 k5
 have b5 := F5.binds (ps := ["box", "other"]) fun _ _ _ _ _ _ us hl => by obtain ⟨_, _, rfl⟩ := Jq hl; rfl
 have F6 := Zz (st := JP) l6 c6 k6
 have b6 := F6.binds (ps := ["box", "spot"]) fun _ _ _ _ _ _ us hl => by obtain ⟨_, _, rfl⟩ := Jq hl; rfl
 have F7 := Zz (st := Z9) l7 c7 k7
 have b7 := F7.binds (ps := ["one", "other"]) fun _ _ _ _ _ _ us hl => by obtain ⟨_, _, rfl⟩ := Jq hl; rfl
 have F8 := Zz (st := Ei) l8 c8 k8
 have b8 := F8.binds (ps := ["one", "other", "way"]) fun _ _ _ _ _ _ us hl => by obtain ⟨_, _, _, rfl⟩ := Y7 hl; rfl
 have F9 := Zz (st := Yq) l9 c9 k9
 have b9 := F9.binds (ps := ["spot", "r"]) fun _ _ _ _ _ _ us hl => by obtain ⟨_, _, rfl⟩ := Jq hl; rfl
 have F10 := Zz (st := Xh) l10 c10 k10
 have b10 := F10.binds (ps := ["box", "way", "at"]) fun _ _ _ _ _ _ us hl => by obtain ⟨_, _, _, rfl⟩ := Y7 hl; rfl
 have F11 := Zz (st := QI) l11 c11 k11
 have b11 := F11.binds (ps := ["box", "way", "at"]) fun _ _ _ _ _ _ us hl => by obtain ⟨_, _, _, rfl⟩ := Y7 hl; rfl
 have F12 := Zz (st := Ym) l12 c12 k12
 have b12 := F12.binds (ps := ["one", "other"]) fun _ _ _ _ _ _ us hl => by obtain ⟨_, _, rfl⟩ := Jq hl; rfl
 have F13 := Zz (st := JR) l13 c13 k13
 have b13 := F13.binds (ps := ["one", "other"]) fun _ _ _ _ _ _ us hl => by obtain ⟨_, _, rfl⟩ := Jq hl; rfl
 have F14 := Zz (st := Ji) l14 c14 k14
 have b14 := F14.binds (ps := ["box", "others"]) fun _ _ _ _ _ _ us hl => by obtain ⟨_, _, rfl⟩ := Jq hl; rfl
 have F15 := Zz (st := JU) l15 c15 k15
 have b15 := F15.binds (ps := ["shape", "box"]) fun _ _ _ _ _ _ us hl => by obtain ⟨_, _, rfl⟩ := Jq hl; rfl
 have F16 := Zz (st := JI) l16 c16 k16
 have b16 := F16.binds (ps := ["shape", "box"]) fun _ _ _ _ _ _ us hl => by obtain ⟨_, _, rfl⟩ := Jq hl; rfl
 have F17 := Zz (st := Qx) l17 c17 k17
 have b17 := F17.binds (ps := ["shape", "box", "way"]) fun _ _ _ _ _ _ us hl => by obtain ⟨_, _, _, rfl⟩ := Y7 hl; rfl
 have F18 := Zz (st := QH) l18 c18 k18
 have b18 := F18.binds (ps := ["shape", "box", "thing"]) fun _ _ _ _ _ _ us hl => by obtain ⟨_, _, _, rfl⟩ := Y7 hl; rfl
 have F19 := Zz (st := Qp) l19 c19 k19
 have b19 := F19.binds (ps := ["shape", "k"]) fun _ _ _ _ _ _ us hl => by obtain ⟨_, _, rfl⟩ := Jq hl; rfl
 have F20 := Zz (st := WK) l20 c20 k20
 have b20 := F20.binds (ps := ["box", "way", "at"]) fun _ _ _ _ _ _ us hl => by obtain ⟨_, _, _, rfl⟩ := Y7 hl; rfl
 have F21 := Zz (st := JQ) l21 c21 k21
 have b21 := F21.binds (ps := ["shape", "spot"]) fun _ _ _ _ _ _ us hl => by obtain ⟨_, _, rfl⟩ := Jq hl; rfl
 have F22 := Zz (st := Xs) l22 c22 k22
 have b22 := F22.binds (ps := ["shape", "spot"]) fun _ _ _ _ _ _ us hl => by obtain ⟨_, _, rfl⟩ := Jq hl; rfl
 have F23 := Zz (st := J1) l23 c23 k23
 have b23 := F23.binds (ps := ["shape", "spot"]) fun _ _ _ _ _ _ us hl => by obtain ⟨_, _, rfl⟩ := Jq hl; rfl
 have F24 := Zz (st := QX) l24 c24 k24
 have b24 := F24.binds (ps := ["shape", "spot"]) fun _ _ _ _ _ _ us hl => by obtain ⟨_, _, rfl⟩ := Jq hl; rfl
 have F25 := Zz (st := Vd) l25 c25 k25
 have b25 := F25.binds (ps := ["shape"]) fun _ _ _ _ _ _ us hl => by obtain ⟨_, rfl⟩ := Ko hl; rfl
 have F26 := Zz (st := QB) l26 c26 k26
 have b26 := F26.binds (ps := ["pieces", "spot"]) fun _ _ _ _ _ _ us hl => by obtain ⟨_, _, rfl⟩ := Jq hl; rfl
 have F27 := Zz (st := Xl) l27 c27 k27
 have b27 := F27.binds (ps := ["shape", "spot"]) fun _ _ _ _ _ _ us hl => by obtain ⟨_, _, rfl⟩ := Jq hl; rfl
 have F28 := Zz (st := QE) l28 c28 k28
 have b28 := F28.binds (ps := ["shape", "spot", "thing"]) fun _ _ _ _ _ _ us hl => by obtain ⟨_, _, _, rfl⟩ := Y7 hl; rfl
 have F29 := Zz (st := Vm) l29 c29 k29
 have b29 := F29.binds (ps := ["spot", "d", "other"]) fun _ _ _ _ _ _ us hl => by obtain ⟨_, _, _, rfl⟩ := Y7 hl; rfl
 have F30 := Zz (st := Qg) l30 c30 k30
 have b30 := F30.binds (ps := ["shape", "spot", "d"]) fun _ _ _ _ _ _ us hl => by obtain ⟨_, _, _, rfl⟩ := Y7 hl; rfl
 have F31 := Zz (st := Dy) l31 c31 k31
 have b31 := F31.binds (ps := ["_law_script", "_law_k"]) fun _ _ _ _ _ _ us hl => by obtain ⟨_, _, rfl⟩ := Jq hl; rfl
 have F32 := Zz (st := WS) l32 c32 k32
 have b32 := F32.binds (ps := ["_law_pen_here", "_law_many"]) fun _ _ _ _ _ _ us hl => by obtain ⟨_, _, rfl⟩ := Jq hl; rfl
 have F33 := Zz (st := Kt) l33 c33 k33
 have b33 := F33.binds (ps := ["_law_pen_here"]) fun _ _ _ _ _ _ us hl => by obtain ⟨_, rfl⟩ := Ko hl; rfl
 have F34 := Zz (st := D5) l34 c34 k34
 have b34 := F34.binds (ps := ["_law_pen_here", "_law_box_here"]) fun _ _ _ _ _ _ us hl => by obtain ⟨_, _, rfl⟩ := Jq hl; rfl
 have F35 := Zz (st := XB) l35 c35 k35
 have b35 := F35.binds (ps := ["_law_pen_here"]) fun _ _ _ _ _ _ us hl => by obtain ⟨_, rfl⟩ := Ko hl; rfl
 have F36 := Zz (st := Vl) l36 c36 k36
 have b36 := F36.binds (ps := ["_law_pen_here"]) fun _ _ _ _ _ _ us hl => by obtain ⟨_, rfl⟩ := Ko hl; rfl
 have F37 := Zz (st := WQ) l37 c37 k37
 have b37 := F37.binds (ps := ["_law_boxes_here", "_law_frame_here"]) fun _ _ _ _ _ _ us hl => by obtain ⟨_, _, rfl⟩ := Jq hl; rfl
 have F38 := Zz (st := Xn) l38 c38 k38
 have b38 := F38.binds (ps := ["_law_boxes_here"]) fun _ _ _ _ _ _ us hl => by obtain ⟨_, rfl⟩ := Ko hl; rfl
 have F39 := Zz (st := WO) l39 c39 k39
 have b39 := F39.binds (ps := ["_law_pen_here", "_law_frame_here"]) fun _ _ _ _ _ _ us hl => by obtain ⟨_, _, rfl⟩ := Jq hl; rfl
 have F40 := Zz (st := Xu) l40 c40 k40
 have b40 := F40.binds (ps := ["_law_cell", "_law_frame_here", "_law_spot_here"]) fun _ _ _ _ _ _ us hl => by obtain ⟨_, _, _, rfl⟩ := Y7 hl; rfl
 have F41 := Zz (st := VQ) l41 c41 k41
 have b41 := F41.binds (ps := ["_law_cells_here", "_law_frame_here", "_law_spot_here"]) fun _ _ _ _ _ _ us hl => by obtain ⟨_, _, _, rfl⟩ := Y7 hl; rfl
 have F42 := Zz (st := Xp) l42 c42 k42
 have b42 := F42.binds (ps := ["_law_one", "_law_box_here"]) fun _ _ _ _ _ _ us hl => by obtain ⟨_, _, rfl⟩ := Jq hl; rfl
 have F43 := Zz (st := Xx) l43 c43 k43
 have b43 := F43.binds (ps := ["_law_box_here", "_law_way", "_law_at"]) fun _ _ _ _ _ _ us hl => by obtain ⟨_, _, _, rfl⟩ := Y7 hl; rfl
 have F44 := Zz (st := XD) l44 c44 k44
 have b44 := F44.binds (ps := ["_law_thing"]) fun _ _ _ _ _ _ us hl => by obtain ⟨_, rfl⟩ := Ko hl; rfl
 have F45 := Zz (st := QY) l45 c45 k45
 have b45 := F45.binds (ps := ["_law_shape", "_law_box_here", "_law_paper"]) fun _ _ _ _ _ _ us hl => by obtain ⟨_, _, _, rfl⟩ := Y7 hl; rfl
 have F46 := Zz (st := XF) l46 c46 k46
 have b46 := F46.binds (ps := ["_law_shape", "_law_box_here", "_law_thing"]) fun _ _ _ _ _ _ us hl => by obtain ⟨_, _, _, rfl⟩ := Y7 hl; rfl
 have F47 := Zz (st := Qj) l47 c47 k47
 have b47 := F47.binds (ps := ["_law_pen_here", "_law_shape", "_law_box_here", "_law_free"]) fun _ _ _ _ _ _ us hl => by obtain ⟨_, _, _, _, rfl⟩ := R4 hl; rfl
 have F48 := Zz (st := JN) l48 c48 k48
 have b48 := F48.binds (ps := ["_law_spot_here", "_law_far"]) fun _ _ _ _ _ _ us hl => by obtain ⟨_, _, rfl⟩ := Jq hl; rfl
 have F49 := Zz (st := Vo) l49 c49 k49
 have b49 := F49.binds (ps := ["_law_thing"]) fun _ _ _ _ _ _ us hl => by obtain ⟨_, rfl⟩ := Ko hl; rfl
 have F50 := Zz (st := V0) l50 c50 k50
 have b50 := F50.binds (ps := ["_law_shape", "_law_sides", "_law_spot_here", "_law_paper"]) fun _ _ _ _ _ _ us hl => by obtain ⟨_, _, _, _, rfl⟩ := R4 hl; rfl
 have F51 := Zz (st := Jp) l51 c51 k51
 have b51 := F51.binds (ps := ["_law_pen_here", "_law_shape", "_law_sides", "_law_frame_here", "_law_spot_here"]) fun _ _ _ _ _ _ us hl => by obtain ⟨_, _, _, _, _, rfl⟩ := ZdP hl; rfl
 have F52 := Zz (st := QJ) l52 c52 k52
 have b52 := F52.binds (ps := ["_law_pen_here", "_law_shape", "_law_cells_here", "_law_frame_here"]) fun _ _ _ _ _ _ us hl => by obtain ⟨_, _, _, _, rfl⟩ := R4 hl; rfl
 have F53 := Zz (st := DP) l53 c53 k53
 have b53 := F53.binds (ps := ["_law_script"]) fun _ _ _ _ _ _ us hl => by obtain ⟨_, rfl⟩ := Ko hl; rfl
 let T : Tx K mg := ⟨_, _, ⟨F0, PySem.W.mg_of X G a0, b0⟩, _, _, ⟨F1, PySem.W.mg_of X G a1, b1⟩, _, _, ⟨F2, PySem.W.mg_of X G a2, b2⟩, _, _, ⟨F3, PySem.W.mg_of X G a3, b3⟩, _, _, ⟨F4, PySem.W.mg_of X G a4, b4⟩, _, _, ⟨F5, PySem.W.mg_of X G a5, b5⟩, _, _, ⟨F6, PySem.W.mg_of X G a6, b6⟩, _, _, ⟨F7, PySem.W.mg_of X G a7, b7⟩, _, _, ⟨F8, PySem.W.mg_of X G a8, b8⟩, _, _, ⟨F9, PySem.W.mg_of X G a9, b9⟩, _, _, ⟨F10, PySem.W.mg_of X G a10, b10⟩, _, _, ⟨F11, PySem.W.mg_of X G a11, b11⟩, _, _, ⟨F12, PySem.W.mg_of X G a12, b12⟩, _, _, ⟨F13, PySem.W.mg_of X G a13, b13⟩, _, _, ⟨F14, PySem.W.mg_of X G a14, b14⟩, _, _, ⟨F15, PySem.W.mg_of X G a15, b15⟩, _, _, ⟨F16, PySem.W.mg_of X G a16, b16⟩, _, _, ⟨F17, PySem.W.mg_of X G a17, b17⟩, _, _, ⟨F18, PySem.W.mg_of X G a18, b18⟩, _, _, ⟨F19, PySem.W.mg_of X G a19, b19⟩, _, _, ⟨F20, PySem.W.mg_of X G a20, b20⟩, _, _, ⟨F21, PySem.W.mg_of X G a21, b21⟩, _, _, ⟨F22, PySem.W.mg_of X G a22, b22⟩, _, _, ⟨F23, PySem.W.mg_of X G a23, b23⟩, _, _, ⟨F24, PySem.W.mg_of X G a24, b24⟩, _, _, ⟨F25, PySem.W.mg_of X G a25, b25⟩, _, _, ⟨F26, PySem.W.mg_of X G a26, b26⟩, _, _, ⟨F27, PySem.W.mg_of X G a27, b27⟩, _, _, ⟨F28, PySem.W.mg_of X G a28, b28⟩, _, _, ⟨F29, PySem.W.mg_of X G a29, b29⟩, _, _, ⟨F30, PySem.W.mg_of X G a30, b30⟩, _, _, ⟨F31, PySem.W.mg_of X G a31, b31⟩, _, _, ⟨F32, PySem.W.mg_of X G a32, b32⟩, _, _, ⟨F33, PySem.W.mg_of X G a33, b33⟩, _, _, ⟨F34, PySem.W.mg_of X G a34, b34⟩, _, _, ⟨F35, PySem.W.mg_of X G a35, b35⟩, _, _, ⟨F36, PySem.W.mg_of X G a36, b36⟩, _, _, ⟨F37, PySem.W.mg_of X G a37, b37⟩, _, _, ⟨F38, PySem.W.mg_of X G a38, b38⟩, _, _, ⟨F39, PySem.W.mg_of X G a39, b39⟩, _, _, ⟨F40, PySem.W.mg_of X G a40, b40⟩, _, _, ⟨F41, PySem.W.mg_of X G a41, b41⟩, _, _, ⟨F42, PySem.W.mg_of X G a42, b42⟩, _, _, ⟨F43, PySem.W.mg_of X G a43, b43⟩, _, _, ⟨F44, PySem.W.mg_of X G a44, b44⟩, _, _, ⟨F45, PySem.W.mg_of X G a45, b45⟩, _, _, ⟨F46, PySem.W.mg_of X G a46, b46⟩, _, _, ⟨F47, PySem.W.mg_of X G a47, b47⟩, _, _, ⟨F48, PySem.W.mg_of X G a48, b48⟩, _, _, ⟨F49, PySem.W.mg_of X G a49, b49⟩, _, _, ⟨F50, PySem.W.mg_of X G a50, b50⟩, _, _, ⟨F51, PySem.W.mg_of X G a51, b51⟩, _, _, ⟨F52, PySem.W.mg_of X G a52, b52⟩, _, _, ⟨F53, PySem.W.mg_of X G a53, b53⟩, PySem.W.mg_none_of X G z0, PySem.W.mg_none_of X G z1, PySem.W.mg_none_of X G z2, PySem.W.mg_none_of X G z3, PySem.W.mg_none_of X G z4, PySem.W.mg_none_of X G z5, PySem.W.mg_none_of X G z6, PySem.W.mg_none_of X G z7, PySem.W.mg_none_of X G z8, PySem.W.mg_none_of X G z9, PySem.W.mg_none_of X G z10, PySem.W.mg_none_of X G z11, PySem.W.mg_none_of X G z12, PySem.W.mg_none_of X G z13, PySem.W.mg_none_of X G z14⟩
 exact ⟨_, fun s v => .of_eq rfl, fun base _ _ => Za6 T⟩
theorem walk {l : PySem.W.OpenLaw} {q : Program} {loose : List Str} {XP : (Str → Option Value) → Heap → Prop} {YP : World → Heap → Prop} {d : DefRec} {K : Params → PySem.W.Frag} (hn : l.most = some 63) (hdf : d.params.defaults = [])
  (hY : ∀ (w : World) (h : Heap), YP w h → (K w.params).In h)
  (F : ∀ (w : World) (mg : Str → Option Value) (fa : Addr) (h : Heap), (K w.params).In h → h.Ns mainGlobals mg → mg d.name = some (.ref fa) →
   ∃ fd : FuncData, (∀ (s : Shared) (u : Value), BindsTo s fd ⟨[u], []⟩ [("_law_script", u)]) ∧ ∀ base : Heap, (K w.params).In base → base.Ns mainGlobals mg → ZC l.prog w (K w.params) mg base CX0 35 fa fd ["_law_script"] (lift (K w.params) E7)) :
  PySem.W.WalkO q loose XP YP l.row.toRowW d [] (fun f vs => PySem.call f vs) :=
 L2.Rg (n := 63) (k := 35) (x := "_law_script") (CX := fun _ => CX0) (sp := fun w => lift (K w.params) E7) hn (by decide) hdf ⟨rfl, by decide, by decide, rfl⟩ hY F
  (fun w H a ns hl hO hS => HM hl hO hS) fun _ _ _ _ _ z => z
end My
theorem PySem.W.Fast.tw8654723082160794356 : True := trivial
theorem PySem.W.Fast.tw10828308469290675277 : True := trivial
theorem PySem.W.Fast.tw6688544310326759255 : True := trivial
theorem PySem.W.Fast.tw574736618214839592 : True := trivial
theorem PySem.W.Fast.tw17967284611980207166 : True := trivial
theorem PySem.W.Fast.tw3934058134925840688 : True := trivial
theorem PySem.W.Fast.tw14143173529774549919 : True := trivial
theorem PySem.W.Fast.tw6364921876825808727 : True := trivial
theorem PySem.W.Fast.tw11551015565736674098 : True := trivial
theorem PySem.W.Fast.tw5758114206275993316 : True := trivial
theorem PySem.W.Fast.tw11640589385972178436 : True := trivial
theorem PySem.W.Fast.tw8159074727311649174 : True := trivial
theorem PySem.W.Fast.tw14415046155776963 : True := trivial
theorem PySem.W.Fast.tw3067134635587023824 : True := trivial
theorem PySem.W.Fast.tw4538648738427274484 : True := trivial
theorem PySem.W.Fast.tw16466570036891852488 : True := trivial
theorem PySem.W.Fast.tw14751440161010180942 : True := trivial
theorem PySem.W.Fast.tw15041857658555851628 : True := trivial
theorem PySem.W.Fast.tw4066434646457655178 : True := trivial
theorem PySem.W.Fast.tw13783470111141651256 : True := trivial
theorem PySem.W.Fast.tw6970510888877740017 : True := trivial
theorem PySem.W.Fast.tw13953941034889968879 : True := trivial
theorem PySem.W.Fast.tw5728470628842664823 : True := trivial
theorem PySem.W.Fast.tw10285154850261913130 : True := trivial
theorem PySem.W.Fast.tw13986225932231276888 : True := trivial
theorem PySem.W.Fast.tw7299607120505556043 : True := trivial
theorem PySem.W.Fast.tw13391344974550463951 : True := trivial
theorem PySem.W.Fast.tw6920242461874215202 : True := trivial
theorem PySem.W.Fast.tw8009028627630150260 : True := trivial
theorem PySem.W.Fast.tw17061727295737840986 : True := trivial
theorem PySem.W.Fast.tw11453553758794011031 : True := trivial
theorem PySem.W.Fast.tw15485838976189109833 : True := trivial
theorem PySem.W.Fast.tw6466041928596402021 : True := trivial
theorem PySem.W.Fast.tw17387907807787293125 : True := trivial
theorem PySem.W.Fast.tw986142392435984470 : True := trivial
theorem PySem.W.Fast.tw10885506514234966610 : True := trivial
theorem PySem.W.Fast.tw13376518436741901424 : True := trivial
theorem PySem.W.Fast.tw15930203444403835993 : True := trivial
theorem PySem.W.Fast.tw15814169643464569654 : True := trivial
theorem PySem.W.Fast.tw16150120511995984744 : True := trivial
theorem PySem.W.Fast.tw1900521986056546233 : True := trivial
theorem PySem.W.Fast.tw17775043901682560490 : True := trivial
theorem PySem.W.Fast.tw5712670033420854131 : True := trivial
theorem PySem.W.Fast.tw4713829865788796663 : True := trivial
theorem PySem.W.Fast.tw4823726284560953490 : True := trivial
theorem PySem.W.Fast.tw9480882342626101785 : True := trivial
theorem PySem.W.Fast.tw16386216639531132458 : True := trivial
theorem PySem.W.Fast.tw8464301517443457942 : True := trivial
theorem PySem.W.Fast.tw17061152838993381666 : True := trivial
theorem PySem.W.Fast.tw1608617540167803406 : True := trivial
theorem PySem.W.Fast.tw15610388582109305729 : True := trivial
theorem PySem.W.Fast.tw7037498545774457389 : True := trivial
theorem PySem.W.Fast.tw4076563158006292493 : True := trivial
theorem PySem.W.Fast.tw15728535194650332758 : True := trivial
theorem PySem.W.Fast.tw3929930976033826929 : True := trivial
theorem PySem.W.Fast.tw709115229934418174 : True := trivial
theorem PySem.W.Fast.tw11897049249240464912 : True := trivial
theorem PySem.W.Fast.tw14487705073041978713 : True := trivial
theorem PySem.W.Fast.tw14439707532092110524 : True := trivial
theorem PySem.W.Fast.tw6663396235367145490 : True := trivial
theorem PySem.W.Fast.tw14733366840495421899 : True := trivial
theorem PySem.W.Fast.tw16410377902549331328 : True := trivial
theorem PySem.W.Fast.tw10633706615654907203 : True := trivial
theorem PySem.W.Fast.tw9973652942930567861 : True := trivial
theorem PySem.W.Fast.tw5409978209940756193 : True := trivial
theorem PySem.W.Fast.tw13444990369507271206 : True := trivial
theorem PySem.W.Fast.tw4188176350516764386 : True := trivial
theorem PySem.W.Fast.tw6243725321265708478 : True := trivial
theorem PySem.W.Fast.tw15361218399589560201 : True := trivial
theorem PySem.W.Fast.tw2778817539689271265 : True := trivial
theorem PySem.W.Fast.tw13417888072506684659 : True := trivial
theorem PySem.W.Fast.tw6650384700676485288 : True := trivial
theorem PySem.W.Fast.tw16306756492644246903 : True := trivial
theorem PySem.W.Fast.tw1977762672160917812 : True := trivial
theorem PySem.W.Fast.tw17387546710826203900 : True := trivial
theorem PySem.W.Fast.tw5746720590474697570 : True := trivial
theorem PySem.W.Fast.tw8338038290082777539 : True := trivial
theorem PySem.W.Fast.tw2833302263180147990 : True := trivial
theorem PySem.W.Fast.tw15259428080180389130 : True := trivial
theorem PySem.W.Fast.tw3052151736031904773 : True := trivial
theorem PySem.W.Fast.tw17353661592432575307 : True := trivial
theorem PySem.W.Fast.tw15435464121403711080 : True := trivial
theorem PySem.W.Fast.tw1001655150268156167 : True := trivial
theorem PySem.W.Fast.tw5349987900425007778 : True := trivial
theorem PySem.W.Fast.tw10800498514050910342 : True := trivial
theorem PySem.W.Fast.tw18187420675000105447 : True := trivial
theorem PySem.W.Fast.tw12656944916190646184 : True := trivial
theorem PySem.W.Fast.tw16076160465535758878 : True := trivial
theorem PySem.W.Fast.tw6395461710511745513 : True := trivial
theorem PySem.W.Fast.tw13862279446011431690 : True := trivial
theorem PySem.W.Fast.tw14052384869466664362 : True := trivial
theorem PySem.W.Fast.tw12351484966372604723 : True := trivial
theorem PySem.W.Fast.tw2111894226792296300 : True := trivial
theorem PySem.W.Fast.tw7810247881407628578 : True := trivial
theorem PySem.W.Fast.tw3377056942563520061 : True := trivial
theorem PySem.W.Fast.tw8593279142183397987 : True := trivial
theorem PySem.W.Fast.tw7290433037090382160 : True := trivial
theorem PySem.W.Fast.tw17758093818271044728 : True := trivial
theorem PySem.W.Fast.tw15234682359312471119 : True := trivial
theorem PySem.W.Fast.tw9766407880838473667 : True := trivial
theorem PySem.W.Fast.tw3366399567581205829 : True := trivial
theorem PySem.W.Fast.tw12145077070179146118 : True := trivial
theorem PySem.W.Fast.tw12492996521059916000 : True := trivial
theorem PySem.W.Fast.tw4214070557918943109 : True := trivial
theorem PySem.W.Fast.tw1047003664621990303 : True := trivial
theorem PySem.W.Fast.tw2921033221936065914 : True := trivial
theorem PySem.W.Fast.tw15906548927987144897 : True := trivial
theorem PySem.W.Fast.tw10627278157269492046 : True := trivial
theorem PySem.W.Fast.tw9847438071761785091 : True := trivial
theorem PySem.W.Fast.tw1757268854845361798 : True := trivial
theorem PySem.W.Fast.tw11795515517496552615 : True := trivial
theorem PySem.W.Fast.tw4425255517929546792 : True := trivial
theorem PySem.W.Fast.tw7142973280832582015 : True := trivial
theorem PySem.W.Fast.tw452563431970229174 : True := trivial
theorem PySem.W.Fast.tw1399765421024573780 : True := trivial
theorem PySem.W.Fast.tw4355589851453324496 : True := trivial
theorem PySem.W.Fast.tw3010343423210676610 : True := trivial
theorem PySem.W.Fast.tw15282062584116963512 : True := trivial
theorem PySem.W.Fast.tw1833298459354946303 : True := trivial
theorem PySem.W.Fast.tw14986255029072582872 : True := trivial
theorem PySem.W.Fast.tw5619459529454486284 : True := trivial
theorem PySem.W.Fast.tw18052267367108873997 : True := trivial
theorem PySem.W.Fast.tw1097969733174836380 : True := trivial
theorem PySem.W.Fast.tw8342281924769474871 : True := trivial
theorem PySem.W.Fast.tw8373190568305950420 : True := trivial
theorem PySem.W.Fast.tw3777353096395111901 : True := trivial
theorem PySem.W.Fast.tw11998078511584923291 : True := trivial
theorem PySem.W.Fast.tw5158069235925952143 : True := trivial
theorem PySem.W.Fast.tw7579310992600450501 : True := trivial
theorem PySem.W.Fast.tw8837866652104935655 : True := trivial
theorem PySem.W.Fast.tw2548200688333438918 : True := trivial
theorem PySem.W.Fast.tw12000589443977615506 : True := trivial
theorem PySem.W.Fast.tw15363682135634417675 : True := trivial
theorem PySem.W.Fast.tw3665603913619427944 : True := trivial
theorem PySem.W.Fast.tw3844698224772062235 : True := trivial
theorem PySem.W.Fast.tw4211412036114764371 : True := trivial
theorem PySem.W.Fast.tw15489421674474085844 : True := trivial
theorem PySem.W.Fast.tw6174307461433769579 : True := trivial
theorem PySem.W.Fast.tw18156660727540272689 : True := trivial
theorem PySem.W.Fast.tw12328510782572662035 : True := trivial
theorem PySem.W.Fast.tw14714930218274102326 : True := trivial
theorem PySem.W.Fast.tw2087678089362319255 : True := trivial
theorem PySem.W.Fast.tw11323554271901218404 : True := trivial
theorem PySem.W.Fast.tw17173032690529257167 : True := trivial
theorem PySem.W.Fast.tw1521851643962527832 : True := trivial
theorem PySem.W.Fast.tw9412385308247610734 : True := trivial
theorem PySem.W.Fast.tw2047043427706193088 : True := trivial
theorem PySem.W.Fast.tw4674493317462850006 : True := trivial
theorem PySem.W.Fast.tw3039902485055167798 : True := trivial
theorem PySem.W.Fast.tw882980526395079715 : True := trivial
theorem PySem.W.Fast.tw13326981295535580011 : True := trivial
theorem PySem.W.Fast.tw12520671140295719101 : True := trivial
theorem PySem.W.Fast.tw14571967929485177877 : True := trivial
theorem PySem.W.Fast.tw9286353946032571624 : True := trivial
theorem PySem.W.Fast.tw13378314891253092845 : True := trivial
theorem PySem.W.Fast.tw12627567618289903348 : True := trivial
theorem PySem.W.Fast.tw2488645241324464543 : True := trivial
theorem PySem.W.Fast.tw5673323615520436958 : True := trivial
theorem PySem.W.Fast.tw10078819924317947851 : True := trivial
theorem PySem.W.Fast.tw9061754695031595956 : True := trivial
theorem PySem.W.Fast.tw15379326730174340888 : True := trivial
theorem PySem.W.Fast.tw11364873735452833711 : True := trivial
theorem PySem.W.Fast.tw12529356631378383400 : True := trivial
theorem PySem.W.Fast.tw5321118639473353815 : True := trivial
theorem PySem.W.Fast.tw14171568727907583755 : True := trivial
theorem PySem.W.Fast.tw112156801786787560 : True := trivial
theorem PySem.W.Fast.tw15420091277630968430 : True := trivial
theorem PySem.W.Fast.tw7345479616653038101 : True := trivial
theorem PySem.W.Fast.tw5677860834443568552 : True := trivial
theorem PySem.W.Fast.tw8323310529433101630 : True := trivial
theorem PySem.W.Fast.tw13009995293275417897 : True := trivial
theorem PySem.W.Fast.tw2036386357060503269 : True := trivial
theorem PySem.W.Fast.tw13491632022993816607 : True := trivial
theorem PySem.W.Fast.tw7324904043273729959 : True := trivial
theorem PySem.W.Fast.tw4737504929746144564 : True := trivial
theorem PySem.W.Fast.tw3144162333221834796 : True := trivial
theorem PySem.W.Fast.tw16511022319730160096 : True := trivial
theorem PySem.W.Fast.tw453784098476282069 : True := trivial
theorem PySem.W.Fast.tw17548801263856681607 : True := trivial
theorem PySem.W.Fast.tw12859472895481476779 : True := trivial
theorem PySem.W.Fast.tw14869840495213277793 : True := trivial
theorem PySem.W.Fast.tw7723762029650934464 : True := trivial
theorem PySem.W.Fast.tw6714323365303537567 : True := trivial
theorem PySem.W.Fast.tw1089240996312049357 : True := trivial
theorem PySem.W.Fast.tw4065782094358444412 : True := trivial
theorem PySem.W.Fast.tw6913030382558846257 : True := trivial
theorem PySem.W.Fast.tw17888036933783977159 : True := trivial
theorem PySem.W.Fast.tw8464268216681373568 : True := trivial
theorem PySem.W.Fast.tw15859819121492428753 : True := trivial
theorem PySem.W.Fast.tw16835412326487142053 : True := trivial
theorem PySem.W.Fast.tw14055111034018039510 : True := trivial
theorem PySem.W.Fast.tw16153245280132166925 : True := trivial
theorem PySem.W.Fast.tw4973760078184146448 : True := trivial
theorem PySem.W.Fast.tw4952593651158718716 : True := trivial
theorem PySem.W.Fast.tw1527074618514482510 : True := trivial
theorem PySem.W.Fast.tw3253373015262193361 : True := trivial
theorem PySem.W.Fast.tw10082883824239315577 : True := trivial
theorem PySem.W.Fast.tw4495980634186930317 : True := trivial
theorem PySem.W.Fast.tw9998607178099204212 : True := trivial
theorem PySem.W.Fast.tw10195790323795204892 : True := trivial
theorem PySem.W.Fast.tw16278493805841254225 : True := trivial
theorem PySem.W.Fast.tw7759068676947842460 : True := trivial
theorem PySem.W.Fast.tw15022729429227422942 : True := trivial
theorem PySem.W.Fast.tw13196918793968242791 : True := trivial
theorem PySem.W.Fast.tw7922250098041538215 : True := trivial
theorem PySem.W.Fast.tw9406994289065929026 : True := trivial
theorem PySem.W.Fast.tw10114221442874938217 : True := trivial
theorem PySem.W.Fast.tw9195404476810587005 : True := trivial
theorem PySem.W.Fast.tw7334120681484205055 : True := trivial
theorem PySem.W.Fast.tw16788497094868776130 : True := trivial
theorem PySem.W.Fast.tw6285455417066998477 : True := trivial
theorem PySem.W.Fast.tw15411358924685672501 : True := trivial
theorem PySem.W.Fast.tw10873975400036631625 : True := trivial
theorem PySem.W.Fast.tw6708486557698291870 : True := trivial
theorem PySem.W.Fast.tw2823625172785824695 : True := trivial
theorem PySem.W.Fast.tw1816402006460547835 : True := trivial
theorem PySem.W.Fast.tw739174634001866408 : True := trivial
theorem PySem.W.Fast.tw2877584392481728790 : True := trivial
theorem PySem.W.Fast.tw10344504950725426582 : True := trivial
theorem PySem.W.Fast.tw2734811807226922126 : True := trivial
theorem PySem.W.Fast.tw14314625460056933151 : True := trivial
theorem PySem.W.Fast.tw15149793315262187685 : True := trivial
theorem PySem.W.Fast.tw3203561507801887703 : True := trivial
theorem PySem.W.Fast.tw809655136715323735 : True := trivial
theorem PySem.W.Fast.tw1150923386548394255 : True := trivial
theorem PySem.W.Fast.tw1831614733789426000 : True := trivial
theorem PySem.W.Fast.tw14633511889432300224 : True := trivial
theorem PySem.W.Fast.tw1710023591193911550 : True := trivial
theorem PySem.W.Fast.tw4570189547392689539 : True := trivial
theorem PySem.W.Fast.tw11219216251605222756 : True := trivial
theorem PySem.W.Fast.tw5421354649297838206 : True := trivial
theorem PySem.W.Fast.tw14499387522731530301 : True := trivial
theorem PySem.W.Fast.tw16832821139755423176 : True := trivial
theorem PySem.W.Fast.tw10220583334134042101 : True := trivial
theorem PySem.W.Fast.tw350046122383113926 : True := trivial
theorem PySem.W.Fast.tw8456907684673883972 : True := trivial
theorem PySem.W.Fast.tw5234723561653399905 : True := trivial
theorem PySem.W.Fast.tw9195402564130976585 : True := trivial
theorem PySem.W.Fast.tw14699348850849780675 : True := trivial
theorem PySem.W.Fast.tw8591337040925426733 : True := trivial
theorem PySem.W.Fast.tw11487844942432096640 : True := trivial
theorem PySem.W.Fast.tw3050153910580631266 : True := trivial
theorem PySem.W.Fast.tw15914531384519778395 : True := trivial
theorem PySem.W.Fast.tw16150203143412303342 : True := trivial
theorem PySem.W.Fast.tw12319510087423376995 : True := trivial
theorem PySem.W.Fast.tw6260372423886178067 : True := trivial
theorem PySem.W.Fast.tw3488048357976472819 : True := trivial
theorem PySem.W.Fast.tw10849207008220851415 : True := trivial
theorem PySem.W.Fast.tw14818330369097818701 : True := trivial
theorem PySem.W.Fast.tw10073819511271527761 : True := trivial
theorem PySem.W.Fast.tw12559256666090882939 : True := trivial
theorem PySem.W.Fast.tw6135436422163747721 : True := trivial
theorem PySem.W.Fast.tw13524363619877514255 : True := trivial
theorem PySem.W.Fast.tw17141430431295522240 : True := trivial
theorem PySem.W.Fast.tw6933266952177555988 : True := trivial
theorem PySem.W.Fast.tw8673528494432266742 : True := trivial
theorem PySem.W.Fast.tw444309175449031255 : True := trivial
theorem PySem.W.Fast.tw6551295958123882198 : True := trivial
theorem PySem.W.Fast.tw90511414679167781 : True := trivial
theorem PySem.W.Fast.tw4003953465069280352 : True := trivial
theorem PySem.W.Fast.tw10675586377404967133 : True := trivial
theorem PySem.W.Fast.tw14268618057063298393 : True := trivial
theorem PySem.W.Fast.tw500741128959241704 : True := trivial
theorem PySem.W.Fast.tw22646590981625400 : True := trivial
theorem PySem.W.Fast.tw8930632415680190459 : True := trivial
theorem PySem.W.Fast.tw7910707352202854338 : True := trivial
theorem PySem.W.Fast.tw9620202377757487041 : True := trivial
theorem PySem.W.Fast.tw18378110721573037795 : True := trivial
theorem PySem.W.Fast.tw2056448689393276834 : True := trivial
theorem PySem.W.Fast.tw12778729333333913263 : True := trivial
theorem PySem.W.Fast.tw866139160535876804 : True := trivial
theorem PySem.W.Fast.tw5039793479050487947 : True := trivial
theorem PySem.W.Fast.tw15269084355072382850 : True := trivial
theorem PySem.W.Fast.tw2694028029217009371 : True := trivial
theorem PySem.W.Fast.tw13855016342919139382 : True := trivial
theorem PySem.W.Fast.tw10404014694911901767 : True := trivial
theorem PySem.W.Fast.tw6332310409681581919 : True := trivial
theorem PySem.W.Fast.tw5372687596696706895 : True := trivial
theorem PySem.W.Fast.tw1002658698771352994 : True := trivial
theorem PySem.W.Fast.tw17928905142047585320 : True := trivial
theorem PySem.W.Fast.tw7761143758849514480 : True := trivial
theorem PySem.W.Fast.tw11917122498040724666 : True := trivial
theorem PySem.W.Fast.tw18367214019979774859 : True := trivial
theorem PySem.W.Fast.tw5452342373967387631 : True := trivial
theorem PySem.W.Fast.tw17181335596756255316 : True := trivial
theorem PySem.W.Fast.tw13157755801273648529 : True := trivial
theorem PySem.W.Fast.tw12054884622432986482 : True := trivial
theorem PySem.W.Fast.tw10450090768828713187 : True := trivial
theorem PySem.W.Fast.tw16764752206195037339 : True := trivial
theorem PySem.W.Fast.tw16848429816897820971 : True := trivial
theorem PySem.W.Fast.tw10831561997318362171 : True := trivial
theorem PySem.W.Fast.tw9182085906902777206 : True := trivial
theorem PySem.W.Fast.tw11834025968056476663 : True := trivial
theorem PySem.W.Fast.tw7554757859094205750 : True := trivial
theorem PySem.W.Fast.tw11585001468958460390 : True := trivial
theorem PySem.W.Fast.tw9111372378680909965 : True := trivial
theorem PySem.W.Fast.tw9660850958690646843 : True := trivial
theorem PySem.W.Fast.tw17523539317860645614 : True := trivial
theorem PySem.W.Fast.tw8230258308731696831 : True := trivial
theorem PySem.W.Fast.tw2903976531388048143 : True := trivial
theorem PySem.W.Fast.tw2425474383556561710 : True := trivial
theorem PySem.W.Fast.tw13321743627844902378 : True := trivial
theorem PySem.W.Fast.tw7231585067966598803 : True := trivial
theorem PySem.W.Fast.tw15064350224915610436 : True := trivial
theorem PySem.W.Fast.tw16659535377083136930 : True := trivial
theorem PySem.W.Fast.tw4682686297243258574 : True := trivial
theorem PySem.W.Fast.tw17615777169797460207 : True := trivial
theorem PySem.W.Fast.tw14063750262348441630 : True := trivial
theorem PySem.W.Fast.tw1061174813139509320 : True := trivial
theorem PySem.W.Fast.tw14857525807802923744 : True := trivial
theorem PySem.W.Fast.tw1651830894284517363 : True := trivial
theorem PySem.W.Fast.tw4836677627929691026 : True := trivial
theorem PySem.W.Fast.tw8789341788576904548 : True := trivial
theorem PySem.W.Fast.tw17490800763792439769 : True := trivial
theorem PySem.W.Fast.tw15597127117362588041 : True := trivial
theorem PySem.W.Fast.tw9521995878169777992 : True := trivial
theorem PySem.W.Fast.tw6104635475163183935 : True := trivial
theorem PySem.W.Fast.tw14199493412535501933 : True := trivial
theorem PySem.W.Fast.tw5479587078525543308 : True := trivial
theorem PySem.W.Fast.tw14832582749847235718 : True := trivial
theorem PySem.W.Fast.tw6580164432408661716 : True := trivial
theorem PySem.W.Fast.tw18415900256846955431 : True := trivial
theorem PySem.W.Fast.tw16731834926283456685 : True := trivial
theorem PySem.W.Fast.tw12494229464923292959 : True := trivial
open PySem PySem.W PyProof.Rows
set_option maxRecDepth 100000 in
set_option maxHeartbeats 0 in
theorem PySem.Challenge.cw_landsentered_k13_depths_shown_holds : PySem.Challenge.rw_landsentered_k13_depths_shown.Holds := by
 w_on; o_law; k_head; (case hw => w_witness2)
 k_fill
 refine My.walk (l := PySem.Challenge.rw_landsentered_k13_depths_shown) rfl rfl (fun w h Y => PySem.W.kIn_of Y) ?F
 case F =>
  intro w mg fa h KX G hmg
  refine' My.all_mk KX G hmg ?a0 ?l0 ?c0 ?k0 ?a1 ?l1 ?c1 ?k1 ?a2 ?l2 ?c2 ?k2 ?a3 ?l3 ?c3 ?k3 ?a4 ?l4 ?c4 ?k4 ?a5 ?l5 ?c5 ?k5 ?a6 ?l6 ?c6 ?k6 ?a7 ?l7 ?c7 ?k7 ?a8 ?l8 ?c8 ?k8 ?a9 ?l9 ?c9 ?k9 ?a10 ?l10 ?c10 ?k10 ?a11 ?l11 ?c11 ?k11 ?a12 ?l12 ?c12 ?k12 ?a13 ?l13 ?c13 ?k13 ?a14 ?l14 ?c14 ?k14 ?a15 ?l15 ?c15 ?k15 ?a16 ?l16 ?c16 ?k16 ?a17 ?l17 ?c17 ?k17 ?a18 ?l18 ?c18 ?k18 ?a19 ?l19 ?c19 ?k19 ?a20 ?l20 ?c20 ?k20 ?a21 ?l21 ?c21 ?k21 ?a22 ?l22 ?c22 ?k22 ?a23 ?l23 ?c23 ?k23 ?a24 ?l24 ?c24 ?k24 ?a25 ?l25 ?c25 ?k25 ?a26 ?l26 ?c26 ?k26 ?a27 ?l27 ?c27 ?k27 ?a28 ?l28 ?c28 ?k28 ?a29 ?l29 ?c29 ?k29 ?a30 ?l30 ?c30 ?k30 ?a31 ?l31 ?c31 ?k31 ?a32 ?l32 ?c32 ?k32 ?a33 ?l33 ?c33 ?k33 ?a34 ?l34 ?c34 ?k34 ?a35 ?l35 ?c35 ?k35 ?a36 ?l36 ?c36 ?k36 ?a37 ?l37 ?c37 ?k37 ?a38 ?l38 ?c38 ?k38 ?a39 ?l39 ?c39 ?k39 ?a40 ?l40 ?c40 ?k40 ?a41 ?l41 ?c41 ?k41 ?a42 ?l42 ?c42 ?k42 ?a43 ?l43 ?c43 ?k43 ?a44 ?l44 ?c44 ?k44 ?a45 ?l45 ?c45 ?k45 ?a46 ?l46 ?c46 ?k46 ?a47 ?l47 ?c47 ?k47 ?a48 ?l48 ?c48 ?k48 ?a49 ?l49 ?c49 ?k49 ?a50 ?l50 ?c50 ?k50 ?a51 ?l51 ?c51 ?k51 ?a52 ?l52 ?c52 ?k52 ?a53 ?l53 ?c53 ?k53 ?z0 ?z1 ?z2 ?z3 ?z4 ?z5 ?z6 ?z7 ?z8 ?z9 ?z10 ?z11 ?z12 ?z13 ?z14
  (case a0 => k_is)
  (case l0 => k_is)
  (case c0 => k_is)
  (case k0 => k_is)
  (case a1 => k_is)
  (case l1 => k_is)
  (case c1 => k_is)
  (case k1 => k_is)
  (case a2 => k_is)
  (case l2 => k_is)
  (case c2 => k_is)
  (case k2 => k_is)
  (case a3 => k_is)
  (case l3 => k_is)
  (case c3 => k_is)
  (case k3 => k_is)
  (case a4 => k_is)
  (case l4 => k_is)
  (case c4 => k_is)
  (case k4 => k_is)
  (case a5 => k_is)
  (case l5 => k_is)
  (case c5 => k_is)
  (case k5 => k_is)
  (case a6 => k_is)
  (case l6 => k_is)
  (case c6 => k_is)
  (case k6 => k_is)
  (case a7 => k_is)
  (case l7 => k_is)
  (case c7 => k_is)
  (case k7 => k_is)
  (case a8 => k_is)
  (case l8 => k_is)
  (case c8 => k_is)
  (case k8 => k_is)
  (case a9 => k_is)
  (case l9 => k_is)
  (case c9 => k_is)
  (case k9 => k_is)
  (case a10 => k_is)
  (case l10 => k_is)
  (case c10 => k_is)
  (case k10 => k_is)
  (case a11 => k_is)
  (case l11 => k_is)
  (case c11 => k_is)
  (case k11 => k_is)
  (case a12 => k_is)
  (case l12 => k_is)
  (case c12 => k_is)
  (case k12 => k_is)
  (case a13 => k_is)
  (case l13 => k_is)
  (case c13 => k_is)
  (case k13 => k_is)
  (case a14 => k_is)
  (case l14 => k_is)
  (case c14 => k_is)
  (case k14 => k_is)
  (case a15 => k_is)
  (case l15 => k_is)
  (case c15 => k_is)
  (case k15 => k_is)
  (case a16 => k_is)
  (case l16 => k_is)
  (case c16 => k_is)
  (case k16 => k_is)
  (case a17 => k_is)
  (case l17 => k_is)
  (case c17 => k_is)
  (case k17 => k_is)
  (case a18 => k_is)
  (case l18 => k_is)
  (case c18 => k_is)
  (case k18 => k_is)
  (case a19 => k_is)
  (case l19 => k_is)
  (case c19 => k_is)
  (case k19 => k_is)
  (case a20 => k_is)
  (case l20 => k_is)
  (case c20 => k_is)
  (case k20 => k_is)
  (case a21 => k_is)
  (case l21 => k_is)
  (case c21 => k_is)
  (case k21 => k_is)
  (case a22 => k_is)
  (case l22 => k_is)
  (case c22 => k_is)
  (case k22 => k_is)
  (case a23 => k_is)
  (case l23 => k_is)
  (case c23 => k_is)
  (case k23 => k_is)
  (case a24 => k_is)
  (case l24 => k_is)
  (case c24 => k_is)
  (case k24 => k_is)
  (case a25 => k_is)
  (case l25 => k_is)
  (case c25 => k_is)
  (case k25 => k_is)
  (case a26 => k_is)
  (case l26 => k_is)
  (case c26 => k_is)
  (case k26 => k_is)
  (case a27 => k_is)
  (case l27 => k_is)
  (case c27 => k_is)
  (case k27 => k_is)
  (case a28 => k_is)
  (case l28 => k_is)
  (case c28 => k_is)
  (case k28 => k_is)
  (case a29 => k_is)
  (case l29 => k_is)
  (case c29 => k_is)
  (case k29 => k_is)
  (case a30 => k_is)
  (case l30 => k_is)
  (case c30 => k_is)
  (case k30 => k_is)
  (case a31 => k_is)
  (case l31 => k_is)
  (case c31 => k_is)
  (case k31 => k_is)
  (case a32 => k_is)
  (case l32 => k_is)
  (case c32 => k_is)
  (case k32 => k_is)
  (case a33 => k_is)
  (case l33 => k_is)
  (case c33 => k_is)
  (case k33 => k_is)
  (case a34 => k_is)
  (case l34 => k_is)
  (case c34 => k_is)
  (case k34 => k_is)
  (case a35 => k_is)
  (case l35 => k_is)
  (case c35 => k_is)
  (case k35 => k_is)
  (case a36 => k_is)
  (case l36 => k_is)
  (case c36 => k_is)
  (case k36 => k_is)
  (case a37 => k_is)
  (case l37 => k_is)
  (case c37 => k_is)
  (case k37 => k_is)
  (case a38 => k_is)
  (case l38 => k_is)
  (case c38 => k_is)
  (case k38 => k_is)
  (case a39 => k_is)
  (case l39 => k_is)
  (case c39 => k_is)
  (case k39 => k_is)
  (case a40 => k_is)
  (case l40 => k_is)
  (case c40 => k_is)
  (case k40 => k_is)
  (case a41 => k_is)
  (case l41 => k_is)
  (case c41 => k_is)
  (case k41 => k_is)
  (case a42 => k_is)
  (case l42 => k_is)
  (case c42 => k_is)
  (case k42 => k_is)
  (case a43 => k_is)
  (case l43 => k_is)
  (case c43 => k_is)
  (case k43 => k_is)
  (case a44 => k_is)
  (case l44 => k_is)
  (case c44 => k_is)
  (case k44 => k_is)
  (case a45 => k_is)
  (case l45 => k_is)
  (case c45 => k_is)
  (case k45 => k_is)
  (case a46 => k_is)
  (case l46 => k_is)
  (case c46 => k_is)
  (case k46 => k_is)
  (case a47 => k_is)
  (case l47 => k_is)
  (case c47 => k_is)
  (case k47 => k_is)
  (case a48 => k_is)
  (case l48 => k_is)
  (case c48 => k_is)
  (case k48 => k_is)
  (case a49 => k_is)
  (case l49 => k_is)
  (case c49 => k_is)
  (case k49 => k_is)
  (case a50 => k_is)
  (case l50 => k_is)
  (case c50 => k_is)
  (case k50 => k_is)
  (case a51 => k_is)
  (case l51 => k_is)
  (case c51 => k_is)
  (case k51 => k_is)
  (case a52 => k_is)
  (case l52 => k_is)
  (case c52 => k_is)
  (case k52 => k_is)
  (case a53 => k_is)
  (case l53 => k_is)
  (case c53 => k_is)
  (case k53 => k_is)
  (case z0 => k_is)
  (case z1 => k_is)
  (case z2 => k_is)
  (case z3 => k_is)
  (case z4 => k_is)
  (case z5 => k_is)
  (case z6 => k_is)
  (case z7 => k_is)
  (case z8 => k_is)
  (case z9 => k_is)
  (case z10 => k_is)
  (case z11 => k_is)
  (case z12 => k_is)
  (case z13 => k_is)
  (case z14 => k_is)
