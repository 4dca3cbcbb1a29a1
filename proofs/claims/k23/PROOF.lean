import PyProof.Rows.All
import Wide.All
import OpenK.AllK
import Wide.FinOn
import Lean
import PyProof.EqAt
import PyProof.EqKinds
import PyProof.TupleCall
import PyProof.ReprRoads
import PyProof.EqLayable
import PyProof.NeData
import PyProof.Rows.TupDisplay
import PySem.Challenge.RW_landsentered_k23_whole_looks_beside_look
set_option Elab.async false
set_option linter.all false
set_option maxRecDepth 100000
set_option compiler.extract_closed false
set_option bootstrap.genMatcherCode false
namespace L2
open PySem PySem.Spec PyProof.Rows
noncomputable abbrev Key := Sum Int Str
noncomputable def BA : Key → Value → Bool
 | .inl k, v => Value.isInt k v
 | .inr x, v => Value.isStrOf x v
noncomputable def Zfr (w : World) : Key → Int
 | .inl k => hashInt k
 | .inr x => hashStr w x
theorem ZR : ∀ {k : Key} {v : Value}, BA k v = true → (∃ i t, k = Sum.inl i ∧ v = Value.int i t) ∨ (∃ x t, k = Sum.inr x ∧ v = Value.str x t)
 | .inl i, v, h => by
  obtain ⟨t, e⟩ := Value.isInt_shape (k := i) (v := v) h
  exact .inl ⟨i, t, rfl, e⟩
 | .inr x, v, h => by
  obtain ⟨t, e⟩ := Value.isStrOf_shape (x := x) (v := v) h
  exact .inr ⟨x, t, rfl, e⟩
theorem D9 (i : Int) (t : Tok) : BA (.inl i) (.int i t) = true := by simp [BA, Value.isInt]
theorem Fe (x : Str) (t : Tok) : BA (.inr x) (.str x t) = true := by simp [BA, Value.isStrOf]
theorem Zao (a b : Int) : decide ((Sum.inl a : Key) = Sum.inl b) = (a == b) := by
 by_cases e : a = b
 ·subst e; simp
 ·have h : ¬ (Sum.inl a : Key) = Sum.inl b := fun q => e (Sum.inl.inj q)
  rw [decide_eq_false h]
  exact (beq_eq_false_iff_ne.mpr e).symm
theorem SG (a b : Str) : decide ((Sum.inr a : Key) = Sum.inr b) = decide (a = b) := by
 by_cases e : a = b
 ·subst e; simp
 ·have h : ¬ (Sum.inr a : Key) = Sum.inr b := fun q => e (Sum.inr.inj q)
  rw [decide_eq_false h, decide_eq_false e]
theorem Zai (a : Int) (b : Str) : decide ((Sum.inl a : Key) = Sum.inr b) = false := decide_eq_false (fun q => nomatch q)
theorem Zbk (a : Str) (b : Int) : decide ((Sum.inr a : Key) = Sum.inl b) = false := decide_eq_false (fun q => nomatch q)
noncomputable def ZT (prog : Program) (w : World) : PySem.KeyKind prog w Key where
 is := BA
 hash := Zfr w
 inj := fun v a b ha hb => by
  rcases ZR ha with ⟨i, t, rfl, rfl⟩ | ⟨x, t, rfl, rfl⟩
  ·rcases ZR hb with ⟨j, u, rfl, e⟩ | ⟨y, u, rfl, e⟩
   ·injection e with e1 _; rw [e1]
   ·exact nomatch e
  ·rcases ZR hb with ⟨j, u, rfl, e⟩ | ⟨y, u, rfl, e⟩
   ·exact nomatch e
   ·injection e with e1 _; rw [e1]
 byValue := fun k v h => by
  rcases ZR h with ⟨i, t, rfl, rfl⟩ | ⟨x, t, rfl, rfl⟩ <;> rfl
 pyHash := fun hv h => by
  rcases ZR hv with ⟨i, t, rfl, rfl⟩ | ⟨x, t, rfl, rfl⟩
  ·exact wpAny_pyHash_int h
  ·exact wpAny_pyHash_str h
 eqBool := fun hu hv h => by
  rcases ZR hu with ⟨i, t, rfl, rfl⟩ | ⟨x, t, rfl, rfl⟩
  ·rcases ZR hv with ⟨j, u, rfl, rfl⟩ | ⟨y, u, rfl, rfl⟩
   ·rw [Zao] at h; exact wpAny_eqBool_int h
   ·rw [Zai] at h; exact SeqAt.EqAt.int_str i t y u _ _ _ _ h
  ·rcases ZR hv with ⟨j, u, rfl, rfl⟩ | ⟨y, u, rfl, rfl⟩
   ·rw [Zbk] at h; exact SeqAt.EqAt.str_int x t j u _ _ _ _ h
   ·rw [SG] at h; exact wpAny_eqBool_str h
 «strs» := fun k x t v h => by
  rcases ZR h with ⟨i, u, rfl, e⟩ | ⟨y, u, rfl, e⟩
  ·exact nomatch e
  ·injection e with e1 _
   subst e1
   cases v <;> rfl
theorem Ul (prog : Program) (w : World) (i : Int) (t : Tok) : (ZT prog w).is (.inl i) (.int i t) = true := D9 i t
theorem Uv (prog : Program) (w : World) (x : Str) (t : Tok) : (ZT prog w).is (.inr x) (.str x t) = true := Fe x t
end L2
namespace L2
open PySem PySem.Spec PyProof.Rows
inductive V where
 | non | bl (b : Bool) | int (i : Int) | str (x : Str) | byt (b : Array UInt8) | flt (b : UInt64) | ref (a : Addr) | ty (n : String)
 deriving DecidableEq
noncomputable def RelV : V → Value → Prop
 | .non, u => u = Value.none
 | .bl b, u => u = Value.bool b
 | .int i, u => ∃ t, u = Value.int i t
 | .str x, u => ∃ t, u = Value.str x t
 | .byt b, u => ∃ t, u = Value.bytes b t
 | .flt b, u => ∃ t, u = Value.float b t
 | .ref a, u => u = Value.ref a
 | .ty n, u => u = Value.type n
noncomputable abbrev Vals : List V → List Value → Prop := Paired RelV
theorem Vals.length {xs : List V} {us : List Value} (r : Vals xs us) : xs.length = us.length := Paired.length r
theorem Vals.get : ∀ {xs : List V} {us : List Value} {i : Nat} {x : V}, Vals xs us → xs[i]? = some x → ∃ u, us[i]? = some u ∧ RelV x u
 | _, _, _, _, .nil, e => by simp at e
 | _, _, 0, _, .cons r _, e => by simp at e; subst e; exact ⟨_, rfl, r⟩
 | _, _, i + 1, x, .cons _ t, e => by
  obtain ⟨u, h1, h2⟩ := Vals.get (i := i) (x := x) t (by simpa using e)
  exact ⟨u, by simpa using h1, h2⟩
theorem Vals.set {x : V} {u : Value} (r : RelV x u) : ∀ {xs : List V} {us : List Value} (i : Nat), Vals xs us → Vals (xs.set i x) (us.set i u)
 | _, _, _, .nil => .nil
 | _, _, 0, .cons _ t => .cons r t
 | _, _, i + 1, .cons q t => .cons q (Vals.set r i t)
theorem Vals.append : ∀ {xs ys : List V} {us ws : List Value}, Vals xs us → Vals ys ws → Vals (xs ++ ys) (us ++ ws)
 | _, _, _, _, .nil, s => s
 | _, _, _, _, .cons r t, s => .cons r (Vals.append t s)
theorem Vals.take : ∀ {xs : List V} {us : List Value} (n : Nat), Vals xs us → Vals (xs.take n) (us.take n)
 | _, _, 0, _ => .nil
 | _, _, _ + 1, .nil => .nil
 | _, _, n + 1, .cons r t => .cons r (Vals.take n t)
theorem Vals.drop : ∀ {xs : List V} {us : List Value} (n : Nat), Vals xs us → Vals (xs.drop n) (us.drop n)
 | _, _, 0, r => r
 | _, _, _ + 1, .nil => .nil
 | _, _, n + 1, .cons _ t => Vals.drop n t
noncomputable def Cb : Option V → Option Value → Prop
 | some v, some u => RelV v u
 | none, none => True
 | _, _ => False
noncomputable def KV {κ : Type} : List (κ × V) → List (κ × Value) → Prop := Paired fun (p : κ × V) (q : κ × Value) => p.1 = q.1 ∧ RelV p.2 q.2
noncomputable def kV : Key → V
 | .inl i => .int i
 | .inr x => .str x
inductive HO where
  | lst (xs : List V)
  | tup (xs : List V)
  | dK (kvs : List (Key × V)) | dT (kvs : List (List Key × V))
  | set (S : Int → Bool) (n : Nat)
  | ins (C dx : Addr) (fs : List (Str × V))
  | own (x : Addr)
  | xd (fs : List (Str × V))
  | met (f x : Addr)
  | rng (lo hi : Int)
  | frz (o : Obj) (u : HO)
  | tbl (ps : Array Value)
  | ext (φ : Heap → Prop)
noncomputable abbrev Hp := Addr → Option HO
noncomputable def upd (H : Hp) (a : Addr) (o : HO) : Hp := fun b => if b = a then some o else H b
theorem Qx {H : Hp} {a : Addr} {o : HO} : upd H a o a = some o := by unfold upd; rw [if_pos rfl]
theorem ZM {H : Hp} {a b : Addr} {o : HO} (h : b ≠ a) : upd H a o b = H b := by unfold upd; rw [if_neg h]
theorem Zdc {H : Hp} {a b : Addr} {o u : HO} (h : H a = some o) (h' : H b = some u) (d : o ≠ u) : a ≠ b := by
 intro e; subst e; rw [h] at h'; exact d (Option.some.inj h')
theorem Zt {H : Hp} {a b : Addr} {o : HO} (h : H a = some o) (h' : H b = none) : a ≠ b := by
 intro e; subst e; rw [h] at h'; cases h'
section
variable (P : Program) (w : World)
noncomputable def QB (H : Hp) (h : Heap) (a : Addr) : HO → Prop
 | .lst xs => xs.length ≤ sizeLine ∧ ∃ (its : List Value) (n : Nat), Vals xs its ∧ h.get? a = some { cls := .type "list", data := .seq its.toArray n }
 | .tup xs => xs.length ≤ sizeLine ∧ ∃ its : List Value, Vals xs its ∧ IsTup h a its.toArray
 | .dK kvs => kvs.length ≤ sizeLine ∧ (a == sysModules) = false ∧ ∃ vs, KV kvs vs ∧ h.DictOf (ZT P w) a vs
 | .dT kvs => kvs.length ≤ sizeLine ∧ (a == sysModules) = false ∧ ∃ xs : List (List Key × Addr × Value),
   Paired (fun (p : List Key × V) (q : List Key × Addr × Value) => p.1 = q.1 ∧ H q.2.1 = some (.tup (p.1.map kV)) ∧ RelV p.2 q.2.2) kvs xs ∧
   ∃ o es ep, h.get? a = some o ∧ o.ExactDict ∧ o.data = .dict es ep ∧ es.toList = xs.map (entryOfKey (tupleKind (ZT P w))) ∧ (xs.map (·.1)).Nodup
 | .set S n => h.SetOf (intKind P w) a S n
 | .ins C dx fs => H dx = some (.own a) ∧ fs.length ≤ 1000 ∧ dx ≠ a ∧ h.get? a = some (PySem.W.instObj C dx) ∧
   ∃ mA, h.Ns1 dx mA ∧ (∀ f, Cb (fs.lookup f) (mA f)) ∧ PySem.Within mA (fs.map (·.1))
 | .own _ => ∃ o, h.get? a = some o
 | .xd fs => ∃ mA, h.Ns1 a mA ∧ ∀ f, Cb (fs.lookup f) (mA f)
 | .rng lo hi => ∃ t u v, h.get? a = some { cls := .type "range", data := .fields #[.int lo t, .int hi u, .int 1 v] }
 | .frz o u => h.get? a = some o ∧ QB H h a u
 | .tbl ps => h.get? a = some { cls := .none, data := .fields ps }
 | .met f x => h.get? a = some (PySem.W.methodObj (.ref f) (.ref x))
 | .ext φ => φ h ∧ (∃ o, h.get? a = some o) ∧ ∀ h1 h2 : Heap, φ h1 → (∀ o, h1.get? a = some o → h2.get? a = some o) → φ h2
noncomputable def HOk (H : Hp) (h : Heap) : Prop := ∀ a o, H a = some o → QB P w H h a o
end
section
variable {P : Program} {w : World} {H H' : Hp} {h h' : Heap} {a : Addr} {o : HO}
theorem QB.lt (x : QB P w H h a o) : a < h.objs.size := by
 cases o with
 | lst xs => obtain ⟨_, _, _, _, e⟩ := x; exact Heap.lt_size e
 | tup xs => obtain ⟨_, _, _, p⟩ := x; exact p.lt
 | dK kvs => obtain ⟨_, _, _, _, o, _, _, e, _⟩ := x; exact Heap.lt_size e
 | dT kvs => obtain ⟨_, _, _, _, o, _, _, e, _⟩ := x; exact Heap.lt_size e
 | set S n => obtain ⟨o, _, _, _, e, _⟩ := x; exact Heap.lt_size e
 | ins C dx fs => obtain ⟨_, _, _, e, _⟩ := x; exact Heap.lt_size e
 | own y => obtain ⟨_, e⟩ := x; exact Heap.lt_size e
 | xd fs => obtain ⟨_, ⟨_, _, _, e, _⟩, _⟩ := x; exact Heap.lt_size e
 | rng lo hi => obtain ⟨_, _, _, e⟩ := x; exact Heap.lt_size e
 | frz ob u => obtain ⟨e, _⟩ := x; exact Heap.lt_size e
 | tbl ps => exact Heap.lt_size (show h.get? a = some _ from x)
 | met f y => exact Heap.lt_size (show h.get? a = some _ from x)
 | ext φ => obtain ⟨_, ⟨_, e⟩, _⟩ := x; exact Heap.lt_size e
theorem Paired.Si {α β : Type} {F G : α → β → Prop} : ∀ {l₁ : List α} {l₂ : List β}, Paired F l₁ l₂ → (∀ a b, F a b → G a b) → Paired G l₁ l₂
 | _, _, .nil, _ => .nil
 | _, _, .cons r t, f => .cons (f _ _ r) (Paired.Si t f)
theorem QB.Sj (x : QB P w H h a o) (k : ∀ b u, (b = a ∨ H b = some (.own a)) → h.get? b = some u → h'.get? b = some u)
  (ho : ∀ b, H b = some (.own a) → H' b = some (.own a)) (ht : ∀ b xs, H b = some (.tup xs) → H' b = some (.tup xs)) : QB P w H' h' a o := by
 induction o with
 | lst xs => obtain ⟨z, its, n, r, e⟩ := x; exact ⟨z, its, n, r, k _ _ (.inl rfl) e⟩
 | tup xs => obtain ⟨z, its, r, ob, e, c⟩ := x; exact ⟨z, its, r, ob, k _ _ (.inl rfl) e, c⟩
 | dK kvs => obtain ⟨z, y, vs, r, ob, es, ep, e, c⟩ := x; exact ⟨z, y, vs, r, ob, es, ep, k _ _ (.inl rfl) e, c⟩
 | dT kvs =>
  obtain ⟨z, y, xs, r, ob, es, ep, e, c⟩ := x
  exact ⟨z, y, xs, Paired.Si r fun p q z => ⟨z.1, ht _ _ z.2.1, z.2.2⟩, ob, es, ep, k _ _ (.inl rfl) e, c⟩
 | set S n => obtain ⟨ob, es, ep, t, e, c⟩ := x; exact ⟨ob, es, ep, t, k _ _ (.inl rfl) e, c⟩
 | ins C dx fs =>
  obtain ⟨d, z, ne, e, mA, ⟨od, es, ep, e2, c⟩, r⟩ := x
  exact ⟨ho _ d, z, ne, k _ _ (.inl rfl) e, mA, ⟨od, es, ep, k _ _ (.inr d) e2, c⟩, r⟩
 | own y => obtain ⟨ob, e⟩ := x; exact ⟨ob, k _ _ (.inl rfl) e⟩
 | xd fs => obtain ⟨mA, ⟨od, es, ep, e, c⟩, r⟩ := x; exact ⟨mA, ⟨od, es, ep, k _ _ (.inl rfl) e, c⟩, r⟩
 | rng lo hi => obtain ⟨t, u, v, e⟩ := x; exact ⟨t, u, v, k _ _ (.inl rfl) e⟩
 | frz ob u ih => obtain ⟨e, q⟩ := x; exact ⟨k _ _ (.inl rfl) e, ih q⟩
 | tbl ps =>
  have e : h.get? a = some { cls := .none, data := .fields ps } := x
  show h'.get? a = some { cls := .none, data := .fields ps }
  exact k a _ (.inl rfl) e
 | met f y =>
  have e : h.get? a = some (PySem.W.methodObj (.ref f) (.ref y)) := x
  show h'.get? a = some (PySem.W.methodObj (.ref f) (.ref y))
  exact k a _ (.inl rfl) e
 | ext φ => obtain ⟨p, ⟨o, e⟩, st⟩ := x; exact ⟨st _ _ p fun o q => k _ _ (.inl rfl) q, ⟨o, k _ _ (.inl rfl) e⟩, st⟩
theorem HOk.lt (x : HOk P w H h) (e : H a = some o) : a < h.objs.size := (x a o e).lt
theorem HOk.fresh (x : HOk P w H h) (e : h.objs.size ≤ a) : H a = none := by
 cases q : H a with
 | none => rfl
 | some u => exact absurd (Nat.lt_of_lt_of_le (x.lt q) e) (Nat.lt_irrefl _)
theorem HOk.kept (x : HOk P w H h) (k : ∀ b u, h.get? b = some u → h'.get? b = some u) : HOk P w H h' := fun a o e =>
 (x a o e).Sj (fun b u _ q => k b u q) (fun _ q => q) fun _ _ q => q
theorem HOk.laid (x : HOk P w H h) (k : ∀ b u, h.get? b = some u → h'.get? b = some u) (hp : h.objs.size ≤ a) (new : QB P w (upd H a o) h' a o) : HOk P w (upd H a o) h' := fun b u e => by
 have hn := x.fresh hp
 by_cases hb : b = a
 ·subst hb; rw [Qx] at e; cases e; exact new
 ·rw [ZM hb] at e
  exact (x b u e).Sj (fun c v _ q => k c v q) (fun c q => by rw [ZM (Zt q hn)]; exact q) fun c xs q => by rw [ZM (Zt q hn)]; exact q
end
noncomputable def Rd (H : Hp) (a : Addr) (u : HO) : Prop := H a = some u ∨ ∃ o, H a = some (.frz o u)
theorem Rd.of {H : Hp} {a : Addr} {u : HO} (h : H a = some u) : Rd H a u := .inl h
theorem Rd.ok {P : Program} {w : World} {H : Hp} {h : Heap} {a : Addr} {u : HO} (r : Rd H a u) (x : HOk P w H h) : QB P w H h a u := by
 rcases r with r | ⟨o, r⟩
 ·exact x a u r
 ·obtain ⟨_, q⟩ := x a _ r
  exact q
noncomputable def Mut : Option HO → Prop
 | some (.lst _) => True
 | some (.dK _) => True
 | some (.dT _) => True
 | some (.set _ _) => True
 | some (.ins _ _ _) => True
 | some (.ext _) => True
 | _ => False
section
variable {P : Program} {w : World} {H : Hp} {h h' : Heap} {x e : Addr} {o' : HO}
theorem HOk.write (ok : HOk P w H h) (mu : Mut (H x)) (he : e = x ∨ H e = some (.own x)) (k : ∀ b u, b ≠ e → h.get? b = some u → h'.get? b = some u) (heo : ∃ u, h'.get? e = some u)
  (new : QB P w (upd H x o') h' x o') : HOk P w (upd H x o') h' := fun b u q => by
 have nown : ∀ c y, H c = some (.own y) → c ≠ x := fun c y r z => by subst z; rw [r] at mu; exact mu
 have ntup : ∀ c xs, H c = some (.tup xs) → c ≠ x := fun c xs r z => by subst z; rw [r] at mu; exact mu
 by_cases hb : b = x
 ·subst hb; rw [Qx] at q; cases q; exact new
 ·rw [ZM hb] at q
  by_cases hbe : b = e
  ·have q' : H b = some (.own x) := by
    rcases he with z | z
    ·exact absurd (hbe.trans z) hb
    ·rw [hbe]; exact z
   rw [q] at q'; cases q'
   obtain ⟨v, hv⟩ := heo
   exact ⟨v, by rw [hbe]; exact hv⟩
  ·refine (ok b u q).Sj (fun c v hc r => k c v ?_ r) (fun c r => by rw [ZM (nown c b r)]; exact r) fun c xs r => by rw [ZM (ntup c xs r)]; exact r
   rcases hc with rfl | hc
   ·exact hbe
   ·rintro rfl
    rcases he with z | z
    ·exact nown c b hc z
    ·rw [hc] at z; cases z; exact hb rfl
end
structure Un (fs ex : List Addr) (H H' : Hp) (h h' : Heap) : Prop where
 keep : ∀ b o, h.get? b = some o → H b = none → b ∉ fs → b ∉ ex → h'.get? b = some o
 slot : ∀ b o, h.get? b = some o → H b = none → b ∈ fs → b ∉ ex → ∃ sl, h'.get? b = some { o with slots := sl }
 free : ∀ b o, h.get? b = some o → H b = none → b ∉ ex → H' b = none
 there : ∀ b o, h.get? b = some o → b ∉ ex → ∃ o', h'.get? b = some o'
 tups : ∀ b xs, H b = some (.tup xs) → H' b = some (.tup xs)
 frzs : ∀ b o u, H b = some (.frz o u) → H' b = some (.frz o u)
 tbls : ∀ b ps, H b = some (.tbl ps) → ∃ more, H' b = some (.tbl (ps ++ more))
section
variable {fs fs' ex ex' : List Addr} {H H1 H2 : Hp} {h h1 h2 h' : Heap} {a x e : Addr} {o : HO}
theorem Un.any (u : Un fs ex H H1 h h1) {b : Addr} {ob : Obj} (q : h.get? b = some ob) (n : H b = none) (hx : b ∉ ex) : ∃ sl, h1.get? b = some { ob with slots := sl } := by
 by_cases hb : b ∈ fs
 ·exact u.slot b ob q n hb hx
 ·exact ⟨ob.slots, u.keep b ob q n hb hx⟩
theorem Un.trans (a : Un fs ex H H1 h h1) (b : Un fs ex H1 H2 h1 h2) : Un fs ex H H2 h h2 where
 keep := fun c ob q n hc hx => b.keep c ob (a.keep c ob q n hc hx) (a.free c ob q n hx) hc hx
 slot := fun c ob q n hc hx => by
  obtain ⟨sl, e1⟩ := a.slot c ob q n hc hx
  obtain ⟨sl', e2⟩ := b.slot c _ e1 (a.free c ob q n hx) hc hx
  exact ⟨sl', e2⟩
 free := fun c ob q n hx => by
  obtain ⟨o', e1⟩ := a.there c ob q hx
  exact b.free c o' e1 (a.free c ob q n hx) hx
 there := fun c ob q hx => by
  obtain ⟨o', e1⟩ := a.there c ob q hx
  exact b.there c o' e1 hx
 tups := fun c xs q => b.tups c xs (a.tups c xs q)
 frzs := fun c ob xs q => b.frzs c ob xs (a.frzs c ob xs q)
 tbls := fun c ps q => by
  obtain ⟨m1, e1⟩ := a.tbls c ps q
  obtain ⟨m2, e2⟩ := b.tbls c _ e1
  exact ⟨m1 ++ m2, by rw [e2, Array.append_assoc]⟩
theorem Un.kept (k : ∀ b u, h.get? b = some u → h'.get? b = some u) : Un fs ex H H h h' :=
 ⟨fun b ob q _ _ _ => k b ob q, fun b ob q _ _ _ => ⟨ob.slots, k b ob q⟩, fun _ _ _ n _ => n, fun b ob q _ => ⟨ob, k b ob q⟩, fun _ _ q => q, fun _ _ _ q => q, fun _ ps q => ⟨#[], by rw [q]; simp⟩⟩
theorem Un.refl : Un fs ex H H h h := Un.kept fun _ _ q => q
theorem Un.laid (k : ∀ b u, h.get? b = some u → h'.get? b = some u) (hp : h.objs.size ≤ a) (hn : H a = none) : Un fs ex H (upd H a o) h h' where
 keep := fun b u q _ _ _ => k b u q
 slot := fun b u q _ _ _ => ⟨u.slots, k b u q⟩
 free := fun b u q n _ => by rw [ZM (Nat.ne_of_lt (Nat.lt_of_lt_of_le (Heap.lt_size q) hp))]; exact n
 there := fun b u q _ => ⟨u, k b u q⟩
 tups := fun b xs q => by rw [ZM (Zt q hn)]; exact q
 frzs := fun b u xs q => by rw [ZM (Zt q hn)]; exact q
 tbls := fun b ps q => ⟨#[], by rw [ZM (Zt q hn), q]; simp⟩
theorem Un.write (mu : Mut (H x)) (he : e = x ∨ H e = some (.own x)) (k : ∀ b u, b ≠ e → h.get? b = some u → h'.get? b = some u) (heo : ∃ u, h'.get? e = some u) : Un fs ex H (upd H x o) h h' := by
 have hx : ∀ b, H b = none → b ≠ x := fun b n z => by subst z; rw [n] at mu; exact mu
 have hb : ∀ b, H b = none → b ≠ e := fun b n z => by
  subst z
  rcases he with r | r
  ·exact hx b n r
  ·rw [n] at r; cases r
 have hm : ∀ b u, H b = some u → ¬ Mut (some u) → b ≠ x := fun b u q nm z => by subst z; rw [q] at mu; exact nm mu
 refine ⟨fun b u q n _ _ => k b u (hb b n) q, fun b u q n _ _ => ⟨u.slots, k b u (hb b n) q⟩, fun b u q n _ => by rw [ZM (hx b n)]; exact n, fun b u q _ => ?_,
  fun b xs q => by rw [ZM (hm b _ q fun z => z)]; exact q, fun b u xs q => by rw [ZM (hm b _ q fun z => z)]; exact q, fun b ps q => ⟨#[], by rw [ZM (hm b _ q fun z => z), q]; simp⟩⟩
 by_cases hbe : b = e
 ·subst hbe; exact heo
 ·exact ⟨u, k b u hbe q⟩
end
noncomputable def trk (h : Heap) (H : Hp) : List Addr := (List.range h.objs.size).filter fun a => (H a).isSome
noncomputable def Mn (h : Heap) (H : Hp) : Heap := PySem.W.hideAll h (trk h H)
theorem DJ (h : Heap) (H : Hp) : (Mn h H).objs.size = h.objs.size := PySem.W.hideAll_size _ _
theorem Ml {h : Heap} {H : Hp} {b : Addr} {o : Obj} (e : h.get? b = some o) (n : H b = none) : (Mn h H).get? b = some o :=
 PySem.W.hideAll_get _ e fun hm => by
  have q : (H b).isSome = true := (List.mem_filter.mp hm).2
  rw [n] at q; simp at q
theorem RC {h : Heap} {H : Hp} {b : Addr} {o : Obj} (e : (Mn h H).get? b = some o) : h.get? b = some o ∧ H b = none := by
 have e' : h.get? b = some o := PySem.W.of_hideAll (trk h H) e
 refine ⟨e', ?_⟩
 cases q : H b with
 | none => rfl
 | some x =>
  have hm : b ∈ trk h H := List.mem_filter.mpr ⟨List.mem_range.mpr (Heap.lt_size e'), by simp [q]⟩
  have z : (Mn h H).get? b = none := PySem.W.hideAll_none (trk h H) hm
  rw [z] at e; cases e
noncomputable def OK (g h : Heap) (L : Addr) : List (Addr × Obj) := (List.range h.objs.size).filterMap fun a => if a = L ∨ (g.get? a).isSome = true then none else (h.get? a).map fun o => (a, o)
noncomputable def rest (g h : Heap) (L d : Addr) : List (Addr × Obj) := (OK g h L).filter fun p => decide (p.1 ≠ d)
end L2
namespace L2
open PySem PySem.Spec PyProof.Rows
structure Mod (K : PySem.W.Frag) (mg : Str → Option Value) (base : Heap) : Prop where
 kin : K.In base
 glob : base.Ns mainGlobals mg
 blt : ∃ mb, base.Ns builtinsNs mb ∧ ∀ x : Str, x ≠ "__name__" → mb x = bootBuiltins x
 nolimit : base.NoLimit
structure Cx where
 prog : Program
 w : World
 K : PySem.W.Frag
 mg : Str → Option Value
 base : Heap
 A : Around
 N : List Str
 s₀ : Shared
 H₀ : Hp
 env : Env
 outer : List Env
 stack : List Env
 ex : List Addr
 fn : Str → Bool
 calm : Bool
 pn : List (Addr × Obj)
 xe : Value → Shared → Prop
noncomputable def frs (l : List Env) : List Addr := l.filterMap (·.frame)
noncomputable abbrev Cx.fs (X : Cx) : List Addr := frs X.outer
noncomputable def Vis (sc : Scope) (x : Str) : Prop := sc.names.lookup x = some .local ∨ sc.names.lookup x = some .cell ∨ sc.names.lookup x = some .free
noncomputable def Loc (sc : Scope) (x : Str) : Prop := sc.names.lookup x = some .local ∨ sc.names.lookup x = some .cell
noncomputable def Look (env : Env) (h : Heap) (m : Str → Option Value) (x : Str) (u : Value) : Prop :=
 (env.kindOf x = some .local ∧ m x = some u) ∨ ((env.kindOf x = some .cell ∨ env.kindOf x = some .free) ∧ ∃ c, env.cells.lookup x = some c ∧ h.IsCell c (some u))
structure Cx.Ok (X : Cx) : Prop where
 mod : Mod X.K X.mg X.base
 kind : X.env.scope.kind = .function
 glob : X.env.globals = mainGlobals
 blt : X.env.builtins = builtinsNs
 above : X.s₀.heap.objs.size ≤ X.env.locals
 inj : ∀ x y c, X.env.cells.lookup x = some c → X.env.cells.lookup y = some c → x = y
 has : ∀ x, (X.env.kindOf x = some .cell ∨ X.env.kindOf x = some .free) → ∃ c, X.env.cells.lookup x = some c
 cab : ∀ x c, X.fn x = true → X.env.cells.lookup x = some c → X.s₀.heap.objs.size ≤ c
 hd : X.calm = true → X.A.handled = none
 frames : X.A.frames = some X.stack
 stk : X.stack = X.outer ∨ (X.stack = X.env :: X.outer ∧ X.env.frame = some X.env.locals)
 exf : ∀ b ∈ X.ex, b ≠ X.env.locals ∧ ∀ x c, X.env.cells.lookup x = some c → c ≠ b
 bs : ∀ b o, X.base.get? b = some o → X.s₀.heap.get? b = some o ∧ X.H₀ b = none
 bsz : X.base.objs.size ≤ X.s₀.heap.objs.size
 noex : ∀ b o, X.base.get? b = some o → b ∉ X.ex
 exfs : ∀ b ∈ X.ex, b ∉ X.fs
 E5 : X.s₀.heap.FunFrames X.base X.outer
 frf : ∀ b ∈ X.fs, X.H₀ b = none
structure Inv (X : Cx) (pins : List (Addr × Obj)) (σ : List (Option V)) (H : Hp) (s : Shared) : Prop where
 ok : X.Ok
 os : s.os = X.s₀.os
 bare : AllBare s.gens
 base : Un X.fs X.ex X.H₀ H X.s₀.heap s.heap
 loc : ∃ m, s.heap.Ns X.env.locals m ∧ ∀ (i : Nat) (x : Str) (v : V), X.N[i]? = some x → σ[i]? = some (some v) → Vis X.env.scope x → ∃ u, RelV v u ∧ Look X.env s.heap m x u
 cell : ∀ x c, X.env.cells.lookup x = some c → ∃ v, s.heap.IsCell c v
 free : H X.env.locals = none
 freeC : ∀ x c, X.env.cells.lookup x = some c → H c = none
 pin : ∀ p ∈ X.pn ++ pins, s.heap.get? p.1 = some p.2 ∧ H p.1 = none ∧ p.1 ≠ X.env.locals ∧ p.1 ∉ X.fs ∧ ∀ v, p.2.data ≠ .cell v
 hok : HOk X.prog X.w H s.heap
 len : σ.length = X.N.length
section
variable {X : Cx} {pins : List (Addr × Obj)} {σ : List (Option V)} {H H' : Hp} {s : Shared} {h' : Heap}
theorem Cx.Ok.Zff (ok : X.Ok) {b : Addr} {o : Obj} (e : X.base.get? b = some o) : b ∉ X.fs := fun hb => by
 have := (ok.E5.mem hb).1
 rw [e] at this; cases this
theorem Inv.bs (I : Inv X pins σ H s) : ∀ b o, X.base.get? b = some o → s.heap.get? b = some o ∧ H b = none := fun b o e =>
 ⟨I.base.keep b o (I.ok.bs b o e).1 (I.ok.bs b o e).2 (I.ok.Zff e) (I.ok.noex b o e), I.base.free b o (I.ok.bs b o e).1 (I.ok.bs b o e).2 (I.ok.noex b o e)⟩
theorem Inv.bk (I : Inv X pins σ H s) : ∀ b o, X.base.get? b = some o → s.heap.get? b = some o := fun b o e => (I.bs b o e).1
theorem Inv.mod (I : Inv X pins σ H s) : Mod X.K X.mg X.base := I.ok.mod
theorem Inv.kIn (I : Inv X pins σ H s) : X.K.In s.heap := I.ok.mod.kin.keeps I.bk
theorem Inv.fr (I : Inv X pins σ H s) : ∃ m, Fr X.base X.env.locals s.heap m :=
 let ⟨m, hn, _⟩ := I.loc
 ⟨m, hn, I.bk, Nat.le_trans I.ok.bsz I.ok.above⟩
theorem Inv.lt (I : Inv X pins σ H s) : X.env.locals < s.heap.objs.size := let ⟨_, hn, _⟩ := I.loc; hn.lt
theorem Inv.sz (I : Inv X pins σ H s) : X.s₀.heap.objs.size ≤ s.heap.objs.size := Nat.le_trans I.ok.above (Nat.le_of_lt I.lt)
theorem Inv.Ze9 (I : Inv X pins σ H s) {a : Addr} (h : s.heap.objs.size ≤ a) : a ∉ X.fs := fun hb => by
 obtain ⟨_, o, ho, _⟩ := I.ok.E5.mem hb
 exact absurd (Nat.lt_of_lt_of_le (Heap.lt_size ho) (Nat.le_trans I.sz h)) (Nat.lt_irrefl _)
theorem Inv.cne (I : Inv X pins σ H s) : ∀ x c, X.env.cells.lookup x = some c → c ≠ X.env.locals := fun x c e z => by
 obtain ⟨v, o, ho, hd⟩ := I.cell x c e
 obtain ⟨m, ⟨o', es, ep, ho', hd', _⟩, _⟩ := I.loc
 rw [z, ho'] at ho; cases ho; rw [hd'] at hd; cases hd
theorem Inv.E5 (I : Inv X pins σ H s) : s.heap.FunFrames X.base X.outer := by
 have all : ∀ (l : List Env), (∀ b ∈ frs l, b ∈ X.fs) → X.s₀.heap.FunFrames X.base l → s.heap.FunFrames X.base l := by
  intro l
  induction l with
  | nil => intro _ _; trivial
  | cons env r ih =>
   intro hs hl
   obtain ⟨hk, ⟨L, o, hf, hn, ho, hd⟩, hr⟩ := hl
   have hL : L ∈ X.fs := hs L (by unfold frs; rw [List.filterMap_cons, hf]; exact List.mem_cons_self)
   obtain ⟨sl, e⟩ := I.base.slot L o ho (I.ok.frf L hL) hL fun z => I.ok.exfs L z hL
   exact ⟨hk, ⟨L, _, hf, hn, e, hd⟩, ih (fun b hb => hs b (by unfold frs; rw [List.filterMap_cons, hf]; exact List.mem_cons_of_mem _ hb)) hr⟩
 exact all X.outer (fun _ hb => hb) I.ok.E5
theorem Inv.stack (I : Inv X pins σ H s) : s.heap.FunFrames X.base X.stack := by
 rcases I.ok.stk with e | ⟨e, hf⟩
 ·rw [e]; exact I.E5
 ·rw [e]
  obtain ⟨m, hn, _⟩ := I.loc
  refine .cons (by rw [I.ok.kind]; decide) hf hn ?_ I.E5
  exact Heap.get?_none_of_le (Nat.le_trans I.ok.bsz I.ok.above)
theorem Inv.CS (I : Inv X pins σ H s) : ∀ b ∈ frs X.stack, b ∈ X.env.locals :: X.fs := fun b hb => by
 rcases I.ok.stk with e | ⟨e, hf⟩
 ·rw [e] at hb; exact List.mem_cons_of_mem _ hb
 ·rw [e] at hb
  unfold frs at hb
  rw [List.filterMap_cons, hf] at hb
  exact hb
theorem Inv.CT (I : Inv X pins σ H s) : ∀ b ∈ frs X.stack, H b = none := fun b hb => by
 rcases List.mem_cons.mp (I.CS b hb) with e | hb
 ·rw [e]; exact I.free
 ·obtain ⟨_, o, ho, _⟩ := I.ok.E5.mem hb
  exact I.base.free b o ho (I.ok.frf b hb) fun z => I.ok.exfs b z hb
theorem Inv.step {g' : Array GenState} {t' : Nat} {d' : Drawn} {ch : List Addr} (I : Inv X pins σ H s)
  (hch : ∀ b ∈ ch, (b ∈ X.ex ∨ X.s₀.heap.objs.size ≤ b) ∧ b ≠ X.env.locals ∧ (∀ x c, X.env.cells.lookup x = some c → c ≠ b) ∧ ∀ p ∈ X.pn ++ pins, p.1 ≠ b)
  (keep : ∀ b o, b ≠ X.env.locals → b ∉ X.fs → b ∉ ch → s.heap.get? b = some o → H b = none → h'.get? b = some o)
  (slot : ∀ b o, b ≠ X.env.locals → b ∈ X.fs → b ∉ ch → s.heap.get? b = some o → H b = none → ∃ sl, h'.get? b = some { o with slots := sl }) (free : ∀ b o, b ∉ ch → s.heap.get? b = some o → H b = none → H' b = none)
  (there : ∀ b o, b ∉ ch → s.heap.get? b = some o → ∃ o', h'.get? b = some o')
  (tups : ∀ b xs, H b = some (.tup xs) → H' b = some (.tup xs)) (frzs : ∀ b o u, H b = some (.frz o u) → H' b = some (.frz o u)) (tbls : ∀ b ps, H b = some (.tbl ps) → ∃ more, H' b = some (.tbl (ps ++ more)))
  (ns : ∀ m, s.heap.Ns X.env.locals m → h'.Ns X.env.locals m) (hok : HOk X.prog X.w H' h') (hg : AllBare g') :
  Inv X pins σ H' { s with heap := h', gens := g', drawn := d', toks := t' } := by
 have neL : ∀ b o, X.s₀.heap.get? b = some o → b ≠ X.env.locals := fun b o e => Nat.ne_of_lt (Nat.lt_of_lt_of_le (Heap.lt_size e) I.ok.above)
 have neC : ∀ b o, X.s₀.heap.get? b = some o → b ∉ X.ex → b ∉ ch := fun b o e hx hb => by
  rcases (hch b hb).1 with z | z
  ·exact hx z
  ·exact absurd (Nat.lt_of_lt_of_le (Heap.lt_size e) z) (Nat.lt_irrefl _)
 have cellK : ∀ x c, X.env.cells.lookup x = some c → ∀ v, s.heap.IsCell c v → h'.IsCell c v := fun x c e v ⟨o, ho, hd⟩ => by
  have nch : c ∉ ch := fun z => (hch c z).2.2.1 x c e rfl
  by_cases hc : c ∈ X.fs
  ·obtain ⟨sl, q⟩ := slot c o (I.cne x c e) hc nch ho (I.freeC x c e)
   exact ⟨_, q, hd⟩
  ·exact ⟨o, keep c o (I.cne x c e) hc nch ho (I.freeC x c e), hd⟩
 refine ⟨I.ok, I.os, hg, ⟨fun b o e n hb hx => ?_, fun b o e n hb hx => ?_, fun b o e n hx => ?_, fun b o e hx => ?_, fun b xs e => tups b xs (I.base.tups b xs e), fun b o xs e => frzs b o xs (I.base.frzs b o xs e), fun b ps e => ?_⟩, ?_, fun x c e => ?_, ?_, fun x c e => ?_, fun p hp => ?_, hok, I.len⟩
 ·exact keep b o (neL b o e) hb (neC b o e hx) (I.base.keep b o e n hb hx) (I.base.free b o e n hx)
 ·obtain ⟨sl, e1⟩ := I.base.slot b o e n hb hx
  obtain ⟨sl', e2⟩ := slot b _ (neL b o e) hb (neC b o e hx) e1 (I.base.free b o e n hx)
  exact ⟨sl', e2⟩
 ·obtain ⟨o', e1⟩ := I.base.there b o e hx
  exact free b o' (neC b o e hx) e1 (I.base.free b o e n hx)
 ·obtain ⟨o', e1⟩ := I.base.there b o e hx
  exact there b o' (neC b o e hx) e1
 ·obtain ⟨m1, e1⟩ := I.base.tbls b ps e
  obtain ⟨m2, e2⟩ := tbls b _ e1
  exact ⟨m1 ++ m2, by rw [e2, Array.append_assoc]⟩
 ·obtain ⟨m, hn, hl⟩ := I.loc
  refine ⟨m, ns m hn, fun i x v e1 e2 e3 => ?_⟩
  obtain ⟨u, r, l⟩ := hl i x v e1 e2 e3
  refine ⟨u, r, ?_⟩
  rcases l with l | ⟨k, c, e, z⟩
  ·exact .inl l
  ·exact .inr ⟨k, c, e, cellK x c e _ z⟩
 ·obtain ⟨v, z⟩ := I.cell x c e
  exact ⟨v, cellK x c e v z⟩
 ·obtain ⟨m, ⟨o, _, _, ho, _⟩, _⟩ := I.loc
  exact free _ o (fun z => (hch _ z).2.1 rfl) ho I.free
 ·obtain ⟨v, o, ho, hd⟩ := I.cell x c e
  exact free c o (fun z => (hch c z).2.2.1 x c e rfl) ho (I.freeC x c e)
 ·obtain ⟨e, n, ne, nf, d⟩ := I.pin p hp
  have nch : p.1 ∉ ch := fun z => (hch p.1 z).2.2.2 p hp rfl
  exact ⟨keep p.1 p.2 ne nf nch e n, free p.1 p.2 nch e n, ne, nf, d⟩
theorem Inv.un {t' : Nat} (I : Inv X pins σ H s) (u : Un X.fs [] H H' s.heap h') (hok : HOk X.prog X.w H' h') : Inv X pins σ H' { s with heap := h', toks := t' } := by
 obtain ⟨m, ⟨o, es, ep, ho, r⟩, _⟩ := id I.loc
 obtain ⟨sl, hL⟩ := u.any ho I.free (by simp)
 exact I.step (g' := s.gens) (d' := s.drawn) (ch := []) (fun _ z => nomatch z) (fun b o _ hb _ e n => u.keep b o e n hb (by simp)) (fun b o _ hb _ e n => u.slot b o e n hb (by simp)) (fun b o _ e n => u.free b o e n (by simp)) (fun b o _ e => u.there b o e (by simp)) u.tups u.frzs u.tbls (fun m' hm => by
  obtain ⟨o', es', ep', ho', r'⟩ := hm
  rw [ho] at ho'; cases ho'
  exact ⟨_, es', ep', hL, r'⟩) hok I.bare
theorem Inv.call {g' : Array GenState} {t' : Nat} {d' : Drawn} {ch : List Addr} (I : Inv X pins σ H s) (u : Un (frs X.stack) ch H H' s.heap h') (hok : HOk X.prog X.w H' h') (hg : AllBare g')
  (hch : ∀ b ∈ ch, (b ∈ X.ex ∨ X.s₀.heap.objs.size ≤ b) ∧ b ≠ X.env.locals ∧ (∀ x c, X.env.cells.lookup x = some c → c ≠ b) ∧ ∀ p ∈ X.pn ++ pins, p.1 ≠ b) :
  Inv X pins σ H' { s with heap := h', gens := g', drawn := d', toks := t' } := by
 obtain ⟨m, ⟨o, es, ep, ho, r⟩, _⟩ := id I.loc
 obtain ⟨sl, hL⟩ := u.any ho I.free fun z => (hch _ z).2.1 rfl
 exact I.step (ch := ch) hch (fun b o hL hb hc e n => u.keep b o e n (fun z => (List.mem_cons.mp (I.CS b z)).elim hL hb) hc) (fun b o _ _ hc e n => u.any e n hc) (fun b o hc e n => u.free b o e n hc) (fun b o hc e => u.there b o e hc) u.tups u.frzs u.tbls (fun m' hm => by
  obtain ⟨o', es', ep', ho', r'⟩ := hm
  rw [ho] at ho'; cases ho'
  exact ⟨_, es', ep', hL, r'⟩) hok hg
theorem Inv.turned {t' : Nat} {it : Addr} (I : Inv X pins σ H s) (k : ∀ b o, b ≠ it → s.heap.get? b = some o → h'.get? b = some o) (hn : H it = none) (hL : it ≠ X.env.locals)
  (h1 : it ∈ X.ex ∨ X.s₀.heap.objs.size ≤ it) (h2 : ∀ x c, X.env.cells.lookup x = some c → c ≠ it) (h3 : ∀ p ∈ X.pn ++ pins, p.1 ≠ it) : Inv X pins σ H { s with heap := h', toks := t' } := by
 have nit : ∀ b u, H b = some u → b ≠ it := fun b u e z => by rw [z, hn] at e; cases e
 refine I.step (g' := s.gens) (d' := s.drawn) (ch := [it]) (fun b hb => ?_) (fun b o _ _ hc e _ => k b o (fun z => hc (by simp [z])) e) (fun b o _ _ hc e _ => ⟨o.slots, k b o (fun z => hc (by simp [z])) e⟩) (fun _ _ _ _ n => n)
  (fun b o hc e => ⟨o, k b o (fun z => hc (by simp [z])) e⟩) (fun _ _ e => e) (fun _ _ _ e => e) (fun b ps e => ⟨#[], by rw [e]; simp⟩) (fun m hm => ?_) (fun b u e => ?_) I.bare
 ·have e : b = it := by simpa using hb
  subst e
  exact ⟨h1, hL, h2, h3⟩
 ·obtain ⟨o, es, ep, ho, r⟩ := hm
  exact ⟨o, es, ep, k _ o (Ne.symm hL) ho, r⟩
 ·refine (I.hok b u e).Sj (fun c v hc q => k c v ?_ q) (fun _ q => q) fun _ _ q => q
  rcases hc with z | z
  ·rw [z]; exact nit b u e
  ·exact nit c _ z
theorem Inv.tok (I : Inv X pins σ H s) (t : Nat) : Inv X pins σ H { s with toks := t } := I.un (h' := s.heap) (t' := t) Un.refl I.hok
theorem Inv.kept {t' : Nat} (I : Inv X pins σ H s) (k : ∀ b u, s.heap.get? b = some u → h'.get? b = some u) : Inv X pins σ H { s with heap := h', toks := t' } := I.un (Un.kept k) (I.hok.kept k)
theorem Inv.laid {a : Addr} {o : HO} {t' : Nat} (I : Inv X pins σ H s) (k : ∀ b u, s.heap.get? b = some u → h'.get? b = some u) (hp : s.heap.objs.size ≤ a) (new : QB X.prog X.w (upd H a o) h' a o) :
  Inv X pins σ (upd H a o) { s with heap := h', toks := t' } := I.un (Un.laid k hp (I.hok.fresh hp)) (I.hok.laid k hp new)
theorem Inv.write {x e : Addr} {o : HO} {t' : Nat} (I : Inv X pins σ H s) (mu : Mut (H x)) (he : e = x ∨ H e = some (.own x)) (k : ∀ b u, b ≠ e → s.heap.get? b = some u → h'.get? b = some u) (heo : ∃ u, h'.get? e = some u)
  (new : QB X.prog X.w (upd H x o) h' x o) : Inv X pins σ (upd H x o) { s with heap := h', toks := t' } := I.un (Un.write mu he k heo) (I.hok.write mu he k heo new)
theorem Inv.YG {pins' : List (Addr × Obj)} (I : Inv X pins σ H s) (h : ∀ p ∈ pins', s.heap.get? p.1 = some p.2 ∧ H p.1 = none ∧ p.1 ≠ X.env.locals ∧ p.1 ∉ X.fs ∧ ∀ v, p.2.data ≠ .cell v) : Inv X pins' σ H s :=
 ⟨I.ok, I.os, I.bare, I.base, I.loc, I.cell, I.free, I.freeC, fun p hp => (List.mem_append.mp hp).elim (fun z => I.pin p (List.mem_append_left _ z)) (h p), I.hok, I.len⟩
theorem Gi {N : List Str} (hN : N.Nodup) {i j : Nat} {x : Str} (a : N[i]? = some x) (b : N[j]? = some x) : i = j := by
 obtain ⟨h1, e1⟩ := List.getElem?_eq_some_iff.mp a
 obtain ⟨h2, e2⟩ := List.getElem?_eq_some_iff.mp b
 exact (List.getElem_inj hN).mp (e1.trans e2.symm)
theorem FK {M : Model} {A : Around} {E : Value → Shared → Prop} {i : Nat} {x : Str} {v : V} {u : Value} {Q : Unit → Shared → Prop} (I : Inv X pins σ H s) (hN : X.N.Nodup) (hi : X.N[i]? = some x) (hx : Loc X.env.scope x) (r : RelV v u)
  (h : ∀ s', Inv X pins (σ.set i (some v)) H s' → (∃ a, Heap.SameBut a s.heap s'.heap ∧ (a = X.env.locals ∨ X.env.cells.lookup x = some a)) → Q () s') (hf : X.fn x = true ∨ X.env.scope.names.lookup x = some .local := by first | exact .inl rfl | exact .inr rfl | assumption) : wpAny M A (storeName X.env x u) Q E s := by
 obtain ⟨m, hn, hl⟩ := id I.loc
 have hcls : (X.env.scope.kind == .class || (X.env.scope.kind == .module && X.env.locals != X.env.globals)) = false := by rw [I.ok.kind]; rfl
 have hiσ : i < σ.length := by rw [I.len]; exact (List.getElem?_eq_some_iff.mp hi).1
 have cne := I.cne
 have tracked : ∀ {a : Addr} {h' : Heap}, (∃ o, s.heap.get? a = some o ∧ H a = none) → Heap.SameBut a s.heap h' → HOk X.prog X.w H h' := fun {a h'} ha hs b ob e => by
  obtain ⟨_, _, hfree⟩ := ha
  refine (I.hok b ob e).Sj (fun c w' hc q => (hs.2 c ?_).trans q) (fun _ q => q) fun _ _ q => q
  rintro rfl
  rcases hc with rfl | hc
  ·rw [hfree] at e; cases e
  ·rw [hfree] at hc; cases hc
 rcases hx with hk | hk
 ·refine wpAny_storeName_local hk hn (fun h' hn' hs => ?_) hcls
  obtain ⟨oL, _, _, hoL, _⟩ := id hn
  refine h _ ⟨I.ok, I.os, I.bare, ⟨fun b o e n hb hx => ?_, fun b o e n hb hx => ?_, I.base.free, fun b o e hx => ?_, I.base.tups, I.base.frzs, I.base.tbls⟩, ⟨_, hn', fun j y v' e1 e2 e3 => ?_⟩, fun y c e => ?_, I.free, I.freeC, fun p hp => ?_, tracked ⟨oL, hoL, I.free⟩ hs, by simpa using I.len⟩ ⟨_, hs, .inl rfl⟩
  ·exact (hs.2 b (Nat.ne_of_lt (Nat.lt_of_lt_of_le (Heap.lt_size e) I.ok.above))).trans (I.base.keep b o e n hb hx)
  ·obtain ⟨sl, e1⟩ := I.base.slot b o e n hb hx
   exact ⟨sl, (hs.2 b (Nat.ne_of_lt (Nat.lt_of_lt_of_le (Heap.lt_size e) I.ok.above))).trans e1⟩
  ·obtain ⟨o', e1⟩ := I.base.there b o e hx
   exact ⟨o', (hs.2 b (Nat.ne_of_lt (Nat.lt_of_lt_of_le (Heap.lt_size e) I.ok.above))).trans e1⟩
  ·by_cases hj : j = i
   ·subst hj
    rw [hi] at e1; cases e1
    rw [List.getElem?_set_self hiσ] at e2
    cases e2
    exact ⟨u, r, .inl ⟨hk, by simp⟩⟩
   ·rw [List.getElem?_set_ne (Ne.symm hj)] at e2
    obtain ⟨u', r', q⟩ := hl j y v' e1 e2 e3
    refine ⟨u', r', ?_⟩
    rcases q with ⟨k, e⟩ | ⟨k, c, e, z⟩
    ·refine .inl ⟨k, ?_⟩
     have : y ≠ x := fun e => hj (Gi hN e1 (e ▸ hi))
     simp [this, e]
    ·exact .inr ⟨k, c, e, z.sameBut hs (cne y c e)⟩
  ·obtain ⟨w', z⟩ := I.cell y c e
   exact ⟨w', z.sameBut hs (cne y c e)⟩
  ·obtain ⟨e, n, ne, nf, d⟩ := I.pin p hp
   exact ⟨(hs.2 p.1 ne).trans e, n, ne, nf, d⟩
 ·have hfn : X.fn x = true := by
   rcases hf with z | z
   ·exact z
   ·rw [z] at hk; cases hk
  obtain ⟨c, hc⟩ := I.ok.has x (.inl hk)
  obtain ⟨w', z⟩ := I.cell x c hc
  refine wpAny_storeName_cell I.ok.kind hk hc z (fun h' hc' hs => ?_)
  obtain ⟨oc, hoc, hocd⟩ := id z
  refine h { s with heap := h' } ⟨I.ok, I.os, I.bare, ⟨fun b o e n hb hx => ?_, fun b o e n hb hx => ?_, I.base.free, fun b o e hx => ?_, I.base.tups, I.base.frzs, I.base.tbls⟩, ⟨m, hn.sameBut hs (Ne.symm (cne x c hc)), fun j y v' e1 e2 e3 => ?_⟩, fun y c' e => ?_, I.free, I.freeC, fun p hp => ?_, tracked ⟨oc, hoc, I.freeC x c hc⟩ hs, by simpa using I.len⟩ ⟨c, hs, .inr hc⟩
  ·exact (hs.2 b (Nat.ne_of_lt (Nat.lt_of_lt_of_le (Heap.lt_size e) (I.ok.cab x c hfn hc)))).trans (I.base.keep b o e n hb hx)
  ·obtain ⟨sl, e1⟩ := I.base.slot b o e n hb hx
   exact ⟨sl, (hs.2 b (Nat.ne_of_lt (Nat.lt_of_lt_of_le (Heap.lt_size e) (I.ok.cab x c hfn hc)))).trans e1⟩
  ·obtain ⟨o', e1⟩ := I.base.there b o e hx
   exact ⟨o', (hs.2 b (Nat.ne_of_lt (Nat.lt_of_lt_of_le (Heap.lt_size e) (I.ok.cab x c hfn hc)))).trans e1⟩
  ·by_cases hj : j = i
   ·subst hj
    rw [hi] at e1; cases e1
    rw [List.getElem?_set_self hiσ] at e2
    cases e2
    exact ⟨u, r, .inr ⟨.inl hk, c, hc, hc'⟩⟩
   ·rw [List.getElem?_set_ne (Ne.symm hj)] at e2
    obtain ⟨u', r', q⟩ := hl j y v' e1 e2 e3
    refine ⟨u', r', ?_⟩
    rcases q with q | ⟨k, c', e, z'⟩
    ·exact .inl q
    ·refine .inr ⟨k, c', e, z'.sameBut hs ?_⟩
     rintro rfl
     exact hj (Gi hN e1 (I.ok.inj _ _ _ e hc ▸ hi))
  ·by_cases hcc : c' = c
   ·subst hcc; exact ⟨_, hc'⟩
   ·obtain ⟨w2, z2⟩ := I.cell y c' e
    exact ⟨w2, z2.sameBut hs hcc⟩
  ·obtain ⟨e, n, ne, nf, d⟩ := I.pin p hp
   refine ⟨(hs.2 p.1 ?_).trans e, n, ne, nf, d⟩
   intro q
   rw [q, hoc] at e
   have q' : oc = p.2 := Option.some.inj e
   exact d w' (by rw [← q']; exact hocd)
theorem Gs {M : Model} {A : Around} {E : Value → Shared → Prop} {i : Nat} {x : Str} {v : V} {u : Value} {Q : Unit → Shared → Prop} (I : Inv X pins σ H s) (hN : X.N.Nodup) (hi : X.N[i]? = some x) (hx : Loc X.env.scope x) (r : RelV v u)
  (h : ∀ s', Inv X pins (σ.set i (some v)) H s' → Q () s') (hf : X.fn x = true ∨ X.env.scope.names.lookup x = some .local := by first | exact .inl rfl | exact .inr rfl | assumption) : wpAny M A (storeName X.env x u) Q E s :=
 FK I hN hi hx r (fun s' I' _ => h s' I') hf
theorem Inv.T5 {s' : Shared} {ch : List Addr} (I : Inv X pins σ H s) (ho : s'.os = s.os) (u : Un (frs X.stack) ch H H' s.heap s'.heap) (hok : HOk X.prog X.w H' s'.heap) (hg : AllBare s'.gens)
  (hch : ∀ b ∈ ch, (b ∈ X.ex ∨ X.s₀.heap.objs.size ≤ b) ∧ b ≠ X.env.locals ∧ (∀ x c, X.env.cells.lookup x = some c → c ≠ b) ∧ ∀ p ∈ X.pn ++ pins, p.1 ≠ b) : Inv X pins σ H' s' := by
 obtain ⟨h', g', d', t', o'⟩ := s'
 have e : o' = s.os := ho
 subst e
 exact I.call (g' := g') (t' := t') (d' := d') u hok hg hch
end
noncomputable abbrev XK := Value → Option Addr → Hp → Prop
noncomputable abbrev St := List (Option V)
noncomputable abbrev VK := V → Hp → Prop
noncomputable abbrev TE := St → Hp → VK → Prop
noncomputable abbrev TT := St → Hp → (Bool → Hp → Prop) → Prop
noncomputable abbrev TA := St → Hp → (List V → Hp → Prop) → Prop
structure Ends where
 nx : St → Hp → Prop
 rt : VK
 bk : St → Hp → Prop := fun _ _ => False
 ct : St → Hp → Prop := fun _ _ => False
noncomputable abbrev TS := Ends → St → Hp → Prop
noncomputable def EP (X : Cx) (pins : List (Addr × Obj)) (σ : St) (Q : VK) (u : Value) (s' : Shared) : Prop := ∃ v H', Inv X pins σ H' s' ∧ RelV v u ∧ Q v H'
noncomputable def TP (X : Cx) (pins : List (Addr × Obj)) (σ : St) (Q : Bool → Hp → Prop) (b : Bool) (s' : Shared) : Prop := ∃ H', Inv X pins σ H' s' ∧ Q b H'
noncomputable def AP (X : Cx) (pins : List (Addr × Obj)) (σ : St) (Q : List V → Hp → Prop) (us : List Value) (s' : Shared) : Prop := ∃ vs H', Inv X pins σ H' s' ∧ Vals vs us ∧ Q vs H'
noncomputable def SP (X : Cx) (pins : List (Addr × Obj)) (D : Ends) (f : Flow) (s' : Shared) : Prop :=
 match f with
 | .next => ∃ σ' H', Inv X pins σ' H' s' ∧ D.nx σ' H'
 | .brk => ∃ σ' H', Inv X pins σ' H' s' ∧ D.bk σ' H'
 | .cont => ∃ σ' H', Inv X pins σ' H' s' ∧ D.ct σ' H'
 | .ret u => ∃ v σ' H', Inv X pins σ' H' s' ∧ RelV v u ∧ D.rt v H'
noncomputable def PE (X : Cx) (e : Expr) (t : TE) : Prop :=
 ∀ (pins : List (Addr × Obj)) (s : Shared) (σ : St) (H : Hp) (Q : VK), Inv X pins σ H s → t σ H Q → wpAny (model X.prog X.w) X.A (eval e X.env) (EP X pins σ Q) X.xe s
noncomputable def PT (X : Cx) (e : Expr) (t : TT) : Prop :=
 ∀ (pins : List (Addr × Obj)) (s : Shared) (σ : St) (H : Hp) (Q : Bool → Hp → Prop), Inv X pins σ H s → t σ H Q → wpAny (model X.prog X.w) X.A (isTrue e X.env (eval e X.env)) (TP X pins σ Q) X.xe s
noncomputable def PW (X : Cx) (e : Expr) (t : TT) : Prop :=
 ∀ (whole : Sem Value) (pins : List (Addr × Obj)) (s : Shared) (σ : St) (H : Hp) (Q : Bool → Hp → Prop), Inv X pins σ H s → t σ H Q → wpAny (model X.prog X.w) X.A (isTrue e X.env whole) (TP X pins σ Q) X.xe s
theorem PW.pt {X : Cx} {e : Expr} {t : TT} (h : PW X e t) : PT X e t := h _
noncomputable def PA (X : Cx) (es : List Expr) (t : TA) : Prop :=
 ∀ (pos : Pos) (pins : List (Addr × Obj)) (s : Shared) (σ : St) (H : Hp) (Q : List V → Hp → Prop), Inv X pins σ H s → t σ H Q → wpAny (model X.prog X.w) X.A (spliced (backTo pos (starEach es X.env))) (AP X pins σ Q) X.xe s
noncomputable def PS (X : Cx) (st : Stmt) (t : TS) : Prop :=
 ∀ (pins : List (Addr × Obj)) (s : Shared) (σ : St) (H : Hp) (D : Ends), Inv X pins σ H s → t D σ H → wpAny (model X.prog X.w) X.A (exec st X.env) (SP X pins D) X.xe s
noncomputable def PSs (X : Cx) (st : List Stmt) (t : TS) : Prop :=
 ∀ (pins : List (Addr × Obj)) (s : Shared) (σ : St) (H : Hp) (D : Ends), Inv X pins σ H s → t D σ H → wpAny (model X.prog X.w) X.A (execs st X.env) (SP X pins D) X.xe s
theorem thn {α : Type} {t : Sem α} {Q Q' : α → Shared → Prop} {M : Model} {A : Around} {E : Value → Shared → Prop} {s : Shared} (h : wpAny M A t Q E s) (hQ : ∀ a s, Q a s → Q' a s) : wpAny M A t Q' E s := wpAny_mono h hQ fun _ _ x => x
end L2
namespace L2
open PySem PySem.Spec PyProof.Rows
section
variable {X : Cx}
noncomputable def Zfb (i : Nat) : TE := fun σ H Q => ∃ v, σ[i]? = some (some v) ∧ Q v H
noncomputable def tC (v : V) : TE := fun _ H Q => Q v H
theorem Zap {i : Nat} {x : Str} {pos : Pos} (hN : X.N[i]? = some x) (hv : Vis X.env.scope x) (hd : (x == ("__debug__" : Str)) = false := by decide) (hcd : (x == ("__classdict__" : Str)) = false := by decide) : PE X (.Name x pos) (Zfb i) := by
 intro pins s σ H Q I h
 obtain ⟨v, e, h⟩ := h
 obtain ⟨m, hn, hl⟩ := I.loc
 obtain ⟨u, r, l⟩ := hl i x v hN e hv
 have fin : EP X pins σ Q u s := ⟨v, H, I, r, h⟩
 rcases l with ⟨hk, hm⟩ | ⟨hk, c, hc, hcell⟩
 ·exact wpAny_Name (wpAny_loadName_local I.ok.kind hk hn hm fin) hd
 ·rcases hk with hk | hk
  ·exact wpAny_Name (wpAny_loadName_cell I.ok.kind hk hc hcell fin) hd
  ·exact wpAny_Name (wpAny_loadName_free I.ok.kind hk hc hcell fin hcd) hd
theorem Tj {i j pos} : PE X (.Constant (.int i) j pos) (tC (.int i)) := fun _ _ _ H _ I h => wpAny_Constant_int ⟨.int i, H, I.tok _, ⟨_, rfl⟩, h⟩
theorem Zc6 {b j pos} : PE X (.Constant (.bool b) j pos) (tC (.bl b)) := fun _ _ _ H _ I h => Constant_bool ⟨.bl b, H, I, rfl, h⟩
theorem Sw {j pos} : PE X (.Constant .none j pos) (tC .non) := fun _ _ _ H _ I h => Constant_none ⟨.non, H, I, rfl, h⟩
theorem Zay {x j pos} : PE X (.Constant (.str x) j pos) (tC (.str x)) := fun _ _ _ H _ I h => Calls.Constant_str ⟨.str x, H, I.tok _, ⟨_, rfl⟩, h⟩
noncomputable def Gl (X : Cx) (x : Str) : Prop := X.env.kindOf x = some .globalImplicit
theorem Ov {E : Value → Shared → Prop} {pins : List (Addr × Obj)} {s : Shared} {σ : St} {H : Hp} {x : Str} {u : Value} {pos : Pos} {Q : Value → Shared → Prop} (I : Inv X pins σ H s) (hg : Gl X x) (hm : X.mg x = some u) (h : Q u s)
  (hd : (x == ("__debug__" : Str)) = false := by decide) : wpAny (model X.prog X.w) X.A (eval (.Name x pos) X.env) Q E s :=
 Calls.Name_function_global I.ok.kind hg (Calls.loadGlobal_global (by rw [I.ok.glob]; exact I.mod.glob.keeps I.bk) hm h) hd
theorem Xc {E : Value → Shared → Prop} {pins : List (Addr × Obj)} {s : Shared} {σ : St} {H : Hp} {x : Str} {u : Value} {pos : Pos} {Q : Value → Shared → Prop} (I : Inv X pins σ H s) (hg : Gl X x) (hm : X.mg x = none) (hv : bootBuiltins x = some u) (h : Q u s)
  (hn : x ≠ "__name__" := by decide) (hd : (x == ("__debug__" : Str)) = false := by decide) : wpAny (model X.prog X.w) X.A (eval (.Name x pos) X.env) Q E s := by
 obtain ⟨mb, h1, h2⟩ := I.mod.blt
 exact Calls.Name_function_global I.ok.kind hg (Calls.loadGlobal_builtin (by rw [I.ok.glob]; exact I.mod.glob.keeps I.bk) hm (by rw [I.ok.blt]; exact h1.keeps I.bk) ((h2 x hn).trans hv) h) hd
noncomputable def t2I (ta tb : TE) (k : Int → Int → Hp → Prop) : St → Hp → Prop := fun σ H => ta σ H fun x H1 => tb σ H1 fun y H2 => ∃ i j, x = .int i ∧ y = .int j ∧ k i j H2
noncomputable def Zge (ta tb : TE) : TE := fun σ H Q => t2I ta tb (fun i j H2 => Q (.int (i + j)) H2) σ H
noncomputable def Zgr (ta tb : TE) : TE := fun σ H Q => t2I ta tb (fun i j H2 => Q (.int (i - j)) H2) σ H
noncomputable def Zgs (ta tb : TE) : TE := fun σ H Q => t2I ta tb (fun i j H2 => (-(2 ^ 64) < i ∧ i < 2 ^ 64) ∧ Q (.int (i * j)) H2) σ H
variable {a b : Expr} {ta tb : TE} {pos : Pos}
noncomputable def PC (X : Cx) (op : CmpOp) (a b : Expr) (t : TE) : Prop :=
 ∀ (pins : List (Addr × Obj)) (s : Shared) (σ : St) (H : Hp) (Q : VK), Inv X pins σ H s → t σ H Q →
  wpAny (model X.prog X.w) X.A (eval a X.env) (fun v s₁ => wpAny (model X.prog X.w) X.A (eval b X.env) (fun u s₂ => wpAny (model X.prog X.w) X.A (compareOp op v u) (EP X pins σ Q) X.xe s₂) X.xe s₁) X.xe s
noncomputable def Sk (p : Int → Int → Bool) (ta tb : TE) : TE := fun σ H Q => t2I ta tb (fun i j H2 => Q (.bl (p i j)) H2) σ H
noncomputable abbrev tLt : TE → TE → TE := Sk fun i j => decide (i < j)
noncomputable abbrev tLe : TE → TE → TE := Sk fun i j => decide (i ≤ j)
noncomputable abbrev tGt : TE → TE → TE := Sk fun i j => decide (j < i)
noncomputable abbrev tGe : TE → TE → TE := Sk fun i j => decide (j ≤ i)
noncomputable abbrev Zf4 : TE → TE → TE := Sk fun i j => decide (i = j)
noncomputable abbrev Zf2 : TE → TE → TE := Sk fun i j => !decide (i = j)
noncomputable def Zf7 (ta : TE) : TE := fun σ H Q => ta σ H fun x H1 => Q (.bl (decide (x = .non))) H1
noncomputable def Zfe (ta : TE) : TE := fun σ H Q => ta σ H fun x H1 => Q (.bl (!decide (x = .non))) H1
noncomputable def tB (t : TE) : TT := fun σ H Q => t σ H fun x H1 => ∃ c, x = .bl c ∧ Q c H1
theorem ZaY {e : Expr} {t : TE} (h : PE X e t) (he : ∀ whole, isTrue e X.env whole = (do let v ← whole; standAt e.pos; holding [v] (truthy v)) := by intro _; rfl) : PT X e (tB t) := by
 intro pins s σ H Q I hw
 refine isTrue_plain (thn (h pins s σ H _ I hw) fun v s1 ⟨x, H1, I1, r1, q1⟩ => ?_) (he _)
 obtain ⟨d, rfl, q⟩ := q1
 cases r1
 exact wpAny_truthy_bool ⟨H1, I1, q⟩
variable {tA tB' : TT} {rest : List Expr}
noncomputable def ZfE (t u : TT) : TT := fun σ H Q => t σ H fun c H1 => if c = true then u σ H1 Q else Q false H1
noncomputable def tOr (t u : TT) : TT := fun σ H Q => t σ H fun c H1 => if c = true then Q true H1 else u σ H1 Q
noncomputable def ZeW (t : TT) : TT := fun σ H Q => t σ H fun c H1 => Q (!c) H1
theorem Pr (ha : PT X a tA) : PW X (.BoolOp .And [a] pos) tA := by
 intro wh pins s σ H Q I h
 refine isTrue_and (thn (ha pins s σ H Q I h) fun c s1 e => ?_)
 cases c with
 | true => exact isTrue_and_nil e
 | false => exact e
theorem Zam (ha : PT X a tA) : PW X (.BoolOp .Or [a] pos) tA := by
 intro wh pins s σ H Q I h
 refine isTrue_or (thn (ha pins s σ H Q I h) fun c s1 e => ?_)
 cases c with
 | false => exact isTrue_or_nil e
 | true => exact e
theorem ZaK (ha : PT X a tA) (hb : PW X (.BoolOp .And (b :: rest) pos) tB') : PW X (.BoolOp .And (a :: b :: rest) pos) (ZfE tA tB') := by
 intro wh pins s σ H Q I h
 refine isTrue_and (thn (ha pins s σ H _ I h) fun c s1 ⟨H1, I1, q1⟩ => ?_)
 cases c with
 | true => exact hb wh pins s1 σ H1 Q I1 q1
 | false => exact ⟨H1, I1, q1⟩
theorem Zct (ha : PT X a tA) (hb : PW X (.BoolOp .Or (b :: rest) pos) tB') : PW X (.BoolOp .Or (a :: b :: rest) pos) (tOr tA tB') := by
 intro wh pins s σ H Q I h
 refine isTrue_or (thn (ha pins s σ H _ I h) fun c s1 ⟨H1, I1, q1⟩ => ?_)
 cases c with
 | true => exact ⟨H1, I1, q1⟩
 | false => exact hb wh pins s1 σ H1 Q I1 q1
theorem Zby (ha : PT X a tA) : PT X (.UnaryOp .Not a pos) (ZeW tA) := by
 intro pins s σ H Q I h
 exact isTrue_not (ha pins s σ H (fun c H1 => Q (!c) H1) I h)
noncomputable def Zdt (ta tb : TE) : TE := fun σ H Q => ta σ H fun x H1 => ∃ c, x = .bl c ∧ if c = true then tb σ H1 Q else Q (.bl false) H1
noncomputable def ZeP (ta tb : TE) : TE := fun σ H Q => ta σ H fun x H1 => ∃ c, x = .bl c ∧ if c = true then Q (.bl true) H1 else tb σ H1 Q
noncomputable def ZfT (ta : TE) : TE := fun σ H Q => ta σ H fun x H1 => ∃ c, x = .bl c ∧ Q (.bl (!c)) H1
theorem Zag {op} {t : TE} (h : PE X a t) : PE X (.BoolOp op [a] pos) t := fun pins s σ H Q I hw => BoolOp_one (h pins s σ H Q I hw)
theorem Za7 (ha : PE X a ta) (hb : PE X (.BoolOp .And (b :: rest) pos) tb) : PE X (.BoolOp .And (a :: b :: rest) pos) (Zdt ta tb) := by
 intro pins s σ H Q I h
 refine BoolOp_and (thn (ha pins s σ H _ I h) fun v s1 ⟨x, H1, I1, r1, q1⟩ => ?_)
 obtain ⟨c, rfl, q1⟩ := q1
 cases r1
 refine wpAny_truthy_bool ?_
 cases c with
 | true => exact hb pins s1 σ H1 Q I1 q1
 | false => exact ⟨.bl false, H1, I1, rfl, q1⟩
theorem Zc5 (ha : PE X a ta) (hb : PE X (.BoolOp .Or (b :: rest) pos) tb) : PE X (.BoolOp .Or (a :: b :: rest) pos) (ZeP ta tb) := by
 intro pins s σ H Q I h
 refine BoolOp_or (thn (ha pins s σ H _ I h) fun v s1 ⟨x, H1, I1, r1, q1⟩ => ?_)
 obtain ⟨c, rfl, q1⟩ := q1
 cases r1
 refine wpAny_truthy_bool ?_
 cases c with
 | false => exact hb pins s1 σ H1 Q I1 q1
 | true => exact ⟨.bl true, H1, I1, rfl, q1⟩
noncomputable def tIf (t : TT) (ta tb : TE) : TE := fun σ H Q => t σ H fun c H1 => if c = true then ta σ H1 Q else tb σ H1 Q
end
end L2
namespace L2
open PySem PySem.Spec PyProof.Rows
noncomputable def SqL (K : PySem.W.Frag) (H : Hp) (a : Addr) (xs : List V) : Prop :=
 Rd H a (.lst xs) ∨
  ∃ (o : Obj) (its : Array Value) (n : Nat), K.lookup a = some o ∧ o.cls = .type "list" ∧ o.dict = none ∧ o.data = .seq its n ∧ its.size ≤ sizeLine ∧ Vals xs its.toList
noncomputable def SqT (K : PySem.W.Frag) (H : Hp) (a : Addr) (xs : List V) : Prop :=
 Rd H a (.tup xs) ∨
  ∃ (o : Obj) (its : Array Value) (n : Nat), K.lookup a = some o ∧ o.cls = .type "tuple" ∧ o.data = .seq its n ∧ its.size ≤ sizeLine ∧ Vals xs its.toList
noncomputable def ZeU : Value → Option V
 | .none => some .non
 | .bool b => some (.bl b)
 | .int i _ => some (.int i)
 | .str x _ => some (.str x)
 | .bytes b _ => some (.byt b)
 | .float b _ => some (.flt b)
 | .ref a => some (.ref a)
 | .type n => some (.ty n)
 | _ => none
theorem RelV.abs {x : V} {u : Value} (r : RelV x u) : ZeU u = some x := by
 cases x with
 | non => cases r; rfl
 | bl _ => cases r; rfl
 | int _ => obtain ⟨t, rfl⟩ := r; rfl
 | str _ => obtain ⟨t, rfl⟩ := r; rfl
 | byt _ => obtain ⟨t, rfl⟩ := r; rfl
 | flt _ => obtain ⟨t, rfl⟩ := r; rfl
 | ref _ => cases r; rfl
 | ty _ => cases r; rfl
theorem RelV.inj {x y : V} {u : Value} (r : RelV x u) (q : RelV y u) : x = y := Option.some.inj (r.abs.symm.trans q.abs)
theorem Vals.inj : ∀ {xs ys : List V} {us : List Value}, Vals xs us → Vals ys us → xs = ys
 | _, _, _, .nil, .nil => rfl
 | _, _, _, .cons r t, .cons r' t' => by rw [r.inj r', Vals.inj t t']
section
variable {X : Cx} {pins : List (Addr × Obj)} {σ : St} {H : Hp} {s : Shared} {a : Addr} {xs ys : List V}
theorem SqL.of {K : PySem.W.Frag} (h : H a = some (.lst xs)) : SqL K H a xs := .inl (.inl h)
theorem SqT.of {K : PySem.W.Frag} (h : H a = some (.tup xs)) : SqT K H a xs := .inl (.inl h)
theorem Inv.list (I : Inv X pins σ H s) (h : SqL X.K H a xs) : ∃ its : List Value, Vals xs its ∧ PlainL s.heap a its.toArray ∧ xs.length ≤ sizeLine := by
 rcases h with h | ⟨o, its, n, hk, hc, hd, hs, hz, r⟩
 ·obtain ⟨z, its, n, r, e⟩ := h.ok I.hok
  exact ⟨its, r, ⟨_, n, e, rfl, rfl, rfl⟩, z⟩
 ·refine ⟨its.toList, r, ⟨o, n, I.kIn a o hk, hc, hd, by simpa using hs⟩, ?_⟩
  have e := r.length
  simp only [Array.length_toList] at e
  omega
theorem Inv.tuple (I : Inv X pins σ H s) (h : SqT X.K H a xs) : ∃ its : List Value, Vals xs its ∧ IsTup s.heap a its.toArray ∧ xs.length ≤ sizeLine := by
 rcases h with h | ⟨o, its, n, hk, hc, hs, hz, r⟩
 ·obtain ⟨z, its, r, p⟩ := h.ok I.hok
  exact ⟨its, r, p, z⟩
 ·refine ⟨its.toList, r, ⟨o, I.kIn a o hk, hc, n, by simpa using hs⟩, ?_⟩
  have e := r.length
  simp only [Array.length_toList] at e
  omega
theorem Inv.Hl (I : Inv X pins σ H s) (h : SqL X.K H a xs) (h' : SqL X.K H a ys) : xs = ys := by
 obtain ⟨its, r, ⟨o, n, e, _, _, d⟩, _⟩ := I.list h
 obtain ⟨its', r', ⟨o', n', e', _, _, d'⟩, _⟩ := I.list h'
 rw [e] at e'; cases e'
 rw [d] at d'
 injection d' with d1 _
 have : its = its' := by simpa using congrArg Array.toList d1
 subst this
 exact r.inj r'
theorem Inv.FL (I : Inv X pins σ H s) (h : SqT X.K H a xs) (h' : SqT X.K H a ys) : xs = ys := by
 obtain ⟨its, r, ⟨o, e, _, n, d⟩, _⟩ := I.tuple h
 obtain ⟨its', r', ⟨o', e', _, n', d'⟩, _⟩ := I.tuple h'
 rw [e] at e'; cases e'
 rw [d] at d'
 injection d' with d1 _
 have : its = its' := by simpa using congrArg Array.toList d1
 subst this
 exact r.inj r'
end
noncomputable abbrev Cx.Ha (X : Cx) (E : Value → Shared → Prop) : Cx := { X with xe := E }
noncomputable abbrev Cx.nox (X : Cx) : Cx := X.Ha fun _ _ => False
theorem Cx.Ok.Ha {X : Cx} (ok : X.Ok) (E : Value → Shared → Prop) : (X.Ha E).Ok :=
 ⟨ok.mod, ok.kind, ok.glob, ok.blt, ok.above, ok.inj, ok.has, ok.cab, ok.hd, ok.frames, ok.stk, ok.exf, ok.bs, ok.bsz, ok.noex, ok.exfs, ok.E5, ok.frf⟩
theorem Cx.Ok.VM {X : Cx} {E : Value → Shared → Prop} (ok : (X.Ha E).Ok) : X.Ok :=
 ⟨ok.mod, ok.kind, ok.glob, ok.blt, ok.above, ok.inj, ok.has, ok.cab, ok.hd, ok.frames, ok.stk, ok.exf, ok.bs, ok.bsz, ok.noex, ok.exfs, ok.E5, ok.frf⟩
section
variable {X : Cx} {pins : List (Addr × Obj)} {σ : St} {H : Hp} {s : Shared} {E : Value → Shared → Prop}
theorem Inv.Ha (I : Inv X pins σ H s) (E : Value → Shared → Prop) : Inv (X.Ha E) pins σ H s := ⟨I.ok.Ha E, I.os, I.bare, I.base, I.loc, I.cell, I.free, I.freeC, I.pin, I.hok, I.len⟩
theorem Inv.VM (I : Inv (X.Ha E) pins σ H s) : Inv X pins σ H s := ⟨I.ok.VM, I.os, I.bare, I.base, I.loc, I.cell, I.free, I.freeC, I.pin, I.hok, I.len⟩
theorem SP.VM {D : Ends} {f : Flow} {s' : Shared} (h : SP (X.Ha E) pins D f s') : SP X pins D f s' := by
 cases f with
 | next => obtain ⟨σ', H', I, q⟩ := h; exact ⟨σ', H', I.VM, q⟩
 | brk => obtain ⟨σ', H', I, q⟩ := h; exact ⟨σ', H', I.VM, q⟩
 | cont => obtain ⟨σ', H', I, q⟩ := h; exact ⟨σ', H', I.VM, q⟩
 | ret u => obtain ⟨v, σ', H', I, r, q⟩ := h; exact ⟨v, σ', H', I.VM, r, q⟩
theorem PSs.nox {st : List Stmt} {t : TS} (h : PSs X.nox st t) : PSs X st t := fun pins s σ H D I hw =>
 wpAny_mono (h pins s σ H D (I.Ha _) hw) (fun _ _ q => q.VM) fun _ _ z => False.elim z
end
section
variable {X : Cx} {st : Stmt} {rest : List Stmt} {t u : TS} {e : Expr} {te : TE} {pos : Pos}
noncomputable def ZcY : TS := fun D σ H => D.nx σ H
noncomputable def ZeO (t u : TS) : TS := fun D σ H => t { D with nx := u D } σ H
theorem RX : PSs X [] ZcY := fun _ _ σ H _ I h => wpAny_execs_nil ⟨σ, H, I, h⟩
theorem Mj (h1 : PS X st t) (h2 : PSs X rest u) : PSs X (st :: rest) (ZeO t u) := by
 intro pins s σ H D I h
 refine wpAny_execs_cons (thn (h1 pins s σ H { D with nx := u D } I h) fun f s1 q => ?_)
 cases f with
 | next =>
  obtain ⟨σ', H', I', q⟩ := q
  exact h2 pins s1 σ' H' D I' q
 | ret v => exact q
 | brk => exact q
 | cont => exact q
theorem Rb (h1 : PS X st t) : PSs X [st] t := by
 intro pins s σ H D I h
 refine wpAny_execs_cons (thn (h1 pins s σ H D I h) fun f s1 q => ?_)
 cases f with
 | next => exact wpAny_execs_nil q
 | ret v => exact q
 | brk => exact q
 | cont => exact q
noncomputable def Zeh : TS := fun D σ H => D.bk σ H
noncomputable def ZfS : TS := fun D σ H => D.ct σ H
theorem Inv.quiet {pins : List (Addr × Obj)} {σ : St} {H : Hp} {s : Shared} (I : Inv X pins σ H s) : interactive X.env = false := by simp [interactive, I.ok.kind]
noncomputable def Zc7 (te : TE) : TS := fun D σ H => te σ H fun _ H1 => D.nx σ H1
theorem OC (he : PE X e te) (hs : swapsWith e none pos.line X.env = pure false := by rfl) : PS X (.Expr e pos) (Zc7 te) := by
 intro pins s σ H D I h
 exact wpAny_Expr_any (thn (he pins s σ H _ I h) fun v s1 ⟨x, H1, I1, r1, q1⟩ => ⟨σ, H1, I1, q1⟩) I.quiet hs
noncomputable def ZeZ (te : TE) : TS := fun D σ H => te σ H D.rt
theorem Sz (he : PE X e te) : PS X (.Return (some e) pos) (ZeZ te) := by
 intro pins s σ H D I h
 exact wpAny_Return_some (thn (he pins s σ H _ I h) fun v s1 ⟨x, H1, I1, r1, q1⟩ => ⟨x, σ, H1, I1, r1, q1⟩)
noncomputable def Ze2 : TS := fun D _ H => D.rt .non H
noncomputable def Zfg (c : TT) (t u : TS) : TS := fun D σ H => c σ H fun b H1 => if b = true then t D σ H1 else u D σ H1
theorem ZcO {c : Expr} {a b : List Stmt} {tc : TT} (hc : PT X c tc) (ha : PSs X a t) (hb : PSs X b u) : PS X (.If c a b pos) (Zfg tc t u) := by
 intro pins s σ H D I h
 refine wpAny_If (thn (hc pins s σ H _ I h) fun d s1 ⟨H1, I1, q1⟩ => ?_)
 cases d with
 | true => exact ha pins s1 σ H1 D I1 q1
 | false => exact hb pins s1 σ H1 D I1 q1
noncomputable def ZeK : TS := fun _ _ _ => False
end
noncomputable abbrev TG := V → St → Hp → (St → Hp → Prop) → Prop
noncomputable abbrev TGs := List V → St → Hp → (St → Hp → Prop) → Prop
noncomputable def PG (X : Cx) (target : Expr) (t : TG) : Prop :=
 ∀ (pins : List (Addr × Obj)) (s : Shared) (σ : St) (H : Hp) (v : V) (u : Value) (Q : St → Hp → Prop), Inv X pins σ H s → RelV v u → t v σ H Q →
  wpAny (model X.prog X.w) X.A (assign target X.env u) (fun _ s' => ∃ σ' H', Inv X pins σ' H' s' ∧ Q σ' H') X.xe s
noncomputable def PGs (X : Cx) (ts : List Expr) (t : TGs) : Prop :=
 ∀ (pins : List (Addr × Obj)) (s : Shared) (σ : St) (H : Hp) (vs : List V) (us : List Value) (Q : St → Hp → Prop), Inv X pins σ H s → Vals vs us → t vs σ H Q →
  wpAny (model X.prog X.w) X.A (assignInOrder ((assignEach ts X.env).map (·.2)) us) (fun _ s' => ∃ σ' H', Inv X pins σ' H' s' ∧ Q σ' H') X.xe s
noncomputable abbrev Zb3 := V → V → V → Hp → (Hp → Prop) → Prop
noncomputable def ZdX (X : Cx) (t : Zb3) : Prop :=
 ∀ (pins : List (Addr × Obj)) (s : Shared) (σ : St) (H : Hp) (o i v : V) (ov iv u : Value) (Q : Hp → Prop), Inv X pins σ H s → RelV o ov → RelV i iv → RelV v u → t o i v H Q →
  wpAny (model X.prog X.w) X.A (setItem ov iv u) (fun _ s' => ∃ H', Inv X pins σ H' s' ∧ Q H') X.xe s
noncomputable abbrev TIp := V → V → Hp → VK → Prop
noncomputable def PIp (X : Cx) (op : Operator) (t : TIp) : Prop :=
 ∀ (pins : List (Addr × Obj)) (s : Shared) (σ : St) (H : Hp) (x y : V) (v u : Value) (Q : VK), Inv X pins σ H s → RelV x v → RelV y u → t x y H Q →
  wpAny (model X.prog X.w) X.A (inplaceOp op v u) (EP X pins σ Q) X.xe s
section
variable {X : Cx} {pos : Pos}
noncomputable def T1 (i : Nat) : TG := fun v σ H Q => Q (σ.set i (some v)) H
theorem C4 {i : Nat} {x : Str} (hN : X.N.Nodup) (hi : X.N[i]? = some x) (hx : Loc X.env.scope x) (hf : X.fn x = true ∨ X.env.scope.names.lookup x = some .local := by first | exact .inl rfl | exact .inr rfl | assumption) : PG X (.Name x pos) (T1 i) := by
 intro pins s σ H v u Q I r h
 exact wpAny_assign_Name (Gs I hN hi hx r (fun s' I' => ⟨_, H, I', h⟩) hf)
noncomputable def Zfy : TGs := fun vs σ H Q => vs = [] ∧ Q σ H
noncomputable def ZcF (t : TG) (u : TGs) : TGs := fun vs σ H Q => ∃ v r, vs = v :: r ∧ t v σ H fun σ' H' => u r σ' H' Q
theorem Ow : PGs X [] Zfy := by
 intro pins s σ H vs us Q I r h
 obtain ⟨e, h⟩ := h
 subst e
 cases r
 exact assignInOrder_nil ⟨σ, H, I, h⟩
theorem M0 {e : Expr} {es : List Expr} {t : TG} {u : TGs} (h1 : PG X e t) (h2 : PGs X es u)
  (hs : (assignEach (e :: es) X.env).map (·.2) = assign e X.env :: (assignEach es X.env).map (·.2) := by rfl) : PGs X (e :: es) (ZcF t u) := by
 intro pins s σ H vs us Q I r h
 obtain ⟨v, vr, e1, h⟩ := h
 subst e1
 cases r with
 | cons r rr =>
  rw [hs]
  refine assignInOrder_cons (thn (h1 pins s σ H _ _ _ I r h) fun _ s1 ⟨σ1, H1, I1, q1⟩ => ?_)
  exact h2 pins s1 σ1 H1 _ _ Q I1 rr q1
noncomputable def ZfN (K : PySem.W.Frag) (n : Nat) (t : TGs) : TG := fun v σ H Q => ∃ a xs, v = .ref a ∧ SqT K H a xs ∧ xs.length = n ∧ t xs σ H Q
theorem SV {es : List Expr} {k : Nat} {t : TGs} {n : Nat} (hc : X.calm = true) (h : PGs X es t)
  (hn : (assignEach es X.env).length = n := by rfl) (hst : (assignEach es X.env).findIdx? (·.1) = none := by rfl) : PG X (.Tuple es k pos) (ZfN X.K n t) := by
 intro pins s σ H v u Q I r hw
 obtain ⟨a, xs, e1, hq, hl, hw⟩ := hw
 subst e1
 cases r
 obtain ⟨its, rv, ht, hz⟩ := I.tuple hq
 refine assign_Tuple_tuple (I.ok.hd hc) ht (by simp [hn, ← hl, rv.length]) hst fun h' hx => ?_
 have I1 : Inv X pins σ H { s with heap := h' } := I.kept (t' := s.toks) fun b o e => hx b o (Nat.ne_of_lt (Heap.lt_size e)) e
 exact h pins _ σ H xs _ Q I1 (by simpa using rv) hw
noncomputable def ZfD (to ti : TE) (t : Zb3) : TG := fun v σ H Q => to σ H fun o H1 => ti σ H1 fun i H2 => t o i v H2 fun H3 => Q σ H3
theorem Zaw {o i : Expr} {to ti : TE} {t : Zb3} (ho : PE X o to) (hi : PE X i ti) (hs : ZdX X t)
  (ha : ∀ v, assign (.Subscript o i pos) X.env v = (do
   let ov ← holding [v] (eval o X.env)
   let iv ← holding [v, ov] (eval i X.env)
   standAt pos
   holding [v, ov, iv] (setItem ov iv v)
   release [v, ov, iv] []) := by intro _; rfl) : PG X (.Subscript o i pos) (ZfD to ti t) := by
 intro pins s σ H v u Q I r h
 rw [ha]
 refine wpAny_bind (wpAny_holding (thn (ho pins s σ H _ I h) fun ov s1 ⟨x, H1, I1, r1, q1⟩ => ?_))
 refine wpAny_bind (wpAny_holding (thn (hi pins s1 σ H1 _ I1 q1) fun iv s2 ⟨y, H2, I2, r2, q2⟩ => ?_))
 refine wpAny_bind (wpAny_standAt (wpAny_bind (wpAny_holding (thn (hs pins s2 σ H2 x y v ov iv u _ I2 r1 r2 r q2) fun _ s3 ⟨H3, I3, q3⟩ => ?_))))
 exact wpAny_release ⟨σ, H3, I3, q3⟩
noncomputable def ZeL (te : TE) (g : TG) : TS := fun D σ H => te σ H fun x H1 => g x σ H1 D.nx
theorem Zbb {tg e : Expr} {te : TE} {g : TG} (he : PE X e te) (hg : PG X tg g) (hs : swapsWithSole [tg] e pos.line X.env = pure false := by rfl) (hw : swappedStores [tg] e X.env = pure none := by rfl)
  (h1 : (assignEach [tg] X.env).map (·.2) = [assign tg X.env] := by rfl) : PS X (.Assign [tg] e pos) (ZeL te g) := by
 intro pins s σ H D I h
 refine wpAny_Assign_stores (thn (he pins s σ H _ I h) fun v s1 ⟨x, H1, I1, r1, q1⟩ => ?_) hs hw
 rw [h1]
 exact thn (hg pins s1 σ H1 x v _ I1 r1 q1) fun _ s2 q => q
theorem SY {i : Nat} {x : Str} {e : Expr} {te : TE} {pos' : Pos} (hN : X.N.Nodup) (hi : X.N[i]? = some x) (hx : Loc X.env.scope x) (he : PE X e te) (hs : swapsWith e (some (.Name x pos')) pos.line X.env = pure false := by rfl) (hf : X.fn x = true ∨ X.env.scope.names.lookup x = some .local := by first | exact .inl rfl | exact .inr rfl | assumption) :
  PS X (.Assign [.Name x pos'] e pos) (ZeL te (T1 i)) := by
 intro pins s σ H D I h
 refine wpAny_Assign_Name (thn (he pins s σ H _ I h) fun v s1 ⟨y, H1, I1, r1, q1⟩ => ?_) hs
 exact Gs I1 hN hi hx r1 (fun s2 I2 => ⟨_, H1, I2, q1⟩) hf
noncomputable def Zgj (i j : Nat) (ta : TA) : TS := fun D σ H => ta σ H fun vs H1 => ∃ v w, vs = [v, w] ∧ D.nx ((σ.set i (some v)).set j (some w)) H1
noncomputable def Zgk (i : Nat) (te : TE) (ti : TIp) : TS := fun D σ H => ∃ x, σ[i]? = some (some x) ∧ te σ H fun y H1 => ti x y H1 fun z H2 => D.nx (σ.set i (some z)) H2
noncomputable def Zfl (to ti te : TE) (tget : V → V → Hp → VK → Prop) (tip : TIp) (tset : Zb3) : TS := fun D σ H => to σ H fun o H1 => ti σ H1 fun i H2 => tget o i H2 fun x H3 => te σ H3 fun y H4 => tip x y H4 fun z H5 => tset o i z H5 fun H6 => D.nx σ H6
noncomputable def Zf5 (X : Cx) (t : V → V → Hp → VK → Prop) : Prop :=
 ∀ (pins : List (Addr × Obj)) (s : Shared) (σ : St) (H : Hp) (o i : V) (ov iv : Value) (Q : VK), Inv X pins σ H s → RelV o ov → RelV i iv → t o i H Q →
  wpAny (model X.prog X.w) X.A (getItem ov iv) (EP X pins σ Q) X.xe s
noncomputable def ipI (f : Int → Int → Int) : TIp := fun x y H Q => ∃ i j, x = .int i ∧ y = .int j ∧ Q (.int (f i j)) H
end
section
variable {X : Cx} {pos : Pos}
noncomputable def Zee (c : TT) (tb : TS) : TS := fun D σ H => ∃ W : Nat → St → Hp → Prop, (∃ m, W m σ H) ∧ ∀ m σ H, W m σ H →
 c σ H fun b H1 => if b = true then ∃ N : St → Hp → Prop, (∀ σ' H', N σ' H' → ∃ m', m' < m ∧ W m' σ' H') ∧ tb { D with nx := N, ct := N, bk := D.nx } σ H1 else D.nx σ H1
end
structure It where
 go : Nat → Hp → Prop
 yld : Nat → Hp → V → Hp → Prop
 stop : Nat → Hp → Prop
noncomputable def DF (X : Cx) (pins : List (Addr × Obj)) (H : Hp) (b : Addr) : Prop :=
 H b = none ∧ b ≠ X.env.locals ∧ b ∉ X.fs ∧ (b ∈ X.ex ∨ X.s₀.heap.objs.size ≤ b) ∧ (∀ x c, X.env.cells.lookup x = some c → c ≠ b) ∧ ∀ p ∈ X.pn ++ pins, p.1 ≠ b
theorem Inv.Zb8 {X : Cx} {pins : List (Addr × Obj)} {σ : St} {H H' : Hp} {s : Shared} {b : Addr} (I : Inv X pins σ H s) (hb : s.heap.objs.size ≤ b) (hn : H' b = none) : DF X pins H' b := by
 refine ⟨hn, Nat.ne_of_gt (Nat.lt_of_lt_of_le I.lt hb), I.Ze9 hb, .inr (Nat.le_trans I.sz hb), fun x c e z => ?_, fun p hp z => ?_⟩
 ·obtain ⟨v, q⟩ := I.cell x c e
  exact absurd (Nat.lt_of_lt_of_le q.lt (by rw [z]; exact hb)) (Nat.lt_irrefl _)
 ·exact absurd (Nat.lt_of_lt_of_le (Heap.lt_size (I.pin p hp).1) (by rw [z]; exact hb)) (Nat.lt_irrefl _)
structure Turn (P : Program) (w : World) (K : PySem.W.Frag) (tg : Expr) (J : It) (fp : List Addr) (it : Addr) (tn : Nat → Heap → Prop) : Prop where
 mem : it ∈ fp
 obj : ∀ i h, tn i h → ∀ b ∈ fp, ∃ o, h.get? b = some o ∧ ∀ v, o.data ≠ .cell v
 keep : ∀ i h h', tn i h → (∀ b ∈ fp, ∀ o, h.get? b = some o → h'.get? b = some o) → tn i h'
 item : ∀ (X : Cx), X.prog = P → X.w = w → X.K = K → X.calm = true → ∀ (i : Nat) (pins : List (Addr × Obj)) (s : Shared) (σ : St) (H : Hp) (E : Value → Shared → Prop), Inv X pins σ H s → (∀ b ∈ fp, DF X pins H b) → tn i s.heap → J.go i H →
  wpAny (model P w) X.A (pyNext (.ref it)) (fun r s1 => ∃ u, r = some u ∧
   wpAny (model P w) X.A (letOwnedTupleGo tg (.ref it) u) (fun _ s2 => ∃ x H', Inv X pins σ H' s2 ∧ RelV x u ∧ J.yld i H x H' ∧ tn (i + 1) s2.heap ∧ ∀ b ∈ fp, H' b = none) E s1) E s
 done : ∀ (X : Cx), X.prog = P → X.w = w → X.K = K → X.calm = true → ∀ (i : Nat) (pins : List (Addr × Obj)) (s : Shared) (σ : St) (H : Hp) (E : Value → Shared → Prop), Inv X pins σ H s → (∀ b ∈ fp, DF X pins H b) → tn i s.heap → J.stop i H →
  wpAny (model P w) X.A (pyNext (.ref it)) (fun r s1 => r = none ∧ Inv X pins σ H s1) E s
 self : ∀ (A : Around) (i : Nat) (s : Shared) (Q : Value → Shared → Prop) (E : Value → Shared → Prop), tn i s.heap → Q (.ref it) s → wpAny (model P w) A (pyIter (.ref it)) Q E s
noncomputable abbrev TI := St → Hp → (It → Hp → Prop) → Prop
noncomputable def PIE (X : Cx) (pins : List (Addr × Obj)) (σ : St) (tg : Expr) (R : It → Hp → Prop) (itv : Value) (s2 : Shared) : Prop :=
 ∃ (it : Addr) (fp : List Addr) (tn : Nat → Heap → Prop) (J : It) (H' : Hp), itv = .ref it ∧ Inv X pins σ H' s2 ∧ Turn X.prog X.w X.K tg J fp it tn ∧ tn 0 s2.heap ∧ (∀ b ∈ fp, DF X pins H' b) ∧ R J H'
noncomputable def PI (X : Cx) (tg iter : Expr) (wi : TI) : Prop :=
 ∀ (pins : List (Addr × Obj)) (s : Shared) (σ : St) (H : Hp) (R : It → Hp → Prop), Inv X pins σ H s → wi σ H R →
  wpAny (model X.prog X.w) X.A (eval iter X.env) (fun v s1 => wpAny (model X.prog X.w) X.A (pyIter v) (PIE X pins σ tg R) X.xe s1) X.xe s
theorem OJ {M : Model} {A : Around} {E : Value → Shared → Prop} {s : Shared} {tg : Expr} {it : Addr} {u : Value} {o : Obj} {n : String} {vs : Array Value} {Q : Unit → Shared → Prop} (ho : s.heap.get? it = some o) (hc : o.cls = .type n) (hd : o.data = .fields vs)
    (hn : ["enumerate", "zip", "dict_itemiterator", "dict_reverseitemiterator", "odict_iterator", "itertools.zip_longest", "itertools.pairwise"].contains n = false) (hQ : Q () s) : wpAny M A (letOwnedTupleGo tg (.ref it) u) Q E s := by
  unfold letOwnedTupleGo
  cases tg <;> first
    | exact wpAny_pure hQ
    | (cases u <;> first
        | exact wpAny_pure hQ
        | (refine wpAny_bind (wpAny_load ho ?_)
           rw [hc, hd]
           show wpAny M A (if (["enumerate", "zip", "dict_itemiterator", "dict_reverseitemiterator", "odict_iterator", "itertools.zip_longest", "itertools.pairwise"].contains n && vs[0]? == some (rawInt _)) = true then _ else _) Q E s
           rw [if_neg (by intro h; rw [hn, Bool.false_and] at h; cases h)]
           exact wpAny_pure hQ))
noncomputable def Itl (K : PySem.W.Frag) (a : Addr) : It :=
 ⟨fun i H => ∃ xs x, SqL K H a xs ∧ xs[i]? = some x, fun i H x H' => H' = H ∧ ∀ xs, SqL K H a xs → xs[i]? = some x, fun i H => ∃ xs, SqL K H a xs ∧ xs.length ≤ i⟩
noncomputable def Itt (K : PySem.W.Frag) (a : Addr) : It :=
 ⟨fun i H => ∃ xs x, SqT K H a xs ∧ xs[i]? = some x, fun i H x H' => H' = H ∧ ∀ xs, SqT K H a xs → xs[i]? = some x, fun i H => ∃ xs, SqT K H a xs ∧ xs.length ≤ i⟩
noncomputable def Itr (lo : Int) (n : Nat) : It := ⟨fun i _ => i < n, fun i H x H' => H' = H ∧ x = .int (lo + i), fun i _ => n ≤ i⟩
theorem Dr {P : Program} {w : World} {K : PySem.W.Frag} {tg : Expr} (a it : Addr) : Turn P w K tg (Itl K a) [it] it (fun i h => h.IsListIter it a i) where
 mem := by simp
 obj := fun i h st b hb => by
  have e : b = it := by simpa using hb
  subst e
  obtain ⟨o, e, c, d⟩ := st
  exact ⟨o, e, fun v z => by rw [d] at z; cases z⟩
 keep := fun i h h' st k => st.at fun o e => k it (by simp) o e
 item := by
  intro X hP hw hK hc i pins s σ H E I hf st hg
  subst hP hw hK
  obtain ⟨xs, x, hq, hx⟩ := hg
  obtain ⟨its, rv, p, hz⟩ := I.list hq
  obtain ⟨u, hu, ru⟩ := rv.get hx
  obtain ⟨f0, f1, f2, f3, f4, f5⟩ := hf it (by simp)
  refine wpAny_pyNext_list_item st p.isList (x := u) (by simpa using hu) fun h' st' sb => ?_
  have I1 : Inv X pins σ H { s with heap := h' } := I.turned (t' := s.toks) (fun b o hb e => (sb.2 b hb).trans e) f0 f1 f3 f4 f5
  obtain ⟨o, e, c, d⟩ := id st'
  exact ⟨u, rfl, OJ (s := { s with heap := h' }) e c d (by decide) ⟨x, H, I1, ru, ⟨rfl, fun ys hy => by rw [I.Hl hy hq]; exact hx⟩, st', fun b hb => (hf b hb).1⟩⟩
 done := by
  intro X hP hw hK hc i pins s σ H E I hf st hg
  subst hP hw hK
  obtain ⟨xs, hq, hx⟩ := hg
  obtain ⟨its, rv, p, hz⟩ := I.list hq
  obtain ⟨f0, f1, f2, f3, f4, f5⟩ := hf it (by simp)
  have hl := rv.length
  exact wpAny_pyNext_list_end (I.ok.hd hc) st p.isList (by simp; omega) fun h' eb => ⟨rfl, I.turned (t' := s.toks) (fun b o hb e => eb b o hb e) f0 f1 f3 f4 f5⟩
 self := fun _ _ _ _ _ st h => wpAny_pyIter_listiter st h
theorem BS {P : Program} {w : World} {K : PySem.W.Frag} {tg : Expr} (a it : Addr) : Turn P w K tg (Itt K a) [it] it (fun i h => h.IsTupleIter it a i) where
 mem := by simp
 obj := fun i h st b hb => by
  have e : b = it := by simpa using hb
  subst e
  obtain ⟨o, e, c, d⟩ := st
  exact ⟨o, e, fun v z => by rw [d] at z; cases z⟩
 keep := fun i h h' st k => st.at fun o e => k it (by simp) o e
 item := by
  intro X hP hw hK hc i pins s σ H E I hf st hg
  subst hP hw hK
  obtain ⟨xs, x, hq, hx⟩ := hg
  obtain ⟨its, rv, p, hz⟩ := I.tuple hq
  obtain ⟨u, hu, ru⟩ := rv.get hx
  obtain ⟨f0, f1, f2, f3, f4, f5⟩ := hf it (by simp)
  refine wpAny_pyNext_tuple_item st (show s.heap.IsTuple a its.toArray from p) (x := u) (by simpa using hu) fun h' st' sb => ?_
  have I1 : Inv X pins σ H { s with heap := h' } := I.turned (t' := s.toks) (fun b o hb e => (sb.2 b hb).trans e) f0 f1 f3 f4 f5
  obtain ⟨o, e, c, d⟩ := id st'
  exact ⟨u, rfl, OJ (s := { s with heap := h' }) e c d (by decide) ⟨x, H, I1, ru, ⟨rfl, fun ys hy => by rw [I.FL hy hq]; exact hx⟩, st', fun b hb => (hf b hb).1⟩⟩
 done := by
  intro X hP hw hK hc i pins s σ H E I hf st hg
  subst hP hw hK
  obtain ⟨xs, hq, hx⟩ := hg
  obtain ⟨its, rv, p, hz⟩ := I.tuple hq
  obtain ⟨f0, f1, f2, f3, f4, f5⟩ := hf it (by simp)
  have hl := rv.length
  exact wpAny_pyNext_tuple_end (I.ok.hd hc) st (show s.heap.IsTuple a its.toArray from p) (by simp; omega) fun h' eb => ⟨rfl, I.turned (t' := s.toks) (fun b o hb e => eb b o hb e) f0 f1 f3 f4 f5⟩
 self := fun _ _ _ _ _ st h => wpAny_pyIter_tupleiter st h
theorem BK {P : Program} {w : World} {K : PySem.W.Frag} {tg : Expr} (it : Addr) (lo : Int) (n : Nat) : Turn P w K tg (Itr lo n) [it] it (fun i h => IsRangeIter h it (lo + (i : Nat) * 1) ((n : Int) - (i : Nat)) 1) where
 mem := by simp
 obj := fun i h st b hb => by
  have e : b = it := by simpa using hb
  subst e
  exact ⟨_, st, fun v z => by
   have z' : Data.fields _ = Data.cell v := z
   cases z'⟩
 keep := fun i h h' st k => k it (by simp) _ st
 item := by
  intro X hP hw hK hc i pins s σ H E I hf st hg
  subst hP hw hK
  obtain ⟨f0, f1, f2, f3, f4, f5⟩ := hf it (by simp)
  have W := Walks.range (prog := X.prog) (w := X.w) (I.ok.hd hc) it lo 1 n
  refine W.item i s _ _ hg st fun v h' tk hv st' kk => ?_
  obtain ⟨t, rfl⟩ := hv
  have I1 : Inv X pins σ H { s with heap := h', toks := tk } := I.turned (fun b o hb e => kk b o (by simpa using hb) e) f0 f1 f3 f4 f5
  refine ⟨_, rfl, OJ (s := { s with heap := h', toks := tk }) (n := "range_iterator") st' rfl rfl (by decide) ⟨.int (lo + i), H, I1, ⟨t, ?_⟩, ⟨rfl, rfl⟩, st', fun b hb => (hf b hb).1⟩⟩
  rw [Int.mul_one]
 done := by
  intro X hP hw hK hc i pins s σ H E I hf st hg
  subst hP hw hK
  obtain ⟨f0, f1, f2, f3, f4, f5⟩ := hf it (by simp)
  exact wpAny_pyNext_range_end (I.ok.hd hc) st (by have : n ≤ i := hg; omega) fun h' eb => ⟨rfl, I.turned (t' := s.toks) (fun b o hb e => eb b o hb e) f0 f1 f3 f4 f5⟩
 self := fun _ _ _ _ _ st h => wpAny_pyIter_rangeiter st h
end L2
namespace L2
open PySem PySem.Spec PyProof.Rows
section
variable {X : Cx} {tg : Expr}
noncomputable def ZcD (K : PySem.W.Frag) (tl : TE) : TI := fun σ H R => tl σ H fun x H1 => ∃ a, x = .ref a ∧ (∃ xs, SqL K H1 a xs) ∧ R (Itl K a) H1
noncomputable def Ze5 (K : PySem.W.Frag) (tl : TE) : TI := fun σ H R => tl σ H fun x H1 => ∃ a, x = .ref a ∧ (∃ xs, SqT K H1 a xs) ∧ R (Itt K a) H1
theorem Eo {l : Expr} {tl : TE} (hl : PE X l tl) : PI X tg l (ZcD X.K tl) := by
 intro pins s σ H R I h
 refine thn (hl pins s σ H _ I h) fun v s1 ⟨x, H1, I1, r1, q1⟩ => ?_
 obtain ⟨a, e, ⟨xs, hq⟩, q⟩ := q1
 subst e
 cases r1
 obtain ⟨its, rv, p, hz⟩ := I1.list hq
 refine wpAny_pyIter_list p.isList ?_
 refine ⟨s1.heap.objs.size, [s1.heap.objs.size], _, _, H1, rfl, I1.kept (t' := s1.toks) fun b o e => Heap.get?_push_of_some _ e, Dr a _, ⟨_, Heap.get?_push_size _ rfl, rfl, rfl⟩, fun b hb => ?_, q⟩
 have e : b = s1.heap.objs.size := by simpa using hb
 subst e
 exact I1.Zb8 (Nat.le_refl _) (I1.hok.fresh (Nat.le_refl _))
theorem NR {l : Expr} {tl : TE} (hl : PE X l tl) : PI X tg l (Ze5 X.K tl) := by
 intro pins s σ H R I h
 refine thn (hl pins s σ H _ I h) fun v s1 ⟨x, H1, I1, r1, q1⟩ => ?_
 obtain ⟨a, e, ⟨xs, hq⟩, q⟩ := q1
 subst e
 cases r1
 obtain ⟨its, rv, p, hz⟩ := I1.tuple hq
 refine wpAny_pyIter_tuple (show s1.heap.IsTuple a its.toArray from p) ?_
 refine ⟨s1.heap.objs.size, [s1.heap.objs.size], _, _, H1, rfl, I1.kept (t' := s1.toks) fun b o e => Heap.get?_push_of_some _ e, BS a _, ⟨_, Heap.get?_push_size _ rfl, rfl, rfl⟩, fun b hb => ?_, q⟩
 have e : b = s1.heap.objs.size := by simpa using hb
 subst e
 exact I1.Zb8 (Nat.le_refl _) (I1.hok.fresh (Nat.le_refl _))
theorem Gu {pins : List (Addr × Obj)} {σ : St} {H : Hp} {s : Shared} {R : It → Hp → Prop} {E : Value → Shared → Prop} {lo hi : Int} {t u v : Tok} {tk : Nat} (I : Inv X pins σ H s) (h1 : -(2 ^ 62) ≤ lo) (h2 : lo < 2 ^ 62) (h3 : -(2 ^ 62) ≤ hi) (h4 : hi < 2 ^ 62)
  (q : R (Itr lo (hi - lo).toNat) H) : wpAny (model X.prog X.w) X.A (pyIter (.ref s.heap.objs.size)) (PIE X pins σ tg R) E { s with heap := s.heap.push { cls := .type "range", data := .fields #[.int lo t, .int hi u, .int 1 v] }, toks := tk } := by
 refine wpAny_pyIter_range (IsRange.new ..) (small_one h1 h2 h3 h4) ?_
 have I1 : Inv X pins σ H { s with heap := s.heap.push { cls := .type "range", data := .fields #[.int lo t, .int hi u, .int 1 v] }, toks := tk } := I.kept fun b o e => Heap.get?_push_of_some _ e
 refine ⟨(s.heap.push { cls := .type "range", data := .fields #[.int lo t, .int hi u, .int 1 v] }).objs.size, [(s.heap.push { cls := .type "range", data := .fields #[.int lo t, .int hi u, .int 1 v] }).objs.size], _, _, H, rfl,
  I1.kept (t' := tk) fun b o e => Heap.get?_push_of_some _ e, BK _ lo (hi - lo).toNat, ?_, fun b hb => ?_, q⟩
 ·have e1 : lo + ((0 : Nat) : Int) * 1 = lo := by simp
  have e2 : (((hi - lo).toNat : Nat) : Int) - ((0 : Nat) : Int) = Builtin.Range.rangeSize lo hi 1 := by rw [rangeSize_one]; split <;> omega
  show IsRangeIter _ _ (lo + ((0 : Nat) : Int) * 1) ((((hi - lo).toNat : Nat) : Int) - ((0 : Nat) : Int)) 1
  rw [e1, e2]
  exact Heap.get?_push_size _ rfl
 ·have e : b = (s.heap.push { cls := .type "range", data := .fields #[.int lo t, .int hi u, .int 1 v] }).objs.size := by simpa using hb
  subst e
  exact I1.Zb8 (Nat.le_refl _) (I1.hok.fresh (Nat.le_refl _))
noncomputable def ZcL (ta : TA) : TI := fun σ H R => ta σ H fun vs H1 => ∃ j : Int, vs = [.int j] ∧ -(2 ^ 62) ≤ j ∧ j < 2 ^ 62 ∧ R (Itr 0 j.toNat) H1
noncomputable def Zcr (ta : TA) : TI := fun σ H R => ta σ H fun vs H1 => ∃ i j : Int, vs = [.int i, .int j] ∧ (-(2 ^ 62) ≤ i ∧ i < 2 ^ 62 ∧ -(2 ^ 62) ≤ j ∧ j < 2 ^ 62) ∧ R (Itr i (j - i).toNat) H1
theorem Ko {a : Expr} {ta : TA} {p pos : Pos} (hg : Gl X "range") (hm : X.mg "range" = none) (ha : PA X [a] ta) (hs : starEach [a] X.env = [(false, eval a X.env)] := by rfl) : PI X tg (.Call (.Name "range" p) [a] [] pos) (ZcL ta) := by
 intro pins s σ H R I h
 refine Call_ (Xc I hg hm boot_range (PyProof.Rows.callWith_type1 (thn (ha pos pins s σ H _ I h) fun us s1 ⟨vs, H1, I1, r1, q1⟩ => ?_) hs rfl))
 obtain ⟨j, e, q1, q2, q⟩ := q1
 subst e
 cases r1 with
 | cons r rr =>
  cases rr
  obtain ⟨t, rfl⟩ := r
  exact call_range_1 (Gu I1 (by omega) (by omega) q1 q2 (by simpa using q))
theorem FN {a b : Expr} {ta : TA} {p pos : Pos} (hg : Gl X "range") (hm : X.mg "range" = none) (ha : PA X [a, b] ta) (hs : starEach [a, b] X.env = [(false, eval a X.env), (false, eval b X.env)] := by rfl) (hs2 : starEach [b] X.env = [(false, eval b X.env)] := by rfl) :
  PI X tg (.Call (.Name "range" p) [a, b] [] pos) (Zcr ta) := by
 intro pins s σ H R I h
 refine Call_ (Xc I hg hm boot_range (PyProof.Rows.callWith_type1 (thn (ha pos pins s σ H _ I h) fun us s1 ⟨vs, H1, I1, r1, q1⟩ => ?_) (by rw [hs, hs2]) (by rw [hs2]; rfl)))
 obtain ⟨i, j, e, ⟨q1, q2, q3, q4⟩, q⟩ := q1
 subst e
 cases r1 with
 | cons r rr =>
  cases rr with
  | cons r' rr =>
   cases rr
   obtain ⟨t, rfl⟩ := r
   obtain ⟨t', rfl⟩ := r'
   exact call_range_2 (Gu I1 q1 q2 q3 q4 q)
noncomputable def ZeY (wi : TI) (g : TG) (tb : TS) : TS := fun D σ H => wi σ H fun J H1 => ∃ W : Nat → Nat → St → Hp → Prop, (∃ m, W 0 m σ H1) ∧ ∀ i m σ H, W i m σ H →
 (J.stop i H ∧ D.nx σ H) ∨ (J.go i H ∧ ∃ N : St → Hp → Prop, (∀ σ' H', N σ' H' → ∃ m', m' < m ∧ W (i + 1) m' σ' H') ∧ ∀ x H', J.yld i H x H' → g x σ H' fun σ2 H2 => tb { D with nx := N, ct := N, bk := D.nx } σ2 H2)
noncomputable def Kx (fp : List Addr) (h : Heap) : List (Addr × Obj) := fp.filterMap fun b => (h.get? b).map fun o => (b, o)
theorem Jt {fp : List Addr} {h : Heap} {b : Addr} {o : Obj} (hb : b ∈ fp) (e : h.get? b = some o) : (b, o) ∈ Kx fp h := List.mem_filterMap.mpr ⟨b, hb, by rw [e]; rfl⟩
theorem Dk {fp : List Addr} {h : Heap} {p : Addr × Obj} (hp : p ∈ Kx fp h) : p.1 ∈ fp ∧ h.get? p.1 = some p.2 := by
 obtain ⟨b, hb, e⟩ := List.mem_filterMap.mp hp
 cases q : h.get? b with
 | none => rw [q] at e; cases e
 | some o =>
  rw [q] at e
  have e' : (b, o) = p := Option.some.inj e
  subst e'
  exact ⟨hb, q⟩
theorem Inv.pinned {pins : List (Addr × Obj)} {σ : St} {H : Hp} {s : Shared} {fp : List Addr} (I : Inv X pins σ H s) (hf : ∀ b ∈ fp, DF X pins H b) (ho : ∀ b ∈ fp, ∃ o, s.heap.get? b = some o ∧ ∀ v, o.data ≠ .cell v) : Inv X (pins ++ Kx fp s.heap) σ H s :=
 I.YG fun p hp => (List.mem_append.mp hp).elim (fun z => I.pin p (List.mem_append_right _ z)) fun z => by
  obtain ⟨hb, e⟩ := Dk z
  obtain ⟨f0, f1, f2, _⟩ := hf p.1 hb
  obtain ⟨o, e', d⟩ := ho p.1 hb
  rw [e] at e'; cases e'
  exact ⟨e, f0, f1, f2, d⟩
theorem Inv.X9 {pins pl : List (Addr × Obj)} {σ : St} {H : Hp} {s : Shared} (I : Inv X (pins ++ pl) σ H s) : Inv X pins σ H s := I.YG fun p hp => I.pin p (List.mem_append_right _ (List.mem_append_left _ hp))
theorem G0 {iter : Expr} {body : List Stmt} {wi : TI} {g : TG} {tb : TS} {pos : Pos} (hp : PassesOwn (model X.prog X.w) X.A X.env X.xe) (hc : X.calm = true) (hi : PI X tg iter wi) (hg : PG X tg g) (hb : PSs X body tb)
  (hs : ∀ x, foldedSetIterable iter X.env x = pure x := by intro _; rfl) : PS X (.For tg iter body [] pos) (ZeY wi g tb) := by
 intro pins s σ H D I h
 refine wpAny_For (thn (hi pins s σ H _ I h) fun v s1 h1 => thn h1 fun itv s2 h2 => ?_) hs
 obtain ⟨it, fp, tn, J, H2, e, I2, T, st2, f2, W, ⟨m0, w0⟩, turn⟩ := h2
 subst e
 have stat : ∀ {H' : Hp}, (∀ b ∈ fp, H' b = none) → ∀ b ∈ fp, DF X pins H' b := fun hn b hb => ⟨hn b hb, (f2 b hb).2⟩
 refine codeAny_forLoop_any (fun n s' => ∃ i σ' H', Inv X pins σ' H' s' ∧ tn i s'.heap ∧ (∀ b ∈ fp, H' b = none) ∧ W i n σ' H') ?_ m0 ⟨0, σ, H2, I2, st2, fun b hb => (f2 b hb).1, w0⟩
 rintro n s3 ⟨i, σ3, H3, I3, st3, fr3, w3⟩
 rcases turn i n σ3 H3 w3 with ⟨stop, qn⟩ | ⟨go, N, hN, step⟩
 ·refine wpAny_passesOwn hp (thn (T.done X rfl rfl rfl hc i pins s3 σ3 H3 X.xe I3 (stat fr3) st3 stop) fun r s4 ⟨hr, I4⟩ => ?_)
  subst hr
  exact wpAny_execs_nil ⟨σ3, H3, I4, qn⟩
 ·refine wpAny_passesOwn hp (thn (T.item X rfl rfl rfl hc i pins s3 σ3 H3 X.xe I3 (stat fr3) st3 go) fun r s4 ⟨u, hr, h4⟩ => ?_)
  subst hr
  refine wpAny_passesOwn hp (thn h4 fun _ s5 ⟨x, H5, I5, r5, y5, st5, fr5⟩ => ?_)
  have I5' := I5.pinned (stat fr5) (T.obj _ _ st5)
  refine wpAny_passesOwn hp (thn (hg _ s5 σ3 H5 x u _ I5' r5 (step x H5 y5)) fun _ s6 ⟨σ6, H6, I6, q6⟩ => ?_)
  refine wpAny_passesOwn hp (thn (hb _ s6 σ6 H6 _ I6 q6) fun f s7 q7 => ?_)
  have again : ∀ {σ7 : St} {H7 : Hp}, Inv X (pins ++ Kx fp s5.heap) σ7 H7 s7 → N σ7 H7 → ∃ m, m < n ∧ ∃ i σ' H', Inv X pins σ' H' s7 ∧ tn i s7.heap ∧ (∀ b ∈ fp, H' b = none) ∧ W i m σ' H' := fun {σ7 H7} I7 n7 => by
   obtain ⟨m', hm, w7⟩ := hN σ7 H7 n7
   refine ⟨m', hm, i + 1, σ7, H7, I7.X9, T.keep _ _ _ st5 fun b hb o e => (I7.pin (b, o) (List.mem_append_right _ (List.mem_append_right _ (Jt hb e)))).1, fun b hb => ?_, w7⟩
   obtain ⟨o, e, d⟩ := T.obj _ _ st5 b hb
   exact (I7.pin (b, o) (List.mem_append_right _ (List.mem_append_right _ (Jt hb e)))).2.1
  cases f with
  | next => obtain ⟨σ7, H7, I7, n7⟩ := q7; exact again I7 n7
  | cont => obtain ⟨σ7, H7, I7, n7⟩ := q7; exact again I7 n7
  | brk => obtain ⟨σ7, H7, I7, q7⟩ := q7; exact ⟨σ7, H7, I7.X9, q7⟩
  | ret v => obtain ⟨x7, σ7, H7, I7, r7, q7⟩ := q7; exact ⟨x7, σ7, H7, I7.X9, r7, q7⟩
end
theorem Lr {K : PySem.W.Frag} {a : Addr} {xs : List V} {g : TG} {tb : TS} {D : Ends} {σ : St} {H : Hp} (Pv : Nat → St → Hp → Prop) (h0 : Pv 0 σ H) (hl : ∀ i σ H, i ≤ xs.length → Pv i σ H → SqL K H a xs)
  (hs : ∀ i x σ H, xs[i]? = some x → Pv i σ H → g x σ H fun σ2 H2 => tb { D with nx := Pv (i + 1), ct := Pv (i + 1), bk := D.nx } σ2 H2) (hd : ∀ σ H, Pv xs.length σ H → D.nx σ H) :
  ∃ W : Nat → Nat → St → Hp → Prop, (∃ m, W 0 m σ H) ∧ ∀ i m σ H, W i m σ H →
   ((Itl K a).stop i H ∧ D.nx σ H) ∨ ((Itl K a).go i H ∧ ∃ N : St → Hp → Prop, (∀ σ' H', N σ' H' → ∃ m', m' < m ∧ W (i + 1) m' σ' H') ∧ ∀ x H', (Itl K a).yld i H x H' → g x σ H' fun σ2 H2 => tb { D with nx := N, ct := N, bk := D.nx } σ2 H2) := by
 refine ⟨fun i m σ H => m = xs.length - i ∧ i ≤ xs.length ∧ Pv i σ H, ⟨xs.length, by simp, Nat.zero_le _, h0⟩, ?_⟩
 rintro i m σ H ⟨rfl, hi, p⟩
 have q := hl i σ H hi p
 by_cases hlt : i < xs.length
 ·refine .inr ⟨⟨xs, xs[i], q, by simp [hlt]⟩, Pv (i + 1), fun σ' H' p' => ⟨xs.length - (i + 1), by omega, rfl, hlt, p'⟩, fun x H' y => ?_⟩
  obtain ⟨e, y⟩ := y
  subst e
  exact hs i x σ _ (y xs q) p
 ·have e : i = xs.length := by omega
  subst e
  exact .inl ⟨⟨xs, q, Nat.le_refl _⟩, hd σ H p⟩
theorem Pk {K : PySem.W.Frag} {a : Addr} {xs : List V} {g : TG} {tb : TS} {D : Ends} {σ : St} {H : Hp} (Pv : Nat → St → Hp → Prop) (h0 : Pv 0 σ H) (hl : ∀ i σ H, i ≤ xs.length → Pv i σ H → SqT K H a xs)
  (hs : ∀ i x σ H, xs[i]? = some x → Pv i σ H → g x σ H fun σ2 H2 => tb { D with nx := Pv (i + 1), ct := Pv (i + 1), bk := D.nx } σ2 H2) (hd : ∀ σ H, Pv xs.length σ H → D.nx σ H) :
  ∃ W : Nat → Nat → St → Hp → Prop, (∃ m, W 0 m σ H) ∧ ∀ i m σ H, W i m σ H →
   ((Itt K a).stop i H ∧ D.nx σ H) ∨ ((Itt K a).go i H ∧ ∃ N : St → Hp → Prop, (∀ σ' H', N σ' H' → ∃ m', m' < m ∧ W (i + 1) m' σ' H') ∧ ∀ x H', (Itt K a).yld i H x H' → g x σ H' fun σ2 H2 => tb { D with nx := N, ct := N, bk := D.nx } σ2 H2) := by
 refine ⟨fun i m σ H => m = xs.length - i ∧ i ≤ xs.length ∧ Pv i σ H, ⟨xs.length, by simp, Nat.zero_le _, h0⟩, ?_⟩
 rintro i m σ H ⟨rfl, hi, p⟩
 have q := hl i σ H hi p
 by_cases hlt : i < xs.length
 ·refine .inr ⟨⟨xs, xs[i], q, by simp [hlt]⟩, Pv (i + 1), fun σ' H' p' => ⟨xs.length - (i + 1), by omega, rfl, hlt, p'⟩, fun x H' y => ?_⟩
  obtain ⟨e, y⟩ := y
  subst e
  exact hs i x σ _ (y xs q) p
 ·have e : i = xs.length := by omega
  subst e
  exact .inl ⟨⟨xs, q, Nat.le_refl _⟩, hd σ H p⟩
theorem CJ {lo : Int} {n : Nat} {g : TG} {tb : TS} {D : Ends} {σ : St} {H : Hp} (Pv : Nat → St → Hp → Prop) (h0 : Pv 0 σ H)
  (hs : ∀ i σ H, i < n → Pv i σ H → g (.int (lo + i)) σ H fun σ2 H2 => tb { D with nx := Pv (i + 1), ct := Pv (i + 1), bk := D.nx } σ2 H2) (hd : ∀ σ H, Pv n σ H → D.nx σ H) :
  ∃ W : Nat → Nat → St → Hp → Prop, (∃ m, W 0 m σ H) ∧ ∀ i m σ H, W i m σ H →
   ((Itr lo n).stop i H ∧ D.nx σ H) ∨ ((Itr lo n).go i H ∧ ∃ N : St → Hp → Prop, (∀ σ' H', N σ' H' → ∃ m', m' < m ∧ W (i + 1) m' σ' H') ∧ ∀ x H', (Itr lo n).yld i H x H' → g x σ H' fun σ2 H2 => tb { D with nx := N, ct := N, bk := D.nx } σ2 H2) := by
 refine ⟨fun i m σ H => m = n - i ∧ i ≤ n ∧ Pv i σ H, ⟨n, by simp, Nat.zero_le _, h0⟩, ?_⟩
 rintro i m σ H ⟨rfl, hi, p⟩
 by_cases hlt : i < n
 ·refine .inr ⟨hlt, Pv (i + 1), fun σ' H' p' => ⟨n - (i + 1), by omega, rfl, hlt, p'⟩, fun x H' y => ?_⟩
  obtain ⟨e, y⟩ := y
  subst e y
  exact hs i σ _ hlt p
 ·have e : i = n := by omega
  subst e
  exact .inl ⟨Nat.le_refl _, hd σ H p⟩
end L2
namespace L2
open PySem PySem.Spec PyProof.Rows
noncomputable abbrev R2 := V → V → Hp → VK → Prop
noncomputable def OpR (X : Cx) (f : Value → Value → Sem Value) (r : R2) : Prop :=
 ∀ (pins : List (Addr × Obj)) (s : Shared) (σ : St) (H : Hp) (x y : V) (v u : Value) (Q : VK), Inv X pins σ H s → RelV x v → RelV y u → r x y H Q →
  wpAny (model X.prog X.w) X.A (f v u) (EP X pins σ Q) X.xe s
noncomputable def UnR (X : Cx) (f : Value → Sem Value) (r : V → Hp → VK → Prop) : Prop :=
 ∀ (pins : List (Addr × Obj)) (s : Shared) (σ : St) (H : Hp) (x : V) (v : Value) (Q : VK), Inv X pins σ H s → RelV x v → r x H Q →
  wpAny (model X.prog X.w) X.A (f v) (EP X pins σ Q) X.xe s
noncomputable def JU (X : Cx) (f : Value) (r : List V → Hp → VK → Prop) : Prop :=
 ∀ (pins : List (Addr × Obj)) (s : Shared) (σ : St) (H : Hp) (xs : List V) (us : List Value) (Q : VK), Inv X pins σ H s → Vals xs us → r xs H Q →
  wpAny (model X.prog X.w) X.A (call f us) (EP X pins σ Q) X.xe s
noncomputable def Zf0 (X : Cx) (r : V → Hp → (Bool → Hp → Prop) → Prop) : Prop :=
 ∀ (pins : List (Addr × Obj)) (s : Shared) (σ : St) (H : Hp) (x : V) (v : Value) (Q : Bool → Hp → Prop), Inv X pins σ H s → RelV x v → r x H Q →
  wpAny (model X.prog X.w) X.A (truthy v) (TP X pins σ Q) X.xe s
noncomputable def tOp (r : R2) (ta tb : TE) : TE := fun σ H Q => ta σ H fun x H1 => tb σ H1 fun y H2 => r x y H2 Q
noncomputable def tUn (r : V → Hp → VK → Prop) (ta : TE) : TE := fun σ H Q => ta σ H fun x H1 => r x H1 Q
noncomputable def rI (C : Int → Int → Prop) (g : Int → Int → V) : R2 := fun x y H Q => ∃ i j, x = .int i ∧ y = .int j ∧ C i j ∧ Q (g i j) H
noncomputable def rI0 (g : Int → Int → V) : R2 := fun x y H Q => ∃ i j, x = .int i ∧ y = .int j ∧ Q (g i j) H
noncomputable def rU (g : Int → V) : V → Hp → VK → Prop := fun x H Q => ∃ i, x = .int i ∧ Q (g i) H
section
variable {X : Cx} {a b c : Expr} {ta tb tc : TE} {pos : Pos}
theorem Zdl (ha : PE X a ta) (hb : PE X b tb) {pins : List (Addr × Obj)} {s : Shared} {σ : St} {H : Hp} {R : V → V → Hp → Prop} (I : Inv X pins σ H s)
  (h : ta σ H fun x H1 => tb σ H1 fun y H2 => R x y H2) {Q : Value → Shared → Prop} {f : Value → Value → Sem Value}
  (hf : ∀ v u s2 x y H2, Inv X pins σ H2 s2 → RelV x v → RelV y u → R x y H2 → wpAny (model X.prog X.w) X.A (f v u) Q X.xe s2) :
  wpAny (model X.prog X.w) X.A (eval a X.env) (fun v s₁ => wpAny (model X.prog X.w) X.A (eval b X.env) (fun u s₂ => wpAny (model X.prog X.w) X.A (f v u) Q X.xe s₂) X.xe s₁) X.xe s := by
 refine thn (ha pins s σ H _ I h) fun v s1 ⟨x, H1, I1, r1, q1⟩ => ?_
 refine thn (hb pins s1 σ H1 _ I1 q1) fun u s2 ⟨y, H2, I2, r2, q2⟩ => ?_
 exact hf v u s2 x y H2 I2 r1 r2 q2
theorem Zcv {op : Operator} {r : R2} (ho : OpR X (binaryOp op) r) (ha : PE X a ta) (hb : PE X b tb) : PE X (.BinOp a op b pos) (tOp r ta tb) := by
 intro pins s σ H Q I h
 exact wpAny_BinOp (Zdl ha hb I h fun v u s2 x y H2 I2 rx ry q => ho pins s2 σ H2 x y v u Q I2 rx ry q)
theorem Zca {op : UnaryOp} {r : V → Hp → VK → Prop} (ho : UnR X (unaryOp op) r) (ha : PE X a ta) : PE X (.UnaryOp op a pos) (tUn r ta) := by
 intro pins s σ H Q I h
 exact UnaryOp_ (thn (ha pins s σ H _ I h) fun v s1 ⟨x, H1, I1, r1, q1⟩ => ho pins s1 σ H1 x v Q I1 r1 q1)
theorem opI {f : Value → Value → Sem Value} {C : Int → Int → Prop} {g : Int → Int → Int}
  (rule : ∀ (i j : Int) (t u : Tok) (s : Shared) (Q : Value → Shared → Prop) (E : Value → Shared → Prop), C i j → Q (.int (g i j) s.toks) { s with toks := s.toks + 1 } → wpAny (model X.prog X.w) X.A (f (.int i t) (.int j u)) Q E s) :
  OpR X f (rI C fun i j => .int (g i j)) := by
 intro pins s σ H x y v u Q I rx ry h
 obtain ⟨i, j, rfl, rfl, hc, q⟩ := h
 obtain ⟨t, rfl⟩ := rx
 obtain ⟨t', rfl⟩ := ry
 exact rule i j t t' s _ _ hc ⟨.int (g i j), H, I.tok _, ⟨_, rfl⟩, q⟩
theorem Zd3 {f : Value → Value → Sem Value} {g : Int → Int → Int}
  (rule : ∀ (i j : Int) (t u : Tok) (s : Shared) (Q : Value → Shared → Prop) (E : Value → Shared → Prop), Q (.int (g i j) s.toks) { s with toks := s.toks + 1 } → wpAny (model X.prog X.w) X.A (f (.int i t) (.int j u)) Q E s) :
  OpR X f (rI0 fun i j => .int (g i j)) := by
 intro pins s σ H x y v u Q I rx ry h
 obtain ⟨i, j, rfl, rfl, q⟩ := h
 obtain ⟨t, rfl⟩ := rx
 obtain ⟨t', rfl⟩ := ry
 exact rule i j t t' s _ _ ⟨.int (g i j), H, I.tok _, ⟨_, rfl⟩, q⟩
theorem Zb4 {f : Value → Value → Sem Value} {g : Int → Int → Bool}
  (rule : ∀ (i j : Int) (t u : Tok) (s : Shared) (Q : Value → Shared → Prop) (E : Value → Shared → Prop), Q (.bool (g i j)) s → wpAny (model X.prog X.w) X.A (f (.int i t) (.int j u)) Q E s) :
  OpR X f (rI0 fun i j => .bl (g i j)) := by
 intro pins s σ H x y v u Q I rx ry h
 obtain ⟨i, j, rfl, rfl, q⟩ := h
 obtain ⟨t, rfl⟩ := rx
 obtain ⟨t', rfl⟩ := ry
 exact rule i j t t' s _ _ ⟨.bl (g i j), H, I, rfl, q⟩
noncomputable def ZdW (i j : Int) : Prop := 0 < j ∧ j < 1073741824
noncomputable def Zfu (i j : Int) : Prop := j ≠ 0 ∧ j.natAbs < 1073741824
noncomputable def Zcq (i j : Int) : Prop := 0 ≤ j ∧ j ≤ 1000000 ∧ i.natAbs < 2 ^ 64
noncomputable def ZbS (i j : Int) : Prop := (-(2 ^ 64) < i ∧ i < 2 ^ 64) ∨ (-(2 ^ 64) < j ∧ j < 2 ^ 64)
theorem ZbS.ok {i j : Int} (h : ZbS i j) : IntMulOk i j := by
 rcases h with ⟨h1, h2⟩ | ⟨h1, h2⟩
 ·exact .of_left (intBits_le_64 h1 h2)
 ·exact .of_right (intBits_le_64 h1 h2)
theorem ZaC : OpR X (binaryOp .Add) (rI0 fun i j => .int (i + j)) := Zd3 fun _ _ _ _ _ _ _ q => add_int q
theorem Zax : OpR X (binaryOp .Sub) (rI0 fun i j => .int (i - j)) := Zd3 fun _ _ _ _ _ _ _ q => sub_int q
theorem Tg : OpR X (binaryOp .Mult) (rI ZbS fun i j => .int (i * j)) := opI fun _ _ _ _ _ _ _ hc q => mul_int q hc.ok
theorem Pf : OpR X (binaryOp .FloorDiv) (rI ZdW fun i j => .int (i / j)) := opI fun i j _ _ _ _ _ hc q => by
 have h1 : (0 : Int) < j := hc.1
 have h2 : j < 1073741824 := hc.2
 exact floordiv_int (by omega) (by rw [Int.fdiv_eq_ediv_of_nonneg i (by omega)]; exact q) (.inl (PyProof.noPylong_small (by omega)))
theorem Zbf : OpR X (binaryOp .Mod) (rI (fun _ j => 0 < j) fun i j => .int (i % j)) := opI fun i j _ _ _ _ _ hc q => by
 have h1 : (0 : Int) < j := hc
 exact mod_int' (by omega) (by rw [Int.fmod_eq_emod_of_nonneg i (by omega)]; exact q)
theorem TX : OpR X (binaryOp .Pow) (rI Zcq fun i j => .int (i ^ j.toNat)) := opI fun _ _ _ _ _ _ _ hc q => pow_int_small hc.1 hc.2.1 hc.2.2 q
theorem unI {f : Value → Sem Value} {g : Int → Int}
  (rule : ∀ (i : Int) (t : Tok) (s : Shared) (Q : Value → Shared → Prop) (E : Value → Shared → Prop), Q (.int (g i) s.toks) { s with toks := s.toks + 1 } → wpAny (model X.prog X.w) X.A (f (.int i t)) Q E s) :
  UnR X f (rU fun i => .int (g i)) := by
 intro pins s σ H x v Q I rx h
 obtain ⟨i, rfl, q⟩ := h
 obtain ⟨t, rfl⟩ := rx
 exact rule i t s _ _ ⟨.int (g i), H, I.tok _, ⟨_, rfl⟩, q⟩
theorem Za1 : UnR X (unaryOp .USub) (rU fun i => .int (-i)) := unI fun _ _ _ _ _ q => neg_int q
end
noncomputable def Zeb : V → V → Bool
 | .non, .non => true | .non, .int _ => true | .int _, .non => true | .non, .bl _ => true | .bl _, .non => true | .non, .str _ => true | .str _, .non => true
 | .int _, .int _ => true | .bl _, .bl _ => true | .str _, .str _ => true | .byt _, .byt _ => true
 | .int _, .str _ => true | .str _, .int _ => true | .bl _, .str _ => true | .str _, .bl _ => true
 | _, _ => false
noncomputable def rEq : R2 := fun x y H Q => Zeb x y = true ∧ Q (.bl (decide (x = y))) H
noncomputable def rNe : R2 := fun x y H Q => Zeb x y = true ∧ Q (.bl (!decide (x = y))) H
theorem Dc {i j : Int} : decide (V.int i = V.int j) = (i == j) := by
 rw [Bool.eq_iff_iff]
 simp
theorem NW {i j : Bool} : decide (V.bl i = V.bl j) = (i == j) := by
 rw [Bool.eq_iff_iff]
 simp
theorem XF {i j : Str} : decide (V.str i = V.str j) = (i == j) := by
 rw [Bool.eq_iff_iff]
 simp
theorem Cv {i j : Array UInt8} : decide (V.byt i = V.byt j) = (i.toList == j.toList) := by
 rw [Bool.eq_iff_iff]
 cases i
 cases j
 simp
section
variable {X : Cx} {a b c : Expr} {ta tb tc : TE} {pos : Pos}
theorem ZH {pins : List (Addr × Obj)} {σ : St} {H : Hp} {s : Shared} {Q : VK} {k k' : Bool} (I : Inv X pins σ H s) (q : Q (.bl k) H) (e : k = k') : EP X pins σ Q (.bool k') s := by
 subst e
 exact ⟨.bl k, H, I, rfl, q⟩
theorem Zc3 : OpR X (compareOp .Eq) rEq := by
 intro pins s σ H x y v u Q I rx ry h
 obtain ⟨hs, q⟩ := h
 cases x with
 | non =>
  cases rx
  cases y with
  | non => cases ry; exact PySem.EqNone.eq_none_none (ZH I q (by simp))
  | bl j => cases ry; exact PySem.EqNone.eq_none_bool (ZH I q (by simp))
  | int j => obtain ⟨t', rfl⟩ := ry; exact PySem.EqNone.eq_none_int (ZH I q (by simp))
  | str j => obtain ⟨t', rfl⟩ := ry; exact PySem.EqNone.eq_none_str (ZH I q (by simp))
  | _ => exact absurd (show false = true from hs) Bool.false_ne_true
 | bl i =>
  cases rx
  cases y with
  | non => cases ry; exact PySem.EqNone.eq_bool_none (ZH I q (by simp))
  | bl j => cases ry; exact eq_bool (ZH I q NW)
  | str j => obtain ⟨t', rfl⟩ := ry; exact PySem.EqMixed.eq_bool_str (ZH I q (by simp))
  | _ => exact absurd (show false = true from hs) Bool.false_ne_true
 | int i =>
  obtain ⟨t, rfl⟩ := rx
  cases y with
  | non => cases ry; exact PySem.EqNone.eq_int_none (ZH I q (by simp))
  | int j => obtain ⟨t', rfl⟩ := ry; exact eq_int (ZH I q Dc)
  | str j => obtain ⟨t', rfl⟩ := ry; exact PySem.EqMixed.eq_int_str (ZH I q (by simp))
  | _ => exact absurd (show false = true from hs) Bool.false_ne_true
 | str i =>
  obtain ⟨t, rfl⟩ := rx
  cases y with
  | non => cases ry; exact PySem.EqNone.eq_str_none (ZH I q (by simp))
  | bl j => cases ry; exact PySem.EqMixed.eq_str_bool (ZH I q (by simp))
  | int j => obtain ⟨t', rfl⟩ := ry; exact PySem.EqMixed.eq_str_int (ZH I q (by simp))
  | str j => obtain ⟨t', rfl⟩ := ry; exact eq_str (ZH I q XF)
  | _ => exact absurd (show false = true from hs) Bool.false_ne_true
 | byt i =>
  obtain ⟨t, rfl⟩ := rx
  cases y with
  | byt j => obtain ⟨t', rfl⟩ := ry; exact PySem.W.eq_bytes (ZH I q Cv)
  | _ => exact absurd (show false = true from hs) Bool.false_ne_true
 | _ => cases y <;> exact absurd (show false = true from hs) Bool.false_ne_true
theorem Zdo : OpR X (compareOp .NotEq) rNe := by
 intro pins s σ H x y v u Q I rx ry h
 obtain ⟨hs, q⟩ := h
 cases x with
 | non =>
  cases rx
  cases y with
  | non => cases ry; exact PySem.EqNone.ne_none_none (ZH I q (by simp))
  | bl j => cases ry; exact PySem.EqNone.ne_none_bool (ZH I q (by simp))
  | int j => obtain ⟨t', rfl⟩ := ry; exact PySem.EqNone.ne_none_int (ZH I q (by simp))
  | str j => obtain ⟨t', rfl⟩ := ry; exact PySem.EqNone.ne_none_str (ZH I q (by simp))
  | _ => exact absurd (show false = true from hs) Bool.false_ne_true
 | bl i =>
  cases rx
  cases y with
  | non => cases ry; exact PySem.EqNone.ne_bool_none (ZH I q (by simp))
  | bl j => cases ry; exact ne_bool (ZH I q (congrArg not NW))
  | str j => obtain ⟨t', rfl⟩ := ry; exact PySem.EqMixed.ne_bool_str (ZH I q (by simp))
  | _ => exact absurd (show false = true from hs) Bool.false_ne_true
 | int i =>
  obtain ⟨t, rfl⟩ := rx
  cases y with
  | non => cases ry; exact PySem.EqNone.ne_int_none (ZH I q (by simp))
  | int j => obtain ⟨t', rfl⟩ := ry; exact ne_int (ZH I q (congrArg not Dc))
  | str j => obtain ⟨t', rfl⟩ := ry; exact PySem.EqMixed.ne_int_str (ZH I q (by simp))
  | _ => exact absurd (show false = true from hs) Bool.false_ne_true
 | str i =>
  obtain ⟨t, rfl⟩ := rx
  cases y with
  | non => cases ry; exact PySem.EqNone.ne_str_none (ZH I q (by simp))
  | bl j => cases ry; exact PySem.EqMixed.ne_str_bool (ZH I q (by simp))
  | int j => obtain ⟨t', rfl⟩ := ry; exact PySem.EqMixed.ne_str_int (ZH I q (by simp))
  | str j => obtain ⟨t', rfl⟩ := ry; exact ne_str (ZH I q (congrArg not XF))
  | _ => exact absurd (show false = true from hs) Bool.false_ne_true
 | byt i =>
  obtain ⟨t, rfl⟩ := rx
  cases y with
  | byt j => obtain ⟨t', rfl⟩ := ry; exact PySem.W.ne_bytes (ZH I q (congrArg not Cv))
  | _ => exact absurd (show false = true from hs) Bool.false_ne_true
 | _ => cases y <;> exact absurd (show false = true from hs) Bool.false_ne_true
theorem Zcd : OpR X (compareOp .Lt) (rI0 fun i j => .bl (decide (i < j))) := Zb4 fun _ _ _ _ _ _ _ q => lt_int q
theorem Zcj : OpR X (compareOp .LtE) (rI0 fun i j => .bl (decide (i ≤ j))) := Zb4 fun _ _ _ _ _ _ _ q => le_int q
theorem Zc0 : OpR X (compareOp .Gt) (rI0 fun i j => .bl (decide (j < i))) := Zb4 fun _ _ _ _ _ _ _ q => gt_int q
theorem Zcw : OpR X (compareOp .GtE) (rI0 fun i j => .bl (decide (j ≤ i))) := Zb4 fun _ _ _ _ _ _ _ q => ge_int q
theorem R7 : OpR X (compareOp .IsNot) (fun x y H Q => y = .non ∧ Q (.bl (!decide (x = .non))) H) := by
 intro pins s σ H x y v u Q I rx ry h
 obtain ⟨rfl, q⟩ := h
 cases ry
 refine isnot_none_gen (ZH I q ?_)
 cases x <;> first
  | (cases rx; rfl)
  | (obtain ⟨t, rfl⟩ := rx; rfl)
noncomputable def isObj : HO → Bool
 | .lst _ => true
 | .ins _ _ _ => true
 | _ => false
theorem Nt (b : Expr) {op : CmpOp} (h : op ≠ .In := by decide) (h2 : op ≠ .NotIn := by decide) : behindInMarks op b = false := by
 have e1 : (op == CmpOp.In) = false := by cases op <;> first | rfl | exact absurd rfl h
 have e2 : (op == CmpOp.NotIn) = false := by cases op <;> first | rfl | exact absurd rfl h2
 cases b <;> simp [behindInMarks, e1, e2]
theorem Od {op : CmpOp} {r : R2} (ho : OpR X (compareOp op) r) (ha : PE X a ta) (hb : PE X b tb) (hm : behindInMarks op b = false) : PE X (.Compare a [op] [b] pos) (tOp r ta tb) := by
 intro pins s σ H Q I h
 exact wpAny_Compare1 (Zdl ha hb I h fun v u s2 x y H2 I2 rx ry q => ho pins s2 σ H2 x y v u Q I2 rx ry q) hm
noncomputable def ZdI (t : TE) : TT := fun σ H Q => t σ H fun x H' => ∃ k, x = .bl k ∧ Q k H'
theorem Ru {op : CmpOp} {r : R2} (ho : OpR X (compareOp op) r) (ha : PE X a ta) (hb : PE X b tb) (hm : behindInMarks op b = false) : PT X (.Compare a [op] [b] pos) (ZdI (tOp r ta tb)) := by
 intro pins s σ H Q I h
 refine wpAny_isTrue_Compare1 (thn (ha pins s σ H _ I h) fun v s1 ⟨x, H1, I1, r1, q1⟩ => thn (hb pins s1 σ H1 _ I1 q1) fun u s2 ⟨y, H2, I2, r2, q2⟩ =>
  thn (ho pins s2 σ H2 x y v u _ I2 r1 r2 q2) fun c s3 ⟨z, H3, I3, r3, k, e, q3⟩ => ?_) hm
 subst e
 cases r3
 exact wpAny_truthy_bool ⟨H3, I3, q3⟩
noncomputable def ZdU (r r' : R2) (ta tb tc : TE) : TE := fun σ H Q => ta σ H fun x H1 => tb σ H1 fun y H2 => r x y H2 fun z H3 => ∃ k, z = .bl k ∧
 (if k = true then tc σ H3 fun w' H4 => r' y w' H4 Q else Q (.bl false) H3)
noncomputable def Zgm (K : PySem.W.Frag) (x : V) (H : Hp) (k : Bool) : Prop :=
 match x with
 | .non => k = false
 | .bl b => k = b
 | .int i => k = (i != 0)
 | .str y => y.length ≤ sizeLine ∧ k = ((y.length : Int) != 0)
 | .byt y => y.size ≤ sizeLine ∧ k = ((y.size : Int) != 0)
 | .ref p => (∃ xs, SqL K H p xs ∧ k = !xs.isEmpty) ∨ (∃ xs, SqT K H p xs ∧ k = !xs.isEmpty) ∨ ∃ kvs, H p = some (.dK kvs) ∧ k = !kvs.isEmpty
 | _ => False
theorem KC : (sizeLine : Nat) < 2 ^ 63 := by rw [sizeLine_eq]; decide
noncomputable def ZbV (b : Expr) : Prop := ∀ o i, subscripted b false o i = operate [o, i] (getItem o i)
theorem vals1 {x : V} {us : List Value} (r : Vals [x] us) : ∃ u, us = [u] ∧ RelV x u := by
 cases r with
 | cons r1 r2 => cases r2; exact ⟨_, rfl, r1⟩
theorem vals2 {x y : V} {us : List Value} (r : Vals [x, y] us) : ∃ u w', us = [u, w'] ∧ RelV x u ∧ RelV y w' := by
 cases r with
 | cons r1 r2 =>
  cases r2 with
  | cons r3 r4 => cases r4; exact ⟨_, _, rfl, r1, r3⟩
theorem HZ : JU X (.builtin "abs") (fun xs H Q => ∃ i, xs = [.int i] ∧ Q (.int (if i < 0 then -i else i)) H) := by
 intro pins s σ H xs us Q I r h
 obtain ⟨i, rfl, q⟩ := h
 obtain ⟨u, rfl, t, rfl⟩ := vals1 r
 exact call_abs_int fun u tk => ⟨.int (if i < 0 then -i else i), H, I.tok _, ⟨_, rfl⟩, q⟩
theorem Fo (hc : X.calm = true) : JU X (.builtin "max") (fun xs H Q => ∃ i j, xs = [.int i, .int j] ∧ Q (.int (if j > i then j else i)) H) := by
 intro pins s σ H xs us Q I r h
 obtain ⟨i, j, rfl, q⟩ := h
 obtain ⟨u, w', rfl, ⟨t, rfl⟩, ⟨t', rfl⟩⟩ := vals2 r
 refine max_two_ints (I.ok.hd hc) fun h' tk k => ⟨_, H, I.kept k, ?_, q⟩
 by_cases hj : j > i
 ·rw [if_pos hj, if_pos hj]; exact ⟨_, rfl⟩
 ·rw [if_neg hj, if_neg hj]; exact ⟨_, rfl⟩
theorem EO (hc : X.calm = true) : JU X (.builtin "min") (fun xs H Q => ∃ i j, xs = [.int i, .int j] ∧ Q (.int (if j < i then j else i)) H) := by
 intro pins s σ H xs us Q I r h
 obtain ⟨i, j, rfl, q⟩ := h
 obtain ⟨u, w', rfl, ⟨t, rfl⟩, ⟨t', rfl⟩⟩ := vals2 r
 refine min_two_ints (I.ok.hd hc) fun h' tk k => ⟨_, H, I.kept k, ?_, q⟩
 by_cases hj : j < i
 ·rw [if_pos hj, if_pos hj]; exact ⟨_, rfl⟩
 ·rw [if_neg hj, if_neg hj]; exact ⟨_, rfl⟩
noncomputable def ZfZ (K : PySem.W.Frag) (x : V) (H : Hp) (n : Nat) : Prop :=
 match x with
 | .str y => y.length ≤ sizeLine ∧ n = y.length
 | .byt y => y.size ≤ sizeLine ∧ n = y.size
 | .ref p => (∃ xs, SqL K H p xs ∧ n = xs.length) ∨ ∃ xs, SqT K H p xs ∧ n = xs.length
 | _ => False
end
end L2
namespace L2
open PySem PySem.Spec PyProof.Rows
structure Zej (h : Heap) (x dx C : Addr) (mA : Str → Option Value) : Prop where
 obj : h.get? x = some (PySem.W.instObj C dx)
 ns : h.Ns1 dx mA
 ne : dx ≠ x
theorem DH {h : Heap} {dx : Addr} {mA : Str → Option Value} (n : h.Ns1 dx mA) : ∃ od, h.get? dx = some od ∧ ∀ name, PySem.W.lookIn name od = some (mA name) := by
 obtain ⟨o, es, ep, ho, hd, hk, _, hm⟩ := n
 refine ⟨o, ho, fun name => ?_⟩
 have e := hm name
 unfold nsFind findBy at e
 rw [← Array.find?_toList] at e
 unfold PySem.W.lookIn
 rw [hd]
 dsimp only
 split
 ·rename_i y q
  rw [q] at e
  exact congrArg some e
 ·rename_i q
  rw [q] at e
  have a : es.toList.any (·.refKey) = false := by
   rw [List.any_eq_false]
   intro y hy
   obtain ⟨z, t, hkey⟩ := hk y (Array.mem_toList_iff.mp hy)
   simp [DictEntry.refKey, hkey]
  have a' : ¬ es.toList.any (·.refKey) = true := by rw [a]; exact Bool.false_ne_true
  rw [if_neg a']
  exact congrArg some e
theorem Zej.look {h : Heap} {x dx C : Addr} {mA : Str → Option Value} (I : Zej h x dx C mA) : ∃ od, PySem.W.InstAt h x (PySem.W.instObj C dx) C (some od) ∧ ∀ name, PySem.W.lookIn name od = some (mA name) :=
 let ⟨od, ho, hl⟩ := DH I.ns
 ⟨od, ⟨I.obj, rfl, rfl, ho⟩, hl⟩
section
variable {prog : Program} {w : World} {A : Around} {E : Value → Shared → Prop} {s : Shared} {K : PySem.W.Frag} {x dx C f : Addr} {mA : Str → Option Value} {name : Str} {v : Value}
end
noncomputable def ZcE (f : Str) (v : V) : List (Str × V) → List (Str × V)
 | [] => [(f, v)]
 | (g, x) :: r => if g = f then (g, v) :: r else (g, x) :: ZcE f v r
theorem Cb.some_of {v : V} {o : Option Value} (r : Cb (some v) o) : ∃ u, o = some u ∧ RelV v u := by
 cases o with
 | none => exact (show False from r).elim
 | some u => exact ⟨u, rfl, r⟩
section
variable {P : Program} {w : World} {H H' : Hp} {h h' : Heap} {a C dx : Addr} {fs fs' : List (Str × V)}
end
structure Cls (K : PySem.W.Frag) (C : Addr) : Prop where
 pg : PySem.W.plainGet K C Str.empty = true
 hd : PySem.W.hasDictIn K C = true
 po : PySem.W.plainOver K C = true
 sa : PySem.W.findIn K (.ref C) "__setattr__" = some (some (.builtin "object.__setattr__"))
theorem Cls.get {K : PySem.W.Frag} {C : Addr} (c : Cls K C) (f : Str) : PySem.W.plainGet K C f = true := c.pg
noncomputable def FC (K : PySem.W.Frag) (C : Addr) (f : Str) : Prop := PySem.W.findIn K (.ref C) f = some none
structure Con (K : PySem.W.Frag) (C : Addr) (f : Str) (v : V) (u : Value) : Prop where
 at_ : PySem.W.findIn K (.ref C) f = some (some u)
 rel : RelV v u
 get : PySem.W.specialIn K u "__get__" = some none
 cp : PySem.W.copiedNames.contains f = false
structure Meth (K : PySem.W.Frag) (C : Addr) (m : Str) (f : Addr) : Prop where
 at_ : PySem.W.findIn K (.ref C) m = some (some (.ref f))
 fn : PySem.W.isFn K (.ref f) = true
 kp : PySem.W.keepIn K (.ref f) = true
section
variable {X : Cx} {pins : List (Addr × Obj)} {σ : St} {H : Hp} {s : Shared} {a C dx : Addr} {fs : List (Str × V)} {f : Str} {v : V} {A : Around} {E : Value → Shared → Prop}
theorem Inv.made (I : Inv X pins σ H s) : Inv X pins σ (upd (upd H s.heap.objs.size (.own (s.heap.objs.size + 1))) (s.heap.objs.size + 1) (.ins C s.heap.objs.size []))
  { s with heap := (s.heap.push PySem.W.emptyDict).push (PySem.W.instObj C s.heap.objs.size) } := by
 have e1 : (s.heap.push PySem.W.emptyDict).get? s.heap.objs.size = some PySem.W.emptyDict := Heap.get?_push_size s.heap rfl
 have e2 : ((s.heap.push PySem.W.emptyDict).push (PySem.W.instObj C s.heap.objs.size)).get? (s.heap.objs.size + 1) = some (PySem.W.instObj C s.heap.objs.size) := by
  have := Heap.get?_push_size (s.heap.push PySem.W.emptyDict) (o := PySem.W.instObj C s.heap.objs.size) rfl
  rwa [Heap.size_push] at this
 have e3 : (s.heap.push PySem.W.emptyDict).Ns s.heap.objs.size (fun _ => none) := ⟨PySem.W.emptyDict, #[], _, e1, rfl, (fun e he => absurd he (by simp)), fun _ => rfl⟩
 have I1 := I.laid (a := s.heap.objs.size) (o := .own (s.heap.objs.size + 1)) (h' := s.heap.push PySem.W.emptyDict) (t' := s.toks) (fun b u q => Heap.get?_push_of_some _ q) (Nat.le_refl _) ⟨_, e1⟩
 refine I1.laid (a := s.heap.objs.size + 1) (o := .ins C s.heap.objs.size []) (t' := s.toks) (fun b u q => Heap.get?_push_of_some _ q) (Nat.le_of_eq (Heap.size_push _ _)) ?_
 have ne : s.heap.objs.size ≠ s.heap.objs.size + 1 := Nat.ne_of_lt (Nat.lt_succ_self _)
 refine ⟨by rw [ZM ne, Qx], Nat.zero_le _, ne, e2, fun _ => none, (Heap.Ns1.of_empty e3).at fun o q => Heap.get?_push_of_some _ q, fun _ => True.intro, fun y hy => absurd rfl hy⟩
end
noncomputable def Zf3 (K : PySem.W.Frag) (ta : TE) (f : Str) : TE := fun σ H Q => ta σ H fun x H1 => ∃ a C dx fs v, x = .ref a ∧ H1 a = some (.ins C dx fs) ∧ Cls K C ∧ FC K C f ∧ fs.lookup f = some v ∧ Q v H1
noncomputable def Zgc (K : PySem.W.Frag) (ta : TE) (f : Str) : TE := fun σ H Q => ta σ H fun x H1 => ∃ a C dx fs v u, x = .ref a ∧ H1 a = some (.ins C dx fs) ∧ Cls K C ∧ Con K C f v u ∧ fs.lookup f = none ∧ Q v H1
noncomputable def Zgg (K : PySem.W.Frag) (ta tv : TE) (f : Str) : TS := fun D σ H => tv σ H fun y H1 => ta σ H1 fun x H2 => ∃ a C dx fs, x = .ref a ∧ H2 a = some (.ins C dx fs) ∧ Cls K C ∧ FC K C f ∧ fs.length < 1000 ∧
 D.nx σ (upd H2 a (.ins C dx (ZcE f y fs)))
noncomputable def Zgp (X : Cx) (op : Operator) (rd : V → V → Hp → VK → Prop) : Prop :=
 ∀ (pins : List (Addr × Obj)) (s : Shared) (σ : St) (H : Hp) (x y : V) (u v : Value) (Q : VK), Inv X pins σ H s → RelV x u → RelV y v → rd x y H Q → wpAny (model X.prog X.w) X.A (inplaceOp op u v) (EP X pins σ Q) X.xe s
noncomputable def ZdJ (K : PySem.W.Frag) (ta tv : TE) (rd : V → V → Hp → VK → Prop) (f : Str) : TS := fun D σ H => ta σ H fun x H1 => ∃ a C dx fs v, x = .ref a ∧ H1 a = some (.ins C dx fs) ∧ Cls K C ∧ FC K C f ∧ fs.lookup f = some v ∧
 tv σ H1 fun y H2 => rd v y H2 fun z H3 => ∃ dx' fs', H3 a = some (.ins C dx' fs') ∧ fs'.length < 1000 ∧ D.nx σ (upd H3 a (.ins C dx' (ZcE f z fs')))
section
variable {X : Cx} {o e value : Expr} {f : Str} {pos pos' tpos : Pos} {ta tv : TE}
noncomputable def Zf9 : V → V → Hp → VK → Prop := fun x y H Q => ∃ i j, x = .int i ∧ y = .int j ∧ Q (.int (i + j)) H
noncomputable def Zgi : V → V → Hp → VK → Prop := fun x y H Q => ∃ i j, x = .int i ∧ y = .int j ∧ Q (.int (i - j)) H
end
section
variable {X : Cx} {pins : List (Addr × Obj)} {σ : St} {H : Hp} {s : Shared} {A : Around} {E : Value → Shared → Prop} {Q : Value → Shared → Prop} {c : Value} {b : Bool}
inductive EG (K : PySem.W.Frag) (H : Hp) : V → Value → Prop where
 | non : EG K H .non (.type "NoneType")
 | bl (x : Bool) : EG K H (.bl x) (.type "bool")
 | int (i : Int) : EG K H (.int i) (.type "int")
 | str (x : Str) : EG K H (.str x) (.type "str")
 | flt (x : UInt64) : EG K H (.flt x) (.type "float")
 | lst {a : Addr} {xs : List V} (e : H a = some (.lst xs)) : EG K H (.ref a) (.type "list")
 | frz {a : Addr} {o : Obj} {xs : List V} (e : H a = some (.frz o (.lst xs))) : EG K H (.ref a) (.type "list")
 | tup {a : Addr} {xs : List V} (e : H a = some (.tup xs)) : EG K H (.ref a) (.type "tuple")
 | dK {a : Addr} {kvs : List (Key × V)} (e : H a = some (.dK kvs)) : EG K H (.ref a) (.type "dict")
 | dT {a : Addr} {kvs : List (List Key × V)} (e : H a = some (.dT kvs)) : EG K H (.ref a) (.type "dict")
 | ins {a C dx : Addr} {fs : List (Str × V)} (e : H a = some (.ins C dx fs)) (cl : Cls K C) (ha : PySem.W.findIn K (.ref C) "__class__" = some (some (.builtin "object.__class__")))
   (hn : PySem.W.specialIn K (.builtin "object.__class__") "__get__" = some (some (.builtin "getset_descriptor.__get__"))) (htk : PySem.W.takesIn K (.builtin "object.__class__") = some true)
   (hm : PySem.W.mroIn K C (.type "object") = some true) : EG K H (.ref a) (.ref C)
end
end L2
namespace L2
open PySem PySem.Spec PyProof.Rows
structure JJ (k : Nat) (A : Around) : Prop where
 hd : A.handled = none
 dp : A.depth + 3 * k + 5 < recursionLimit
 un : A.units + 16 * k + 200 < cLine
 gd : A.guards = some []
theorem JJ.mono {j k : Nat} {A : Around} (r : JJ k A) (h : j ≤ k) : JJ j A := ⟨r.hd, by have := r.dp; omega, by have := r.un; omega, r.gd⟩
theorem JJ.deeper {k : Nat} {A : Around} (r : JJ (k + 1) A) (env : Env) : JJ k (A.deeper env) :=
 ⟨r.hd, by have := r.dp; show A.depth + 1 + 3 * k + 5 < _; omega, by have := r.un; show A.units + 3 + 16 * k + 200 < _; omega, r.gd⟩
theorem JJ.depth {k : Nat} {A : Around} (r : JJ k A) : A.depth < recursionLimit := by have := r.dp; omega
theorem JJ.units {k : Nat} {A : Around} (r : JJ k A) : A.units + 64 < cLine := by have := r.un; omega
noncomputable def ZeR : TA := fun _ H Q => Q [] H
noncomputable def Zdz (ta : TE) (tr : TA) : TA := fun σ H Q => ta σ H fun x H1 => tr σ H1 fun xs H2 => Q (x :: xs) H2
section
variable {X : Cx} {e : Expr} {es : List Expr} {te : TE} {t : TA} {pos : Pos}
theorem Gv : PA X [] ZeR := fun _ _ _ _ H Q I h => Calls.spliced_nil ⟨[], H, I, .nil, h⟩
theorem Xk (ha : PE X e te) (hr : PA X es t) (hs : starEach (e :: es) X.env = (false, eval e X.env) :: starEach es X.env := by rfl) : PA X (e :: es) (Zdz te t) := by
 intro pos pins s σ H Q I h
 rw [hs]
 show wpAny _ _ (spliced ((false, eval e X.env) :: backTo pos (starEach es X.env))) _ _ s
 refine Calls.spliced_cons (thn (ha pins s σ H _ I h) fun u s1 ⟨x, H1, I1, r1, q1⟩ => ?_)
 exact thn (hr pos pins s1 σ H1 _ I1 q1) fun us s2 ⟨xs, H2, I2, r2, q2⟩ => ⟨x :: xs, H2, I2, .cons r1 r2, q2⟩
noncomputable def Zfw (t : TA) : TE := fun σ H Q => t σ H fun xs H1 => xs.length ≤ sizeLine ∧ ∀ p, H1 p = none → Q (.ref p) (upd H1 p (.tup xs))
noncomputable def Ze7 (t : TA) : TE := fun σ H Q => t σ H fun xs H1 => xs.length ≤ sizeLine ∧ ∀ p, H1 p = none → Q (.ref p) (upd H1 p (.lst xs))
theorem TC {x1} (h : PA X es t) : PE X (.Tuple es x1 pos) (Zfw t) := by
 intro pins s σ H Q I hq
 refine wpAny_Tuple_spliced (thn (h pos pins s σ H _ I hq) fun us s1 ⟨xs, H1, I1, r, z, q⟩ => ⟨by rw [← r.length]; exact z, ?_⟩)
 have hf : H1 s1.heap.objs.size = none := I1.hok.fresh (Nat.le_refl _)
 refine ⟨.ref s1.heap.objs.size, upd H1 s1.heap.objs.size (.tup xs), I1.laid (t' := s1.toks) (fun b u e => Heap.get?_push_of_some _ e) (Nat.le_refl _) ?_, rfl, q _ hf⟩
 exact ⟨z, us, r, ⟨_, Heap.get?_push_size _ rfl, rfl, _, rfl⟩⟩
theorem Ny (h : PA X es t) : PE X (.List es pos) (Ze7 t) := by
 intro pins s σ H Q I hq
 refine wpAny_List_spliced (thn (h pos pins s σ H _ I hq) fun us s1 ⟨xs, H1, I1, r, z, q⟩ => ⟨by rw [← r.length]; exact z, ?_⟩)
 have hf : H1 s1.heap.objs.size = none := I1.hok.fresh (Nat.le_refl _)
 refine ⟨.ref s1.heap.objs.size, upd H1 s1.heap.objs.size (.lst xs), I1.laid (t' := s1.toks) (fun b u e => Heap.get?_push_of_some _ e) (Nat.le_refl _) ?_, rfl, q _ hf⟩
 exact ⟨z, us, 0, r, Heap.get?_push_size _ rfl⟩
end
noncomputable abbrev Sp := List V → Hp → VK → XK → Prop
noncomputable abbrev CXT := List Env → Hp → Shared → XK → Value → Shared → Prop
structure ZbO (P : Program) (w : World) (K : PySem.W.Frag) (mg : Str → Option Value) (base : Heap) (A : Around) (outer : List Env) (s : Shared) (H : Hp) : Prop where
 frames : A.frames = some outer
 mod : Mod K mg base
 bs : ∀ b o, base.get? b = some o → s.heap.get? b = some o ∧ H b = none
 bsz : base.objs.size ≤ s.heap.objs.size
 E5 : s.heap.FunFrames base outer
 frf : ∀ b ∈ frs outer, H b = none
 hok : HOk P w H s.heap
 bare : AllBare s.gens
noncomputable def CE (outer : List Env) (P : Program) (w : World) (H : Hp) (s : Shared) (Q : VK) (u : Value) (s' : Shared) : Prop :=
 ∃ v H', s'.os = s.os ∧ AllBare s'.gens ∧ Un (frs outer) [] H H' s.heap s'.heap ∧ HOk P w H' s'.heap ∧ RelV v u ∧ Q v H'
noncomputable def CR (CX : CXT) (outer : List Env) (P : Program) (w : World) (H : Hp) (s : Shared) (Q : VK) (E : XK) (r : Result) (s' : Shared) : Prop :=
 match r with
 | .ok (.ret u) => CE outer P w H s Q u s'
 | .ok _ => False
 | .error e => CX outer H s E e s'
structure ZU (P : Program) (w : World) (K : PySem.W.Frag) (mg : Str → Option Value) (base : Heap) (CX : CXT) (k : Nat) (f : Addr) (fd : FuncData) (ps : List Str) (sp : Sp) : Prop where
 len : ∀ vs H Q E, sp vs H Q E → vs.length = ps.length
 run : ∀ (A : Around) (outer : List Env) (s : Shared) (H : Hp) (args : Args) (us : List Value) (vs : List V) (Q : VK) (E : XK), JJ k A → ZbO P w K mg base A outer s H → BindsTo s fd args (ps.zip us) → Vals vs us → sp vs H Q E →
  codeAny (model P w) A (.call (.ref f) args) (CR CX outer P w H s Q E) s
theorem ZU.imp {P : Program} {w : World} {K : PySem.W.Frag} {mg : Str → Option Value} {base : Heap} {CX : CXT} {k : Nat} {f : Addr} {fd : FuncData} {ps : List Str} {sp sp' : Sp} (F : ZU P w K mg base CX k f fd ps sp)
  (h : ∀ vs H Q E, sp' vs H Q E → sp vs H Q E) : ZU P w K mg base CX k f fd ps sp' :=
 ⟨fun vs H Q E q => F.len vs H Q E (h _ _ _ _ q), fun A outer s H args us vs Q E hr he hb hv hs => F.run A outer s H args us vs Q E hr he hb hv (h _ _ _ _ hs)⟩
section
variable {X : Cx} {pins : List (Addr × Obj)} {σ : St} {H : Hp} {s s' : Shared}
theorem Inv.Zfk (I : Inv X pins σ H s) : ZbO X.prog X.w X.K X.mg X.base X.A X.stack s H :=
 ⟨I.ok.frames, I.ok.mod, I.bs, Nat.le_trans I.ok.bsz I.sz, I.stack, I.CT, I.hok, I.bare⟩
theorem Inv.after {Q : VK} {u : Value} (I : Inv X pins σ H s) (h : CE X.stack X.prog X.w H s Q u s') : EP X pins σ Q u s' := by
 obtain ⟨v, H', os, bare, un, hok, r, q⟩ := h
 obtain ⟨hh, g, d, t, os'⟩ := s'
 obtain rfl : os' = s.os := os
 exact ⟨v, H', I.call (h' := hh) (g' := g) (d' := d) (t' := t) (ch := []) un hok bare (fun b z => absurd z (by simp)), r, q⟩
end
noncomputable def Zdj (sp : Sp) (dvs : List V) (E : XK) (t : TA) : TE := fun σ H Q => t σ H fun vs H1 => sp (vs ++ dvs) H1 Q E
noncomputable def ZfA (C : Addr) (m : Str) (sp : Sp) (dvs : List V) (E : XK) (ta : TE) (t : TA) : TE := fun σ H Q => ta σ H fun x H1 => ∃ a dx fs, x = .ref a ∧ H1 a = some (.ins C dx fs) ∧ fs.lookup m = none ∧
 t σ H1 fun vs H2 => sp (x :: (vs ++ dvs)) H2 Q E
noncomputable def Ze3 (C : Addr) (sp : Sp) (dvs : List V) (E : XK) (t : TA) : TE := fun σ H Q => t σ H fun vs H1 => ∀ x dx, H1 x = none → H1 dx = none → dx ≠ x →
 sp (.ref x :: (vs ++ dvs)) (upd (upd H1 dx (.own x)) x (.ins C dx [])) (fun v H2 => v = .non ∧ Q (.ref x) H2) E
noncomputable def Binds (K : PySem.W.Frag) (fd : FuncData) (ps : List Str) (ds : List Value) : Prop :=
 ∀ (s : Shared) (us : List Value), K.In s.heap → (us ++ ds).length = ps.length → BindsTo s fd ⟨us, []⟩ (ps.zip (us ++ ds))
theorem Binds.all {K : PySem.W.Frag} {fd : FuncData} {ps : List Str} (h : ∀ us : List Value, us.length = ps.length → bindArgs fd ⟨us, []⟩ = pure (ps.zip us)) : Binds K fd ps [] := fun s us _ hl => by
 rw [List.append_nil] at hl ⊢
 exact .of_eq (h us hl)
noncomputable def Passes (CX : CXT) (X : Cx) (E : XK) : Prop := ∀ (pins : List (Addr × Obj)) (σ : St) (H : Hp) (s : Shared) (e : Value) (s' : Shared), Inv X pins σ H s → CX X.stack H s E e s' → X.xe e s'
section
variable {X : Cx} {CX : CXT} {k : Nat} {f C : Addr} {fd : FuncData} {ps : List Str} {sp : Sp} {dvs : List V} {ds : List Value} {E : XK} {x m : Str} {p pos apos : Pos} {e o : Expr} {es : List Expr} {ta : TE} {t : TA}
theorem S6 {pins : List (Addr × Obj)} {σ : St} {H : Hp} {s : Shared} {Q : VK} {us : List Value} {vs : List V} (F : ZU X.prog X.w X.K X.mg X.base CX k f fd ps sp) (hr : JJ k X.A) (hb : Binds X.K fd ps ds) (hd : Vals dvs ds) (hx : Passes CX X E)
  (I : Inv X pins σ H s) (r : Vals vs us) (h : sp (vs ++ dvs) H Q E) : wpAny (model X.prog X.w) X.A (call (.ref f) us) (EP X pins σ Q) X.xe s := by
 have r2 : Vals (vs ++ dvs) (us ++ ds) := r.append hd
 have hl : (us ++ ds).length = ps.length := by rw [← r2.length]; exact F.len _ _ _ _ h
 refine wpAny_call (codeAny_mono (F.run X.A X.stack s H ⟨us, []⟩ (us ++ ds) (vs ++ dvs) Q E hr I.Zfk (hb s us I.kIn hl) r2 h) fun r s' hq => ?_)
 cases r with
 | error e => exact hx pins σ H s e s' I hq
 | ok fl =>
  cases fl with
  | ret u => exact I.after hq
  | next => exact False.elim hq
  | brk => exact False.elim hq
  | cont => exact False.elim hq
theorem RO (F : ZU X.prog X.w X.K X.mg X.base CX k f fd ps sp) (hr : JJ k X.A) (hg : Gl X x) (hm : X.mg x = some (.ref f)) (hk : PySem.W.keepIn X.K (.ref f) = true) (hb : Binds X.K fd ps ds) (hd : Vals dvs ds) (hx : Passes CX X E)
  (ha : PA X (e :: es) t) (hdb : (x == ("__debug__" : Str)) = false := by decide) (he : starEach (e :: es) X.env = (false, eval e X.env) :: starEach es X.env := by rfl) (hpl : (backTo pos (starEach es X.env)).any (·.1) = false := by rfl) :
  PE X (.Call (.Name x p) (e :: es) [] pos) (Zdj sp dvs E t) := by
 intro pins s σ H Q I h
 refine wpAny_Call_Name_kw (Ov I hg hm ?_ hdb)
 refine PySem.W.callWith_K (h₀ := X.base) I.ok.mod.kin hk (thn (ha pos pins s σ H _ I h) fun us s1 ⟨vs, H1, I1, r, q⟩ => ⟨I1.kIn, ?_⟩) he hpl
 exact S6 F hr hb hd hx I1 r q
structure Mk (K : PySem.W.Frag) (C f : Addr) : Prop where
 makes : PySem.W.makesIn K C = true
 init : PySem.W.findIn K (.ref C) "__init__" = some (some (.ref f))
 fn : PySem.W.isFn K (.ref f) = true
 kp : PySem.W.keepIn K (.ref C) = true
end
noncomputable def PK (X : Cx) (kws : List Keyword) (t : TA) : Prop :=
 ∀ (pos : Pos) (pins : List (Addr × Obj)) (s : Shared) (σ : St) (H : Hp) (Q : List V → Hp → Prop), Inv X pins σ H s → t σ H Q → wpAny (model X.prog X.w) X.A (evalAll ((backToKw pos (keywordEach kws X.env)).map (·.2))) (AP X pins σ Q) X.xe s
section
variable {X : Cx} {CX : CXT} {k : Nat} {f C : Addr} {fd : FuncData} {ps ks : List Str} {sp : Sp} {E : XK} {x m : Str} {p pos apos kpos : Pos} {e o : Expr} {es : List Expr} {kws : List Keyword} {te ta : TE} {t tk : TA} {nm : Option Str}
structure Zed (K : PySem.W.Frag) (fd : FuncData) (ps ks : List Str) (g : List Value → List Value → List Value) (gV : List V → List V → List V) : Prop where
 to : ∀ (s : Shared) (us ws : List Value), K.In s.heap → (g us ws).length = ps.length → BindsTo s fd ⟨us, ks.zip ws⟩ (ps.zip (g us ws))
 rel : ∀ {vs : List V} {us : List Value} {zs : List V} {ws : List Value}, Vals vs us → Vals zs ws → Vals (gV vs zs) (g us ws)
noncomputable def Zei (sp : Sp) (gV : List V → List V → List V) (E : XK) (t tk : TA) : TE := fun σ H Q => t σ H fun vs H1 => tk σ H1 fun zs H2 => sp (gV vs zs) H2 Q E
variable {g : List Value → List Value → List Value} {gV : List V → List V → List V}
end
structure Zq (N P : List Str) (sc : Scope) : Prop where
 kind : sc.kind = .function
 co : sc.isCoroutine = false
 gen : sc.isGenerator = false
 nd : N.Nodup
 pre : N.take P.length = P
 par : ∀ x ∈ P, sc.names.lookup x = some .local ∨ sc.names.lookup x = some .cell
 nofree : ∀ y ∈ sc.names, y.2 ≠ .free
theorem KU {kindOf : Str → Option NameKind} {x : Str} : ∀ {binds : List (Str × Value)} {m : Str → Option Value}, (∀ v, (x, v) ∉ binds) → bindL kindOf binds m x = m x
 | [], _, _ => rfl
 | (n, v) :: r, m, h => by
  unfold bindL
  rw [KU fun w hw => h w (List.mem_cons_of_mem _ hw)]
  split
  ·have : x ≠ n := by rintro rfl; exact h v List.mem_cons_self
   simp [this]
  ·rfl
theorem KN {kindOf : Str → Option NameKind} {x : Str} : ∀ {binds : List (Str × Value)} {m : Str → Option Value}, (∀ v, (x, v) ∉ binds) → bindC kindOf binds m x = m x
 | [], _, _ => rfl
 | (n, v) :: r, m, h => by
  unfold bindC
  rw [KN fun w hw => h w (List.mem_cons_of_mem _ hw)]
  split
  ·rfl
  ·have : x ≠ n := by rintro rfl; exact h v List.mem_cons_self
   simp [this]
theorem WB {kindOf : Str → Option NameKind} {x : Str} {v : Value} : ∀ {P : List Str} {vs : List Value} {i : Nat} {m : Str → Option Value}, P.Nodup → P[i]? = some x → vs[i]? = some v → kindOf x = some .local →
  bindL kindOf (P.zip vs) m x = some v
 | [], _, _, _, _, h, _, _ => by simp at h
 | _ :: _, [], _, _, _, _, h, _ => by simp at h
 | p :: P, w :: vs, 0, m, nd, h1, h2, hk => by
  simp at h1 h2; subst h1; subst h2
  show bindL kindOf ((p, w) :: P.zip vs) m p = _
  unfold bindL
  rw [KU fun v hv => (List.nodup_cons.mp nd).1 (List.of_mem_zip hv).1, if_pos hk]
  simp
 | p :: P, w :: vs, i + 1, m, nd, h1, h2, hk => by
  show bindL kindOf ((p, w) :: P.zip vs) m x = _
  unfold bindL
  exact WB (i := i) (List.nodup_cons.mp nd).2 (by simpa using h1) (by simpa using h2) hk
theorem Wv {kindOf : Str → Option NameKind} {x : Str} {v : Value} : ∀ {P : List Str} {vs : List Value} {i : Nat} {m : Str → Option Value}, P.Nodup → P[i]? = some x → vs[i]? = some v → kindOf x ≠ some .local →
  bindC kindOf (P.zip vs) m x = some v
 | [], _, _, _, _, h, _, _ => by simp at h
 | _ :: _, [], _, _, _, _, h, _ => by simp at h
 | p :: P, w :: vs, 0, m, nd, h1, h2, hk => by
  simp at h1 h2; subst h1; subst h2
  show bindC kindOf ((p, w) :: P.zip vs) m p = _
  unfold bindC
  rw [KN fun v hv => (List.nodup_cons.mp nd).1 (List.of_mem_zip hv).1, if_neg hk]
  simp
 | p :: P, w :: vs, i + 1, m, nd, h1, h2, hk => by
  show bindC kindOf ((p, w) :: P.zip vs) m x = _
  unfold bindC
  exact Wv (i := i) (List.nodup_cons.mp nd).2 (by simpa using h1) (by simpa using h2) hk
noncomputable def start (N : List Str) (vs : List V) : St := vs.map some ++ List.replicate (N.length - vs.length) none
noncomputable def NS (CX : CXT) (P : Program) (w : World) (K : PySem.W.Frag) (mg : Str → Option Value) (base : Heap) (N : List Str) (qual : Str) (scope : Scope) (f : Addr) (cd : Value) (A : Around) (outer : List Env) (s : Shared) (H : Hp) (E : XK) : Cx where
 prog := P
 w := w
 K := K
 mg := mg
 base := base
 A := A.deeper (envOfC qual scope s.heap.objs.size f cd)
 N := N
 s₀ := s
 H₀ := H
 env := envOfC qual scope s.heap.objs.size f cd
 outer := outer
 stack := envOfC qual scope s.heap.objs.size f cd :: outer
 ex := []
 calm := true
 fn := fun _ => true
 pn := []
 xe := fun e s' => wpAny (model P w) (A.deeper (envOfC qual scope s.heap.objs.size f cd)) (leaving (envOfC qual scope s.heap.objs.size f cd) e) (fun _ s'' => CX outer H s E e s'') (fun e' s'' => CX outer H s E e' s'') s'
theorem GQ {sc : Scope} {n : Nat} {x : Str} (h : sc.names.lookup x = some .cell) : ∃ c, (cellsFrom n sc.names []).lookup x = some c := by
 have q := PySem.W.cellsFrom_some sc.names n [] (.inl h)
 exact Option.isSome_iff_exists.mp q
theorem Cr {CX : CXT} {P : Program} {w : World} {K : PySem.W.Frag} {mg : Str → Option Value} {base : Heap} {N ps : List Str} {qual : Str} {scope : Scope} {f : Addr} {cd : Value} {A : Around} {outer : List Env} {s s1 : Shared} {H : Hp} {E : XK} {us : List Value} {vs : List V}
  (S : Zq N ps scope) (hd : A.handled = none) (e0 : ZbO P w K mg base A outer s H) (hl : vs.length = ps.length) (r : Vals vs us)
  (x : InCallC s s.heap.objs.size (bindL (envOfC qual scope s.heap.objs.size f cd).kindOf (ps.zip us) fun _ => none) (cellsFrom (s.heap.objs.size + 1) scope.names []) (bindC (envOfC qual scope s.heap.objs.size f cd).kindOf (ps.zip us) fun _ => none) s1) :
  Inv (NS CX P w K mg base N qual scope f cd A outer s H E) [] (start N vs) H s1 := by
 have hpl : ps.length ≤ N.length := by have := congrArg List.length S.pre; rw [List.length_take] at this; omega
 obtain ⟨h1, tk, rfl, hk⟩ := x.done
 have noA : ∀ b : Addr, b ∉ (NS CX P w K mg base N qual scope f cd A outer s H E).ex := fun b z => absurd (show b ∈ ([] : List Addr) from z) (by simp)
 refine ⟨⟨e0.mod, S.kind, rfl, rfl, Nat.le_refl _, fun y z c h1 h2 => ?_, fun y hy => ?_, fun y c _ h => ?_, fun _ => hd, Around.frames_deeper e0.frames, .inr ⟨rfl, rfl⟩, fun b z => absurd z (noA b), e0.bs, e0.bsz, fun b _ _ => noA b, fun b z => absurd z (noA b), e0.E5, e0.frf⟩,
  rfl, e0.bare, Un.kept hk, ⟨_, x.toInCall.ns, fun i y v h1 h2 h3 => ?_⟩, fun y c h => ⟨_, x.cell y c h⟩, e0.hok.fresh (Nat.le_refl _), fun y c h => ?_, fun p hp => absurd (show p ∈ ([] : List (Addr × Obj)) from hp) (by simp), e0.hok.kept hk, ?_⟩
 ·exact name_of_addr x.apart (PySem.mem_of_lookup h1) (PySem.mem_of_lookup h2)
 ·have hy : scope.names.lookup y = some .cell ∨ scope.names.lookup y = some .free := hy
  rcases hy with hy | hy
  ·exact GQ hy
  ·exact absurd rfl (S.nofree _ (PySem.mem_of_lookup hy))
 ·exact Nat.le_of_lt (x.above y c (PySem.mem_of_lookup h))
 ·have hi : i < vs.length := by
   unfold start at h2
   by_cases hi : i < vs.length
   ·exact hi
   ·rw [List.getElem?_append_right (by simpa using hi)] at h2
    rw [List.getElem?_replicate] at h2
    split at h2 <;> cases h2
  have ha : vs[i]? = some v := by
   unfold start at h2
   rw [List.getElem?_append_left (by simpa using hi), List.getElem?_map] at h2
   cases e : vs[i]? with
   | none => rw [e] at h2; cases h2
   | some a => rw [e] at h2; cases h2; rfl
  obtain ⟨u, hu, rv⟩ := r.get ha
  have hp : ps[i]? = some y := by
   rw [← S.pre, List.getElem?_take_of_lt (by omega)]; exact h1
  have ndP : ps.Nodup := by rw [← S.pre]; exact S.nd.sublist (List.take_sublist _ _)
  refine ⟨u, rv, ?_⟩
  rcases S.par y (List.mem_of_getElem? hp) with k | k
  ·exact .inl ⟨k, WB ndP hp hu k⟩
  ·obtain ⟨c, e⟩ := GQ (n := s.heap.objs.size + 1) k
   refine .inr ⟨.inl k, c, e, ?_⟩
   have q := x.cell y c e
   rw [Wv ndP hp hu (by show scope.names.lookup y ≠ _; rw [k]; decide)] at q
   exact q
 ·exact e0.hok.fresh (Nat.le_of_lt (x.above y c (PySem.mem_of_lookup h)))
 ·unfold start
  show _ = N.length
  rw [List.length_append, List.length_map, List.length_replicate]
  omega
theorem ZdB {CX : CXT} {P : Program} {w : World} {K : PySem.W.Frag} {mg : Str → Option Value} {base : Heap} {k : Nat} {f : Addr} {name qual : Str} {params : Arguments} {body : List Stmt} {scope : Scope} {dV kV doc pm cdv ct oc : Value} {an od : Option Addr}
  {osl : Array (Option Value)} {N ps : List Str} {sp : Sp} (lk : K.lookup f = some ⟨oc, od, .func (PySem.W.fnOf name qual params body scope dV kV doc pm an cdv ct), osl⟩) (hcd : PySem.W.codeIn K cdv qual = true) (S : Zq N ps scope)
  (len : ∀ vs H Q E, sp vs H Q E → vs.length = ps.length)
  (hbody : ∀ (A : Around) (outer : List Env) (s : Shared) (H : Hp) (vs : List V) (Q : VK) (E : XK), JJ k (A.deeper (envOfC qual scope s.heap.objs.size f cdv)) → sp vs H Q E →
   ∃ t, PSs (NS CX P w K mg base N qual scope f cdv A outer s H E) body t ∧ t { nx := fun _ H' => Q .non H', rt := Q } (start N vs) H) :
  ZU P w K mg base CX (k + 1) f (PySem.W.fnOf name qual params body scope dV kV doc pm an cdv ct) ps sp := by
 refine ⟨len, fun A outer s H args us vs Q E hr e0 hb r hsp => ?_⟩
 have hl := len _ _ _ _ hsp
 have KX : K.In s.heap := e0.mod.kin.keeps fun b o e => (e0.bs b o e).1
 have lim : s.heap.NoLimit := e0.mod.nolimit.keeps fun b o e => (e0.bs b o e).1
 have hkind : ∀ y ∈ ps.zip us, scope.names.lookup y.1 = some .local ∨ (scope.names.lookup y.1 = some .cell ∧ ((cellsFrom (s.heap.objs.size + 1) scope.names []).lookup y.1).isSome = true) := fun ⟨n, v⟩ hy => by
  rcases S.par n (List.of_mem_zip hy).1 with q | q
  ·exact .inl q
  ·exact .inr ⟨q, PySem.W.cellsFrom_some _ _ _ (.inl q)⟩
 refine codeAny_call_function hr.depth (KX _ _ lk) rfl S.co S.gen rfl (PySem.W.codeRec_of KX hcd) (hb _ _ _ _ ?_)
 refine wpAny_newFunctionEnv_cells S.kind hkind fun env he s1 x => ?_
 subst he
 refine ⟨lim.keeps x.toInCall.keep, codeAny_func ?_⟩
 obtain ⟨t, ht, hq⟩ := hbody A outer s H vs Q E (hr.deeper _) hsp
 have I : Inv (NS CX P w K mg base N qual scope f cdv A outer s H E) [] (start N vs) H s1 := Cr S hr.hd e0 hl r x
 refine wpAny_mono (ht [] s1 (start N vs) H _ I hq) (fun fl s' hs => ?_) fun e s' hs => hs
 have fin : ∀ {σ' : St} {H' : Hp} {v : V} {u : Value}, Inv (NS CX P w K mg base N qual scope f cdv A outer s H E) [] σ' H' s' → RelV v u → Q v H' → CE outer P w H s Q u s' :=
  fun {σ' H' v u} J rv q => ⟨v, H', J.os, J.bare, J.base, J.hok, rv, q⟩
 cases fl with
 | ret u =>
  obtain ⟨v, σ', H', J, rv, q⟩ := hs
  exact fin J rv q
 | next =>
  obtain ⟨σ', H', J, q⟩ := hs
  exact fin (v := V.non) (u := Value.none) J rfl q
 | brk =>
  obtain ⟨_, _, _, q⟩ := hs
  exact False.elim q
 | cont =>
  obtain ⟨_, _, _, q⟩ := hs
  exact False.elim q
end L2
namespace L2
open PySem PySem.Spec PyProof.Rows
section
variable {X : Cx} {x : Str} {p pos : Pos} {e : Expr} {es : List Expr} {t : TA} {id T : String} {r : List V → Hp → VK → Prop}
noncomputable def tCB (r : List V → Hp → VK → Prop) (t : TA) : TE := fun σ H Q => t σ H fun vs H1 => r vs H1 Q
theorem H9 (hc : JU X (.builtin id) r) (hg : Gl X x) (hm : X.mg x = none) (hv : bootBuiltins x = some (.builtin id)) (ha : PA X (e :: es) t) (hn : x ≠ "__name__" := by decide) (hdb : (x == ("__debug__" : Str)) = false := by decide)
  (he : starEach (e :: es) X.env = (false, eval e X.env) :: starEach es X.env := by rfl) (hpl : (backTo pos (starEach es X.env)).any (·.1) = false := by rfl) : PE X (.Call (.Name x p) (e :: es) [] pos) (tCB r t) := by
 intro pins s σ H Q I h
 refine wpAny_Call_Name_kw (Xc I hg hm hv ?_ hn hdb)
 exact PyProof.Rows.callWith_builtin1 (thn (ha pos pins s σ H _ I h) fun us s1 ⟨vs, H1, I1, r1, q1⟩ => hc pins s1 σ H1 vs us Q I1 r1 q1) he hpl
theorem Ey (hc : JU X (.type T) r) (hg : Gl X x) (hm : X.mg x = none) (hv : bootBuiltins x = some (.type T)) (ha : PA X (e :: es) t) (hn : x ≠ "__name__" := by decide) (hdb : (x == ("__debug__" : Str)) = false := by decide)
  (he : starEach (e :: es) X.env = (false, eval e X.env) :: starEach es X.env := by rfl) (hpl : (backTo pos (starEach es X.env)).any (·.1) = false := by rfl) : PE X (.Call (.Name x p) (e :: es) [] pos) (tCB r t) := by
 intro pins s σ H Q I h
 refine wpAny_Call_Name_kw (Xc I hg hm hv ?_ hn hdb)
 exact PyProof.Rows.callWith_type1 (thn (ha pos pins s σ H _ I h) fun us s1 ⟨vs, H1, I1, r1, q1⟩ => hc pins s1 σ H1 vs us Q I1 r1 q1) he hpl
end
end L2
namespace HT
open PySem PyProof.Rows
noncomputable def lexLt : List Int → List Int → Bool
 | [], [] => false
 | [], _ :: _ => true
 | _ :: _, [] => false
 | x :: xs, y :: ys => if x = y then lexLt xs ys else decide (x < y)
section
open PySem.SeqAt
open PySem.AutoSeq1 (wpAny_loadPart')
open PySem.MeetsSeq PySem.MeetsSeq2 PySem.MeetsSeq3
end
section
variable {prog : Program} {w : World} {A : Around} {E : Value → Shared → Prop} {s : Shared}
noncomputable def sIx (n d : Nat) : Option Int → Nat
 | none => d
 | some v => if v < 0 then (v + (n : Int)).toNat else min v.toNat n
theorem VQ (n d : Nat) : sIx n d none = d := rfl
theorem Dw (n d k : Nat) : sIx n d (some (k : Int)) = min k n := by
 show (if (k : Int) < 0 then ((k : Int) + (n : Int)).toNat else min (k : Int).toNat n) = min k n
 rw [if_neg (by omega), Int.toNat_natCast]
end
end HT
namespace L2
open PySem PySem.Spec PyProof.Rows
noncomputable abbrev TO := St → Hp → (Option Int → Hp → Prop) → Prop
noncomputable def PO (X : Cx) (e : Option Expr) (t : TO) : Prop :=
 ∀ (pins : List (Addr × Obj)) (s : Shared) (σ : St) (H : Hp) (Q : Option Int → Hp → Prop), Inv X pins σ H s → t σ H Q →
  wpAny (model X.prog X.w) X.A (evalPart e X.env) (fun u s' => ∃ o H', Inv X pins σ H' s' ∧ IsPart u o ∧ Q o H') X.xe s
noncomputable def RR : TO := fun _ H Q => Q none H
noncomputable def Zcu (t : TE) : TO := fun σ H Q => t σ H fun x H1 => ∃ i, x = .int i ∧ Q (some i) H1
theorem intsAre_of {ns : List Int} : ∀ {us : List Value}, Vals (ns.map V.int) us → IntsAre us ns := by
 induction ns with
 | nil => intro us r; rw [List.map_nil] at r; cases r; exact .nil
 | cons n ns ih =>
  intro us r
  rw [List.map_cons] at r
  cases r with
  | cons r1 r2 =>
   obtain ⟨t, e⟩ := r1
   subst e
   exact .cons n t (ih r2)
section
variable {X : Cx} {e : Expr} {te : TE} {lo hi : Option Expr} {tl th : TO} {pos p2 : Pos}
theorem RS : PO X none RR := by
 intro pins s σ H Q I h
 rw [evalPart_none]
 exact wpAny_pure ⟨none, H, I, .none, h⟩
theorem Pc (h : PE X e te) : PO X (some e) (Zcu te) := by
 intro pins s σ H Q I hw
 rw [evalPart_some]
 refine thn (h pins s σ H _ I hw) fun u s1 ⟨x, H1, I1, r1, q1⟩ => ?_
 obtain ⟨i, rfl, q⟩ := q1
 obtain ⟨t, rfl⟩ := r1
 exact ⟨some i, H1, I1, .int i t, q⟩
noncomputable def SlR (X : Cx) (r : V → Option Int → Option Int → Hp → VK → Prop) : Prop :=
 ∀ (pins : List (Addr × Obj)) (s : Shared) (σ : St) (H : Hp) (x : V) (v vl vu : Value) (lo hi : Option Int) (sl : Addr) (Q : VK), Inv X pins σ H s → RelV x v → s.heap.IsSliceOf sl vl vu .none → IsPart vl lo → IsPart vu hi → r x lo hi H Q →
  ∃ T id, typeLookup (.type T) "__getitem__" = pure (some (.builtin id)) ∧ s.TypeIs v T ∧ wpAny (model X.prog X.w) X.A (getItem v (.ref sl)) (EP X pins σ Q) X.xe s
noncomputable def tSl (r : V → Option Int → Option Int → Hp → VK → Prop) (te : TE) (tl th : TO) : TE := fun σ H Q => te σ H fun x H1 => tl σ H1 fun l H2 => th σ H2 fun u H3 => r x l u H3 Q
theorem ME {r : V → Option Int → Option Int → Hp → VK → Prop} (hr : SlR X r) (he : PE X e te) (hl : PO X lo tl) (hu : PO X hi th) : PE X (.Subscript e (.Slice lo hi none p2) pos) (tSl r te tl th) := by
 intro pins s σ H Q I h
 refine Subscript_ (thn (he pins s σ H _ I h) fun v s1 ⟨x, H1, I1, r1, q1⟩ => ?_)
 refine wpAny_Slice (thn (hl pins s1 σ H1 _ I1 q1) fun vl s2 ⟨l, H2, I2, pl, q2⟩ => thn (hu pins s2 σ H2 _ I2 q2) fun vu s3 ⟨u, H3, I3, pu, q3⟩ => ?_)
 rw [evalPart_none]
 refine wpAny_pure ?_
 have I4 : Inv X pins σ H3 { s3 with heap := s3.heap.push { cls := .type "slice", data := .fields #[vl, vu, .none] } } := I3.kept (t' := s3.toks) fun b ob q => Heap.get?_push_of_some _ q
 obtain ⟨T, id, hT, ht, hg⟩ := hr pins { s3 with heap := s3.heap.push { cls := .type "slice", data := .fields #[vl, vu, .none] } } σ H3 x v vl vu l u s3.heap.objs.size Q I4 r1 (Heap.IsSliceOf.new ..) pl pu q3
 show wpAny (model X.prog X.w) X.A (subscriptTail e (.Slice lo hi none p2) v (.ref s3.heap.objs.size)) (EP X pins σ Q) X.xe { s3 with heap := s3.heap.push { cls := .type "slice", data := .fields #[vl, vu, .none] } }
 exact tail_any (ops := [.ref s3.heap.objs.size, v]) ht hT hg (by with_unfolding_all rfl)
noncomputable def Se (xs : List V) (lo hi : Option Int) : List V := (xs.drop (HT.sIx xs.length 0 lo)).take (HT.sIx xs.length xs.length hi - HT.sIx xs.length 0 lo)
theorem WX (xs : List V) (lo hi : Option Int) : (Se xs lo hi).length ≤ xs.length := by
 unfold Se
 rw [List.length_take, List.length_drop]
 omega
noncomputable def Zf8 (K : PySem.W.Frag) : V → Option Int → Option Int → Hp → VK → Prop := fun x lo hi H Q => ∃ a xs, x = .ref a ∧ SqT K H a xs ∧
 ¬ (HT.sIx xs.length 0 lo = 0 ∧ HT.sIx xs.length xs.length hi = xs.length) ∧ ∀ p, H p = none → Q (.ref p) (upd H p (.tup (Se xs lo hi)))
noncomputable def Zf1 (K : PySem.W.Frag) : R2 := fun x y H Q => ∃ a b ns ms, x = .ref a ∧ y = .ref b ∧ SqT K H a (ns.map V.int) ∧ SqT K H b (ms.map V.int) ∧ Q (.bl (HT.lexLt ns ms)) H
noncomputable def ZfU (K : PySem.W.Frag) : R2 := fun x y H Q => ∃ a b xs ys, x = .ref a ∧ y = .ref b ∧ SqT K H a xs ∧ SqT K H b ys ∧ xs ≠ [] ∧ xs.length + ys.length ≤ sizeLine ∧
 (ys = [] → Q (.ref a) H) ∧ (ys ≠ [] → ∀ p, H p = none → Q (.ref p) (upd H p (.tup (xs ++ ys))))
end
end L2
namespace L2
open PySem PySem.Spec PyProof.Rows
noncomputable def ixN (n : Nat) (i : Int) : Option Nat := if 0 ≤ i then (if i < n then some i.toNat else none) else if -(n : Int) ≤ i then some (i + n).toNat else none
noncomputable def atI {α : Type} (xs : List α) (i : Int) : Option α := (ixN xs.length i).bind fun j => xs[j]?
theorem D3 {n : Nat} {i : Int} {j : Nat} (h : ixN n i = some j) : seqIndex? i n = some j ∧ j < n ∧ -(n : Int) ≤ i ∧ i < n := by
 unfold ixN at h
 by_cases h0 : 0 ≤ i
 ·rw [if_pos h0] at h
  by_cases h1 : i < n
  ·rw [if_pos h1] at h
   have e : i.toNat = j := Option.some.inj h
   exact ⟨by rw [seqIndex_of h0 h1, e], by omega, by omega, h1⟩
  ·rw [if_neg h1] at h; cases h
 ·rw [if_neg h0] at h
  by_cases h1 : -(n : Int) ≤ i
  ·rw [if_pos h1] at h
   have e : (i + n).toNat = j := Option.some.inj h
   exact ⟨by rw [seqIndex_neg (by omega) h1, e], by omega, h1, by omega⟩
  ·rw [if_neg h1] at h; cases h
theorem WR {α : Type} {xs : List α} {i : Int} {v : α} (h : atI xs i = some v) : ∃ j, seqIndex? i xs.length = some j ∧ xs[j]? = some v ∧ j < xs.length ∧ -(xs.length : Int) ≤ i ∧ i < xs.length := by
 unfold atI at h
 cases e : ixN xs.length i with
 | none => rw [e] at h; cases h
 | some j =>
  rw [e] at h
  obtain ⟨h1, h2, h3, h4⟩ := D3 e
  exact ⟨j, h1, h, h2, h3, h4⟩
theorem Vs {α : Type} {xs : List α} {j : Nat} {v : α} (h : xs[j]? = some v) : atI xs (j : Int) = some v := by
 have hj : j < xs.length := (List.getElem?_eq_some_iff.mp h).1
 have e : ixN xs.length (j : Int) = some j := by
  unfold ixN
  rw [if_pos (by omega), if_pos (by omega)]; simp
 unfold atI; rw [e]; exact h
noncomputable def W5 (b : Expr) : Prop := ∀ o i, subscripted b false o i = operate [o, i] (getItem o i)
noncomputable def IxR (X : Cx) (r : R2) : Prop :=
 ∀ (value slice : Expr) (pins : List (Addr × Obj)) (s : Shared) (σ : St) (H : Hp) (x y : V) (v u : Value) (Q : VK), Inv X pins σ H s → RelV x v → RelV y u → r x y H Q →
  subscripted slice false v u = operate [v, u] (getItem v u) → wpAny (model X.prog X.w) X.A (subscriptTail value slice v u) (EP X pins σ Q) X.xe s
noncomputable def MtR (X : Cx) (id : String) (r : V → List V → Hp → VK → Prop) : Prop :=
 ∀ (pins : List (Addr × Obj)) (s : Shared) (σ : St) (H : Hp) (x : V) (xs : List V) (v : Value) (us : List Value) (Q : VK), Inv X pins σ H s → RelV x v → Vals xs us → r x xs H Q →
  wpAny (model X.prog X.w) X.A (call (.builtin id) (v :: us)) (EP X pins σ Q) X.xe s
section
variable {X : Cx} {a b : Expr} {ta tb : TE} {pos : Pos}
theorem IxR.or {r r' : R2} (h : IxR X r) (h' : IxR X r') : IxR X (fun x y H Q => r x y H Q ∨ r' x y H Q) := by
 intro value slice pins s σ H x y v u Q I rx ry q hs
 rcases q with q | q
 ·exact h value slice pins s σ H x y v u Q I rx ry q hs
 ·exact h' value slice pins s σ H x y v u Q I rx ry q hs
theorem T2 {r : R2} (hr : IxR X r) (ha : PE X a ta) (hb : PE X b tb) (hs : W5 b) : PE X (.Subscript a b pos) (tOp r ta tb) := by
 intro pins s σ H Q I h
 exact Subscript_ (Zdl ha hb I h fun v u s2 x y H2 I2 rx ry q => hr a b pins s2 σ H2 x y v u Q I2 rx ry q (hs _ _))
noncomputable def Zey (K : PySem.W.Frag) : R2 := fun x y H Q => ∃ p xs i v, x = .ref p ∧ y = .int i ∧ SqL K H p xs ∧ atI xs i = some v ∧ Q v H
noncomputable def ZeJ (K : PySem.W.Frag) : R2 := fun x y H Q => ∃ p xs i v, x = .ref p ∧ y = .int i ∧ SqT K H p xs ∧ atI xs i = some v ∧ Q v H
noncomputable def ZeI : R2 := fun x y H Q => ∃ z i c, x = .str z ∧ y = .int i ∧ z.length ≤ sizeLine ∧ atI z.cps.toList i = some c ∧ Q (.str ⟨#[c]⟩) H
theorem RE : IxR X (Zey X.K) := by
 intro value slice pins s σ H x y v u Q I rx ry h hs
 obtain ⟨p, xs, i, z, rfl, rfl, hq, he, q⟩ := h
 cases rx
 obtain ⟨t, rfl⟩ := ry
 obtain ⟨its, r, pl, hz⟩ := I.list hq
 obtain ⟨j, h1, h2, h3, h4, h5⟩ := WR he
 obtain ⟨w, ew, rw'⟩ := r.get h2
 have hl := r.length
 have hn := KC
 have fin : EP X pins σ Q w s := ⟨z, H, I, rw', q⟩
 by_cases h0 : 0 ≤ i
 ·have hj : i.toNat = j := by
   rw [seqIndex_of h0 h5] at h1
   exact Option.some.inj h1
  exact item_listR pl.isList h0 (by omega) (by rw [hj]; simpa using ew) fin hs
 ·have hj : (i + (its.toArray.size : Int)).toNat = j := by
   rw [seqIndex_neg (by omega) h4] at h1
   rw [List.size_toArray, ← hl]
   exact Option.some.inj h1
  exact subscriptTail_builtinR (x := w) pl.isList.typeIs slot_list_getitem.lookup
   (wpAny_getItem_list_neg (Q := fun r s' => r = w ∧ EP X pins σ Q r s') pl.isList (by omega) (by rw [List.size_toArray] <;> omega) (by omega) (by rw [hj]; simpa using ew) ⟨rfl, fin⟩) hs
theorem Sl : IxR X (ZeJ X.K) := by
 intro value slice pins s σ H x y v u Q I rx ry h hs
 obtain ⟨p, xs, i, z, rfl, rfl, hq, he, q⟩ := h
 cases rx
 obtain ⟨t, rfl⟩ := ry
 obtain ⟨its, r, pl, hz⟩ := I.tuple hq
 obtain ⟨j, h1, h2, h3, h4, h5⟩ := WR he
 obtain ⟨w, ew, rw'⟩ := r.get h2
 have hl := r.length
 have hn := KC
 have fin : EP X pins σ Q w s := ⟨z, H, I, rw', q⟩
 exact subscriptTail_builtinR (x := w) pl.typeIs slot_tuple_getitem.lookup
  (getItem_tuple (j := j) (Q := fun r s' => r = w ∧ EP X pins σ Q r s') pl (by omega) (by omega) (by rw [List.size_toArray, ← hl]; exact h1) (by simpa using ew) ⟨rfl, fin⟩) hs
theorem Np : IxR X ZeI := by
 intro value slice pins s σ H x y v u Q I rx ry h hs
 obtain ⟨z, i, c, rfl, rfl, hz, he, q⟩ := h
 obtain ⟨t, rfl⟩ := rx
 obtain ⟨t', rfl⟩ := ry
 obtain ⟨j, h1, h2, h3, h4, h5⟩ := WR he
 have hl : z.cps.toList.length = z.length := by simp [Str.length]
 rw [hl] at h1 h4 h5
 have hn := KC
 exact tail_any (typeIs_str s z t) slot_str_getitem.lookup (getItem_str (c := c) (by
  have e1 : decide (i < -(2 ^ 63 : Int)) = false := decide_eq_false (by omega)
  have e2 : decide (i ≥ 2 ^ 63) = false := decide_eq_false (by omega)
  rw [e1, e2, Bool.or_false]) (by rw [h1]; simpa using h2) ⟨.str ⟨#[c]⟩, H, I.tok _, ⟨_, rfl⟩, q⟩) hs
noncomputable def rIx (K : PySem.W.Frag) : R2 := fun x y H Q => Zey K x y H Q ∨ ZeJ K x y H Q ∨ ZeI x y H Q
theorem SQ : IxR X (rIx X.K) := RE.or (Sl.or Np)
theorem BP (its : List Value) (n j : Nat) (u : Value) : Obj.mapSeq (·.setIfInBounds j u) { cls := .type "list", data := .seq its.toArray n } = { cls := .type "list", data := .seq (its.set j u).toArray n } := by
 simp [Obj.mapSeq]
theorem Inv.lst {pins : List (Addr × Obj)} {σ : St} {H : Hp} {s : Shared} {p : Addr} {xs : List V} (I : Inv X pins σ H s) (h : H p = some (.lst xs)) :
  ∃ (its : List Value) (n : Nat), Vals xs its ∧ s.heap.get? p = some { cls := .type "list", data := .seq its.toArray n } ∧ xs.length ≤ sizeLine := by
 obtain ⟨z, its, n, r, e⟩ := I.hok p _ h
 exact ⟨its, n, r, e, z⟩
theorem Inv.Zbm {pins : List (Addr × Obj)} {σ : St} {H : Hp} {s : Shared} {p : Addr} {xs ys : List V} {its its' : List Value} {n n' : Nat} {f : Obj → Obj} (I : Inv X pins σ H s) (h : H p = some (.lst xs))
  (ho : s.heap.get? p = some { cls := .type "list", data := .seq its.toArray n }) (hf : f { cls := .type "list", data := .seq its.toArray n } = { cls := .type "list", data := .seq its'.toArray n' }) (r : Vals ys its') (hz : ys.length ≤ sizeLine) (t : Nat) :
  Inv X pins σ (upd H p (.lst ys)) { s with heap := s.heap.update p f, toks := t } := by
 have e : (s.heap.update p f).get? p = some { cls := .type "list", data := .seq its'.toArray n' } := by
  rw [Heap.get?_update_self f ho (by rw [hf] <;> rfl), hf]
 refine I.write (x := p) (e := p) (by rw [h]; trivial) (.inl rfl) (fun b u hb q => (Heap.get?_update_other _ _ (Ne.symm hb)).trans q) ⟨_, e⟩ ?_
 exact ⟨hz, its', n', r, e⟩
noncomputable def Zcx : V → V → V → Hp → (Hp → Prop) → Prop := fun o i v H Q => ∃ p xs k j, o = .ref p ∧ i = .int k ∧ H p = some (.lst xs) ∧ ixN xs.length k = some j ∧ Q (upd H p (.lst (xs.set j v)))
theorem set_list : ZdX X Zcx := by
 intro pins s σ H o i v ov iv u Q I ro ri rv h
 obtain ⟨p, xs, k, j, rfl, rfl, hp, hj, q⟩ := h
 cases ro
 obtain ⟨t, rfl⟩ := ri
 obtain ⟨its, n, r, ho, hz⟩ := I.lst hp
 obtain ⟨h1, h2, h3, h4⟩ := D3 hj
 have hl := r.length
 have hn := KC
 have I' : Inv X pins σ (upd H p (.lst (xs.set j v))) { s with heap := s.heap.update p (Obj.mapSeq (·.setIfInBounds j u)) } :=
  I.Zbm hp ho (BP its n j u) (r.set rv j) (by rw [List.length_set]; exact hz) s.toks
 by_cases h0 : 0 ≤ k
 ·have hk : k.toNat = j := by
   rw [seqIndex_of h0 h4] at h1
   exact Option.some.inj h1
  exact PySem.W.ki_setAt ho h0 (by omega) (by rw [List.size_toArray, ← hl]; exact h4) (by rw [hk]; exact ⟨_, I', q⟩)
 ·have hk : (k + (its.toArray.size : Int)).toNat = j := by
   rw [seqIndex_neg (by omega) h3] at h1
   rw [List.size_toArray, ← hl]
   exact Option.some.inj h1
  exact PySem.W.ki_setBack ho (by omega) (by rw [List.size_toArray, ← hl]; exact h3) (by omega) (by rw [hk]; exact ⟨_, I', q⟩)
theorem Kp (lo hi : Option Int) (n : Nat) : (sliceBounds lo hi none n).1 = ((HT.sIx n 0 lo : Nat) : Int) ∧ (sliceBounds lo hi none n).2.1 = ((HT.sIx n n hi : Nat) : Int) ∧ (sliceBounds lo hi none n).2.2 = 1 := by
 refine ⟨?_, ?_, rfl⟩
 ·cases lo with
  | none => simp [sliceBounds, HT.sIx]
  | some i =>
   simp only [sliceBounds, HT.sIx, Option.getD_none, show (1 : Int) > 0 by decide, if_true]
   by_cases h : i < 0
   ·simp only [h, if_true] <;> omega
   ·simp only [h, if_false] <;> omega
 ·cases hi with
  | none => simp [sliceBounds, HT.sIx]
  | some i =>
   simp only [sliceBounds, HT.sIx, Option.getD_none, show (1 : Int) > 0 by decide, if_true]
   by_cases h : i < 0
   ·simp only [h, if_true] <;> omega
   ·simp only [h, if_false] <;> omega
theorem Xh (its : List Value) (lo hi : Option Int) : slicePick its.toArray lo hi none = ((its.drop (HT.sIx its.length 0 lo)).take (HT.sIx its.length its.length hi - HT.sIx its.length 0 lo)).toArray := by
 obtain ⟨h1, h2, h3⟩ := Kp lo hi its.toArray.size
 unfold slicePick
 rw [h1, h2, h3]
 simp only [sliceRange_one, pick_run, List.size_toArray] <;> rfl
noncomputable def ZfG (K : PySem.W.Frag) : V → Option Int → Option Int → Hp → VK → Prop := fun x lo hi H Q => ∃ a xs, x = .ref a ∧ SqL K H a xs ∧ ∀ p, H p = none → Q (.ref p) (upd H p (.lst (Se xs lo hi)))
theorem Pe : SlR X (ZfG X.K) := by
 intro pins s σ H x v vl vu lo hi sl Q I rx hs pl pu h
 obtain ⟨a, xs, rfl, hx, q⟩ := h
 cases rx
 obtain ⟨its, r, ht, hz⟩ := I.list hx
 have hlen := r.length
 refine ⟨"list", _, slot_list_getitem.lookup, ht.isList.typeIs, ?_⟩
 refine wpAny_getItem_list_slice ht.isList hs pl pu .none (by simp) ?_ (by rw [List.size_toArray] <;> omega)
 rw [Xh, ← hlen]
 refine ⟨.ref s.heap.objs.size, _, I.laid (t' := s.toks) (o := .lst (Se xs lo hi)) (fun b ob q => Heap.get?_push_of_some _ q) (Nat.le_refl _) ?_, rfl, q _ (I.hok.fresh (Nat.le_refl _))⟩
 exact ⟨Nat.le_trans (WX xs lo hi) hz, _, 0, (r.drop (HT.sIx xs.length 0 lo)).take (HT.sIx xs.length xs.length hi - HT.sIx xs.length 0 lo), Heap.get?_push_size _ rfl⟩
noncomputable def T3 : V → Bool
 | .non => true
 | .bl _ => true
 | .int _ => true
 | .str _ => true
 | _ => false
noncomputable def eqV : V → V → Bool
 | .non, .non => true
 | .bl a, .bl b => a == b
 | .bl a, .int b => (if a then 1 else 0) == b
 | .int a, .bl b => a == (if b then 1 else 0)
 | .int a, .int b => a == b
 | .str a, .str b => a == b
 | _, _ => false
noncomputable def eqU (x : V) (u : Value) : Bool := match u with
 | .none => eqV .non x
 | .bool b => eqV (.bl b) x
 | .int i _ => eqV (.int i) x
 | .str z _ => eqV (.str z) x
 | _ => false
noncomputable def inV (x : V) (xs : List V) : Bool := xs.any fun y => eqV y x
noncomputable def rIn (K : PySem.W.Frag) (neg : Bool) : R2 := fun x y H Q => ∃ p xs, y = .ref p ∧ (SqL K H p xs ∨ SqT K H p xs) ∧ T3 x = true ∧ xs.all T3 = true ∧ Q (.bl (if neg then !inV x xs else inV x xs)) H
theorem Ww : JU X (.builtin "len") (fun xs H Q => ∃ p ys, xs = [.ref p] ∧ (SqL X.K H p ys ∨ SqT X.K H p ys) ∧ Q (.int ys.length) H) := by
 intro pins s σ H xs us Q I r h
 obtain ⟨p, ys, rfl, hq, q⟩ := h
 obtain ⟨u, rfl, rx⟩ := vals1 r
 cases rx
 have hn := KC
 rcases hq with hq | hq
 ·obtain ⟨its, r', pl, hz⟩ := I.list hq
  have hlen := r'.length
  exact Calls.call_len_list pl.isList (by simp only [List.size_toArray] <;> omega) ⟨.int ys.length, H, I.tok _, ⟨s.toks + 1, by rw [List.size_toArray, hlen]⟩, q⟩
 ·obtain ⟨its, r', pl, hz⟩ := I.tuple hq
  have hlen := r'.length
  exact len_tuple pl (by simp only [List.size_toArray] <;> omega) ⟨.int ys.length, H, I.tok _, ⟨s.toks + 1, by rw [List.size_toArray, hlen]⟩, q⟩
theorem X1 : JU X (.type "tuple") (fun xs H Q => ∃ p ys, xs = [.ref p] ∧ ((SqL X.K H p ys ∧ ∀ l, H l = none → Q (.ref l) (upd H l (.tup ys))) ∨ (SqT X.K H p ys ∧ Q (.ref p) H))) := by
 intro pins s σ H xs us Q I r h
 obtain ⟨p, ys, rfl, h⟩ := h
 obtain ⟨u, rfl, rx⟩ := vals1 r
 cases rx
 rcases h with ⟨hq, q⟩ | ⟨hq, q⟩
 ·obtain ⟨its, r', pl, hz⟩ := I.list hq
  have hlen := r'.length
  refine call_tuple_list pl.isList (fun h' kp => ?_) (by simp only [List.size_toArray] <;> omega)
  have I1 : Inv X pins σ H { s with heap := h' } := I.kept (t' := s.toks) kp
  have I2 : Inv X pins σ (upd H h'.objs.size (.tup ys)) { s with heap := h'.push { cls := .type "tuple", data := .seq its.toArray } } :=
   I1.laid (t' := s.toks) (fun b o e => Heap.get?_push_of_some _ e) (Nat.le_refl _) (show QB X.prog X.w _ _ _ (.tup ys) from ⟨hz, its, r', IsTup.new _ _⟩)
  exact ⟨.ref h'.objs.size, _, I2, rfl, q _ (I1.hok.fresh (Nat.le_refl _))⟩
 ·obtain ⟨its, r', pl, hz⟩ := I.tuple hq
  exact call_tuple_same pl ⟨.ref p, H, I, rfl, q⟩
noncomputable def tyV (K : PySem.W.Frag) (T : String) (x : V) (H : Hp) : Prop := match x with
 | .str _ => T = "str"
 | .int _ => T = "int"
 | .ref p => (T = "list" ∧ ∃ xs, SqL K H p xs) ∨ (T = "tuple" ∧ ∃ o, K.lookup p = some o ∧ o.cls = .type "tuple" ∧ o.dict = none) ∨
   (T = "dict" ∧ ((∃ kvs, H p = some (.dK kvs)) ∨ ∃ kvs, H p = some (.dT kvs))) ∨ (T = "set" ∧ ∃ S n, H p = some (.set S n))
 | _ => False
theorem Sx {pins : List (Addr × Obj)} {σ : St} {H : Hp} {s : Shared} {T : String} {x : V} {v : Value} (I : Inv X pins σ H s) (r : RelV x v) (ty : tyV X.K T x H) :
  s.TypeIs v T ∧ ∀ a, v = .ref a → ∃ ob, s.heap.get? a = some ob ∧ ob.dict = none := by
 cases x with
 | str z =>
  obtain ⟨t, rfl⟩ := r
  cases (show T = "str" from ty)
  exact ⟨typeIs_str s z t, fun _ e => nomatch e⟩
 | int i =>
  obtain ⟨t, rfl⟩ := r
  cases (show T = "int" from ty)
  exact ⟨typeIs_int s i t, fun _ e => nomatch e⟩
 | ref p =>
  cases r
  rcases ty with ⟨rfl, xs, hq⟩ | ⟨rfl, o, hk, hc, hd⟩ | ⟨rfl, hk⟩ | ⟨rfl, S, n, hk⟩
  ·obtain ⟨its, _, pl, _⟩ := I.list hq
   refine ⟨pl.isList.typeIs, fun a e => ?_⟩
   cases e
   obtain ⟨o, n, e, c, hd, _⟩ := pl
   exact ⟨o, e, hd⟩
  ·refine ⟨⟨o, I.kIn p o hk, hc⟩, fun a e => ?_⟩
   cases e
   exact ⟨o, I.kIn _ o hk, hd⟩
  ·have z : ∃ o, s.heap.get? p = some o ∧ o.ExactDict := by
    rcases hk with ⟨kvs, hk⟩ | ⟨kvs, hk⟩
    ·obtain ⟨_, _, _, _, o, _, _, e, ex, _⟩ := I.hok p _ hk
     exact ⟨o, e, ex⟩
    ·obtain ⟨_, _, _, _, o, _, _, e, ex, _⟩ := I.hok p _ hk
     exact ⟨o, e, ex⟩
   obtain ⟨o, e, ex⟩ := z
   refine ⟨⟨o, e, ex.1⟩, fun a e2 => ?_⟩
   cases e2
   exact ⟨o, e, ex.2.1⟩
  ·obtain ⟨o, _, _, _, e, ex, _⟩ := I.hok p _ hk
   refine ⟨⟨o, e, ex.1⟩, fun a e2 => ?_⟩
   cases e2
   exact ⟨o, e, ex.2.1⟩
 | _ => exact False.elim ty
noncomputable def Zgx (K : PySem.W.Frag) (T : String) (r : V → List V → Hp → VK → Prop) (to : TE) : TE := fun σ H Q => to σ H fun x H1 => tyV K T x H1 ∧ r x [] H1 Q
noncomputable def tBM (K : PySem.W.Frag) (T : String) (r : V → List V → Hp → VK → Prop) (to : TE) (t : TA) : TE := fun σ H Q => to σ H fun x H1 => tyV K T x H1 ∧ t σ H1 fun xs H2 => r x xs H2 Q
variable {o e : Expr} {es : List Expr} {to : TE} {t : TA} {name : Str} {apos cpos : Pos} {T id : String} {r : V → List V → Hp → VK → Prop}
theorem Rz (pa : PlainAttrs T) (slot : Slot T name id) (hty : typeOf (.builtin id) = pure (.type "method_descriptor")) (hm : MtR X id r) (ho : PE X o to) (ha : PA X (e :: es) t)
  (hbase : attributeBase o name X.env (eval o X.env) = eval o X.env := by rfl)
  (hfew : ((backTo cpos (starEach (e :: es) X.env)).all (fun x => !x.1) && (backToKw cpos (keywordEach [] X.env)).all (fun x => x.1.isSome)
   && decide ((e :: es).length + ([] : List Keyword).length + (if ([] : List Keyword).isEmpty then 0 else 1) < 30)) = true := by rfl)
  (hline : (apos.endLine == cpos.line) = true := by rfl) (hs : starEach (e :: es) X.env = (false, eval e X.env) :: starEach es X.env := by rfl) (hplain : (backTo cpos (starEach es X.env)).any (·.1) = false := by rfl) :
  PE X (.Call (.Attribute o name apos) (e :: es) [] cpos) (tBM X.K T r to t) := by
 intro pins s σ H Q I h
 refine wpAny_Call_method_late hbase hfew hline rfl (thn (ho pins s σ H _ I h) fun v s1 ⟨x, H1, I1, r1, ty, q1⟩ => ?_)
 obtain ⟨h1, h2⟩ := Sx I1 r1 ty
 refine ⟨T, id, pa, slot, hty, h1, h2, ?_⟩
 have hA := ha cpos pins s1 σ H1 _ I1 q1
 rw [hs] at hA ⊢
 refine Calls.callWith_builtin (by show (false || (backTo cpos (starEach es X.env)).any (·.1)) = false; rw [hplain] <;> rfl) (Calls.evalArgs_plain ?_)
 exact thn hA fun us s2 ⟨vs, H2, I2, r2, q2⟩ => hm pins s2 σ H2 x vs v us Q I2 r1 r2 q2
end
end L2
namespace L2
open PySem PySem.Spec PyProof.Rows
noncomputable def MtM (X : Cx) (id : String) (r : V → List V → Hp → VK → Prop) : Prop :=
 ∀ (pins : List (Addr × Obj)) (s : Shared) (σ : St) (H : Hp) (x : V) (xs : List V) (v : Value) (us : List Value) (Q : VK), Inv X pins σ H s → RelV x v → Vals xs us → r x xs H Q →
  wpAny (model X.prog X.w) X.A (call (.builtin id) (v :: us)) (EP X pins σ Q) X.xe s
theorem Vals.one : ∀ {x : V} {us : List Value}, Vals [x] us → ∃ u, us = [u] ∧ RelV x u
 | _, _, .cons r .nil => ⟨_, rfl, r⟩
theorem Vals.reverse {xs : List V} {us : List Value} (h : Vals xs us) : Vals xs.reverse us.reverse := by
 induction h with
 | nil => exact .nil
 | cons r t ih => rw [List.reverse_cons, List.reverse_cons]; exact Vals.append ih (.cons r .nil)
section
variable {X : Cx} {pins : List (Addr × Obj)} {σ : St} {H : Hp} {s : Shared} {l b : Addr} {xs ys zs : List V}
theorem Inv.Zew {its its' : List Value} {n : Nat} {f : Array Value → Array Value} {t' : Nat} (I : Inv X pins σ H s) (hH : H l = some (.lst xs))
  (e : s.heap.get? l = some { cls := .type "list", data := .seq its.toArray n }) (hf : f its.toArray = its'.toArray) (hv : Vals ys its') (hz : ys.length ≤ sizeLine) :
  Inv X pins σ (upd H l (.lst ys)) { s with heap := s.heap.update l (Obj.mapSeq f), toks := t' } := by
 have q := PySem.IsL.update e f
 rw [hf] at q
 refine I.write (x := l) (e := l) (by rw [hH]; exact trivial) (.inl rfl) (fun b' u hb hu => (Heap.get?_update_other s.heap (Obj.mapSeq f) (Ne.symm hb)).trans hu) ⟨_, q⟩ ?_
 exact ⟨hz, its', _, hv, q⟩
theorem Inv.ZeT {its : List Value} {t' : Nat} (I : Inv X pins σ H s) (hv : Vals ys its) (hz : ys.length ≤ sizeLine) :
  Inv X pins σ (upd H s.heap.objs.size (.lst ys)) { s with heap := s.heap.push { cls := .type "list", data := .seq its.toArray }, toks := t' } :=
 I.laid (fun _ _ q => Heap.get?_push_of_some _ q) (Nat.le_refl _) ⟨hz, its, 0, hv, Heap.get?_push_size _ rfl⟩
theorem Inv.fresh (I : Inv X pins σ H s) : H s.heap.objs.size = none := I.hok.fresh (Nat.le_refl _)
theorem Inv.Zco (I : Inv X pins σ H s) (hH : H l = some (.lst xs)) : xs.length ≤ sizeLine ∧ ∃ (its : List Value) (n : Nat), Vals xs its ∧ xs.length = its.length ∧ s.heap.get? l = some { cls := .type "list", data := .seq its.toArray n } := by
 obtain ⟨z, its, n, r, e⟩ := I.hok l _ hH
 exact ⟨z, its, n, r, r.length, e⟩
theorem Mh {n : Nat} (h : n ≤ sizeLine) : Builtin.List.listTooLong n = false := by
 unfold Builtin.List.listTooLong
 exact decide_eq_false (by omega)
end
section
variable {X : Cx}
noncomputable def Rj : V → List V → Hp → VK → Prop := fun x vs H Q => ∃ l xs y, x = .ref l ∧ vs = [y] ∧ H l = some (.lst xs) ∧ xs.length < sizeLine ∧ Q .non (upd H l (.lst (xs ++ [y])))
theorem ER : MtM X "list.append" Rj := by
 intro pins s σ H x vs v us Q I rx rv h
 obtain ⟨l, xs, y, rfl, rfl, hH, hz, q⟩ := h
 cases rx
 obtain ⟨u, rfl, ru⟩ := rv.one
 obtain ⟨z, its, n, r, hl, e⟩ := I.Zco hH
 refine call_meets F.slot_list_append ⟨_, e, rfl⟩ F.entry_list_append (F.args_list_append_2 _ _) (PySem.list_append l its.toArray n u (by rw [List.size_toArray]; omega)) ⟨e, ?_⟩
 refine ⟨.non, _, I.Zew (its' := its ++ [u]) hH e (by simp) (r.append (.cons ru .nil)) ?_, rfl, q⟩
 rw [List.length_append, List.length_singleton]
 omega
noncomputable def P0 : V → List V → Hp → VK → Prop := fun x vs H Q => ∃ l b xs zs, x = .ref l ∧ vs = [.ref b] ∧ H l = some (.lst xs) ∧ H b = some (.lst zs) ∧ xs.length + zs.length ≤ sizeLine ∧ Q .non (upd H l (.lst (xs ++ zs)))
theorem De : MtM X "list.extend" P0 := by
 intro pins s σ H x vs v us Q I rx rv h
 obtain ⟨l, b, xs, zs, rfl, rfl, hH, hB, hz, q⟩ := h
 cases rx
 obtain ⟨u, rfl, ru⟩ := rv.one
 cases ru
 obtain ⟨z, its, n, r, hl, e⟩ := I.Zco hH
 obtain ⟨z2, its2, n2, r2, hl2, e2⟩ := I.Zco hB
 have hsz : its.toArray.size + its2.toArray.size ≤ sizeLine := by rw [List.size_toArray, List.size_toArray]; omega
 have hlong : ¬ (!its.toArray.isEmpty && Builtin.List.listTooLong (its.toArray.size + its2.toArray.size)) = true := by
  rw [Mh hsz, Bool.and_false]
  exact Bool.false_ne_true
 refine call_meets F.slot_list_extend ⟨_, e, rfl⟩ F.entry_list_extend (F.args_list_extend_2 _ _)
  (AutoSeq1.list_extend_list_list_0 l its.toArray n b its2.toArray n2 hlong (by rw [List.size_toArray]; omega) (by omega)) ⟨e, e2, ?_⟩
 refine ⟨.non, _, I.Zew (its' := its ++ its2) hH e (by simp) (r.append r2) ?_, rfl, q⟩
 rw [List.length_append]
 omega
noncomputable def Zgo : V → List V → Hp → VK → Prop := fun x vs H Q => ∃ l xs y, x = .ref l ∧ vs = [] ∧ H l = some (.lst xs) ∧ xs[xs.length - 1]? = some y ∧ Q y (upd H l (.lst xs.dropLast))
noncomputable def Zeu : V → List V → Hp → VK → Prop := fun x vs H Q => ∃ l xs i k y, x = .ref l ∧ vs = [.int i] ∧ H l = some (.lst xs) ∧ -(2 ^ 63) ≤ i ∧ i < 2 ^ 63 ∧ seqIndex? i xs.length = some k ∧ xs[k]? = some y ∧ Q y (upd H l (.lst (xs.eraseIdx k)))
noncomputable def ZbR : V → List V → Hp → VK → Prop := fun x vs H Q => ∃ l xs, x = .ref l ∧ vs = [] ∧ H l = some (.lst xs) ∧ Q .non (upd H l (.lst xs.reverse))
noncomputable def Zer : V → List V → Hp → VK → Prop := fun x vs H Q => ∃ l xs, x = .ref l ∧ vs = [] ∧ H l = some (.lst xs) ∧ Q .non (upd H l (.lst []))
noncomputable def Zgh : R2 := fun x y H Q => ∃ l b xs zs, x = .ref l ∧ y = .ref b ∧ H l = some (.lst xs) ∧ H b = some (.lst zs) ∧ xs.length + zs.length ≤ sizeLine ∧ ∀ p, H p = none → Q (.ref p) (upd H p (.lst (xs ++ zs)))
noncomputable def Zga : R2 := fun x y H Q => ∃ l k xs, x = .ref l ∧ y = .int k ∧ H l = some (.lst xs) ∧ -(2 ^ 63) ≤ k ∧ k < 2 ^ 63 ∧ xs.length * k.toNat ≤ sizeLine ∧
 ∀ p, H p = none → Q (.ref p) (upd H p (.lst (List.replicate k.toNat xs).flatten))
end
section
variable {prog : Program} {w : World} {A : Around} {E : Value → Shared → Prop} {s : Shared}
set_option maxRecDepth 100000 in
end
section
variable {X : Cx}
end
end L2
namespace L2
open PySem PySem.Spec PyProof.Rows
section
variable {κ : Type} [DecidableEq κ]
noncomputable def YF (kvs : List (κ × V)) (k : κ) : Option V := (kvs.find? fun kv => decide (kv.1 = k)).map (·.2)
noncomputable def putK (kvs : List (κ × V)) (k : κ) (v : V) : List (κ × V) :=
 if (kvs.any fun kv => decide (kv.1 = k)) = true then kvs.map (fun kv => if kv.1 = k then (kv.1, v) else kv) else kvs ++ [(k, v)]
noncomputable def P6 (kvs : List (κ × V)) (k : κ) : List (κ × V) := kvs.filter fun kv => decide (kv.1 ≠ k)
theorem XX {p : κ × V} {r : List (κ × V)} {k : κ} (e : p.1 = k) : YF (p :: r) k = some p.2 := by simp [YF, List.find?_cons, e]
theorem Xw {p : κ × V} {r : List (κ × V)} {k : κ} (e : ¬ p.1 = k) : YF (p :: r) k = YF r k := by simp [YF, List.find?_cons, e]
theorem GX (k : κ) : ∀ kvs : List (κ × V), (kvs.any fun kv => decide (kv.1 = k)) = (YF kvs k).isSome
 | [] => rfl
 | p :: r => by
  rw [List.any_cons]
  by_cases e : p.1 = k
  ·simp only [XX e, decide_eq_true e, Bool.true_or, Option.isSome_some]
  ·rw [Xw e, decide_eq_false e, Bool.false_or]; exact GX k r
theorem Q3 (kvs : List (κ × V)) (k : κ) (v : V) : (putK kvs k v).length ≤ kvs.length + 1 := by
 unfold putK
 split
 ·rw [List.length_map]; omega
 ·rw [List.length_append, List.length_cons, List.length_nil]; omega
theorem Cb.Yq {o : Option V} {u : Option Value} (r : Cb o u) : o.isSome = u.isSome := by
 cases o with
 | none => cases u with
  | none => rfl
  | some _ => exact (show False from r).elim
 | some _ => cases u with
  | none => exact (show False from r).elim
  | some _ => rfl
theorem Cb.getD {o : Option V} {u : Option Value} {d : V} {d' : Value} (r : Cb o u) (rd : RelV d d') : RelV (o.getD d) (u.getD d') := by
 cases o with
 | none => cases u with
  | none => exact rd
  | some _ => exact (show False from r).elim
 | some _ => cases u with
  | none => exact (show False from r).elim
  | some _ => exact r
theorem KV.val {kvs : List (κ × V)} {vs : List (κ × Value)} (r : KV kvs vs) (k : κ) : Cb (YF kvs k) (valueAt vs k) := by
 unfold KV at r
 induction r with
 | nil => exact True.intro
 | @cons p q ps qs h t ih =>
  obtain ⟨h1, h2⟩ := h
  by_cases e : p.1 = k
  ·have e' : q.1 = k := h1.symm.trans e
   have b : valueAt (q :: qs) k = some q.2 := by simp [valueAt, List.find?_cons, e']
   rw [XX e, b]; exact h2
  ·have e' : ¬ q.1 = k := fun z => e (h1.trans z)
   have b : valueAt (q :: qs) k = valueAt qs k := by simp [valueAt, List.find?_cons, e']
   rw [Xw e, b]; exact ih
theorem KV.any {kvs : List (κ × V)} {vs : List (κ × Value)} (r : KV kvs vs) (k : κ) : (kvs.any fun kv => decide (kv.1 = k)) = vs.any fun kv => decide (kv.1 = k) := by
 unfold KV at r
 induction r with
 | nil => rfl
 | cons h t ih => rw [List.any_cons, List.any_cons, ih, h.1]
theorem KV.PM {kvs : List (κ × V)} {vs : List (κ × Value)} (r : KV kvs vs) (k : κ) {y : V} {u : Value} (ry : RelV y u) :
  KV (kvs.map fun kv => if kv.1 = k then (kv.1, y) else kv) (vs.map fun kv => if kv.1 = k then (kv.1, u) else kv) := by
 unfold KV at r ⊢
 induction r with
 | nil => exact .nil
 | @cons p q ps qs h t ih =>
  rw [List.map_cons, List.map_cons]
  refine .cons ?_ ih
  obtain ⟨h1, h2⟩ := h
  by_cases e : p.1 = k
  ·rw [if_pos e, if_pos (h1.symm.trans e)]; exact ⟨h1, ry⟩
  ·rw [if_neg e, if_neg (fun z => e (h1.trans z))]; exact ⟨h1, h2⟩
theorem KV.put {kvs : List (κ × V)} {vs : List (κ × Value)} (r : KV kvs vs) (k : κ) {y : V} {u : Value} (ry : RelV y u) : KV (putK kvs k y) (stored vs k u) := by
 unfold putK stored
 rw [r.any k]
 by_cases e : (vs.any fun kv => decide (kv.1 = k)) = true
 ·rw [if_pos e, if_pos e]; exact r.PM k ry
 ·rw [if_neg e, if_neg e]; exact Paired.snoc r ⟨rfl, ry⟩
theorem KV.keys {kvs : List (κ × V)} {vs : List (κ × Value)} (r : KV kvs vs) : kvs.map (·.1) = vs.map (·.1) := by
 unfold KV at r
 induction r with
 | nil => rfl
 | cons h t ih => rw [List.map_cons, List.map_cons, ih, h.1]
theorem KV.length {kvs : List (κ × V)} {vs : List (κ × Value)} (r : KV kvs vs) : kvs.length = vs.length := Paired.length r
end
theorem Bu {P : Program} {w : World} {k : Key} {u : Value} (r : RelV (kV k) u) : (ZT P w).is k u = true := by
 cases k with
 | inl i => obtain ⟨t, e⟩ := (show ∃ t, u = Value.int i t from r); subst e; exact Ul P w i t
 | inr x => obtain ⟨t, e⟩ := (show ∃ t, u = Value.str x t from r); subst e; exact Uv P w x t
theorem KR {P : Program} {w : World} : ∀ {ks : List Key} {us : List Value}, Vals (ks.map kV) us → ItemsAre (ZT P w) ks us
 | [], _, r => by rw [List.map_nil] at r; cases r; exact .nil
 | k :: ks, _, r => by
  rw [List.map_cons] at r
  cases r with
  | cons h t => exact .cons (Bu h) (KR t)
noncomputable abbrev KT (H : Hp) : List (List Key × V) → List (List Key × Addr × Value) → Prop := Paired fun p q => p.1 = q.1 ∧ H q.2.1 = some (.tup (p.1.map kV)) ∧ RelV p.2 q.2.2
theorem KT.val {H : Hp} {kvs : List (List Key × V)} {xs : List (List Key × Addr × Value)} (r : KT H kvs xs) (k : List Key) : Cb (YF kvs k) ((atKey xs k).map (·.2)) := by
 induction r with
 | nil => exact True.intro
 | @cons p q ps qs h t ih =>
  obtain ⟨h1, _, h2⟩ := h
  by_cases e : p.1 = k
  ·have e' : q.1 = k := h1.symm.trans e
   have b : atKey (q :: qs) k = some q.2 := by simp [atKey, List.find?_cons, e']
   rw [XX e, b]; exact h2
  ·have e' : ¬ q.1 = k := fun z => e (h1.trans z)
   have b : atKey (q :: qs) k = atKey qs k := by simp [atKey, List.find?_cons, e']
   rw [Xw e, b]; exact ih
theorem KT.PM {H : Hp} {kvs : List (List Key × V)} {xs : List (List Key × Addr × Value)} (r : KT H kvs xs) (k : List Key) {y : V} {u : Value} (ry : RelV y u) :
  KT H (kvs.map fun kv => if kv.1 = k then (kv.1, y) else kv) (xs.map (putAt k u)) := by
 induction r with
 | nil => exact .nil
 | @cons p q ps qs h t ih =>
  rw [List.map_cons, List.map_cons]
  refine .cons ?_ ih
  obtain ⟨h1, h2, h3⟩ := h
  unfold putAt
  by_cases e : p.1 = k
  ·rw [if_pos e, if_pos (h1.symm.trans e)]; exact ⟨h1, h2, ry⟩
  ·rw [if_neg e, if_neg (fun z => e (h1.trans z))]; exact ⟨h1, h2, h3⟩
theorem KT.put {H : Hp} {kvs : List (List Key × V)} {xs : List (List Key × Addr × Value)} (r : KT H kvs xs) (k : List Key) {b : Addr} {y : V} {u : Value} (hb : H b = some (.tup (k.map kV))) (ry : RelV y u) :
  KT H (putK kvs k y) (storedH xs k b u) := by
 have e : (kvs.any fun kv => decide (kv.1 = k)) = (atKey xs k).isSome := by
  rw [GX, (r.val k).Yq, Option.isSome_map]
 unfold putK storedH
 rw [e]
 by_cases q : (atKey xs k).isSome = true
 ·rw [if_pos q, if_pos q]; exact r.PM k ry
 ·rw [if_neg q, if_neg q]; exact Paired.snoc r ⟨rfl, hb, ry⟩
theorem KT.keeps {H H' : Hp} {kvs : List (List Key × V)} {xs : List (List Key × Addr × Value)} (r : KT H kvs xs) (ht : ∀ b ys, H b = some (.tup ys) → H' b = some (.tup ys)) : KT H' kvs xs :=
 Paired.Si r fun _ _ z => ⟨z.1, ht _ _ z.2.1, z.2.2⟩
section
variable {P : Program} {w : World} {H : Hp} {h : Heap} {a : Addr}
theorem TZ {u : HO} (ok : HOk P w H h) (e : Rd H a u) : QB P w H h a u := e.ok ok
theorem Dh {kvs : List (Key × V)} (ok : HOk P w H h) (e : Rd H a (.dK kvs)) : kvs.length ≤ sizeLine ∧ (a == sysModules) = false ∧ ∃ vs, KV kvs vs ∧ h.DictOf (ZT P w) a vs :=
 show QB P w H h a (.dK kvs) from TZ ok e
theorem ZaX {kvs : List (Key × V)} (ok : HOk P w H h) (e : H a = some (.dK kvs)) : kvs.length ≤ sizeLine ∧ (a == sysModules) = false ∧ ∃ vs, KV kvs vs ∧ h.DictOf (ZT P w) a vs := Dh ok (.inl e)
theorem GI {ks : List Key} (ok : HOk P w H h) (e : H a = some (.tup (ks.map kV))) : (tupleKind (ZT P w)).is h ks a := by
 obtain ⟨_, its, r, o, h1, h2, n, h3⟩ := (show QB P w H h a (.tup (ks.map kV)) from ok a _ e)
 exact ⟨o, its.toArray, n, h1, h2, h3, by simpa using KR r⟩
theorem HE {kvs : List (List Key × V)} (ok : HOk P w H h) (e : Rd H a (.dT kvs)) : kvs.length ≤ sizeLine ∧ (a == sysModules) = false ∧
  ∃ xs, KT H kvs xs ∧ h.DictOfH (tupleKind (ZT P w)) a xs := by
 obtain ⟨z, y, xs, r, o, es, ep, h1, h2, h3, h4, h5⟩ := (show QB P w H h a (.dT kvs) from TZ ok e)
 refine ⟨z, y, xs, r, o, es, ep, h1, h2, h3, h4, fun x hx => ?_, h5⟩
 have all : ∀ {l : List (List Key × V)} {m : List (List Key × Addr × Value)}, KT H l m → ∀ x ∈ m, (tupleKind (ZT P w)).is h x.1 x.2.1 := by
  intro l m q
  induction q with
  | nil => intro x hx; exact nomatch hx
  | @cons p q ps qs hq t ih =>
   intro x hx
   rcases List.mem_cons.mp hx with e | hx
   ·subst e
    exact GI ok (by rw [← hq.1]; exact hq.2.1)
   ·exact ih x hx
 exact all r x hx
theorem Zdi {kvs : List (List Key × V)} (ok : HOk P w H h) (e : H a = some (.dT kvs)) : kvs.length ≤ sizeLine ∧ (a == sysModules) = false ∧
  ∃ xs, KT H kvs xs ∧ h.DictOfH (tupleKind (ZT P w)) a xs := HE ok (.inl e)
end
noncomputable def WH (H : Hp) (a : Addr) (y : V) (r : Option V) : Prop :=
 (∃ kvs k, Rd H a (.dK kvs) ∧ y = kV k ∧ r = YF kvs k) ∨ ∃ kvs k b, Rd H a (.dT kvs) ∧ y = .ref b ∧ H b = some (.tup (k.map kV)) ∧ r = YF kvs k
noncomputable def Nn (H : Hp) (a : Addr) (y v : V) (H' : Hp) : Prop :=
 (∃ kvs k, H a = some (.dK kvs) ∧ y = kV k ∧ kvs.length < sizeLine ∧ H' = upd H a (.dK (putK kvs k v))) ∨
 ∃ kvs k b, H a = some (.dT kvs) ∧ y = .ref b ∧ H b = some (.tup (k.map kV)) ∧ kvs.length < sizeLine ∧ H' = upd H a (.dT (putK kvs k v))
theorem WH.k {H : Hp} {a : Addr} {kvs : List (Key × V)} {k : Key} (e : H a = some (.dK kvs)) : WH H a (kV k) (YF kvs k) := .inl ⟨kvs, k, .inl e, rfl, rfl⟩
theorem WH.t {H : Hp} {a b : Addr} {kvs : List (List Key × V)} {k : List Key} (e : H a = some (.dT kvs)) (eb : H b = some (.tup (k.map kV))) : WH H a (.ref b) (YF kvs k) := .inr ⟨kvs, k, b, .inl e, rfl, eb, rfl⟩
theorem Nn.k {H : Hp} {a : Addr} {kvs : List (Key × V)} {k : Key} {v : V} (e : H a = some (.dK kvs)) (hl : kvs.length < sizeLine) : Nn H a (kV k) v (upd H a (.dK (putK kvs k v))) := .inl ⟨kvs, k, e, rfl, hl, rfl⟩
theorem Nn.t {H : Hp} {a b : Addr} {kvs : List (List Key × V)} {k : List Key} {v : V} (e : H a = some (.dT kvs)) (eb : H b = some (.tup (k.map kV))) (hl : kvs.length < sizeLine) :
  Nn H a (.ref b) v (upd H a (.dT (putK kvs k v))) := .inr ⟨kvs, k, b, e, rfl, eb, hl, rfl⟩
section
variable {X : Cx} {pins : List (Addr × Obj)} {σ : St} {H : Hp} {s : Shared} {a : Addr} {y v : V} {u r : Value} {o : Option V} {A : Around} {E : Value → Shared → Prop}
theorem Inv.big (I : Inv X pins σ H s) : sysModules < s.heap.objs.size := by
 have h : mainGlobals < s.heap.objs.size := (I.mod.glob.keeps I.bk).lt
 exact Nat.lt_trans (by decide) h
theorem CH {Q : Value → Shared → Prop} (hu : A.units + 1 < cLine) (I : Inv X pins σ H s) (g : WH H a y (some v)) (ry : RelV y u) (h : ∀ w' s', Inv X pins σ H s' → RelV v w' → Q w' s') :
  wpAny (model X.prog X.w) A (getItem (.ref a) u) Q E s := by
 rcases g with ⟨kvs, k, e, ey, l⟩ | ⟨kvs, k, b, e, ey, eb, l⟩
 ·subst ey
  obtain ⟨z, hd, vs, rel, dd⟩ := Dh I.hok e
  obtain ⟨w', hw, rw'⟩ := Cb.some_of (v := v) (o := valueAt vs k) (by rw [l]; exact rel.val k)
  exact wpAny_getItem_of (Bu ry) dd.mapOf hw (h w' _ (I.tok _) rw')
 ·subst ey
  cases (show u = Value.ref b from ry)
  obtain ⟨z, hd, xs, rel, dd⟩ := HE I.hok e
  obtain ⟨w', hw, rw'⟩ := Cb.some_of (v := v) (o := (atKey xs k).map (·.2)) (by rw [l]; exact rel.val k)
  obtain ⟨p, hp, hp2⟩ := Option.map_eq_some_iff.mp hw
  refine wpAny_getItem_heap (tupleKind_room_in1 hu) (GI I.hok eb) dd hp ?_
  rw [hp2]
  exact h w' _ (I.tok _) rw'
theorem Pj {Q : Value → Shared → Prop} (hu : A.units + 1 < cLine) (I : Inv X pins σ H s) (g : WH H a y o) (ry : RelV y u) (h : ∀ s', Inv X pins σ H s' → Q (.bool (!o.isSome)) s') :
  wpAny (model X.prog X.w) A (compareOp .NotIn u (.ref a)) Q E s := by
 rcases g with ⟨kvs, k, e, ey, l⟩ | ⟨kvs, k, b, e, ey, eb, l⟩
 ·subst ey
  obtain ⟨z, hd, vs, rel, dd⟩ := Dh I.hok e
  refine wpAny_notIn_of (Bu ry) hd dd.mapOf ?_
  rw [← (rel.val k).Yq, ← l]
  exact h _ (I.tok _)
 ·subst ey
  cases (show u = Value.ref b from ry)
  obtain ⟨z, hd, xs, rel, dd⟩ := HE I.hok e
  refine wpAny_notIn_heap (tupleKind_room_in1 hu) (GI I.hok eb) hd dd ?_
  have q := (rel.val k).Yq
  rw [Option.isSome_map] at q
  rw [← q, ← l]
  exact h _ (I.tok _)
theorem W8 {h' : Heap} {t' : Nat} {ob : HO} (I : Inv X pins σ H s) (mu : Mut (H a)) (hs : Heap.SameBut a s.heap h') (he : ∃ q, h'.get? a = some q) (new : QB X.prog X.w (upd H a ob) h' a ob) :
  Inv X pins σ (upd H a ob) { s with heap := h', toks := t' } :=
 I.write (x := a) (e := a) mu (.inl rfl) (fun b q hb z => (hs.2 b hb).trans z) he new
theorem C1 {P : Program} {w : World} {H' : Hp} {h' : Heap} {kvs : List (Key × V)} {vs : List (Key × Value)} (z : kvs.length ≤ sizeLine) (hd : (a == sysModules) = false) (rel : KV kvs vs) (dd : h'.DictOf (ZT P w) a vs) :
  QB P w H' h' a (.dK kvs) := ⟨z, hd, vs, rel, dd⟩
theorem C3 {H' : Hp} {Q : Unit → Shared → Prop} (hu : A.units + 1 < cLine) (I : Inv X pins σ H s) (g : Nn H a y v H') (ry : RelV y u) (rv : RelV v r) (h : ∀ s', Inv X pins σ H' s' → Q () s') :
  wpAny (model X.prog X.w) A (setItem (.ref a) u r) Q E s := by
 rcases g with ⟨kvs, k, e, ey, l, eH⟩ | ⟨kvs, k, b, e, ey, eb, l, eH⟩
 ·subst ey eH
  obtain ⟨z, hd, vs, rel, dd⟩ := ZaX I.hok e
  have hz : vs.length ≤ sizeLine := by rw [← rel.length]; exact z
  have hl : (putK kvs k v).length ≤ sizeLine := by have := Q3 kvs k v; omega
  refine wpAny_setItem_pairs (hsz := hz) (Bu ry) dd fun h' dd' hs => h _ ?_
  have he : ∃ q, h'.get? a = some q := let ⟨q, _, _, hq, _⟩ := dd'; ⟨q, hq⟩
  exact W8 I (by rw [e]; exact True.intro) hs he (C1 hl hd (rel.put k rv) dd')
 ·subst ey eH
  cases (show u = Value.ref b from ry)
  obtain ⟨z, hd, xs, rel, dd⟩ := Zdi I.hok e
  have hz : xs.length ≤ sizeLine := by rw [← Paired.length rel]; exact z
  have hl : (putK kvs k v).length ≤ sizeLine := by have := Q3 kvs k v; omega
  refine wpAny_setItem_heap (hsz := hz) (tupleKind_room_in1 hu) (GI I.hok eb) dd fun h' dd' hs => h _ ?_
  obtain ⟨q, es, ep, hq, h2, h3, h4, _, h5⟩ := dd'
  refine W8 I (by rw [e]; exact True.intro) hs ⟨q, hq⟩ ⟨hl, hd, _, (rel.put k eb rv).keeps fun c ys ec => ?_, q, es, ep, hq, h2, h3, h4, h5⟩
  rw [ZM (Zdc ec e (fun z => nomatch z))]
  exact ec
end
section
variable {X : Cx} {pins : List (Addr × Obj)} {σ : St} {H : Hp} {s : Shared} {a : Addr} {kvs : List (Key × V)} {k : Key} {u : Value} {A : Around} {E : Value → Shared → Prop}
theorem ZcR {Q : Value → Shared → Prop} (I : Inv X pins σ H s) (e : Rd H a (.dK kvs)) (h : ∀ t s', Inv X pins σ H s' → Q (.int kvs.length t) s') : wpAny (model X.prog X.w) A (call (.builtin "len") [.ref a]) Q E s := by
 obtain ⟨z, hd, vs, rel, dd⟩ := Dh I.hok e
 refine call_len_dict hd dd (by rw [← rel.length]; rw [sizeLine_eq] at z; omega) ?_
 rw [← rel.length]
 exact h _ _ (I.tok _)
end
noncomputable def ZbY (i : Expr) : Prop := ∀ ov iv, subscripted i false ov iv = operate [ov, iv] (getItem ov iv)
theorem OF {prog : Program} {w : World} {A : Around} {E : Value → Shared → Prop} {s : Shared} {env : Env} {value slice : Expr} {pos : Pos} {T id : String} {Q : Value → Shared → Prop}
  (hl : typeLookup (.type T) "__getitem__" = pure (some (.builtin id))) (hs : ZbY slice)
  (h : wpAny (model prog w) A (eval value env) (fun o s₁ => wpAny (model prog w) A (eval slice env) (fun i s₂ => s₂.TypeIs o T ∧ wpAny (model prog w) A (getItem o i) Q E s₂) E s₁) E s) :
  wpAny (model prog w) A (eval (.Subscript value slice pos) env) Q E s := by
 refine Subscript_ (wpAny_mono h (fun o s₁ h₁ => wpAny_mono h₁ (fun i s₂ h₂ => ?_) fun _ _ x => x) fun _ _ x => x)
 obtain ⟨hT, h₂⟩ := h₂
 unfold subscriptTail
 refine wpAny_bind ?_
 rw [getitemInPython_of_ne hT.not_modules]
 refine wpAny_bind (wpAny_specialOf hT hl ?_)
 have fin : wpAny (model prog w) A (subscripted slice false o i) (fun r s₃ => wpAny (model prog w) A (letTemporaryGo value o r >>= fun _ => pure r) Q E s₃) E s₂ := by
  rw [hs o i]
  exact wpAny_operating (wpAny_mono h₂ (fun r s₃ h₃ => wpAny_bind (wpAny_letTemporaryGo (wpAny_pure h₃))) fun _ _ x => x)
 first
  | exact wpAny_pure (wpAny_bind fin)
  | exact wpAny_bind (wpAny_pure (wpAny_bind fin))
  | exact wpAny_bind fin
theorem W4 {X : Cx} {pins : List (Addr × Obj)} {σ : St} {H : Hp} {s : Shared} {a : Addr} {y : V} {o : Option V} (I : Inv X pins σ H s) (g : WH H a y o) : s.TypeIs (.ref a) "dict" := by
 rcases g with ⟨kvs, k, e, _, _⟩ | ⟨kvs, k, b, e, _, _, _⟩
 ·obtain ⟨_, _, vs, _, dd⟩ := Dh I.hok e
  exact dd.typeIs
 ·obtain ⟨_, _, xs, _, dd⟩ := HE I.hok e
  exact dd.typeIs
noncomputable def Zcz (td ty : TE) : TE := fun σ H Q => td σ H fun x H1 => ty σ H1 fun y H2 => ∃ a v, x = .ref a ∧ WH H2 a y (some v) ∧ Q v H2
noncomputable def Zgf (ty td : TE) : TE := fun σ H Q => ty σ H fun y H1 => td σ H1 fun x H2 => ∃ a o, x = .ref a ∧ WH H2 a y o ∧ Q (.bl o.isSome) H2
noncomputable def Zde (ty td : TE) : TE := fun σ H Q => ty σ H fun y H1 => td σ H1 fun x H2 => ∃ a o, x = .ref a ∧ WH H2 a y o ∧ Q (.bl (!o.isSome)) H2
noncomputable def Zdu (td ty tv : TE) : TS := fun D σ H => tv σ H fun v H1 => td σ H1 fun x H2 => ty σ H2 fun y H3 => ∃ a H4, x = .ref a ∧ Nn H3 a y v H4 ∧ D.nx σ H4
noncomputable def ZfK (td ty tv : TE) (rd : V → V → Hp → VK → Prop) : TS := fun D σ H => td σ H fun x H1 => ty σ H1 fun y H2 => ∃ a v, x = .ref a ∧ WH H2 a y (some v) ∧
 tv σ H2 fun y2 H3 => rd v y2 H3 fun z H4 => ∃ H5, Nn H4 a y z H5 ∧ D.nx σ H5
noncomputable def ZfJ (td ty : TE) : TS := fun D σ H => td σ H fun x H1 => ty σ H1 fun y H2 => ∃ a kvs k, x = .ref a ∧ H2 a = some (.dK kvs) ∧ y = kV k ∧ (YF kvs k).isSome = true ∧ D.nx σ (upd H2 a (.dK (P6 kvs k)))
section
variable {X : Cx} {o i e value : Expr} {pos pos' tpos : Pos} {td ty tv : TE}
theorem Ec (hu : X.A.units + 1 < cLine) (ho : PE X o td) (hi : PE X i ty) (hs : ZbY i) : PE X (.Subscript o i pos) (Zcz td ty) := by
 intro pins s σ H Q I h
 refine OF PySem.F.slot_dict_getitem.lookup hs (thn (ho pins s σ H _ I h) fun u s1 ⟨x, H1, I1, rx, q1⟩ => thn (hi pins s1 σ H1 _ I1 q1) fun iv s2 ⟨y, H2, I2, ry, a, v, ex, g, q2⟩ => ?_)
 subst ex
 obtain rfl : u = Value.ref a := rx
 exact ⟨W4 I2 g, CH hu I2 g ry fun w' s3 I3 rw' => ⟨v, H2, I3, rw', q2⟩⟩
theorem Oy (hu : X.A.units + 1 < cLine) (ho : PE X o td) (hi : PE X i ty) (hv : PE X value tv) (hs : swapsWith value (some (.Subscript o i pos')) pos.line X.env = pure false) :
  PS X (.Assign [.Subscript o i pos'] value pos) (Zdu td ty tv) := by
 intro pins s σ H D I h
 refine wpAny_Assign_Subscript (thn (hv pins s σ H _ I h) fun r s1 ⟨v, H1, I1, rv, q1⟩ => thn (ho pins s1 σ H1 _ I1 q1) fun u s2 ⟨x, H2, I2, rx, q2⟩ => thn (hi pins s2 σ H2 _ I2 q2) fun iv s3 ⟨y, H3, I3, ry, a, H4, ex, g, q3⟩ => ?_) hs
 subst ex
 obtain rfl : u = Value.ref a := rx
 exact C3 hu I3 g ry rv fun s4 I4 => ⟨σ, H4, I4, q3⟩
end
theorem Hn {P : Program} {w : World} {H : Hp} (h : Heap) (hb : sysModules < h.objs.size) : QB P w H (h.push { cls := .type "dict", data := .dict #[] }) h.objs.size (.dK []) :=
 ⟨Nat.zero_le _, beq_eq_false_iff_ne.mpr (Ne.symm (Nat.ne_of_lt hb)), [], .nil, Heap.DictOf.new h⟩
noncomputable def Zeo : TE := fun _ H Q => ∀ p, H p = none → Q (.ref p) (upd H p (.dK []))
noncomputable def ZdN : TE := fun _ H Q => ∀ p, H p = none → Q (.ref p) (upd H p (.dT []))
section
variable {X : Cx} {pos : Pos}
end
noncomputable def GF : List (TE × TE) → St → Hp → (List (V × V) → Hp → Prop) → Prop
 | [], _, H, Q => Q [] H
 | (tk, tv) :: r, σ, H, Q => tk σ H fun x H1 => tv σ H1 fun y H2 => GF r σ H2 fun ps H3 => Q ((x, y) :: ps) H3
noncomputable abbrev VV : List (V × V) → List (Value × Value) → Prop := Paired fun p q => RelV p.1 q.1 ∧ RelV p.2 q.2
noncomputable def PPs (X : Cx) (pos : Pos) (keys : List (Option Expr)) (values : List Expr) (trs : List (TE × TE)) : Prop :=
 ∀ (pins : List (Addr × Obj)) (s : Shared) (σ : St) (H : Hp) (Q : List (V × V) → Hp → Prop), Inv X pins σ H s → GF trs σ H Q →
  wpAny (model X.prog X.w) X.A (evalPairs (pairTrees keys values X.env pos)) (fun vs s' => ∃ ps H', Inv X pins σ H' s' ∧ VV ps vs ∧ Q ps H') X.xe s
theorem RW {X : Cx} {pos : Pos} : PPs X pos [] [] [] := fun pins s σ H Q I h => pairTrees_nil_walk ⟨[], H, I, .nil, h⟩
theorem Ng {X : Cx} {pos : Pos} {k v : Expr} {ks : List (Option Expr)} {vs : List Expr} {tk tv : TE} {trs : List (TE × TE)} (hk : PE X k tk) (hv : PE X v tv) (hr : PPs X pos ks vs trs) :
  PPs X pos (some k :: ks) (v :: vs) ((tk, tv) :: trs) := fun pins s σ H Q I h =>
 pairTrees_cons_walk (thn (hk pins s σ H _ I h) fun u s1 ⟨x, H1, I1, rx, q1⟩ => thn (hv pins s1 σ H1 _ I1 q1) fun w2 s2 ⟨y, H2, I2, ry, q2⟩ =>
  thn (hr pins s2 σ H2 _ I2 q2) fun ws s3 ⟨ps, H3, I3, rel, q3⟩ => ⟨(x, y) :: ps, H3, I3, .cons ⟨rx, ry⟩ rel, q3⟩)
noncomputable def YD (kvs more : List (Key × V)) : List (Key × V) := more.foldl (fun acc kv => putK acc kv.1 kv.2) kvs
theorem KV.merge : ∀ {more : List (Key × V)} {rs : List (Key × Value)} {kvs : List (Key × V)} {vs : List (Key × Value)}, KV more rs → KV kvs vs → KV (YD kvs more) (merged vs rs) := by
 intro more rs kvs vs r
 unfold KV at r
 induction r generalizing kvs vs with
 | nil => intro q; exact q
 | @cons p q ps qs h t ih =>
  intro r0
  have e : KV (putK kvs p.1 p.2) (stored vs q.1 q.2) := by
   have := r0.put p.1 h.2
   rw [← h.1]; exact this
  exact ih e
theorem Vi : ∀ (more kvs : List (Key × V)), (YD kvs more).length ≤ kvs.length + more.length
 | [], kvs => by show kvs.length ≤ kvs.length + 0; omega
 | p :: r, kvs => by
  have h1 := Vi r (putK kvs p.1 p.2)
  have h2 := Q3 kvs p.1 p.2
  show (YD (putK kvs p.1 p.2) r).length ≤ _
  rw [List.length_cons]; omega
theorem Xb {P : Program} {w : World} : ∀ {kvs : List (Key × V)} {ws : List (Value × Value)}, VV (kvs.map fun kv => (kV kv.1, kv.2)) ws → ∃ rs, Carries (ZT P w) ws rs ∧ KV kvs rs
 | [], _, r => by rw [List.map_nil] at r; cases r; exact ⟨[], True.intro, .nil⟩
 | p :: kvs, _, r => by
  rw [List.map_cons] at r
  cases r with
  | @cons a b as bs h t =>
   obtain ⟨rs, c, q⟩ := Xb (P := P) (w := w) t
   obtain ⟨b1, b2⟩ := b
   exact ⟨(p.1, b2) :: rs, ⟨Bu h.1, rfl, c⟩, .cons ⟨rfl, h.2⟩ q⟩
noncomputable def Zdd (trs : List (TE × TE)) : TE := fun σ H Q => ∀ p, H p = none → GF trs σ (upd H p (.dK [])) fun ps H2 => H2 p = some (.dK []) ∧ ∃ kvs : List (Key × V), ps = kvs.map (fun kv => (kV kv.1, kv.2)) ∧ kvs.length ≤ 15 ∧ Q (.ref p) (upd H2 p (.dK (YD [] kvs)))
theorem RJ {X : Cx} {pos : Pos} {keys : List (Option Expr)} {values : List Expr} {trs : List (TE × TE)} (h : PPs X pos keys values trs) (hall : keys.all (·.isSome) = true) (hl : keys.length = values.length) (h0 : keys ≠ [])
  (h15 : keys.length ≤ 15) : PE X (.Dict keys values pos) (Zdd trs) := by
 intro pins s σ H Q I q
 have hn := I.hok.fresh (Nat.le_refl s.heap.objs.size)
 have I1 := I.laid (a := s.heap.objs.size) (o := .dK []) (h' := s.heap.push { cls := .type "dict", data := .dict #[] }) (t' := s.toks) (fun _ _ q => Heap.get?_push_of_some _ q) (Nat.le_refl _) (Hn s.heap I.big)
 refine wpAny_Dict_walk (knd := ZT X.prog X.w) hall hl h0 h15 (thn (h pins _ σ _ _ I1 (q _ hn)) fun ws s2 ⟨ps, H2, I2, rel, e, kvs, ep, lk, q2⟩ => ?_)
 subst ep
 obtain ⟨rs, c, rk⟩ := Xb (P := X.prog) (w := X.w) rel
 obtain ⟨z, hd, vs0, r0, dd⟩ := ZaX I2.hok e
 cases r0
 refine ⟨rs, c, dd, fun h' dd' hs => ⟨.ref s.heap.objs.size, _, ?_, rfl, q2⟩⟩
 have hz : (YD [] kvs).length ≤ sizeLine := by
  have h1 := Vi kvs []
  rw [List.length_nil] at h1
  rw [sizeLine_eq]; omega
 have he : ∃ q, h'.get? s.heap.objs.size = some q := let ⟨q, _, _, hq, _⟩ := dd'; ⟨q, hq⟩
 exact W8 I2 (by rw [e]; exact True.intro) hs he (C1 hz hd (rk.merge .nil) dd')
structure M1 (X : Cx) (o : Expr) (m : Str) (apos : Pos) (e : Expr) (cpos : Pos) : Prop where
 base : attributeBase o m X.env (eval o X.env) = eval o X.env
 few : ((backTo cpos (starEach [e] X.env)).all (fun x => !x.1) && (backToKw cpos (keywordEach [] X.env)).all (fun x => x.1.isSome)
  && decide (([e] : List Expr).length + ([] : List Keyword).length + (if ([] : List Keyword).isEmpty then 0 else 1) < 30)) = true
 line : (apos.endLine == cpos.line) = true
 trees : backTo cpos (starEach [e] X.env) = [(false, eval e X.env)]
structure M2 (X : Cx) (o : Expr) (m : Str) (apos : Pos) (e f : Expr) (cpos : Pos) : Prop where
 base : attributeBase o m X.env (eval o X.env) = eval o X.env
 few : ((backTo cpos (starEach [e, f] X.env)).all (fun x => !x.1) && (backToKw cpos (keywordEach [] X.env)).all (fun x => x.1.isSome)
  && decide (([e, f] : List Expr).length + ([] : List Keyword).length + (if ([] : List Keyword).isEmpty then 0 else 1) < 30)) = true
 line : (apos.endLine == cpos.line) = true
 trees : backTo cpos (starEach [e, f] X.env) = [(false, eval e X.env), (false, eval f X.env)]
noncomputable def IsD (H : Hp) (a : Addr) : Prop := (∃ kvs, Rd H a (.dK kvs)) ∨ ∃ kvs, Rd H a (.dT kvs)
section
variable {X : Cx} {pins : List (Addr × Obj)} {σ : St} {H : Hp} {s : Shared} {a : Addr} {y d : V} {u r : Value} {o : Option V} {A : Around} {E : Value → Shared → Prop}
end
noncomputable def Zec (td ty : TE) : TE := fun σ H Q => td σ H fun x H1 => ∃ a, x = .ref a ∧ IsD H1 a ∧ ty σ H1 fun y H2 => ∃ o, WH H2 a y o ∧ Q (o.getD .non) H2
noncomputable def Zd1 (td ty tx : TE) : TE := fun σ H Q => td σ H fun x H1 => ∃ a, x = .ref a ∧ IsD H1 a ∧ ty σ H1 fun y H2 => tx σ H2 fun z H3 => ∃ o, WH H3 a y o ∧ Q (o.getD z) H3
noncomputable def ZdP (td ty : TE) : TE := fun σ H Q => td σ H fun x H1 => ∃ a, x = .ref a ∧ IsD H1 a ∧ ty σ H1 fun y H2 => ∃ kvs k v, H2 a = some (.dK kvs) ∧ y = kV k ∧ YF kvs k = some v ∧ Q v (upd H2 a (.dK (P6 kvs k)))
noncomputable def Zen (td ty tx : TE) : TE := fun σ H Q => td σ H fun x H1 => ∃ a, x = .ref a ∧ IsD H1 a ∧ ty σ H1 fun y H2 => tx σ H2 fun z H3 => ∃ kvs k, H3 a = some (.dK kvs) ∧ y = kV k ∧
 (∀ v, YF kvs k = some v → Q v (upd H3 a (.dK (P6 kvs k)))) ∧ (YF kvs k = none → Q z H3)
section
variable {X : Cx} {o e f : Expr} {apos cpos : Pos} {td ty tx : TE}
end
section
variable {X : Cx} {pins : List (Addr × Obj)} {σ : St} {H : Hp} {s : Shared} {a : Addr} {kvs : List (Key × V)} {A : Around} {E : Value → Shared → Prop}
end
section
variable {X : Cx} {pins : List (Addr × Obj)} {σ : St} {H : Hp} {s : Shared} {a : Addr} {y : V} {u : Value} {A : Around} {E : Value → Shared → Prop}
end
end L2
namespace Att
open PySem PySem.W PySem.Calls PyProof.Rows
theorem Yh {P : Params} {h : Heap} : ∀ (ns : List Int) (vs : List Value), WellAll P h vs (ns.map WData.int) → IntsAre vs ns := by
 intro ns
 induction ns with
 | nil =>
  intro vs w
  rw [List.map_nil] at w
  cases w
  exact .nil
 | cons n ns ih =>
  intro vs w
  rw [List.map_cons] at w
  cases w with
  | cons a b =>
   cases a
   exact .cons _ _ (ih _ b)
theorem Et {l : OpenLaw} {n : Nat} (hn : l.most = some n) {P : Params} {h : Heap} {args : List WData} {vals : List Value}
  (hpre : l.row.toRowW.claim.pre args = true) (hwl : WellAll P h vals args) :
  ∃ a vs ns, vals = [Value.ref a] ∧ args = [WData.list (ns.map WData.int)] ∧ h.get? a = some { cls := .type "list", data := .seq vs.toArray } ∧ IntsAre vs ns ∧ ns.length ≤ n := by
 have hsh : WShape.hasAll [] args [.list .int] = true := (pre_splitW hpre).1
 have hc : l.pre.holds [] { args := args } = true := (pre_splitW hpre).2
 obtain ⟨d, r, rfl, h1, h2⟩ := hasAllW_cons hsh
 obtain rfl := hasAllW_nil h2
 obtain ⟨xs, rfl, h3⟩ := hasW_list h1
 obtain ⟨ns, rfl⟩ := items_int h3
 have hlen : ns.length ≤ n := by
  unfold OpenLaw.pre at hc
  have h4 : (WTm.not (.lt (.lit (.int (n : Int))) (.len (.arg 0)))).holds [] { args := [.list (ns.map .int)] } = true := by
   have h4 := (holds_andW hc).1
   rw [hn] at h4
   exact h4
  have h5 := condW_of h4 (w_not (w_lt w_lit (w_len_list (w_arg rfl))))
  rw [List.length_map] at h5
  refine Nat.le_of_not_lt fun q => ?_
  have q' : (n : Int) < ((ns.length : Nat) : Int) := by omega
  first
   | (rw [decide_eq_true q'] at h5; exact absurd h5 (by decide))
   | (simp at h5; omega)
 cases hwl with
 | cons w1 w2 =>
  cases w2
  cases w1 with
  | list ho hall => exact ⟨_, _, ns, rfl, rfl, ho, Yh ns _ hall, hlen⟩
theorem Dz (l : OpenLaw) (args : List WData) : l.row.toRowW.claim.post args (.bool true) args = true :=
 postW_of (r := l.row.toRowW) (X := (true == true))
  (show WShape.has [] (.bool true) .bool = true by first | rfl | decide | simp [WShape.has, WShape.arms, WShape.armsAll])
  (show (WTm.eq .res (.lit (.bool true))).value [] { args := args, res := some (.bool true), after := args } = some (.bool (true == true)) from w_eq_bool (w_res rfl) w_lit) rfl
theorem Ua {l : OpenLaw} {n : Nat} {q : Program} {loose : List Str} {XP : (Str → Option Value) → Heap → Prop} {YP : World → Heap → Prop} {d : DefRec}
  (hn : l.most = some n) (hdf : d.params.defaults = [])
  (call : ∀ (w : World) (s₀ s₁ : Shared) (mg mb : Str → Option Value) (fa : Addr) (o : Obj) (pm cd doc : Value) (a : Addr) (vs : List Value) (ns : List Int),
   Ground q loose [] XP w s₀ mg mb s₁.heap → YP w s₁.heap →
   s₁.heap.get? fa = some o → o.data = .func (docDef d.name d.params d.body d.scope pm cd doc) → s₁.heap.CodeRec cd d.name → mg d.name = some (.ref fa) →
   s₁.heap.get? a = some { cls := .type "list", data := .seq vs.toArray } → IntsAre vs ns → ns.length ≤ n → s₁.gens = #[] →
   codeAny (model l.prog w) callerA (.call (.ref fa) ⟨[.ref a], []⟩) (fun r s' => r = .ok (.ret (.bool true)) ∧ OldK s₁.heap s'.heap ∧ s'.os = s₁.os ∧ AllBare s'.gens) s₁) :
  WalkO q loose XP YP l.row.toRowW d [] (fun f vs => PySem.call f vs) := by
 intro w s₀ s₁ mg mb G Y fa o pm cd doc dV kV ho hd hcd hD hmg hg args vals as hpre hlay hrd hwl hlo
 obtain rfl : dV = .none := Dflts.none hD hdf
 obtain rfl : kV = .none := Dflts.noKw hD
 obtain ⟨a, vs, ns, rfl, rfl, hobj, hints, hlen⟩ := Et hn hpre hwl
 refine enter_call (codeAny_mono (call w s₀ s₁ mg mb fa o pm cd doc a vs ns G Y ho (fd_plain hd) hcd hmg hobj hints hlen hg) fun r s' hq => ?_)
 obtain ⟨rfl, h2, h3, h4⟩ := hq
 exact ⟨.inl ⟨.bool true, .bool true, [], rfl, fun _ => rfl, .bool true, Dz l _, fun _ => ⟨List.Pairwise.nil, fun _ hm => (nomatch hm)⟩⟩, h2, h3, h4⟩
section
variable {prog : Program} {w : World} {A : Around} {E : Value → Shared → Prop} {s : Shared} {K : Frag}
noncomputable def Zd0 (h : Heap) : Heap := { h with objs := #[] }
noncomputable def ledger (h : Heap) (L d : Addr) : List (Addr × Obj) := (List.range h.objs.size).filterMap fun a => if a = L ∨ a = d then none else (h.get? a).map fun o => (a, o)
end
end Att
namespace L2
open PySem PySem.Spec PyProof.Rows
theorem Wj : ∀ {vs : List Value} {ns : List Int}, IntsAre vs ns → Vals (ns.map V.int) vs
 | _, _, .nil => .nil
 | _, _, .cons n t h => .cons ⟨t, rfl⟩ (Wj h)
noncomputable def Zb0 (H : Hp) : Prop := ∀ b, H b = none ∨ ∃ o xs, H b = some (.frz o (.lst xs))
theorem MI {P : Program} {w : World} {K : PySem.W.Frag} {mg mb : Str → Option Value} {CX : CXT} {k : Nat} {fa a : Addr} {fd : FuncData} {x : Str} {sp : Sp} {s₁ : Shared} {vs : List Value} {ns : List Int}
  (KX : K.In s₁.heap) (hns : s₁.heap.Ns mainGlobals mg) (hb : s₁.heap.Ns builtinsNs mb) (hbb : ∀ x : Str, x ≠ "__name__" → mb x = bootBuiltins x) (hlim : s₁.heap.NoLimit) (hg : s₁.gens = #[])
  (ha : s₁.heap.get? a = some { cls := .type "list", data := .seq vs.toArray }) (hi : IntsAre vs ns) (hl : ns.length ≤ sizeLine) (hr : JJ k callerA)
  (F : ∀ base : Heap, K.In base → base.Ns mainGlobals mg → ZU P w K mg base CX k fa fd [x] sp) (hbind : ∀ (s : Shared) (u : Value), BindsTo s fd ⟨[u], []⟩ [(x, u)])
  (hsp : ∀ H : Hp, Zb0 H → SqL K H a (ns.map V.int) → sp [.ref a] H (fun v _ => v = .bl true) fun _ _ _ => False)
  (hCX : ∀ H e s', CX [] H s₁ (fun _ _ _ => False) e s' → False) :
  codeAny (model P w) callerA (.call (.ref fa) ⟨[.ref a], []⟩) (fun r s' => r = .ok (.ret (.bool true)) ∧ OldK s₁.heap s'.heap ∧ s'.os = s₁.os ∧ AllBare s'.gens) s₁ := by
 have rv := Wj hi
 have lenV := hi.length
 have core : ∀ H : Hp, Zb0 H → SqL K H a (ns.map V.int) → HOk P w H s₁.heap → (∀ b, H b ≠ none → b = a) → (H a ≠ none → K.lookup a = none) →
   codeAny (model P w) callerA (.call (.ref fa) ⟨[.ref a], []⟩) (fun r s' => r = .ok (.ret (.bool true)) ∧ OldK s₁.heap s'.heap ∧ s'.os = s₁.os ∧ AllBare s'.gens) s₁ := by
  intro H hO hS hok hA hK
  have base_of : ∀ {b : Addr} {o : Obj}, s₁.heap.get? b = some o → H b = none → (Mn s₁.heap H).get? b = some o := fun e n => Ml e n
  have noA : ∀ {b : Addr} {o : Obj} {es : Array DictEntry} {ep : Nat}, s₁.heap.get? b = some o → o.data = .dict es ep → H b = none := fun {b o es ep} e d => by
   cases q : H b with
   | none => rfl
   | some u =>
    have e' : b = a := hA b (by rw [q]; simp)
    subst e'
    rw [ha] at e; cases e
    have d' : Data.seq vs.toArray _ = Data.dict es ep := d
    cases d'
  have nsK : ∀ {b : Addr} {m : Str → Option Value}, s₁.heap.Ns b m → (Mn s₁.heap H).Ns b m := fun {b m} ⟨o, es, ep, e, d, r⟩ => ⟨o, es, ep, base_of e (noA e d), d, r⟩
  have hKb : K.In (Mn s₁.heap H) := fun b o e => base_of (KX b o e) (by
   cases q : H b with
   | none => rfl
   | some u =>
    have e' : b = a := hA b (by rw [q]; simp)
    subst e'
    rw [hK (by rw [q]; simp)] at e; cases e)
  have hM : Mod K mg (Mn s₁.heap H) := ⟨hKb, nsK hns, ⟨mb, nsK hb, hbb⟩, let ⟨mc, h1, h2⟩ := hlim; ⟨mc, nsK h1, h2⟩⟩
  have e0 : ZbO P w K mg (Mn s₁.heap H) callerA [] s₁ H := ⟨rfl, hM, fun b o e => RC e, Nat.le_of_eq (DJ _ _), trivial, fun b hb => absurd (show b ∈ ([] : List Addr) from hb) (by simp), hok, .of_eq hg⟩
  refine codeAny_mono ((F _ hKb (nsK hns)).run callerA [] s₁ H ⟨[.ref a], []⟩ [.ref a] [.ref a] _ _ hr e0 (hbind s₁ (.ref a)) (.cons rfl .nil) (hsp H hO hS)) fun r s' h => ?_
  cases r with
  | error e => exact (hCX H e s' h).elim
  | ok fl =>
   cases fl with
   | next => exact False.elim h
   | brk => exact False.elim h
   | cont => exact False.elim h
   | ret u =>
    obtain ⟨v, H', os, bare, un, hok', r', q⟩ := h
    have q' : v = .bl true := q
    subst q'
    obtain rfl : u = Value.bool true := r'
    refine ⟨rfl, OldK.of_keep fun b o e => ?_, os, bare⟩
    cases q : H b with
    | none => exact un.keep b o e q (by intro z; exact absurd (show b ∈ ([] : List Addr) from z) (by simp)) (by simp)
    | some u =>
     rcases hO b with z | ⟨ob, xs, z⟩
     ·rw [q] at z; cases z
     ·have z2 := un.frzs b ob _ z
      obtain ⟨e1, _⟩ := hok b _ z
      obtain ⟨e2, _⟩ := hok' b _ z2
      rw [e] at e1; cases e1
      exact e2
 cases hk : K.lookup a with
 | some o =>
  have e := KX a o hk
  rw [ha] at e
  cases e
  refine core (fun _ => none) (fun _ => .inl rfl) (.inr ⟨_, vs.toArray, _, hk, rfl, rfl, rfl, by rw [List.size_toArray, lenV]; exact hl, by simpa using rv⟩) (fun b u z => by have z' : (none : Option HO) = some u := z; cases z') (fun b z => absurd rfl z) fun z => absurd rfl z
 | none =>
  refine core (fun b => if b = a then some (.frz { cls := .type "list", data := .seq vs.toArray } (.lst (ns.map V.int))) else none) (fun b => ?_) (.inl (.inr ⟨{ cls := .type "list", data := .seq vs.toArray }, if_pos rfl⟩)) (fun b u z => ?_) (fun b z => ?_) fun _ => hk
  ·by_cases hb : b = a
   ·exact .inr ⟨_, _, if_pos hb⟩
   ·exact .inl (if_neg hb)
  ·by_cases hb : b = a
   ·have z' := (if_pos hb).symm.trans z
    cases z'
    subst hb
    exact ⟨ha, by rw [List.length_map]; exact hl, vs, _, rv, ha⟩
   ·have z' := (if_neg hb).symm.trans z
    cases z'
  ·by_cases hb : b = a
   ·exact hb
   ·exact absurd (if_neg hb) z
end L2
namespace L2
open PySem PySem.Spec PyProof.Rows
noncomputable abbrev KOf {K : PySem.W.Frag} {h : Heap} (_ : K.In h) : PySem.W.Frag := K
theorem R6 {l : PySem.W.OpenLaw} {n k : Nat} {q : Program} {loose : List Str} {XP : (Str → Option Value) → Heap → Prop} {YP : World → Heap → Prop} {d : DefRec} {K : Params → PySem.W.Frag} {CX : World → CXT} {sp : World → Sp} {x : Str}
  (hn : l.most = some n) (hn2 : n ≤ sizeLine) (hdf : d.params.defaults = []) (hr : JJ k callerA)
  (hY : ∀ (w : World) (h : Heap), YP w h → (K w.params).In h)
  (F : ∀ (w : World) (mg : Str → Option Value) (fa : Addr) (h : Heap), (K w.params).In h → h.Ns mainGlobals mg → mg d.name = some (.ref fa) →
   ∃ fd : FuncData, (∀ (s : Shared) (u : Value), BindsTo s fd ⟨[u], []⟩ [(x, u)]) ∧
    ∀ base : Heap, (K w.params).In base → base.Ns mainGlobals mg → ZU l.prog w (K w.params) mg base (CX w) k fa fd [x] (sp w))
  (hsp : ∀ (w : World) (H : Hp) (a : Addr) (ns : List Int), ns.length ≤ n → Zb0 H → SqL (K w.params) H a (ns.map V.int) → sp w [.ref a] H (fun v _ => v = .bl true) fun _ _ _ => False)
  (hCX : ∀ (w : World) (H : Hp) (s : Shared) (e : Value) (s' : Shared), CX w [] H s (fun _ _ _ => False) e s' → False) :
  PySem.W.WalkO q loose XP YP l.row.toRowW d [] (fun f vs => PySem.call f vs) := by
 refine Att.Ua hn hdf fun w s₀ s₁ mg mb fa o pm cd doc a vs ns G Y ho hd hcd hmg hobj hints hlen hg => ?_
 have KX := hY w _ Y
 obtain ⟨fd, hb, hF⟩ := F w mg fa _ KX G.T.g hmg
 exact MI KX G.T.g G.T.b G.T.builtins G.T.nolimit hg hobj hints (Nat.le_trans hlen hn2) hr hF hb (fun H hO hS => hsp w H a ns hlen hO hS) fun H e s' => hCX w H s₁ e s'
end L2
namespace L2
open PySem PySem.Spec PyProof.Rows
noncomputable def inClass (s : Stmt) (j : Nat) : Stmt := match s with
 | .ClassDef _ _ _ body _ _ _ _ _ _ _ => body.getD j (.Pass ⟨0, 0, 0, 0⟩)
 | _ => .Pass ⟨0, 0, 0, 0⟩
noncomputable def Zs (s : Stmt) : Arguments := match s with
 | .FunctionDef _ a _ _ _ _ _ _ _ _ => a
 | _ => { posonlyargs := [], args := [], vararg := none, kwonlyargs := [], kw_defaults := [], kwarg := none, defaults := [] }
noncomputable def Zo (s : Stmt) : List Stmt := match s with
 | .FunctionDef _ _ b _ _ _ _ _ _ _ => b
 | _ => []
noncomputable def Zf (s : Stmt) : Scope := match s with
 | .FunctionDef _ _ _ _ _ _ sc _ _ _ => sc
 | _ => { kind := .function, names := [], isGenerator := false, isCoroutine := false }
noncomputable abbrev CX0 : CXT := fun _ _ _ _ _ _ => False
noncomputable abbrev E0 : XK := fun _ _ _ => False
theorem Zp {X : Cx} : Passes CX0 X E0 := fun _ _ _ _ _ _ _ h => h.elim
structure Fun (K : PySem.W.Frag) (x qual : Str) (st : Stmt) (f : Addr) (fd : FuncData) : Prop where
 ex : ∃ (oc : Value) (od : Option Addr) (kV doc pm : Value) (an : Option Addr) (cdv ct : Value) (osl : Array (Option Value)),
  fd = PySem.W.fnOf x qual (Zs st) (Zo st) (Zf st) .none kV doc pm an cdv ct ∧ K.lookup f = some ⟨oc, od, .func fd, osl⟩ ∧ PySem.W.codeIn K cdv qual = true
 kp : PySem.W.keepIn K (.ref f) = true
section
variable {P : Program} {w : World} {K : PySem.W.Frag} {mg : Str → Option Value} {base : Heap}
theorem Fun.ok {x qual : Str} {st : Stmt} {f : Addr} {fd : FuncData} {N ps : List Str} {k : Nat} {sp : Sp} (F : Fun K x qual st f fd) (S : Zq N ps (Zf st)) (len : ∀ vs H Q E, sp vs H Q E → vs.length = ps.length)
  (hbody : ∀ (cdv : Value) (A : Around) (outer : List Env) (s : Shared) (H : Hp) (vs : List V) (Q : VK) (E : XK), JJ k (A.deeper (envOfC qual (Zf st) s.heap.objs.size f cdv)) → sp vs H Q E →
   ∃ t, PSs (NS CX0 P w K mg base N qual (Zf st) f cdv A outer s H E).nox (Zo st) t ∧ t { nx := fun _ H' => Q .non H', rt := Q } (start N vs) H) : ZU P w K mg base CX0 (k + 1) f fd ps sp := by
 obtain ⟨oc, od, kV, doc, pm, an, cdv, ct, osl, rfl, lk, hcd⟩ := F.ex
 refine ZdB lk hcd S len fun A outer s H vs Q E hr hsp => ?_
 obtain ⟨t, h, q⟩ := hbody cdv A outer s H vs Q E hr hsp
 exact ⟨t, h.nox, q⟩
theorem Fun.binds {x qual : Str} {st : Stmt} {f : Addr} {fd : FuncData} {ps : List Str} (F : Fun K x qual st f fd)
  (h : ∀ (kV doc pm : Value) (an : Option Addr) (cdv ct : Value) (us : List Value), us.length = ps.length → bindArgs (PySem.W.fnOf x qual (Zs st) (Zo st) (Zf st) .none kV doc pm an cdv ct) ⟨us, []⟩ = pure (ps.zip us)) : Binds K fd ps [] := by
 obtain ⟨oc, od, kV, doc, pm, an, cdv, ct, osl, rfl, lk, hcd⟩ := F.ex
 exact .all (h kV doc pm an cdv ct)
theorem ZO {x qual : Str} {st : Stmt} {f : Addr} {oc : Value} {od an : Option Addr} {osl : Array (Option Value)} {kV doc pm cdv ct : Value} (l : K.lookup f = some ⟨oc, od, .func (PySem.W.fnOf x qual (Zs st) (Zo st) (Zf st) .none kV doc pm an cdv ct), osl⟩)
  (c : PySem.W.codeIn K cdv qual = true) (k : PySem.W.keepIn K (.ref f) = true) : Fun K x qual st f (PySem.W.fnOf x qual (Zs st) (Zo st) (Zf st) .none kV doc pm an cdv ct) := ⟨⟨oc, od, kV, doc, pm, an, cdv, ct, osl, rfl, l, c⟩, k⟩
end
section
variable {X : Cx}
end
noncomputable def Sg (H H' : Hp) : Prop := ∀ b o, H b = some o → H' b = some o
theorem Sg.refl (H : Hp) : Sg H H := fun _ _ h => h
theorem Sg.trans {H H1 H2 : Hp} (a : Sg H H1) (b : Sg H1 H2) : Sg H H2 := fun c o h => b c o (a c o h)
end L2
namespace DL
open PySem PySem.Spec PyProof.Rows L2
inductive DV where
 | dat (d : PyData)
 | own (a : Addr)
 | ty (n : String)
inductive OO where
 | lst (ds : List PyData)
  | dct (ks : List (List Key))
  | dtv (kvs : List (List Key × PyData))
  | dkv (kvs : List (Key × PyData))
  | dko (kvs : List (Key × DV))
  | fdk (o : Obj) (kvs : List (Key × PyData))
  | ext (φ : Heap → Prop)
noncomputable abbrev Mp := Addr → Option OO
noncomputable def Zx (M : Mp) (a : Addr) (o : OO) : Mp := fun b => if b = a then some o else M b
noncomputable def VD (M : Mp) (a : Addr) : Mp := fun b => if b = a then none else M b
theorem ZI {M : Mp} {a : Addr} {o : OO} : Zx M a o a = some o := by unfold Zx; rw [if_pos rfl]
theorem Zz {M : Mp} {a b : Addr} {o : OO} (h : b ≠ a) : Zx M a o b = M b := by unfold Zx; rw [if_neg h]
theorem CL {M : Mp} {a : Addr} {o u : OO} : Zx (Zx M a o) a u = Zx M a u := by
 funext b; unfold Zx; split <;> rfl
theorem KW {M : Mp} {a : Addr} : VD M a a = none := by unfold VD; rw [if_pos rfl]
theorem VA {M : Mp} {a b : Addr} (h : b ≠ a) : VD M a b = M b := by unfold VD; rw [if_neg h]
noncomputable def kD : Key → PyData
 | .inl i => .int i
 | .inr x => .str x
noncomputable def KTu (K : PySem.W.Frag) (a : Addr) (xs : List V) : Prop :=
 ∃ (o : Obj) (its : Array Value) (n : Nat), K.lookup a = some o ∧ o.cls = .type "tuple" ∧ o.data = .seq its n ∧ its.size ≤ sizeLine ∧ Vals xs its.toList
noncomputable def KLs (K : PySem.W.Frag) (a : Addr) (xs : List V) : Prop :=
 ∃ (o : Obj) (its : Array Value) (n : Nat), K.lookup a = some o ∧ o.cls = .type "list" ∧ o.dict = none ∧ o.data = .seq its n ∧ its.size ≤ sizeLine ∧ Vals xs its.toList
noncomputable def TupAt (K : PySem.W.Frag) (M : Mp) (H : Hp) (a : Addr) (xs : List V) : Prop := (M a = none ∧ Rd H a (.tup xs)) ∨ KTu K a xs
noncomputable def LstAt (K : PySem.W.Frag) (M : Mp) (H : Hp) (a : Addr) (xs : List V) : Prop := (M a = none ∧ Rd H a (.lst xs)) ∨ KLs K a xs
theorem TupAt.sq {K : PySem.W.Frag} {M : Mp} {H : Hp} {a : Addr} {xs : List V} (h : TupAt K M H a xs) : SqT K H a xs := by
 rcases h with ⟨_, h⟩ | h
 ·exact .inl h
 ·exact .inr h
theorem LstAt.sq {K : PySem.W.Frag} {M : Mp} {H : Hp} {a : Addr} {xs : List V} (h : LstAt K M H a xs) : SqL K H a xs := by
 rcases h with ⟨_, h⟩ | h
 ·exact .inl h
 ·exact .inr h
mutual
inductive Dt (K : PySem.W.Frag) (M : Mp) (H : Hp) : V → PyData → Prop
 | non : Dt K M H .non .none
 | bl (b : Bool) : Dt K M H (.bl b) (.bool b)
 | int (i : Int) : Dt K M H (.int i) (.int i)
 | str (x : Str) : Dt K M H (.str x) (.str x)
 | tup {a : Addr} {xs : List V} {ds : List PyData} : TupAt K M H a xs → Dts K M H xs ds → Dt K M H (.ref a) (.tuple ds)
 | lst {a : Addr} {xs : List V} {ds : List PyData} : LstAt K M H a xs → Dts K M H xs ds → Dt K M H (.ref a) (.list ds)
 | dK {a : Addr} {kvs : List (Key × V)} {ds : List PyData} : M a = none → H a = some (.dK kvs) → Dts K M H (kvs.map (·.2)) ds → Dt K M H (.ref a) (.dict ((kvs.map fun kv => kD kv.1).zip ds))
 | dT {a : Addr} {kvs : List (List Key × V)} {ds : List PyData} : M a = none → H a = some (.dT kvs) → Dts K M H (kvs.map (·.2)) ds → Dt K M H (.ref a) (.dict ((kvs.map fun kv => PyData.tuple (kv.1.map kD)).zip ds))
 | dX {a b : Addr} {φ : Heap → Prop} {v : V} {dk d : PyData} : M a = none → H a = some (.ext φ) → (a == sysModules) = false →
   (∀ h, φ h → ∃ o es n u, h.get? a = some o ∧ o.cls = .type "dict" ∧ o.data = .dict es n ∧ es.toList.map (·.key) = [.ref b] ∧ es.toList.map (·.val) = [u] ∧ RelV v u) → Dt K M H (.ref b) dk → Dt K M H v d → Dt K M H (.ref a) (.dict [(dk, d)])
inductive Dts (K : PySem.W.Frag) (M : Mp) (H : Hp) : List V → List PyData → Prop
 | nil : Dts K M H [] []
 | cons {x : V} {xs : List V} {d : PyData} {ds : List PyData} : Dt K M H x d → Dts K M H xs ds → Dts K M H (x :: xs) (d :: ds)
end
structure Step (M : Mp) (H : Hp) (M' : Mp) (H' : Hp) : Prop where
 keep : ∀ b o, M b = none → H b = some o → H' b = some o
 free : ∀ b o, M b = none → H b = some o → M' b = none
theorem Step.refl {M : Mp} {H : Hp} : Step M H M H := ⟨fun _ _ _ h => h, fun _ _ h _ => h⟩
theorem Step.trans {M M1 M2 : Mp} {H H1 H2 : Hp} (a : Step M H M1 H1) (b : Step M1 H1 M2 H2) : Step M H M2 H2 :=
 ⟨fun c o h1 h2 => b.keep c o (a.free c o h1 h2) (a.keep c o h1 h2), fun c o h1 h2 => b.free c o (a.free c o h1 h2) (a.keep c o h1 h2)⟩
section
variable {K : PySem.W.Frag} {M M' : Mp} {H H' : Hp}
theorem D8 {a : Addr} {u : HO} (st : Step M H M' H') (hm : M a = none) (h : Rd H a u) : M' a = none ∧ Rd H' a u := by
 rcases h with h | ⟨o, h⟩
 ·exact ⟨st.free _ _ hm h, .inl (st.keep _ _ hm h)⟩
 ·exact ⟨st.free _ _ hm h, .inr ⟨o, st.keep _ _ hm h⟩⟩
theorem TupAt.step {a : Addr} {xs : List V} (h : TupAt K M H a xs) (st : Step M H M' H') : TupAt K M' H' a xs := by
 rcases h with ⟨h1, h2⟩ | h
 ·exact .inl (D8 st h1 h2)
 ·exact .inr h
theorem LstAt.step {a : Addr} {xs : List V} (h : LstAt K M H a xs) (st : Step M H M' H') : LstAt K M' H' a xs := by
 rcases h with ⟨h1, h2⟩ | h
 ·exact .inl (D8 st h1 h2)
 ·exact .inr h
mutual
theorem Dt.step (st : Step M H M' H') : ∀ {v : V} {d : PyData}, Dt K M H v d → Dt K M' H' v d
 | _, _, .non => .non
 | _, _, .bl b => .bl b
 | _, _, .int i => .int i
 | _, _, .str x => .str x
 | _, _, .tup h1 h2 => .tup (h1.step st) (Dts.step st h2)
 | _, _, .lst h1 h2 => .lst (h1.step st) (Dts.step st h2)
 | _, _, .dK h0 h1 h2 => .dK (st.free _ _ h0 h1) (st.keep _ _ h0 h1) (Dts.step st h2)
 | _, _, .dT h0 h1 h2 => .dT (st.free _ _ h0 h1) (st.keep _ _ h0 h1) (Dts.step st h2)
 | _, _, .dX h0 h1 h2 h3 h4 h5 => .dX (st.free _ _ h0 h1) (st.keep _ _ h0 h1) h2 h3 (Dt.step st h4) (Dt.step st h5)
theorem Dts.step (st : Step M H M' H') : ∀ {vs : List V} {ds : List PyData}, Dts K M H vs ds → Dts K M' H' vs ds
 | _, _, .nil => .nil
 | _, _, .cons h1 h2 => .cons (Dt.step st h1) (Dts.step st h2)
end
theorem Dts.length : ∀ {vs : List V} {ds : List PyData}, Dts K M H vs ds → vs.length = ds.length
 | _, _, .nil => rfl
 | _, _, .cons _ h => by rw [List.length_cons, List.length_cons, Dts.length h]
theorem Dts.get : ∀ {vs : List V} {ds : List PyData} {i : Nat} {d : PyData}, Dts K M H vs ds → ds[i]? = some d → ∃ v, vs[i]? = some v ∧ Dt K M H v d
 | _, _, _, _, .nil, e => by simp at e
 | _, _, 0, _, .cons h _, e => by simp at e; subst e; exact ⟨_, rfl, h⟩
 | _, _, i + 1, d, .cons _ h, e => by
  obtain ⟨v, h1, h2⟩ := Dts.get (i := i) (d := d) h (by simpa using e)
  exact ⟨v, by simpa using h1, h2⟩
theorem Dts.TQ : ∀ {vs : List V} {ds : List PyData} {i : Nat} {v : V}, Dts K M H vs ds → vs[i]? = some v → ∃ d, ds[i]? = some d ∧ Dt K M H v d
 | _, _, _, _, .nil, e => by simp at e
 | _, _, 0, _, .cons h _, e => by simp at e; subst e; exact ⟨_, rfl, h⟩
 | _, _, i + 1, v, .cons _ h, e => by
  obtain ⟨d, h1, h2⟩ := Dts.TQ (i := i) (v := v) h (by simpa using e)
  exact ⟨d, by simpa using h1, h2⟩
theorem Dts.append : ∀ {vs ws : List V} {ds es : List PyData}, Dts K M H vs ds → Dts K M H ws es → Dts K M H (vs ++ ws) (ds ++ es)
 | _, _, _, _, .nil, h => h
 | _, _, _, _, .cons h1 h2, h => .cons h1 (Dts.append h2 h)
theorem Dts.take : ∀ {vs : List V} {ds : List PyData} (n : Nat), Dts K M H vs ds → Dts K M H (vs.take n) (ds.take n)
 | _, _, 0, _ => .nil
 | _, _, _ + 1, .nil => .nil
 | _, _, n + 1, .cons h1 h2 => .cons h1 (Dts.take n h2)
theorem Dts.drop : ∀ {vs : List V} {ds : List PyData} (n : Nat), Dts K M H vs ds → Dts K M H (vs.drop n) (ds.drop n)
 | _, _, 0, h => h
 | _, _, _ + 1, .nil => .nil
 | _, _, n + 1, .cons _ h2 => Dts.drop n h2
theorem Dts.set {v : V} {d : PyData} (h : Dt K M H v d) : ∀ {vs : List V} {ds : List PyData} (i : Nat), Dts K M H vs ds → Dts K M H (vs.set i v) (ds.set i d)
 | _, _, _, .nil => .nil
 | _, _, 0, .cons _ t => .cons h t
 | _, _, i + 1, .cons q t => .cons q (Dts.set h i t)
theorem Dts.ints : ∀ (ns : List Int), Dts K M H (ns.map V.int) (ns.map PyData.int)
 | [] => .nil
 | n :: ns => .cons (.int n) (Dts.ints ns)
theorem Vv : ∀ {vs : List V} {ns : List Int}, Dts K M H vs (ns.map PyData.int) → vs = ns.map V.int
 | vs, [], h => by
  rw [List.map_nil] at h
  cases h
  rfl
 | vs, n :: ns, h => by
  rw [List.map_cons] at h
  cases h with
  | cons h1 h2 =>
   cases h1
   rw [Vv h2, List.map_cons]
noncomputable def VR0 (K : PySem.W.Frag) (M : Mp) (H : Hp) (v : V) : DV → Prop
 | .dat d => Dt K M H v d
 | .own b => v = .ref b
 | .ty _ => False
theorem VR0.step {v : V} {x : DV} (h : VR0 K M H v x) (st : Step M H M' H') : VR0 K M' H' v x := by
 cases x with
 | dat d => exact Dt.step st h
 | own b => exact h
 | ty n => exact h
noncomputable def OOk (K : PySem.W.Frag) (M : Mp) (H : Hp) (a : Addr) : OO → Prop
 | .lst ds => ∃ vs, H a = some (.lst vs) ∧ Dts K M H vs ds
 | .dct ks => ∃ kvs, H a = some (.dT kvs) ∧ kvs.map (·.1) = ks
 | .dtv ps => ∃ kvs, H a = some (.dT kvs) ∧ kvs.map (·.1) = ps.map (·.1) ∧ Dts K M H (kvs.map (·.2)) (ps.map (·.2))
 | .dkv ps => ∃ kvs, H a = some (.dK kvs) ∧ kvs.map (·.1) = ps.map (·.1) ∧ Dts K M H (kvs.map (·.2)) (ps.map (·.2))
 | .dko ps => ∃ kvs, H a = some (.dK kvs) ∧ Paired (fun (p : Key × V) (q : Key × DV) => p.1 = q.1 ∧ VR0 K M H p.2 q.2) kvs ps
 | .fdk o ps => ∃ kvs, H a = some (.frz o (.dK kvs)) ∧ kvs.map (·.1) = ps.map (·.1) ∧ Dts K M H (kvs.map (·.2)) (ps.map (·.2))
 | .ext φ => H a = some (.ext φ)
theorem OOk.step {a : Addr} {o : OO} (h : OOk K M H a o) (st : Step M H M' H') (e : ∀ u, H a = some u → H' a = some u) : OOk K M' H' a o := by
 cases o with
 | lst ds => obtain ⟨vs, e1, e2⟩ := h; exact ⟨vs, e _ e1, e2.step st⟩
 | dct ks => obtain ⟨vs, e1, e2⟩ := h; exact ⟨vs, e _ e1, e2⟩
 | dtv ps => obtain ⟨vs, e1, e2, e3⟩ := h; exact ⟨vs, e _ e1, e2, e3.step st⟩
 | dkv ps => obtain ⟨vs, e1, e2, e3⟩ := h; exact ⟨vs, e _ e1, e2, e3.step st⟩
 | dko ps => obtain ⟨vs, e1, e2⟩ := h; exact ⟨vs, e _ e1, Paired.Si e2 fun _ _ z => ⟨z.1, z.2.step st⟩⟩
 | fdk o ps => obtain ⟨vs, e1, e2, e3⟩ := h; exact ⟨vs, e _ e1, e2, e3.step st⟩
 | ext φ => exact e _ h
theorem OOk.some {a : Addr} {o : OO} (h : OOk K M H a o) : ∃ u, H a = some u := by
 cases o with
 | lst ds => obtain ⟨vs, e1, _⟩ := h; exact ⟨_, e1⟩
 | dct ks => obtain ⟨vs, e1, _⟩ := h; exact ⟨_, e1⟩
 | dtv ps => obtain ⟨vs, e1, _⟩ := h; exact ⟨_, e1⟩
 | dkv ps => obtain ⟨vs, e1, _⟩ := h; exact ⟨_, e1⟩
 | dko ps => obtain ⟨vs, e1, _⟩ := h; exact ⟨_, e1⟩
 | fdk o ps => obtain ⟨vs, e1, _⟩ := h; exact ⟨_, e1⟩
 | ext φ => exact ⟨_, h⟩
structure ZN (K : PySem.W.Frag) (M : Mp) (H : Hp) : Prop where
 ok : ∀ a o, M a = some o → OOk K M H a o
theorem ZN.ls (r : ZN K M H) (a : Addr) (ds : List PyData) (h : M a = some (.lst ds)) : ∃ vs, H a = some (.lst vs) ∧ Dts K M H vs ds := r.ok a _ h
theorem ZN.tracked (r : ZN K M H) {a : Addr} (h : H a = none) : M a = none := by
 cases q : M a with
 | none => rfl
 | some o =>
  obtain ⟨u, e⟩ := (r.ok a o q).some
  rw [h] at e
  cases e
theorem Step.new {p : Addr} {o : HO} (h : H p = none) : Step M H M (upd H p o) :=
 ⟨fun b u _ e => by rw [ZM (Zt e h)]; exact e, fun _ _ h _ => h⟩
theorem ZN.step_same (r : ZN K M H) (st : Step M H M H') (hk : ∀ a u, M a ≠ none → H a = some u → H' a = some u) : ZN K M H' :=
 ⟨fun a o e => (r.ok a o e).step st fun u hu => hk a u (by rw [e]; simp) hu⟩
theorem ZN.new (r : ZN K M H) {p : Addr} {o : HO} (h : H p = none) : ZN K M (upd H p o) :=
 r.step_same (Step.new h) fun a vs _ e => by rw [ZM (Zt e h)]; exact e
theorem Step.J8 {p : Addr} {o : HO} {q : OO} (h : H p = none) : Step M H (Zx M p q) (upd H p o) :=
 ⟨fun b u _ e => by rw [ZM (Zt e h)]; exact e, fun b u hm e => by rw [Zz (Zt e h)]; exact hm⟩
theorem Step.K1 {p : Addr} {o : HO} {q q' : OO} (h : M p = some q) : Step M H (Zx M p q') (upd H p o) := by
 have ne : ∀ b, M b = none → b ≠ p := fun b hb e => by rw [e, h] at hb; cases hb
 exact ⟨fun b u hb e => by rw [ZM (ne b hb)]; exact e, fun b u hb e => by rw [Zz (ne b hb)]; exact hb⟩
theorem ZN.C6 (r : ZN K M H) {p : Addr} {u : HO} {o : OO} (st : Step M H (Zx M p o) (upd H p u)) (h : OOk K (Zx M p o) (upd H p u) p o) : ZN K (Zx M p o) (upd H p u) := by
 refine ⟨fun a q e => ?_⟩
 by_cases ha : a = p
 ·subst ha
  rw [ZI] at e
  cases e
  exact h
 ·rw [Zz ha] at e
  exact (r.ok a q e).step st fun v hv => by rw [ZM ha]; exact hv
theorem ZN.Y2 (r : ZN K M H) {p : Addr} {vs : List V} {ds : List PyData} (st : Step M H (Zx M p (.lst ds)) (upd H p (.lst vs))) (hv : Dts K M H vs ds) :
  ZN K (Zx M p (.lst ds)) (upd H p (.lst vs)) := r.C6 st ⟨vs, Qx, hv.step st⟩
theorem Step.frz {p : Addr} : Step M H (VD M p) H :=
 ⟨fun _ _ _ h => h, fun b o hb _ => by unfold VD; split <;> first | rfl | exact hb⟩
theorem ZN.frz (r : ZN K M H) {p : Addr} : ZN K (VD M p) H := by
 refine ⟨fun a o e => ?_⟩
 have hne : a ≠ p := fun z => by rw [z, KW] at e; cases e
 rw [VA hne] at e
 exact (r.ok a o e).step Step.frz fun _ h => h
noncomputable def Ql (K : PySem.W.Frag) (M : Mp) (H : Hp) (v : V) : DV → Prop
 | .dat d => Dt K M H v d
 | .own a => v = .ref a
 | .ty n => v = .ty n
theorem Ql.step {v : V} {x : DV} (h : Ql K M H v x) (st : Step M H M' H') : Ql K M' H' v x := by
 cases x with
 | dat d => exact Dt.step st h
 | own a => exact h
 | ty n => exact h
noncomputable abbrev J7 (K : PySem.W.Frag) (M : Mp) (H : Hp) : List V → List DV → Prop := Paired (Ql K M H)
theorem J7.step {vs : List V} {xs : List DV} (h : J7 K M H vs xs) (st : Step M H M' H') : J7 K M' H' vs xs := Paired.Si h fun _ _ q => Ql.step q st
theorem J7.ZbZ : ∀ {vs : List V} {ds : List PyData}, J7 K M H vs (ds.map DV.dat) → Dts K M H vs ds
 | vs, [], h => by rw [List.map_nil] at h; cases h; exact .nil
 | vs, d :: ds, h => by
  rw [List.map_cons] at h
  cases h with
  | cons h1 h2 => exact .cons h1 (J7.ZbZ h2)
noncomputable def onV (o : Option (Option DV)) (P : DV → Prop) : Prop := match o with | some (some x) => P x | _ => False
theorem Zbe {o : Option (Option DV)} {P : DV → Prop} (h : onV o P) : ∃ x, o = some (some x) ∧ P x := by
 unfold onV at h
 split at h
 ·exact ⟨_, rfl, h⟩
 ·exact h.elim
noncomputable def onI (x : DV) (P : Int → Prop) : Prop := match x with | .dat (.int i) => P i | _ => False
theorem ZG {x : DV} {P : Int → Prop} (h : onI x P) : ∃ i, x = .dat (.int i) ∧ P i := by
 unfold onI at h
 split at h
 ·exact ⟨_, rfl, h⟩
 ·exact h.elim
noncomputable def onB (x : DV) (P : Bool → Prop) : Prop := match x with | .dat (.bool i) => P i | _ => False
theorem Ck {x : DV} {P : Bool → Prop} (h : onB x P) : ∃ i, x = .dat (.bool i) ∧ P i := by
 unfold onB at h
 split at h
 ·exact ⟨_, rfl, h⟩
 ·exact h.elim
noncomputable def onS (x : DV) (P : Str → Prop) : Prop := match x with | .dat (.str i) => P i | _ => False
theorem VC {x : DV} {P : Str → Prop} (h : onS x P) : ∃ i, x = .dat (.str i) ∧ P i := by
 unfold onS at h
 split at h
 ·exact ⟨_, rfl, h⟩
 ·exact h.elim
noncomputable def onT (x : DV) (P : List PyData → Prop) : Prop := match x with | .dat (.tuple i) => P i | _ => False
theorem Cf {x : DV} {P : List PyData → Prop} (h : onT x P) : ∃ i, x = .dat (.tuple i) ∧ P i := by
 unfold onT at h
 split at h
 ·exact ⟨_, rfl, h⟩
 ·exact h.elim
noncomputable def onL (x : DV) (P : List PyData → Prop) : Prop := match x with | .dat (.list i) => P i | _ => False
theorem NT {x : DV} {P : List PyData → Prop} (h : onL x P) : ∃ i, x = .dat (.list i) ∧ P i := by
 unfold onL at h
 split at h
 ·exact ⟨_, rfl, h⟩
 ·exact h.elim
noncomputable def onD (x : DV) (P : PyData → Prop) : Prop := match x with | .dat i => P i | _ => False
theorem Jq {x : DV} {P : PyData → Prop} (h : onD x P) : ∃ i, x = .dat i ∧ P i := by
 unfold onD at h
 split at h
 ·exact ⟨_, rfl, h⟩
 ·exact h.elim
noncomputable def onO (x : DV) (P : Addr → Prop) : Prop := match x with | .own i => P i | _ => False
theorem Z6 {x : DV} {P : Addr → Prop} (h : onO x P) : ∃ i, x = .own i ∧ P i := by
 unfold onO at h
 split at h
 ·exact ⟨_, rfl, h⟩
 ·exact h.elim
noncomputable def JI (o : Option OO) (P : List PyData → Prop) : Prop := match o with | some (.lst ds) => P ds | _ => False
theorem Ct (ds : List PyData) (P : List PyData → Prop) : JI (some (.lst ds)) P = P ds := rfl
theorem QR {o : Option OO} {P : List PyData → Prop} (h : JI o P) : ∃ ds, o = some (.lst ds) ∧ P ds := by
 unfold JI at h
 split at h
 ·exact ⟨_, rfl, h⟩
 ·exact h.elim
noncomputable def Oc (o : Option OO) (P : List (List Key) → Prop) : Prop := match o with | some (.dct ks) => P ks | _ => False
noncomputable def onQ (x : DV) (M : Mp) (P : List PyData → Prop) : Prop := match x with | .dat (.tuple ds) => P ds | .dat (.list ds) => P ds | .own l => JI (M l) P | _ => False
theorem CA {x : DV} {M : Mp} {P : List PyData → Prop} (h : onQ x M P) : ∃ ds, (x = .dat (.tuple ds) ∨ x = .dat (.list ds) ∨ ∃ l, x = .own l ∧ M l = some (.lst ds)) ∧ P ds := by
 unfold onQ at h
 split at h
 ·exact ⟨_, .inl rfl, h⟩
 ·exact ⟨_, .inr (.inl rfl), h⟩
 ·replace h := QR h
  obtain ⟨ds, e, h⟩ := h
  exact ⟨ds, .inr (.inr ⟨_, rfl, e⟩), h⟩
 ·exact h.elim
noncomputable def onK (x : DV) (M : Mp) (P : List PyData → Prop) : Prop := match x with | .dat (.list ds) => P ds | .own l => JI (M l) P | _ => False
theorem Jd {x : DV} {M : Mp} {P : List PyData → Prop} (h : onK x M P) : ∃ ds, (x = .dat (.list ds) ∨ ∃ l, x = .own l ∧ M l = some (.lst ds)) ∧ P ds := by
 unfold onK at h
 split at h
 ·exact ⟨_, .inl rfl, h⟩
 ·replace h := QR h
  obtain ⟨ds, e, h⟩ := h
  exact ⟨ds, .inr ⟨_, rfl, e⟩, h⟩
 ·exact h.elim
noncomputable def on1 (xs : List DV) (P : DV → Prop) : Prop := match xs with | [x] => P x | _ => False
theorem Z9 {xs : List DV} {P : DV → Prop} (h : on1 xs P) : ∃ x, xs = [x] ∧ P x := by
 unfold on1 at h
 split at h
 ·exact ⟨_, rfl, h⟩
 ·exact h.elim
noncomputable def on2 (xs : List DV) (P : DV → DV → Prop) : Prop := match xs with | [x, y] => P x y | _ => False
theorem Zy {xs : List DV} {P : DV → DV → Prop} (h : on2 xs P) : ∃ x y, xs = [x, y] ∧ P x y := by
 unfold on2 at h
 split at h
 ·exact ⟨_, _, rfl, h⟩
 ·exact h.elim
noncomputable def on3 (xs : List DV) (P : DV → DV → DV → Prop) : Prop := match xs with | [x, y, z] => P x y z | _ => False
theorem QI {xs : List DV} {P : DV → DV → DV → Prop} (h : on3 xs P) : ∃ x y z, xs = [x, y, z] ∧ P x y z := by
 unfold on3 at h
 split at h
 ·exact ⟨_, _, _, rfl, h⟩
 ·exact h.elim
noncomputable def on4 (xs : List DV) (P : DV → DV → DV → DV → Prop) : Prop := match xs with | [x0, x1, x2, x3] => P x0 x1 x2 x3 | _ => False
theorem NC {xs : List DV} {P : DV → DV → DV → DV → Prop} (h : on4 xs P) : ∃ x0 x1 x2 x3, xs = [x0, x1, x2, x3] ∧ P x0 x1 x2 x3 := by
 unfold on4 at h
 split at h
 ·exact ⟨_, _, _, _, rfl, h⟩
 ·exact h.elim
noncomputable def on5 (xs : List DV) (P : DV → DV → DV → DV → DV → Prop) : Prop := match xs with | [x0, x1, x2, x3, x4] => P x0 x1 x2 x3 x4 | _ => False
noncomputable def on6 (xs : List DV) (P : DV → DV → DV → DV → DV → DV → Prop) : Prop := match xs with | [x0, x1, x2, x3, x4, x5] => P x0 x1 x2 x3 x4 x5 | _ => False
noncomputable def Hv : List DV → Option (List PyData)
 | [] => some []
 | .dat d :: r => match Hv r with | some ds => some (d :: ds) | none => none
 | _ :: _ => none
theorem Bi : ∀ {xs : List DV} {ds : List PyData}, Hv xs = some ds → xs = ds.map DV.dat
 | [], _, h => by cases h; rfl
 | .dat d :: r, ds, h => by
  rw [Hv] at h
  split at h
  ·rename_i es e
   cases h
   rw [List.map_cons, ← Bi e]
  ·cases h
 | .own _ :: _, _, h => by cases h
 | .ty _ :: _, _, h => by cases h
noncomputable def YX (xs : List DV) (P : List PyData → Prop) : Prop := match Nat.ble xs.length 100 with
 | true => (match Hv xs with | some ds => P ds | none => False)
 | false => False
theorem U6 {xs : List DV} {P : List PyData → Prop} (h : YX xs P) : ∃ ds, xs = ds.map DV.dat ∧ ds.length ≤ 100 ∧ P ds := by
 unfold YX at h
 split at h
 ·rename_i e
  split at h
  ·rename_i ds e2
   have e3 := Bi e2
   refine ⟨ds, e3, ?_, h⟩
   have e4 := Nat.le_of_ble_eq_true e
   rwa [e3, List.length_map] at e4
  ·exact h.elim
 ·exact h.elim
noncomputable abbrev DSt := List (Option DV)
structure QP (K : PySem.W.Frag) (M : Mp) (H : Hp) (σ : L2.St) (Δ : DSt) : Prop where
 len : σ.length = Δ.length
 at' : ∀ (i : Nat) (x : DV), Δ[i]? = some (some x) → ∃ v, σ[i]? = some (some v) ∧ Ql K M H v x
theorem QP.step {σ : L2.St} {Δ : DSt} (h : QP K M H σ Δ) (st : Step M H M' H') : QP K M' H' σ Δ :=
 ⟨h.len, fun i x e => let ⟨v, e1, e2⟩ := h.at' i x e; ⟨v, e1, e2.step st⟩⟩
theorem QP.set {σ : L2.St} {Δ : DSt} {i : Nat} {v : V} {x : DV} (h : QP K M H σ Δ) (r : Ql K M H v x) : QP K M H (σ.set i (some v)) (Δ.set i (some x)) := by
 refine ⟨by rw [List.length_set, List.length_set, h.len], fun j y e => ?_⟩
 by_cases hj : i = j
 ·subst hj
  by_cases hl : i < Δ.length
  ·rw [List.getElem?_set_self hl] at e
   cases e
   exact ⟨v, List.getElem?_set_self (by rw [h.len]; exact hl), r⟩
  ·rw [List.getElem?_eq_none (by rw [List.length_set]; omega)] at e
   cases e
 ·rw [List.getElem?_set_ne hj] at e
  rw [List.getElem?_set_ne hj]
  exact h.at' j y e
noncomputable def VG (N : List Str) (xs : List DV) : DSt := xs.map some ++ List.replicate (N.length - xs.length) none
theorem Paired.ZeG {α β : Type} {F : α → β → Prop} : ∀ {l : List α} {m : List β} {i : Nat} {b : β}, Paired F l m → m[i]? = some b → ∃ a, l[i]? = some a ∧ F a b
 | _, _, _, _, .nil, e => by simp at e
 | _, _, 0, _, .cons h _, e => by simp at e; subst e; exact ⟨_, rfl, h⟩
 | _, _, i + 1, b, .cons _ h, e => by
  obtain ⟨a, h1, h2⟩ := Paired.ZeG (i := i) (b := b) h (by simpa using e)
  exact ⟨a, by simpa using h1, h2⟩
theorem QP.start {N : List Str} {vs : List V} {xs : List DV} (h : J7 K M H vs xs) : QP K M H (start N vs) (VG N xs) := by
 have hl : vs.length = xs.length := Paired.length h
 refine ⟨by unfold L2.start VG; simp [hl], fun i x e => ?_⟩
 unfold VG at e
 unfold L2.start
 by_cases hi : i < xs.length
 ·rw [List.getElem?_append_left (by simpa using hi), List.getElem?_map] at e
  cases q : xs[i]? with
  | none => rw [q] at e; cases e
  | some y =>
   rw [q] at e
   cases e
   obtain ⟨v, h1, h2⟩ := Paired.ZeG h q
   exact ⟨v, by rw [List.getElem?_append_left (by simpa [hl] using hi), List.getElem?_map, h1]; rfl, h2⟩
 ·rw [List.getElem?_append_right (by simpa using hi), List.getElem?_replicate] at e
  split at e <;> cases e
end
noncomputable abbrev DK := DV → Mp → Prop
noncomputable abbrev DTE := DSt → Mp → DK → Prop
noncomputable abbrev DTT := DSt → Mp → (Bool → Mp → Prop) → Prop
noncomputable abbrev DTA := DSt → Mp → (List DV → Mp → Prop) → Prop
structure Qa where
 nx : DSt → Mp → Prop
 rt : DK
 bk : DSt → Mp → Prop := fun _ _ => False
 ct : DSt → Mp → Prop := fun _ _ => False
noncomputable abbrev DTS := Qa → DSt → Mp → Prop
noncomputable def Rch (K : PySem.W.Frag) (M : Mp) (H : Hp) (Φ : DK) (Q : VK) : Prop := ∀ v H' x M', ZN K M' H' → Step M H M' H' → Ql K M' H' v x → Φ x M' → Q v H'
theorem Rch.step {K : PySem.W.Frag} {M M' : Mp} {H H' : Hp} {Φ : DK} {Q : VK} (h : Rch K M H Φ Q) (st : Step M H M' H') : Rch K M' H' Φ Q := fun v H2 x M2 r s2 q f => h v H2 x M2 r (st.trans s2) q f
theorem Rch.dat {K : PySem.W.Frag} {M M' : Mp} {H H' : Hp} {Φ : DK} {Q : VK} {v : V} {d : PyData} (h : Rch K M H Φ Q) (r : ZN K M' H') (st : Step M H M' H') (hd : Dt K M' H' v d) (f : Φ (.dat d) M') : Q v H' := h v H' (.dat d) M' r st hd f
noncomputable def DE (X : Cx) (e : Expr) (τ : DTE) : Prop := ∃ t, PE X e t ∧ ∀ σ H Δ M Φ Q, ZN X.K M H → QP X.K M H σ Δ → τ Δ M Φ → Rch X.K M H Φ Q → t σ H Q
noncomputable def DT (X : Cx) (e : Expr) (τ : DTT) : Prop := ∃ t, PT X e t ∧ ∀ σ H Δ M Φ (Q : Bool → Hp → Prop), ZN X.K M H → QP X.K M H σ Δ → τ Δ M Φ →
 (∀ b H' M', ZN X.K M' H' → Step M H M' H' → Φ b M' → Q b H') → t σ H Q
noncomputable def DW (X : Cx) (e : Expr) (τ : DTT) : Prop := ∃ t, PW X e t ∧ ∀ σ H Δ M Φ (Q : Bool → Hp → Prop), ZN X.K M H → QP X.K M H σ Δ → τ Δ M Φ →
 (∀ b H' M', ZN X.K M' H' → Step M H M' H' → Φ b M' → Q b H') → t σ H Q
noncomputable def DA (X : Cx) (es : List Expr) (τ : DTA) : Prop := ∃ t, PA X es t ∧ ∀ σ H Δ M Φ (Q : List V → Hp → Prop), ZN X.K M H → QP X.K M H σ Δ → τ Δ M Φ →
 (∀ vs H' xs M', ZN X.K M' H' → Step M H M' H' → J7 X.K M' H' vs xs → Φ xs M' → Q vs H') → t σ H Q
structure Yg (K : PySem.W.Frag) (M : Mp) (H : Hp) (D : Qa) (E : Ends) : Prop where
 nx : ∀ σ' H' Δ' M', ZN K M' H' → Step M H M' H' → QP K M' H' σ' Δ' → D.nx Δ' M' → E.nx σ' H'
 rt : Rch K M H D.rt E.rt
 bk : ∀ σ' H' Δ' M', ZN K M' H' → Step M H M' H' → QP K M' H' σ' Δ' → D.bk Δ' M' → E.bk σ' H'
 ct : ∀ σ' H' Δ' M', ZN K M' H' → Step M H M' H' → QP K M' H' σ' Δ' → D.ct Δ' M' → E.ct σ' H'
theorem Yg.step {K : PySem.W.Frag} {M M' : Mp} {H H' : Hp} {D : Qa} {E : Ends} (h : Yg K M H D E) (st : Step M H M' H') : Yg K M' H' D E :=
 ⟨fun a b c d r s => h.nx a b c d r (st.trans s), h.rt.step st, fun a b c d r s => h.bk a b c d r (st.trans s), fun a b c d r s => h.ct a b c d r (st.trans s)⟩
noncomputable def DS (X : Cx) (st : Stmt) (τ : DTS) : Prop := ∃ t, PS X st t ∧ ∀ σ H Δ M D E, ZN X.K M H → QP X.K M H σ Δ → τ D Δ M → Yg X.K M H D E → t E σ H
noncomputable def DSs (X : Cx) (st : List Stmt) (τ : DTS) : Prop := ∃ t, PSs X st t ∧ ∀ σ H Δ M D E, ZN X.K M H → QP X.K M H σ Δ → τ D Δ M → Yg X.K M H D E → t E σ H
section
variable {X : Cx} {a b c : Expr} {ta tb tc : DTE} {pos : Pos}
noncomputable def Zd5 (i : Nat) : DTE := fun Δ M Φ => onV Δ[i]? fun x => Φ x M
noncomputable def dC (d : PyData) : DTE := fun _ M Φ => Φ (.dat d) M
theorem Zb (i : Nat) {x : Str} {pos : Pos} (hN : X.N[i]? = some x := by rfl) (hv : Vis X.env.scope x := by first | exact Or.inl rfl | exact Or.inr (Or.inl rfl) | exact Or.inr (Or.inr rfl)) (hd : (x == ("__debug__" : Str)) = false := by decide)
  (hcd : (x == ("__classdict__" : Str)) = false := by decide) : DE X (.Name x pos) (Zd5 i) := by
 refine ⟨_, Zap hN hv hd hcd, fun σ H Δ M Φ Q r e h k => ?_⟩
 replace h := Zbe h
 obtain ⟨x, e1, h⟩ := h
 obtain ⟨v, e2, q⟩ := e.at' i x e1
 exact ⟨v, e2, k v H x M r Step.refl q h⟩
theorem VZ {e : Expr} {v : V} {d : PyData} (h : PE X e (tC v)) (q : ∀ M H, Dt X.K M H v d) : DE X e (dC d) :=
 ⟨_, h, fun _ H _ M _ _ r _ h k => k v H (.dat d) M r Step.refl (q M H) h⟩
theorem Zc {i j pos} : DE X (.Constant (.int i) j pos) (dC (.int i)) := VZ Tj fun _ _ => .int i
theorem YS {b j pos} : DE X (.Constant (.bool b) j pos) (dC (.bool b)) := VZ Zc6 fun _ _ => .bl b
theorem Cu {j pos} : DE X (.Constant .none j pos) (dC .none) := VZ Sw fun _ _ => .non
theorem ZQ {x j pos} : DE X (.Constant (.str x) j pos) (dC (.str x)) := VZ Zay fun _ _ => .str x
noncomputable def dTy (n : String) : DTE := fun _ M Φ => Φ (.ty n) M
end
end DL
namespace DL
open PySem PySem.Spec PyProof.Rows L2
section
variable {K : PySem.W.Frag} {M M' : Mp} {H H' : Hp} {v : V}
theorem Ql.bool {b : Bool} (h : Ql K M H v (.dat (.bool b))) : v = .bl b := by cases (show Dt K M H v (.bool b) from h); rfl
theorem Ql.int {i : Int} (h : Ql K M H v (.dat (.int i))) : v = .int i := by cases (show Dt K M H v (.int i) from h); rfl
theorem Ql.str {x : Str} (h : Ql K M H v (.dat (.str x))) : v = .str x := by cases (show Dt K M H v (.str x) from h); rfl
theorem Ql.tup {ds : List PyData} (h : Ql K M H v (.dat (.tuple ds))) : ∃ a xs, v = .ref a ∧ TupAt K M H a xs ∧ Dts K M H xs ds := by
 cases (show Dt K M H v (.tuple ds) from h) with
 | tup h1 h2 => exact ⟨_, _, rfl, h1, h2⟩
theorem Ql.lst {ds : List PyData} (h : Ql K M H v (.dat (.list ds))) : ∃ a xs, v = .ref a ∧ LstAt K M H a xs ∧ Dts K M H xs ds := by
 cases (show Dt K M H v (.list ds) from h) with
 | lst h1 h2 => exact ⟨_, _, rfl, h1, h2⟩
theorem Dt.EV {p : Addr} {xs : List V} {ds : List PyData} (r : ZN K M H) (hp : H p = none) (h : Dts K M H xs ds) : Dt K M (upd H p (.tup xs)) (.ref p) (.tuple ds) :=
 .tup (.inl ⟨r.tracked hp, .inl Qx⟩) (h.step (Step.new hp))
theorem Dt.Vc {p : Addr} {xs : List V} {ds : List PyData} (r : ZN K M H) (hp : H p = none) (h : Dts K M H xs ds) : Dt K M (upd H p (.lst xs)) (.ref p) (.list ds) :=
 .lst (.inl ⟨r.tracked hp, .inl Qx⟩) (h.step (Step.new hp))
end
noncomputable def Snd (K : PySem.W.Frag) (t : TE) (τ : DTE) : Prop := ∀ σ H Δ M Φ Q, ZN K M H → QP K M H σ Δ → τ Δ M Φ → Rch K M H Φ Q → t σ H Q
theorem Snd.bin {K : PySem.W.Frag} {ta tb : TE} {τa τb : DTE} (qa : Snd K ta τa) (qb : Snd K tb τb) {M : Mp} {H : Hp} {σ : L2.St} {Δ : DSt} {S : DV → DV → Mp → Prop} {R : V → V → Hp → Prop} (r : ZN K M H) (e : QP K M H σ Δ)
  (h : τa Δ M fun x M1 => τb Δ M1 fun y M2 => S x y M2)
  (k : ∀ v u H2 x y M2, ZN K M2 H2 → Step M H M2 H2 → Ql K M2 H2 v x → Ql K M2 H2 u y → S x y M2 → R v u H2) : ta σ H fun v H1 => tb σ H1 fun u H2 => R v u H2 :=
 qa σ H Δ M _ _ r e h fun v H1 x M1 r1 st rv hx => qb σ H1 Δ M1 _ _ r1 (e.step st) hx fun u H2 y M2 r2 st2 ru hy => k v u H2 x y M2 r2 (st.trans st2) (rv.step st2) ru hy
noncomputable abbrev D2 := DV → DV → Mp → DK → Prop
noncomputable def OpD (X : Cx) (f : Value → Value → Sem Value) (δ : D2) : Prop := ∃ r : R2, OpR X f r ∧ ∀ v u H x y M Φ Q, ZN X.K M H → Ql X.K M H v x → Ql X.K M H u y → δ x y M Φ → Rch X.K M H Φ Q → r v u H Q
noncomputable def dOp (δ : D2) (ta tb : DTE) : DTE := fun Δ M Φ => ta Δ M fun x M1 => tb Δ M1 fun y M2 => δ x y M2 Φ
section
variable {X : Cx} {a b c : Expr} {ta tb tc : DTE} {pos : Pos} {op op' : CmpOp} {δ δ' : D2}
theorem Snd.opn {ta' tb' : TE} {r : R2} (ha : Snd X.K ta' ta) (hb : Snd X.K tb' tb) (q : ∀ v u H x y M Φ Q, ZN X.K M H → Ql X.K M H v x → Ql X.K M H u y → δ x y M Φ → Rch X.K M H Φ Q → r v u H Q) : Snd X.K (tOp r ta' tb') (dOp δ ta tb) :=
 fun _ _ _ _ _ _ dr e h k => Snd.bin ha hb dr e h fun v u H2 x y M2 r2 st rv ru hs => q v u H2 x y M2 _ _ r2 rv ru hs (k.step st)
theorem Zm {bop : Operator} (ho : OpD X (binaryOp bop) δ) (ha : DE X a ta) (hb : DE X b tb) : DE X (.BinOp a bop b pos) (dOp δ ta tb) := by
 obtain ⟨ta', pa, qa⟩ := ha
 obtain ⟨tb', pb, qb⟩ := hb
 obtain ⟨r, hr, q⟩ := ho
 exact ⟨_, Zcv hr pa pb, Snd.opn qa qb q⟩
theorem Xd (ho : OpD X (compareOp op) δ) (ha : DE X a ta) (hb : DE X b tb) (hm : behindInMarks op b = false := by first | exact Nt _ | rfl) : DE X (.Compare a [op] [b] pos) (dOp δ ta tb) := by
 obtain ⟨ta', pa, qa⟩ := ha
 obtain ⟨tb', pb, qb⟩ := hb
 obtain ⟨r, hr, q⟩ := ho
 exact ⟨_, Od hr pa pb hm, Snd.opn qa qb q⟩
noncomputable def dB (t : DTE) : DTT := fun Δ M Φ => t Δ M fun x M1 => onB x fun c => Φ c M1
theorem Snd.test {t : TE} {τ : DTE} (h : Snd X.K t τ) {σ : L2.St} {H : Hp} {Δ : DSt} {M : Mp} {Φ : Bool → Mp → Prop} {Q : Bool → Hp → Prop} (r : ZN X.K M H) (e : QP X.K M H σ Δ) (hw : dB τ Δ M Φ)
  (k : ∀ b H' M', ZN X.K M' H' → Step M H M' H' → Φ b M' → Q b H') : t σ H fun x H1 => ∃ c, x = .bl c ∧ Q c H1 := by
 refine h σ H Δ M _ _ r e hw fun v H1 x M1 r1 st rv hx => ?_
 replace hx := Ck hx
 obtain ⟨c, rfl, hx⟩ := hx
 exact ⟨c, rv.bool, k c H1 M1 r1 st hx⟩
theorem ZA (ho : OpD X (compareOp op) δ) (ha : DE X a ta) (hb : DE X b tb) (hm : behindInMarks op b = false := by first | exact Nt _ | rfl) : DT X (.Compare a [op] [b] pos) (dB (dOp δ ta tb)) := by
 obtain ⟨ta', pa, qa⟩ := ha
 obtain ⟨tb', pb, qb⟩ := hb
 obtain ⟨r, hr, q⟩ := ho
 exact ⟨_, Ru hr pa pb hm, fun _ _ _ _ _ _ dr e h k => Snd.test (Snd.opn qa qb q) dr e h k⟩
theorem V8 {e : Expr} {τ : DTE} (h : DE X e τ) (he : ∀ whole, isTrue e X.env whole = (do let v ← whole; standAt e.pos; holding [v] (truthy v)) := by intro _; rfl) : DT X e (dB τ) := by
 obtain ⟨t, p, q⟩ := h
 exact ⟨_, ZaY p he, fun _ _ _ _ _ _ dr e h k => Snd.test q dr e h k⟩
noncomputable def ZbB (δ δ' : D2) (ta tb tc : DTE) : DTE := fun Δ M Φ => ta Δ M fun x M1 => tb Δ M1 fun y M2 => δ x y M2 fun z M3 => onB z fun k => (if k = true then tc Δ M3 fun w' M4 => δ' y w' M4 Φ else Φ (.dat (.bool false)) M3)
variable {tA tB' : DTT} {rest : List Expr}
noncomputable def ZdT (t u : DTT) : DTT := fun Δ M Φ => t Δ M fun c M1 => if c = true then u Δ M1 Φ else Φ false M1
noncomputable def dOr (t u : DTT) : DTT := fun Δ M Φ => t Δ M fun c M1 => if c = true then Φ true M1 else u Δ M1 Φ
noncomputable def Zeg (t : DTT) : DTT := fun Δ M Φ => t Δ M fun c M1 => Φ (!c) M1
theorem DW.dt {e : Expr} {τ : DTT} (h : DW X e τ) : DT X e τ := by
 obtain ⟨t, p, q⟩ := h
 exact ⟨t, p.pt, q⟩
theorem Yr (ha : DT X a tA) : DW X (.BoolOp .And [a] pos) tA := by
 obtain ⟨t, p, q⟩ := ha
 exact ⟨t, Pr p, q⟩
theorem GK (ha : DT X a tA) : DW X (.BoolOp .Or [a] pos) tA := by
 obtain ⟨t, p, q⟩ := ha
 exact ⟨t, Zam p, q⟩
theorem Wy (ha : DT X a tA) (hb : DW X (.BoolOp .And (b :: rest) pos) tB') : DW X (.BoolOp .And (a :: b :: rest) pos) (ZdT tA tB') := by
 obtain ⟨t, p, q⟩ := ha
 obtain ⟨u, p2, q2⟩ := hb
 refine ⟨_, ZaK p p2, fun σ H Δ M Φ Q r e h k => ?_⟩
 refine q σ H Δ M _ _ r e h fun c H1 M1 r1 st hc => ?_
 cases c with
 | true => rw [if_pos rfl]; exact q2 σ H1 Δ M1 Φ Q r1 (e.step st) (by simpa using hc) fun b H2 M2 r2 st2 hb => k b H2 M2 r2 (st.trans st2) hb
 | false => rw [if_neg Bool.false_ne_true]; exact k false H1 M1 r1 st (by simpa using hc)
theorem LS (ha : DT X a tA) (hb : DW X (.BoolOp .Or (b :: rest) pos) tB') : DW X (.BoolOp .Or (a :: b :: rest) pos) (dOr tA tB') := by
 obtain ⟨t, p, q⟩ := ha
 obtain ⟨u, p2, q2⟩ := hb
 refine ⟨_, Zct p p2, fun σ H Δ M Φ Q r e h k => ?_⟩
 refine q σ H Δ M _ _ r e h fun c H1 M1 r1 st hc => ?_
 cases c with
 | false => rw [if_neg Bool.false_ne_true]; exact q2 σ H1 Δ M1 Φ Q r1 (e.step st) (by simpa using hc) fun b H2 M2 r2 st2 hb => k b H2 M2 r2 (st.trans st2) hb
 | true => rw [if_pos rfl]; exact k true H1 M1 r1 st (by simpa using hc)
theorem Wg (ha : DT X a tA) : DT X (.UnaryOp .Not a pos) (Zeg tA) := by
 obtain ⟨t, p, q⟩ := ha
 exact ⟨_, Zby p, fun σ H Δ M Φ Q r e h k => q σ H Δ M _ _ r e h fun c H1 M1 r1 st hc => k _ H1 M1 r1 st hc⟩
noncomputable def Sy (ta tb : DTE) : DTE := fun Δ M Φ => ta Δ M fun x M1 => onB x fun c => if c = true then tb Δ M1 Φ else Φ (.dat (.bool false)) M1
noncomputable def ZeC (ta tb : DTE) : DTE := fun Δ M Φ => ta Δ M fun x M1 => onB x fun c => if c = true then Φ (.dat (.bool true)) M1 else tb Δ M1 Φ
noncomputable def Zdb (ta : DTE) : DTE := fun Δ M Φ => ta Δ M fun x M1 => onB x fun c => Φ (.dat (.bool (!c))) M1
theorem E3 {bop} (h : DE X a ta) : DE X (.BoolOp bop [a] pos) ta := by
 obtain ⟨t, p, q⟩ := h
 exact ⟨t, Zag p, q⟩
theorem NZ (ha : DE X a ta) (hb : DE X (.BoolOp .And (b :: rest) pos) tb) : DE X (.BoolOp .And (a :: b :: rest) pos) (Sy ta tb) := by
 obtain ⟨t, p, q⟩ := ha
 obtain ⟨u, p2, q2⟩ := hb
 refine ⟨_, Za7 p p2, fun σ H Δ M Φ Q r e h k => ?_⟩
 refine q σ H Δ M _ _ r e h fun v H1 x M1 r1 st rv hx => ?_
 replace hx := Ck hx
 obtain ⟨c, rfl, hx⟩ := hx
 refine ⟨c, rv.bool, ?_⟩
 cases c with
 | true => rw [if_pos rfl]; exact q2 σ H1 Δ M1 Φ Q r1 (e.step st) (by simpa using hx) (k.step st)
 | false => rw [if_neg Bool.false_ne_true]; exact k.dat r1 st (Dt.bl false) (by simpa using hx)
theorem Zdy (ha : DE X a ta) (hb : DE X (.BoolOp .Or (b :: rest) pos) tb) : DE X (.BoolOp .Or (a :: b :: rest) pos) (ZeC ta tb) := by
 obtain ⟨t, p, q⟩ := ha
 obtain ⟨u, p2, q2⟩ := hb
 refine ⟨_, Zc5 p p2, fun σ H Δ M Φ Q r e h k => ?_⟩
 refine q σ H Δ M _ _ r e h fun v H1 x M1 r1 st rv hx => ?_
 replace hx := Ck hx
 obtain ⟨c, rfl, hx⟩ := hx
 refine ⟨c, rv.bool, ?_⟩
 cases c with
 | false => rw [if_neg Bool.false_ne_true]; exact q2 σ H1 Δ M1 Φ Q r1 (e.step st) (by simpa using hx) (k.step st)
 | true => rw [if_pos rfl]; exact k.dat r1 st (Dt.bl true) (by simpa using hx)
noncomputable def dIf (t : DTT) (ta tb : DTE) : DTE := fun Δ M Φ => t Δ M fun c M1 => if c = true then ta Δ M1 Φ else tb Δ M1 Φ
noncomputable def ZdO (g : Int → Int) (ta : DTE) : DTE := fun Δ M Φ => ta Δ M fun x M1 => onI x fun i => Φ (.dat (.int (g i))) M1
theorem DP (ha : DE X a ta) : DE X (.UnaryOp .USub a pos) (ZdO (fun i => -i) ta) := by
 obtain ⟨t, p, q⟩ := ha
 refine ⟨_, Zca Za1 p, fun σ H Δ M Φ Q r e h k => ?_⟩
 refine q σ H Δ M _ _ r e h fun v H1 x M1 r1 st rv hx => ?_
 replace hx := ZG hx
 obtain ⟨i, rfl, hx⟩ := hx
 exact ⟨i, rv.int, k.dat r1 st (Dt.int (-i)) hx⟩
noncomputable def δI (C : Int → Int → Prop) (g : Int → Int → PyData) : D2 := fun x y M Φ => onI x fun i => onI y fun j => C i j ∧ Φ (.dat (g i j)) M
noncomputable def δI0 (g : Int → Int → PyData) : D2 := fun x y M Φ => onI x fun i => onI y fun j => Φ (.dat (g i j)) M
theorem Zbh {f : Value → Value → Sem Value} {C : Int → Int → Prop} {g : Int → Int → Int} (h : OpR X f (rI C fun i j => .int (g i j))) : OpD X f (δI C fun i j => .int (g i j)) :=
 ⟨_, h, fun v u H x y M Φ Q r rv ru h k => by
  replace h := ZG h
  obtain ⟨i, e1, h⟩ := h
  replace h := ZG h
  obtain ⟨j, e2, hc, q⟩ := h
  subst e1 e2
  exact ⟨i, j, rv.int, ru.int, hc, k.dat r Step.refl (Dt.int _) q⟩⟩
theorem ZaB {f : Value → Value → Sem Value} {g : Int → Int → Int} (h : OpR X f (rI0 fun i j => .int (g i j))) : OpD X f (δI0 fun i j => .int (g i j)) :=
 ⟨_, h, fun v u H x y M Φ Q r rv ru h k => by
  replace h := ZG h
  obtain ⟨i, e1, h⟩ := h
  replace h := ZG h
  obtain ⟨j, e2, q⟩ := h
  subst e1 e2
  exact ⟨i, j, rv.int, ru.int, k.dat r Step.refl (Dt.int _) q⟩⟩
theorem HQ {f : Value → Value → Sem Value} {g : Int → Int → Bool} (h : OpR X f (rI0 fun i j => .bl (g i j))) : OpD X f (δI0 fun i j => .bool (g i j)) :=
 ⟨_, h, fun v u H x y M Φ Q r rv ru h k => by
  replace h := ZG h
  obtain ⟨i, e1, h⟩ := h
  replace h := ZG h
  obtain ⟨j, e2, q⟩ := h
  subst e1 e2
  exact ⟨i, j, rv.int, ru.int, k.dat r Step.refl (Dt.bl _) q⟩⟩
theorem ZL : OpD X (binaryOp .Add) (δI0 fun i j => .int (i + j)) := ZaB ZaC
theorem Qe : OpD X (binaryOp .Sub) (δI0 fun i j => .int (i - j)) := ZaB Zax
theorem Jg : OpD X (binaryOp .Mult) (δI ZbS fun i j => .int (i * j)) := Zbh Tg
theorem Dd : OpD X (binaryOp .FloorDiv) (δI ZdW fun i j => .int (i / j)) := Zbh Pf
theorem JM : OpD X (binaryOp .Mod) (δI (fun _ j => 0 < j) fun i j => .int (i % j)) := Zbh Zbf
theorem Wh : OpD X (binaryOp .Pow) (δI Zcq fun i j => .int (i ^ j.toNat)) := Zbh TX
theorem MR : OpD X (compareOp .Lt) (δI0 fun i j => .bool (decide (i < j))) := HQ Zcd
theorem ZbC : OpD X (compareOp .LtE) (δI0 fun i j => .bool (decide (i ≤ j))) := HQ Zcj
theorem Mt : OpD X (compareOp .Gt) (δI0 fun i j => .bool (decide (j < i))) := HQ Zc0
theorem Zcm : OpD X (compareOp .GtE) (δI0 fun i j => .bool (decide (j ≤ i))) := HQ Zcw
noncomputable def δB (g : Bool → Bool → Bool) : D2 := fun x y M Φ => onB x fun c => onB y fun d => Φ (.dat (.bool (g c d))) M
noncomputable def SD : D2 := fun x y M Φ => onT x fun ds => onT y fun es => ds ≠ [] ∧ ds.length + es.length ≤ sizeLine ∧ Φ (.dat (.tuple (ds ++ es))) M
theorem Me : OpR X (binaryOp .Add) (fun x y H Q => ∃ l b xs zs, x = .ref l ∧ y = .ref b ∧ SqL X.K H l xs ∧ SqL X.K H b zs ∧ xs.length + zs.length ≤ sizeLine ∧ ∀ p, H p = none → Q (.ref p) (upd H p (.lst (xs ++ zs)))) := by
 intro pins s σ H x y v u Q I rx ry h
 obtain ⟨l, b, xs, zs, rfl, rfl, hl, hb, hz, q⟩ := h
 cases rx
 cases ry
 obtain ⟨its, r1, p1, _⟩ := I.list hl
 obtain ⟨its2, r2, p2, _⟩ := I.list hb
 obtain ⟨⟨cls, dd, data, sl⟩, ho, hc, n, hd⟩ := p1.isList
 obtain ⟨⟨cls2, dd2, data2, sl2⟩, ho2, hc2, n2, hd2⟩ := p2.isList
 simp only at hc hd hc2 hd2
 subst hc hd hc2 hd2
 have e : its.toArray ++ its2.toArray = (its ++ its2).toArray := by simp
 have hsz : its.toArray.size + its2.toArray.size ≤ sizeLine := by rw [List.size_toArray, List.size_toArray, ← r1.length, ← r2.length]; exact hz
 refine concat_meets ⟨_, ho, rfl⟩ ⟨_, ho2, rfl⟩ noFill_list_add seq_list_add PySem.F.slot_list_add PySem.F.entry_list_add (PySem.F.args_list_add_2 _ _) (list_addW l b its.toArray its2.toArray n n2 dd dd2 sl sl2 hsz) ⟨ho, ho2, ?_⟩
 rw [e]
 exact ⟨.ref _, _, I.ZeT (t' := s.toks) (r1.append r2) (by rw [List.length_append]; exact hz), rfl, q _ I.fresh⟩
noncomputable def Zau : D2 := fun x y M Φ => onL x fun ds => onL y fun es => ds.length + es.length ≤ sizeLine ∧ Φ (.dat (.list (ds ++ es))) M
noncomputable def Ol : D2 := fun x y M Φ => onL x fun ds => onL y fun es => ds.length + es.length ≤ sizeLine ∧ ∀ p, M p = none → Φ (.own p) (Zx M p (.lst (ds ++ es)))
end
noncomputable def ZdZ : DTA := fun _ M Φ => Φ [] M
noncomputable def Za4 (ta : DTE) (tr : DTA) : DTA := fun Δ M Φ => ta Δ M fun x M1 => tr Δ M1 fun xs M2 => Φ (x :: xs) M2
section
variable {X : Cx} {e : Expr} {es : List Expr} {te : DTE} {t : DTA} {pos : Pos}
theorem Zd : DA X [] ZdZ := ⟨_, Gv, fun _ H _ M _ _ r _ h k => k [] H [] M r Step.refl .nil h⟩
theorem Za (ha : DE X e te) (hr : DA X es t) (hs : starEach (e :: es) X.env = (false, eval e X.env) :: starEach es X.env := by rfl) : DA X (e :: es) (Za4 te t) := by
 obtain ⟨u, p, q⟩ := ha
 obtain ⟨w, p2, q2⟩ := hr
 refine ⟨_, Xk p p2 hs, fun σ H Δ M Φ Q r e h k => ?_⟩
 refine q σ H Δ M _ _ r e h fun v H1 x M1 r1 st rv hx => ?_
 exact q2 σ H1 Δ M1 _ _ r1 (e.step st) hx fun vs H2 xs M2 r2 st2 rvs hxs => k (v :: vs) H2 (x :: xs) M2 r2 (st.trans st2) (.cons (rv.step st2) rvs) hxs
noncomputable def ZdS (t : DTA) : DTE := fun Δ M Φ => t Δ M fun xs M1 => YX xs fun ds => Φ (.dat (.tuple ds)) M1
noncomputable def Zeq (t : DTA) : DTE := fun Δ M Φ => t Δ M fun xs M1 => YX xs fun ds => Φ (.dat (.list ds)) M1
noncomputable def Zak (t : DTA) : DTE := fun Δ M Φ => t Δ M fun xs M1 => YX xs fun ds => ∀ p, M1 p = none → Φ (.own p) (Zx M1 p (.lst ds))
theorem ZJ {x1} (h : DA X es t) : DE X (.Tuple es x1 pos) (ZdS t) := by
 obtain ⟨u, p, q⟩ := h
 refine ⟨_, TC p, fun σ H Δ M Φ Q r e h k => ?_⟩
 refine q σ H Δ M _ _ r e h fun vs H1 xs M1 r1 st rv hx => ?_
 replace hx := U6 hx
 obtain ⟨ds, rfl, hz', hx⟩ := hx
 have hz : ds.length ≤ sizeLine := by rw [sizeLine_eq]; omega
 have hd := rv.ZbZ
 refine ⟨by rw [hd.length]; exact hz, fun p hp => ?_⟩
 exact k.dat (r1.new hp) (st.trans (Step.new hp)) (Dt.EV r1 hp hd) hx
theorem Qc (h : DA X es t) : DE X (.List es pos) (Zeq t) := by
 obtain ⟨u, p, q⟩ := h
 refine ⟨_, Ny p, fun σ H Δ M Φ Q r e h k => ?_⟩
 refine q σ H Δ M _ _ r e h fun vs H1 xs M1 r1 st rv hx => ?_
 replace hx := U6 hx
 obtain ⟨ds, rfl, hz', hx⟩ := hx
 have hz : ds.length ≤ sizeLine := by rw [sizeLine_eq]; omega
 have hd := rv.ZbZ
 refine ⟨by rw [hd.length]; exact hz, fun p hp => ?_⟩
 exact k.dat (r1.new hp) (st.trans (Step.new hp)) (Dt.Vc r1 hp hd) hx
theorem QD (h : DA X es t) : DE X (.List es pos) (Zak t) := by
 obtain ⟨u, p, q⟩ := h
 refine ⟨_, Ny p, fun σ H Δ M Φ Q r e h k => ?_⟩
 refine q σ H Δ M _ _ r e h fun vs H1 xs M1 r1 st rv hx => ?_
 replace hx := U6 hx
 obtain ⟨ds, rfl, hz', hx⟩ := hx
 have hz : ds.length ≤ sizeLine := by rw [sizeLine_eq]; omega
 have hd := rv.ZbZ
 refine ⟨by rw [hd.length]; exact hz, fun p hp => ?_⟩
 exact k _ _ (.own p) _ (r1.Y2 (Step.J8 hp) hd) (st.trans (Step.J8 hp)) rfl (hx p (r1.tracked hp))
noncomputable def ZdY (t : DTE) : DTE := fun Δ M Φ => t Δ M fun x M1 => onO x fun l => JI (M1 l) fun ds => Φ (.dat (.list ds)) (VD M1 l)
theorem Ku (h : DE X e te) : DE X e (ZdY te) := by
 obtain ⟨u, p, q⟩ := h
 refine ⟨u, p, fun σ H Δ M Φ Q r e h k => ?_⟩
 refine q σ H Δ M _ _ r e h fun v H1 x M1 r1 st rv hx => ?_
 replace hx := Z6 hx
 obtain ⟨l, rfl, hx⟩ := hx
 replace hx := QR hx
 obtain ⟨ds, hm, hx⟩ := hx
 obtain ⟨vs, e1, e2⟩ := r1.ls l ds hm
 cases (show v = .ref l from rv)
 exact k.dat r1.frz (st.trans Step.frz) (Dt.lst (.inl ⟨KW, .inl e1⟩) (e2.step Step.frz)) hx
noncomputable def WY : List PyData → Nat → (PyData → Prop) → Prop
 | [], _, _ => False
 | d :: _, 0, P => P d
 | _ :: r, n + 1, P => WY r n P
noncomputable def YY (ds : List PyData) (i : Int) (P : PyData → Prop) : Prop := match i with
 | Int.ofNat n => WY ds n P
 | Int.negSucc n => WY ds.reverse n P
theorem Kh : ∀ {ds : List PyData} {n : Nat} {P : PyData → Prop}, WY ds n P → ∃ d, ds[n]? = some d ∧ P d
 | [], _, _, h => h.elim
 | d :: _, 0, _, h => ⟨d, rfl, h⟩
 | _ :: r, n + 1, _, h => by
  obtain ⟨d, e, hp⟩ := Kh (ds := r) (n := n) h
  exact ⟨d, by rw [List.getElem?_cons_succ]; exact e, hp⟩
theorem Kn : ∀ {ds : List PyData} {n : Nat} {P : PyData → Prop} {d : PyData}, ds[n]? = some d → P d → WY ds n P
 | [], _, _, _, e, _ => by simp at e
 | d :: _, 0, _, _, e, h => by simp at e; subst e; exact h
 | _ :: r, n + 1, _, _, e, h => Kn (ds := r) (n := n) (by rw [List.getElem?_cons_succ] at e; exact e) h
theorem Sd {ds : List PyData} {i : Int} {P : PyData → Prop} (h : YY ds i P) : ∃ d, atI ds i = some d ∧ P d := by
 unfold YY at h
 split at h
 ·rename_i n
  replace h := Kh h
  obtain ⟨d, e, hp⟩ := h
  exact ⟨d, Vs e, hp⟩
 ·rename_i n
  replace h := Kh h
  obtain ⟨d, e, hp⟩ := h
  refine ⟨d, ?_, hp⟩
  have hl := (List.getElem?_eq_some_iff.mp e).1
  rw [List.length_reverse] at hl
  rw [List.getElem?_reverse hl] at e
  unfold L2.atI ixN
  have e1 : ¬ (0 ≤ Int.negSucc n) := by omega
  rw [if_neg e1]
  have e2 : -(ds.length : Int) ≤ Int.negSucc n := by omega
  rw [if_pos e2]
  have e3 : (Int.negSucc n + (ds.length : Int)).toNat = ds.length - 1 - n := by omega
  simp only [e3]
  exact e
theorem Vu {ds : List PyData} {i : Int} {P : PyData → Prop} {d : PyData} (e : atI ds i = some d) (h : P d) : YY ds i P := by
 unfold L2.atI at e
 cases i with
 | ofNat n =>
  have hh : ixN ds.length (Int.ofNat n) = if n < ds.length then some n else none := by
   unfold ixN
   rw [if_pos (show (0 : Int) ≤ Int.ofNat n from Int.natCast_nonneg n)]
   by_cases hn : n < ds.length
   ·rw [if_pos hn, if_pos (show Int.ofNat n < _ by show ((n : Nat) : Int) < _; omega)]
    rfl
   ·rw [if_neg hn, if_neg (show ¬ Int.ofNat n < _ by show ¬ ((n : Nat) : Int) < _; omega)]
  rw [hh] at e
  split at e
  ·exact Kn (by exact e) h
  ·cases e
 | negSucc n =>
  unfold ixN at e
  rw [if_neg (by omega)] at e
  by_cases hn : -(ds.length : Int) ≤ Int.negSucc n
  ·rw [if_pos hn] at e
   have e3 : (Int.negSucc n + (ds.length : Int)).toNat = ds.length - 1 - n := by omega
   simp only [e3] at e
   refine Kn (d := d) ?_ h
   rw [List.getElem?_reverse (by omega)]
   exact e
  ·rw [if_neg hn] at e
   cases e
theorem C0 (l : List PyData) (a : PyData) (P : PyData → Prop) : YY (l ++ [a]) (-1) P = P a := by
 show WY (l ++ [a]).reverse 0 P = P a
 rw [List.reverse_append]
 rfl
noncomputable def δIx : D2 := fun x y M Φ => onQ x M fun ds => onI y fun i => YY ds i fun d => Φ (.dat d) M
theorem Dts.atI {K : PySem.W.Frag} {M : Mp} {H : Hp} {vs : List V} {ds : List PyData} {i : Int} {d : PyData} (h : Dts K M H vs ds) (e : L2.atI ds i = some d) : ∃ v, L2.atI vs i = some v ∧ Dt K M H v d := by
 unfold L2.atI at e ⊢
 rw [h.length]
 cases q : ixN ds.length i with
 | none => rw [q] at e; cases e
 | some j =>
  rw [q] at e
  exact h.get e
theorem Zi {a b : Expr} {ta tb : DTE} (ha : DE X a ta) (hb : DE X b tb) (hs : W5 b := by intro _ _; rfl) : DE X (.Subscript a b pos) (dOp δIx ta tb) := by
 obtain ⟨ta', pa, qa⟩ := ha
 obtain ⟨tb', pb, qb⟩ := hb
 refine ⟨_, T2 SQ pa pb hs, Snd.opn qa qb fun v u H x y M Φ Q r rv ru h k => ?_⟩
 replace h := CA h
 obtain ⟨ds, hx, h⟩ := h
 replace h := ZG h
 obtain ⟨i, rfl, h⟩ := h
 replace h := Sd h
 obtain ⟨d, hd, q⟩ := h
 cases ru.int
 rcases hx with rfl | rfl | ⟨l, rfl, hm⟩
 ·obtain ⟨p, xs, rfl, h1, h2⟩ := rv.tup
  obtain ⟨w', e1, e2⟩ := h2.atI hd
  exact .inr (.inl ⟨p, xs, i, w', rfl, rfl, h1.sq, e1, k.dat r Step.refl e2 q⟩)
 ·obtain ⟨p, xs, rfl, h1, h2⟩ := rv.lst
  obtain ⟨w', e1, e2⟩ := h2.atI hd
  exact .inl ⟨p, xs, i, w', rfl, rfl, h1.sq, e1, k.dat r Step.refl e2 q⟩
 ·cases (show v = .ref l from rv)
  obtain ⟨vs, g1, g2⟩ := r.ls l ds hm
  obtain ⟨w', e1, e2⟩ := g2.atI hd
  exact .inl ⟨l, vs, i, w', rfl, rfl, SqL.of g1, e1, k.dat r Step.refl e2 q⟩
end
noncomputable abbrev D1 := List DV → Mp → DK → Prop
noncomputable def J1 (X : Cx) (f : Value) (δ : D1) : Prop := ∃ r, JU X f r ∧ ∀ vs H xs M Φ Q, ZN X.K M H → J7 X.K M H vs xs → δ xs M Φ → Rch X.K M H Φ Q → r vs H Q
noncomputable def dCB (δ : D1) (t : DTA) : DTE := fun Δ M Φ => t Δ M fun xs M1 => δ xs M1 Φ
section
variable {X : Cx} {e : Expr} {es : List Expr} {t : DTA} {pos p : Pos} {x : Str} {id : String} {δ : D1}
theorem Zu (hc : J1 X (.builtin id) δ) (hg : Gl X x) (hm : X.mg x = none) (hv : bootBuiltins x = some (.builtin id)) (ha : DA X (e :: es) t) (hn : x ≠ "__name__" := by decide) (hdb : (x == ("__debug__" : Str)) = false := by decide)
  (he : starEach (e :: es) X.env = (false, eval e X.env) :: starEach es X.env := by rfl) (hpl : (backTo pos (starEach es X.env)).any (·.1) = false := by rfl) : DE X (.Call (.Name x p) (e :: es) [] pos) (dCB δ t) := by
 obtain ⟨u, p, q⟩ := ha
 obtain ⟨r, hr, qr⟩ := hc
 refine ⟨_, H9 hr hg hm hv p hn hdb he hpl, fun σ H Δ M Φ Q r e h k => ?_⟩
 exact q σ H Δ M _ _ r e h fun vs H1 xs M1 r1 st rv hx => qr vs H1 xs M1 _ _ r1 rv hx (k.step st)
theorem QV (hc : J1 X (.type id) δ) (hg : Gl X x) (hm : X.mg x = none) (hv : bootBuiltins x = some (.type id)) (ha : DA X (e :: es) t) (hn : x ≠ "__name__" := by decide) (hdb : (x == ("__debug__" : Str)) = false := by decide)
  (he : starEach (e :: es) X.env = (false, eval e X.env) :: starEach es X.env := by rfl) (hpl : (backTo pos (starEach es X.env)).any (·.1) = false := by rfl) : DE X (.Call (.Name x p) (e :: es) [] pos) (dCB δ t) := by
 obtain ⟨u, p, q⟩ := ha
 obtain ⟨r, hr, qr⟩ := hc
 refine ⟨_, Ey hr hg hm hv p hn hdb he hpl, fun σ H Δ M Φ Q r e h k => ?_⟩
 exact q σ H Δ M _ _ r e h fun vs H1 xs M1 r1 st rv hx => qr vs H1 xs M1 _ _ r1 rv hx (k.step st)
theorem Paired.one {α β : Type} {F : α → β → Prop} {l : List α} {b : β} (h : Paired F l [b]) : ∃ a, l = [a] ∧ F a b := by
 cases h with
 | cons h1 h2 => cases h2; exact ⟨_, rfl, h1⟩
theorem Paired.two {α β : Type} {F : α → β → Prop} {l : List α} {b c : β} (h : Paired F l [b, c]) : ∃ a a', l = [a, a'] ∧ F a b ∧ F a' c := by
 cases h with
 | cons h1 h2 =>
  obtain ⟨a, rfl, h3⟩ := Paired.one h2
  exact ⟨_, a, rfl, h1, h3⟩
noncomputable def SF : D1 := fun xs M Φ => on1 xs fun x => onQ x M fun ds => Φ (.dat (.int ds.length)) M
theorem Ye : J1 X (.builtin "len") SF := by
 refine ⟨_, Ww, fun vs H xs M Φ Q r rv h k => ?_⟩
 replace h := Z9 h
 obtain ⟨x, rfl, h⟩ := h
 replace h := CA h
 obtain ⟨ds, hx, q⟩ := h
 have fin : Q (.int ds.length) H := k.dat r Step.refl (Dt.int _) q
 rcases hx with rfl | rfl | ⟨l, rfl, hm⟩
 ·obtain ⟨v, rfl, h1⟩ := Paired.one rv
  obtain ⟨p, ys, rfl, g1, g2⟩ := Ql.tup h1
  exact ⟨p, ys, rfl, .inr g1.sq, by rw [g2.length]; exact fin⟩
 ·obtain ⟨v, rfl, h1⟩ := Paired.one rv
  obtain ⟨p, ys, rfl, g1, g2⟩ := Ql.lst h1
  exact ⟨p, ys, rfl, .inl g1.sq, by rw [g2.length]; exact fin⟩
 ·obtain ⟨v, rfl, h1⟩ := Paired.one rv
  cases (show v = .ref l from h1)
  obtain ⟨ws, g1, g2⟩ := r.ls l ds hm
  exact ⟨l, ws, rfl, .inl (SqL.of g1), by rw [g2.length]; exact fin⟩
noncomputable def Za8 : D1 := fun xs M Φ => on1 xs fun x => onS x fun z => z.length ≤ sizeLine ∧ Φ (.dat (.int z.length)) M
noncomputable def Zbo : D1 := fun xs M Φ => on1 xs fun x => onI x fun i => i.natAbs.log2 < 1920 ∧ Φ (.dat (.str (toString i))) M
noncomputable def T6 : D1 := fun xs M Φ => on1 xs fun x => onI x fun i => Φ (.dat (.int (if i < 0 then -i else i))) M
theorem NX : J1 X (.builtin "abs") T6 := by
 refine ⟨_, HZ, fun vs H xs M Φ Q r rv h k => ?_⟩
 replace h := Z9 h
 obtain ⟨x, rfl, h⟩ := h
 replace h := ZG h
 obtain ⟨i, rfl, q⟩ := h
 obtain ⟨v, rfl, h1⟩ := Paired.one rv
 exact ⟨i, by rw [Ql.int h1], k.dat r Step.refl (Dt.int _) q⟩
noncomputable def δ2I (g : Int → Int → Int) : D1 := fun xs M Φ => on2 xs fun x y => onI x fun i => onI y fun j => Φ (.dat (.int (g i j))) M
theorem UM (hc : X.calm = true) : J1 X (.builtin "max") (δ2I fun i j => max i j) := by
 refine ⟨_, Fo hc, fun vs H xs M Φ Q r rv h k => ?_⟩
 replace h := Zy h
 obtain ⟨x, y, rfl, h⟩ := h
 replace h := ZG h
 obtain ⟨i, rfl, h⟩ := h
 replace h := ZG h
 obtain ⟨j, rfl, q⟩ := h
 obtain ⟨v, u, rfl, h1, h2⟩ := Paired.two rv
 have e : (if j > i then j else i) = max i j := by rw [Int.max_def]; split <;> split <;> omega
 exact ⟨i, j, by rw [Ql.int h1, Ql.int h2], by rw [e]; exact k.dat r Step.refl (Dt.int _) q⟩
theorem FJ (hc : X.calm = true) : J1 X (.builtin "min") (δ2I fun i j => min i j) := by
 refine ⟨_, EO hc, fun vs H xs M Φ Q r rv h k => ?_⟩
 replace h := Zy h
 obtain ⟨x, y, rfl, h⟩ := h
 replace h := ZG h
 obtain ⟨i, rfl, h⟩ := h
 replace h := ZG h
 obtain ⟨j, rfl, q⟩ := h
 obtain ⟨v, u, rfl, h1, h2⟩ := Paired.two rv
 have e : (if j < i then j else i) = min i j := by rw [Int.min_def]; split <;> split <;> omega
 exact ⟨i, j, by rw [Ql.int h1, Ql.int h2], by rw [e]; exact k.dat r Step.refl (Dt.int _) q⟩
noncomputable def LU : D1 := fun xs M Φ => on1 xs fun x => onQ x M fun ds => Φ (.dat (.list ds)) M
end
end DL
namespace DL
open PySem PySem.Spec PyProof.Rows L2
mutual
noncomputable def Qr : PyData → Bool
 | .none | .bool _ | .int _ | .str _ => false
 | .list _ => true
 | .tuple xs => Z7 xs
 | .dict kvs => JC kvs
noncomputable def Z7 : List PyData → Bool
 | [] => false
 | x :: xs => Qr x || Z7 xs
noncomputable def JC : List (PyData × PyData) → Bool
 | [] => false
 | (k, v) :: r => Qr k || Qr v || JC r
end
theorem Jk : ∀ (ks ds : List PyData), ks.length = ds.length → JC (ks.zip ds) = false → Z7 ds = false
 | [], [], _, _ => by simp [Z7]
 | k :: ks, d :: ds, h, e => by
  rw [List.zip_cons_cons, JC] at e
  have e' : (Qr k = false ∧ Qr d = false) ∧ JC (ks.zip ds) = false := by simpa using e
  rw [Z7, e'.1.2, Jk ks ds (by simpa using h) e'.2]; rfl
 | [], _ :: _, h, _ => by simp at h
 | _ :: _, [], h, _ => by simp at h
section
variable {X : Cx} {pins : List (Addr × Obj)} {σ : L2.St} {H : Hp} {s : Shared} {M : Mp}
theorem K5 {h : Heap} {P : Program} {w : World} : ∀ {es : List DictEntry} {kvs : List (Key × Value)}, Pairs (ZT P w) es kvs → ReadsAll h (es.map (·.key)) (kvs.map fun kv => kD kv.1) []
 | _, _, .nil => .nil
 | _, _, .cons (e := e) (kv := kv) h1 _ h3 => by
  rw [List.map_cons, List.map_cons]
  have hk : Reads h e.key (kD kv.1) [] := by
   rcases ZR (k := kv.1) (v := e.key) h1 with ⟨i, t, e1, e2⟩ | ⟨x, t, e1, e2⟩
   ·rw [e1, e2]; exact .int i t
   ·rw [e1, e2]; exact .str x t
  exact .cons (as := []) (bs := []) hk (K5 h3)
theorem Y3 {P : Program} {w : World} : ∀ {es : List DictEntry} {kvs : List (Key × Value)}, Pairs (ZT P w) es kvs → es.map (·.val) = kvs.map (·.2)
 | _, _, .nil => rfl
 | _, _, .cons h1 h2 h3 => by rw [List.map_cons, List.map_cons, h2, Y3 h3]
theorem KV.vals {kvs : List (Key × V)} {vs : List (Key × Value)} (r : KV kvs vs) : Vals (kvs.map (·.2)) (vs.map (·.2)) ∧ (kvs.map fun kv => kD kv.1) = vs.map fun kv => kD kv.1 := by
 unfold KV at r
 induction r with
 | nil => exact ⟨.nil, rfl⟩
 | cons h _ ih => exact ⟨.cons h.2 ih.1, by rw [List.map_cons, List.map_cons, h.1, ih.2]⟩
theorem EZ {h : Heap} : ∀ {ks : List Key} {us : List Value}, Vals (ks.map kV) us → ReadsAll h us (ks.map kD) []
 | [], _, r => by rw [List.map_nil] at r; cases r; exact .nil
 | k :: ks, _, r => by
  rw [List.map_cons] at r
  cases r with
  | cons r1 r2 =>
   rw [List.map_cons]
   refine .cons (as := []) (bs := []) ?_ (EZ r2)
   cases k with
   | inl i => obtain ⟨t, rfl⟩ := r1; exact .int i t
   | inr x => obtain ⟨t, rfl⟩ := r1; exact .str x t
theorem KT.read (I : Inv X pins σ H s) {kvs : List (List Key × V)} {xs : List (List Key × Addr × Value)} (r : KT H kvs xs) :
  ReadsAll s.heap (xs.map fun x => Value.ref x.2.1) (kvs.map fun kv => PyData.tuple (kv.1.map kD)) [] ∧ Vals (kvs.map (·.2)) (xs.map fun x => x.2.2) := by
 induction r with
 | nil => exact ⟨.nil, .nil⟩
 | @cons p q ps qs h _ ih =>
  obtain ⟨its, r, ⟨o, ho, hc, n, hd⟩, _⟩ := I.tuple (SqT.of (K := X.K) h.2.1)
  rw [List.map_cons, List.map_cons, List.map_cons, List.map_cons]
  exact ⟨.cons (as := []) (bs := []) (.tuple ho hc hd (by simpa using EZ r)) ih.1, .cons h.2.2 ih.2⟩
mutual
theorem Dt.reads (I : Inv X pins σ H s) : ∀ {v : V} {d : PyData}, Dt X.K M H v d → ∀ {u : Value}, RelV v u → ∃ as, Reads s.heap u d as ∧ (Qr d = false → sysModules ∉ as)
 | _, _, .non, _, r => by cases r; exact ⟨[], .none, fun _ h => nomatch h⟩
 | _, _, .bl b, _, r => by cases r; exact ⟨[], .bool b, fun _ h => nomatch h⟩
 | _, _, .int i, _, r => by obtain ⟨t, rfl⟩ := r; exact ⟨[], .int i t, fun _ h => nomatch h⟩
 | _, _, .str x, _, r => by obtain ⟨t, rfl⟩ := r; exact ⟨[], .str x t, fun _ h => nomatch h⟩
 | _, _, .tup h1 h2, _, r => by
  cases r
  obtain ⟨its, rv, ⟨o, ho, hc, n, hd⟩, _⟩ := I.tuple h1.sq
  obtain ⟨as, ra, hs⟩ := Dts.reads I h2 rv
  exact ⟨as, .tuple ho hc hd (by simpa using ra), fun h => hs (by simpa [Qr] using h)⟩
 | _, _, .lst h1 h2, _, r => by
  cases r
  obtain ⟨its, rv, ⟨o, n, ho, hc, _, hd⟩, _⟩ := I.list h1.sq
  obtain ⟨as, ra, hs⟩ := Dts.reads I h2 rv
  exact ⟨_, .list ho hc hd (by simpa using ra), fun h => by simp [Qr] at h⟩
 | _, _, .dK (a := a) (kvs := kvs) (ds := ds) h0 h1 h2, _, r => by
  cases r
  obtain ⟨_, hsys, vs, rel, o, es, ep, ho, hc, hd, _, hp, _⟩ := (show QB X.prog X.w H s.heap a (.dK kvs) from I.hok a _ h1)
  obtain ⟨rv, hk⟩ := KV.vals rel
  obtain ⟨bs, rb, hs⟩ := Dts.reads I h2 rv
  have hl : (kvs.map fun kv => kD kv.1).length = ds.length := by rw [List.length_map, ← h2.length, List.length_map]
  refine ⟨a :: [] ++ bs, .dict (as := []) ho hc.1 hd ?_ ?_, fun h => ?_⟩
  ·rw [List.map_fst_zip (Nat.le_of_eq hl), hk]
   exact K5 hp
  ·rw [List.map_snd_zip (Nat.le_of_eq hl.symm), Y3 hp]
   exact rb
  ·have h' : Z7 ds = false := Jk _ _ hl (by rw [Qr] at h; exact h)
   intro hm
   rcases List.mem_cons.mp hm with e | hm
   ·rw [← e] at hsys
    simp at hsys
   ·exact hs h' hm
 | _, _, .dT (a := a) (kvs := kvs) (ds := ds) h0 h1 h2, _, r => by
  cases r
  obtain ⟨_, hsys, xs, rel, o, es, ep, ho, hc, hd, he, _⟩ := (show QB X.prog X.w H s.heap a (.dT kvs) from I.hok a _ h1)
  obtain ⟨rk, rv⟩ := KT.read I rel
  obtain ⟨bs, rb, hs⟩ := Dts.reads I h2 rv
  have hl : (kvs.map fun kv => PyData.tuple (kv.1.map kD)).length = ds.length := by rw [List.length_map, ← h2.length, List.length_map]
  refine ⟨a :: [] ++ bs, .dict (as := []) ho hc.1 hd ?_ ?_, fun h => ?_⟩
  ·rw [List.map_fst_zip (Nat.le_of_eq hl), he, List.map_map]
   exact rk
  ·rw [List.map_snd_zip (Nat.le_of_eq hl.symm), he, List.map_map]
   exact rb
  ·have h' : Z7 ds = false := Jk _ _ hl (by rw [Qr] at h; exact h)
   intro hm
   rcases List.mem_cons.mp hm with e | hm
   ·rw [← e] at hsys
    simp at hsys
   ·exact hs h' hm
 | _, _, .dX (a := a) (dk := dk) (d := d) h0 h1 hsys h3 h4 h5, _, r => by
  cases r
  obtain ⟨hφ, _⟩ := (show QB X.prog X.w H s.heap a (.ext _) from I.hok a _ h1)
  obtain ⟨o, es, n, u, ho, hc, hd, ek, ev, ru⟩ := h3 s.heap hφ
  obtain ⟨as, ra, ha⟩ := Dt.reads I h4 (u := .ref _) rfl
  obtain ⟨bs, rb, hb⟩ := Dt.reads I h5 ru
  refine ⟨a :: (as ++ []) ++ (bs ++ []), .dict ho hc hd ?_ ?_, fun h => ?_⟩
  ·rw [ek]; exact .cons ra .nil
  ·rw [ev]; exact .cons rb .nil
  ·have h' : Qr dk = false ∧ Qr d = false := by simpa [Qr, JC] using h
   intro hm
   rw [List.append_nil, List.append_nil, List.cons_append] at hm
   rcases List.mem_cons.mp hm with e | hm
   ·rw [← e] at hsys
    simp at hsys
   ·rcases List.mem_append.mp hm with hm | hm
    ·exact ha h'.1 hm
    ·exact hb h'.2 hm
theorem Dts.reads (I : Inv X pins σ H s) : ∀ {vs : List V} {ds : List PyData}, Dts X.K M H vs ds → ∀ {us : List Value}, Vals vs us → ∃ as, ReadsAll s.heap us ds as ∧ (Z7 ds = false → sysModules ∉ as)
 | _, _, .nil, _, r => by cases r; exact ⟨[], .nil, fun _ h => nomatch h⟩
 | _, _, .cons (d := d) (ds := ds) h1 h2, _, r => by
  cases r with
  | cons r1 r2 =>
   obtain ⟨as, ra, ha⟩ := Dt.reads I h1 r1
   obtain ⟨bs, rb, hb⟩ := Dts.reads I h2 r2
   refine ⟨as ++ bs, .cons ra rb, fun h hm => ?_⟩
   have h' : Qr d = false ∧ Z7 ds = false := by simpa [Z7] using h
   rcases List.mem_append.mp hm with hm | hm
   ·exact ha h'.1 hm
   ·exact hb h'.2 hm
end
end
section
variable {X : Cx}
structure Shw (d : PyData) : Prop where
 s : d.showable = true
 m : (d.hasDict && Qr d) = false
 dp : d.depth ≤ 64
 z : d.shown.length ≤ sizeLine
noncomputable def TV : D1 := fun xs M Φ => on1 xs fun x => onD x fun d => Shw d ∧ Φ (.dat (.str d.shown)) M
noncomputable def tyN : PyData → String
 | .none => "NoneType"
 | .bool _ => "bool"
 | .int _ => "int"
 | .str _ => "str"
 | .list _ => "list"
 | .tuple _ => "tuple"
 | .dict _ => "dict"
noncomputable def ZC (T : String) (d : PyData) : Bool := tyN d == T || (T == "int" && tyN d == "bool")
noncomputable def ZcN (T : String) : D1 := fun xs M Φ => match xs with | [.dat d, .ty t] => t = T ∧ Φ (.dat (.bool (ZC T d))) M | _ => False
theorem Td (hu : X.A.units + 64 < cLine) : OpR X (compareOp .Eq) (fun x y H Q => ∃ M d e, Dt X.K M H x d ∧ Dt X.K M H y e ∧ d.canLay0 = true ∧ e.canLay0 = true ∧ min d.depth e.depth ≤ 64 ∧ Q (.bl (PyData.eqv d e)) H) := by
 intro pins s σ H x y v u Q I rx ry h
 obtain ⟨M, d, e, h1, h2, c1, c2, hdp, q⟩ := h
 obtain ⟨as, ra, _⟩ := h1.reads I rx
 obtain ⟨bs, rb, _⟩ := h2.reads I ry
 exact PySem.SeqAt.compareEq_reads ra rb c1 c2 (by omega) ⟨.bl _, H, I, rfl, q⟩
theorem Tq (hu : X.A.units + 64 < cLine) : OpR X (compareOp .NotEq) (fun x y H Q => ∃ M d e, Dt X.K M H x d ∧ Dt X.K M H y e ∧ d.canLay0 = true ∧ e.canLay0 = true ∧ min d.depth e.depth ≤ 64 ∧ Q (.bl (!PyData.eqv d e)) H) := by
 intro pins s σ H x y v u Q I rx ry h
 obtain ⟨M, d, e, h1, h2, c1, c2, hdp, q⟩ := h
 obtain ⟨as, ra, _⟩ := h1.reads I rx
 obtain ⟨bs, rb, _⟩ := h2.reads I ry
 exact PySem.SeqAt.compareNe_reads ra rb c1 c2 (by omega) ⟨.bl _, H, I, rfl, q⟩
noncomputable def CP (d e : PyData) : Bool := d.canLay0 && e.canLay0 && Nat.ble (min d.depth e.depth) 64
noncomputable def eqD : PyData → PyData → (Bool → Prop) → Prop
 | .int i, .int j, P => P (decide (i = j))
 | .str s, .str t, P => P (decide (s = t))
 | .bool a, .bool b, P => P (a == b)
 | d, e, P => CP d e = true ∧ P (PyData.eqv d e)
theorem Dp {d e : PyData} {P : Bool → Prop} (h : CP d e = true) (p : P (PyData.eqv d e)) : eqD d e P := by
 unfold eqD
 split
 ·simp only [PyData.eqv] at p
  rw [show decide (_ = _) = (_ == _) from (Bool.beq_eq_decide_eq _ _).symm] at *
  exact p
 ·simp only [PyData.eqv] at p
  rw [show decide (_ = _) = (_ == _) from (Bool.beq_eq_decide_eq _ _).symm] at *
  exact p
 ·simp only [PyData.eqv] at p
  exact p
 ·exact ⟨h, p⟩
theorem Nx {d e : PyData} {P : Bool → Prop} (h : eqD d e P) : (d.canLay0 = true ∧ e.canLay0 = true ∧ min d.depth e.depth ≤ 64 ∧ P (PyData.eqv d e)) ∨ ∃ s t, d = .str s ∧ e = .str t ∧ P (decide (s = t)) := by
 unfold eqD at h
 split at h
 ·refine .inl ⟨by simp [PyData.canLay0], by simp [PyData.canLay0], by simp [PyData.depth], ?_⟩
  simp only [PyData.eqv]
  rw [Bool.beq_eq_decide_eq]
  exact h
 ·exact .inr ⟨_, _, rfl, rfl, h⟩
 ·refine .inl ⟨by simp [PyData.canLay0], by simp [PyData.canLay0], by simp [PyData.depth], ?_⟩
  simp only [PyData.eqv]
  exact h
 ·have h1 := h.1
  unfold CP at h1
  simp only [Bool.and_eq_true] at h1
  exact .inl ⟨h1.1.1, h1.1.2, Nat.le_of_ble_eq_true h1.2, h.2⟩
theorem ZaH {f : Value → Value → Sem Value} {r1 r2 : R2} (h1 : OpR X f r1) (h2 : OpR X f r2) : OpR X f (fun x y H Q => r1 x y H Q ∨ r2 x y H Q) :=
 fun pins s σ H x y v u Q I rx ry h => h.elim (h1 pins s σ H x y v u Q I rx ry) (h2 pins s σ H x y v u Q I rx ry)
noncomputable def δEq : D2 := fun x y M Φ => onD x fun d => onD y fun e => eqD d e fun b => Φ (.dat (.bool b)) M
noncomputable def δNe : D2 := fun x y M Φ => onD x fun d => onD y fun e => eqD d e fun b => Φ (.dat (.bool (!b))) M
theorem YR {k : Nat} (hr : JJ k X.A) : OpD X (compareOp .Eq) δEq :=
 ⟨_, ZaH (Td hr.units) Zc3, fun v u H x y M Φ Q r rv ru h k => by
  obtain ⟨d, e1, h⟩ := Jq h
  obtain ⟨e, e2, h⟩ := Jq h
  subst e1 e2
  rcases Nx h with ⟨c1, c2, hdp, q⟩ | ⟨s, t, rfl, rfl, q⟩
  ·exact .inl ⟨M, d, e, rv, ru, c1, c2, hdp, k.dat r Step.refl (Dt.bl _) q⟩
  ·have q' : Q (.bl (decide (s = t))) H := k.dat r Step.refl (Dt.bl _) q
   refine .inr ⟨by rw [rv.str, ru.str]; rfl, ?_⟩
   rw [rv.str, ru.str, XF, Bool.beq_eq_decide_eq]
   exact q'⟩
theorem ED {k : Nat} (hr : JJ k X.A) : OpD X (compareOp .NotEq) δNe :=
 ⟨_, ZaH (Tq hr.units) Zdo, fun v u H x y M Φ Q r rv ru h k => by
  obtain ⟨d, e1, h⟩ := Jq h
  obtain ⟨e, e2, h⟩ := Jq h
  subst e1 e2
  rcases Nx h with ⟨c1, c2, hdp, q⟩ | ⟨s, t, rfl, rfl, q⟩
  ·exact .inl ⟨M, d, e, rv, ru, c1, c2, hdp, k.dat r Step.refl (Dt.bl _) q⟩
  ·have q' : Q (.bl (!decide (s = t))) H := k.dat r Step.refl (Dt.bl _) q
   refine .inr ⟨by rw [rv.str, ru.str]; rfl, ?_⟩
   rw [rv.str, ru.str, XF, Bool.beq_eq_decide_eq]
   exact q'⟩
noncomputable def Zc1 : D2 := fun x y M Φ => onS x fun s => onS y fun t => Φ (.dat (.bool (!decide (s = t)))) M
noncomputable def Zdv : D2 := fun x y M Φ => onS x fun s => onS y fun t => Φ (.dat (.bool (decide (s = t)))) M
noncomputable abbrev DTO := DSt → Mp → (Option Int → Mp → Prop) → Prop
noncomputable def DO (X : Cx) (e : Option Expr) (τ : DTO) : Prop := ∃ t, PO X e t ∧ ∀ σ H Δ M Φ (Q : Option Int → Hp → Prop), ZN X.K M H → QP X.K M H σ Δ → τ Δ M Φ → (∀ o H' M', ZN X.K M' H' → Step M H M' H' → Φ o M' → Q o H') → t σ H Q
noncomputable def DM : DTO := fun _ M Φ => Φ none M
noncomputable def Zbn (t : DTE) : DTO := fun Δ M Φ => t Δ M fun x M1 => onI x fun i => Φ (some i) M1
theorem Xu : DO X none DM := ⟨_, RS, fun _ H _ M _ _ r _ h k => k none H M r Step.refl h⟩
theorem Xl {e : Expr} {te : DTE} (h : DE X e te) : DO X (some e) (Zbn te) := by
 obtain ⟨t, p, q⟩ := h
 refine ⟨_, Pc p, fun σ H Δ M Φ Q r e h k => ?_⟩
 refine q σ H Δ M _ _ r e h fun v H1 x M1 r1 st rv hx => ?_
 replace hx := ZG hx
 obtain ⟨i, rfl, hx⟩ := hx
 exact ⟨i, rv.int, k _ H1 M1 r1 st hx⟩
noncomputable def cutD (xs : List PyData) (lo hi : Option Int) : List PyData := (xs.drop (HT.sIx xs.length 0 lo)).take (HT.sIx xs.length xs.length hi - HT.sIx xs.length 0 lo)
theorem Dts.cut {K : PySem.W.Frag} {M : Mp} {H : Hp} {vs : List V} {ds : List PyData} (h : Dts K M H vs ds) (lo hi : Option Int) : Dts K M H (Se vs lo hi) (cutD ds lo hi) := by
 unfold Se cutD
 rw [h.length]
 exact (h.drop _).take _
noncomputable def Zfm (te : DTE) (tl th : DTO) : DTE := fun Δ M Φ => te Δ M fun x M1 => tl Δ M1 fun l M2 => th Δ M2 fun u M3 => onT x fun ds => ¬ (HT.sIx ds.length 0 l = 0 ∧ HT.sIx ds.length ds.length u = ds.length) ∧ Φ (.dat (.tuple (cutD ds l u))) M3
end
end DL
namespace DL
open PySem PySem.Spec PyProof.Rows L2
noncomputable def Tr : DTS := fun D Δ M => D.nx Δ M
noncomputable def Zb1 (t u : DTS) : DTS := fun D Δ M => t { D with nx := u D } Δ M
section
variable {X : Cx} {st : Stmt} {rest : List Stmt} {t u : DTS} {e : Expr} {te : DTE} {pos : Pos}
theorem ZP : DSs X [] Tr := ⟨_, RX, fun σ H Δ M D E r e h k => k.nx σ H Δ M r Step.refl e h⟩
theorem Ze (h1 : DS X st t) (h2 : DSs X rest u) : DSs X (st :: rest) (Zb1 t u) := by
 obtain ⟨t1, p1, q1⟩ := h1
 obtain ⟨t2, p2, q2⟩ := h2
 refine ⟨_, Mj p1 p2, fun σ H Δ M D E r e h k => ?_⟩
 refine q1 σ H Δ M { D with nx := u D } { E with nx := t2 E } r e h ⟨fun σ' H' Δ' M' r' st' e' hn => ?_, k.rt, k.bk, k.ct⟩
 exact q2 σ' H' Δ' M' D E r' e' hn (k.step st')
theorem Zh (h1 : DS X st t) : DSs X [st] t := by
 obtain ⟨t1, p1, q1⟩ := h1
 exact ⟨_, Rb p1, q1⟩
noncomputable def Tw : DTS := fun D Δ M => D.bk Δ M
noncomputable def ZcU : DTS := fun D Δ M => D.ct Δ M
noncomputable def Zbq (te : DTE) : DTS := fun D Δ M => te Δ M fun _ M1 => D.nx Δ M1
theorem JO (he : DE X e te) (hs : swapsWith e none pos.line X.env = pure false := by rfl) : DS X (.Expr e pos) (Zbq te) := by
 obtain ⟨t, p, q⟩ := he
 refine ⟨_, OC p hs, fun σ H Δ M D E r e h k => ?_⟩
 exact q σ H Δ M _ _ r e h fun v H1 x M1 r1 st rv hx => k.nx σ H1 Δ M1 r1 st (e.step st) hx
noncomputable def ZdK (te : DTE) : DTS := fun D Δ M => te Δ M D.rt
theorem Zr (he : DE X e te) : DS X (.Return (some e) pos) (ZdK te) := by
 obtain ⟨t, p, q⟩ := he
 exact ⟨_, Sz p, fun σ H Δ M D E r e h k => q σ H Δ M _ _ r e h k.rt⟩
noncomputable def Zcp : DTS := fun D _ M => D.rt (.dat .none) M
noncomputable def Zef (c : DTT) (t u : DTS) : DTS := fun D Δ M => c Δ M fun b M1 => if b = true then t D Δ M1 else u D Δ M1
theorem Qv {c : Expr} {a b : List Stmt} {tc : DTT} (hc : DT X c tc) (ha : DSs X a t) (hb : DSs X b u) : DS X (.If c a b pos) (Zef tc t u) := by
 obtain ⟨t0, p0, q0⟩ := hc
 obtain ⟨t1, p1, q1⟩ := ha
 obtain ⟨t2, p2, q2⟩ := hb
 refine ⟨_, ZcO p0 p1 p2, fun σ H Δ M D E r e h k => ?_⟩
 refine q0 σ H Δ M _ _ r e h fun c H1 M1 r1 st hc => ?_
 cases c with
 | true => rw [if_pos rfl]; exact q1 σ H1 Δ M1 D E r1 (e.step st) (by simpa using hc) (k.step st)
 | false => rw [if_neg Bool.false_ne_true]; exact q2 σ H1 Δ M1 D E r1 (e.step st) (by simpa using hc) (k.step st)
noncomputable abbrev DTG := DV → DSt → Mp → (DSt → Mp → Prop) → Prop
noncomputable abbrev Hc := List DV → DSt → Mp → (DSt → Mp → Prop) → Prop
noncomputable def DG (X : Cx) (tg : Expr) (τ : DTG) : Prop := ∃ t, PG X tg t ∧ ∀ v σ H x Δ M Φ (Q : L2.St → Hp → Prop), ZN X.K M H → QP X.K M H σ Δ → Ql X.K M H v x → τ x Δ M Φ →
 (∀ σ' H' Δ' M', ZN X.K M' H' → Step M H M' H' → QP X.K M' H' σ' Δ' → Φ Δ' M' → Q σ' H') → t v σ H Q
noncomputable def DGs (X : Cx) (ts : List Expr) (τ : Hc) : Prop := ∃ t, PGs X ts t ∧ ∀ vs σ H xs Δ M Φ (Q : L2.St → Hp → Prop), ZN X.K M H → QP X.K M H σ Δ → J7 X.K M H vs xs → τ xs Δ M Φ →
 (∀ σ' H' Δ' M', ZN X.K M' H' → Step M H M' H' → QP X.K M' H' σ' Δ' → Φ Δ' M' → Q σ' H') → t vs σ H Q
noncomputable def Gw (i : Nat) : DTG := fun x Δ M Φ => Φ (Δ.set i (some x)) M
theorem Zn (i : Nat) {x : Str} (hN : X.N.Nodup) (hi : X.N[i]? = some x := by rfl) (hx : Loc X.env.scope x := by first | exact Or.inl rfl | exact Or.inr rfl) (hf : X.fn x = true ∨ X.env.scope.names.lookup x = some .local := by first | exact .inl rfl | exact .inr rfl | assumption) :
  DG X (.Name x pos) (Gw i) :=
 ⟨_, C4 hN hi hx hf, fun v σ H x Δ M Φ Q r e rv h k => k _ H _ M r Step.refl (e.set rv) h⟩
noncomputable def Zbv : Hc := fun xs Δ M Φ => match xs with | [] => Φ Δ M | _ => False
noncomputable def Nm (t : DTG) (u : Hc) : Hc := fun xs Δ M Φ => match xs with | x :: r => t x Δ M fun Δ' M' => u r Δ' M' Φ | [] => False
theorem YC : DGs X [] Zbv := ⟨_, Ow, fun vs σ H xs Δ M Φ Q r e rv h k => by
 cases xs with
 | cons x r => exact h.elim
 | nil =>
 have h2 : Φ Δ M := h
 cases rv
 exact ⟨rfl, k σ H Δ M r Step.refl e h2⟩⟩
theorem Z3 {es : List Expr} {t : DTG} {u : Hc} (h1 : DG X e t) (h2 : DGs X es u)
  (hs : (assignEach (e :: es) X.env).map (·.2) = assign e X.env :: (assignEach es X.env).map (·.2) := by rfl) : DGs X (e :: es) (Nm t u) := by
 obtain ⟨t1, p1, q1⟩ := h1
 obtain ⟨t2, p2, q2⟩ := h2
 refine ⟨_, M0 p1 p2 hs, fun vs σ H xs Δ M Φ Q r e rv h k => ?_⟩
 obtain ⟨x, xr, e1, h⟩ : ∃ x xr, xs = x :: xr ∧ t x Δ M fun Δ' M' => u xr Δ' M' Φ := by
  cases xs with
  | nil => exact h.elim
  | cons x xr => exact ⟨x, xr, rfl, h⟩
 subst e1
 cases rv with
 | cons ra rr =>
  refine ⟨_, _, rfl, q1 _ σ H x Δ M _ _ r e ra h fun σ' H' Δ' M' r' st e' h' => ?_⟩
  exact q2 _ σ' H' xr Δ' M' Φ Q r' e' (J7.step rr st) h' fun σ2 H2 Δ2 M2 r2 st2 e2 hΦ => k σ2 H2 Δ2 M2 r2 (st.trans st2) e2 hΦ
noncomputable def N3 : Nat → List PyData → (List DV → Prop) → Prop
 | 0, [], P => P []
 | n + 1, d :: r, P => N3 n r fun xs => P (.dat d :: xs)
 | 0, _ :: _, _ => False
 | _ + 1, [], _ => False
theorem FU : ∀ {n : Nat} {ds : List PyData} {P : List DV → Prop}, N3 n ds P → ds.length = n ∧ P (ds.map DV.dat)
 | 0, [], _, h => ⟨rfl, h⟩
 | n + 1, d :: r, P, h => by
  obtain ⟨a, b⟩ := FU (n := n) (ds := r) h
  exact ⟨by rw [List.length_cons, a], b⟩
 | 0, _ :: _, _, h => h.elim
 | _ + 1, [], _, h => h.elim
noncomputable def ZaT (n : Nat) (t : Hc) : DTG := fun x Δ M Φ => onT x fun ds => N3 n ds fun xs => t xs Δ M Φ
theorem Dts.Zbj {K : PySem.W.Frag} {M : Mp} {H : Hp} : ∀ {vs : List V} {ds : List PyData}, Dts K M H vs ds → J7 K M H vs (ds.map DV.dat)
 | _, _, .nil => .nil
 | _, _, .cons h1 h2 => .cons h1 (Dts.Zbj h2)
theorem Wc {es : List Expr} {k : Nat} {t : Hc} {n : Nat} (hc : X.calm = true) (h : DGs X es t) (hn : (assignEach es X.env).length = n := by rfl) (hst : (assignEach es X.env).findIdx? (·.1) = none := by rfl) : DG X (.Tuple es k pos) (ZaT n t) := by
 obtain ⟨t1, p1, q1⟩ := h
 refine ⟨_, SV hc p1 hn hst, fun v σ H x Δ M Φ Q r e rv h k => ?_⟩
 replace h := Cf h
 obtain ⟨ds, rfl, h⟩ := h
 replace h := FU h
 obtain ⟨hl, h⟩ := h
 obtain ⟨a, xs, rfl, h1, h2⟩ := rv.tup
 exact ⟨a, xs, rfl, h1.sq, by rw [h2.length]; exact hl, q1 xs σ H _ Δ M Φ Q r e h2.Zbj h k⟩
noncomputable def ZaM (to ti : DTE) : DTG := fun x Δ M Φ => to Δ M fun o M1 => ti Δ M1 fun i M2 => onO o fun l => onI i fun k => onD x fun d => JI (M2 l) fun ds => ∃ j, ixN ds.length k = some j ∧ Φ Δ (Zx M2 l (.lst (ds.set j d)))
theorem G1 {o i : Expr} {to ti : DTE} (ho : DE X o to) (hi : DE X i ti)
  (ha : ∀ v, assign (.Subscript o i pos) X.env v = (do
   let ov ← holding [v] (eval o X.env)
   let iv ← holding [v, ov] (eval i X.env)
   standAt pos
   holding [v, ov, iv] (setItem ov iv v)
   release [v, ov, iv] []) := by intro _; rfl) : DG X (.Subscript o i pos) (ZaM to ti) := by
 obtain ⟨t1, p1, q1⟩ := ho
 obtain ⟨t2, p2, q2⟩ := hi
 refine ⟨_, Zaw p1 p2 set_list ha, fun v σ H x Δ M Φ Q r e rv h k => ?_⟩
 refine Snd.bin q1 q2 r e h fun w1 w2 H2 o' i' M2 r2 st ro ri hs => ?_
 replace hs := Z6 hs
 obtain ⟨l, rfl, hs⟩ := hs
 replace hs := ZG hs
 obtain ⟨kk, rfl, hs⟩ := hs
 replace hs := Jq hs
 obtain ⟨d, rfl, hs⟩ := hs
 replace hs := QR hs
 obtain ⟨ds, hm, j, hj, hΦ⟩ := hs
 obtain ⟨vs, g1, g2⟩ := r2.ls l ds hm
 cases (show w1 = .ref l from ro)
 have rv2 : Dt X.K M2 H2 v d := Dt.step st rv
 have st2 : Step M2 H2 (Zx M2 l (.lst (ds.set j d))) (upd H2 l (.lst (vs.set j v))) := Step.K1 hm
 refine ⟨l, vs, kk, j, rfl, ri.int, g1, by rw [g2.length]; exact hj, ?_⟩
 exact k σ _ Δ _ (r2.Y2 st2 (g2.set rv2 j)) (st.trans st2) (e.step (st.trans st2)) hΦ
noncomputable def ZbX (te : DTE) (g : DTG) : DTS := fun D Δ M => te Δ M fun x M1 => g x Δ M1 D.nx
theorem Y7 {tg : Expr} {g : DTG} (he : DE X e te) (hg : DG X tg g) (hs : swapsWithSole [tg] e pos.line X.env = pure false := by rfl) (hw : swappedStores [tg] e X.env = pure none := by rfl)
  (h1 : (assignEach [tg] X.env).map (·.2) = [assign tg X.env] := by rfl) : DS X (.Assign [tg] e pos) (ZbX te g) := by
 obtain ⟨t1, p1, q1⟩ := he
 obtain ⟨t2, p2, q2⟩ := hg
 refine ⟨_, Zbb p1 p2 hs hw h1, fun σ H Δ M D E r e h k => ?_⟩
 refine q1 σ H Δ M _ _ r e h fun v H1 x M1 r1 st rv hx => ?_
 exact q2 v σ H1 x Δ M1 _ _ r1 (e.step st) rv hx fun σ' H' Δ' M' r' st' e' hn => k.nx σ' H' Δ' M' r' (st.trans st') e' hn
theorem Zk (i : Nat) {x : Str} {pos' : Pos} (hN : X.N.Nodup) (he : DE X e te) (hi : X.N[i]? = some x := by rfl) (hx : Loc X.env.scope x := by first | exact Or.inl rfl | exact Or.inr rfl) (hs : swapsWith e (some (.Name x pos')) pos.line X.env = pure false := by rfl)
  (hf : X.fn x = true ∨ X.env.scope.names.lookup x = some .local := by first | exact .inl rfl | exact .inr rfl | assumption) : DS X (.Assign [.Name x pos'] e pos) (ZbX te (Gw i)) := by
 obtain ⟨t1, p1, q1⟩ := he
 refine ⟨_, SY hN hi hx p1 hs hf, fun σ H Δ M D E r e h k => ?_⟩
 refine q1 σ H Δ M _ _ r e h fun v H1 x M1 r1 st rv hx => ?_
 exact k.nx _ H1 _ M1 r1 st ((e.step st).set rv) hx
noncomputable def EM (to te : DTE) : DTE := fun Δ M Φ => to Δ M fun x M1 => onO x fun l => JI (M1 l) fun _ => te Δ M1 fun y M2 => onD y fun d => JI (M2 l) fun ds => ds.length < sizeLine ∧ Φ (.dat .none) (Zx M2 l (.lst (ds ++ [d])))
theorem J4 {o : Expr} {to : DTE} {apos cpos : Pos} (ho : DE X o to) (he : DE X e te) (hbase : attributeBase o "append" X.env (eval o X.env) = eval o X.env := by rfl)
  (hfew : ((backTo cpos (starEach [e] X.env)).all (fun x => !x.1) && (backToKw cpos (keywordEach [] X.env)).all (fun x => x.1.isSome)
   && decide ([e].length + ([] : List Keyword).length + (if ([] : List Keyword).isEmpty then 0 else 1) < 30)) = true := by rfl)
  (hline : (apos.endLine == cpos.line) = true := by rfl) (hs : starEach [e] X.env = (false, eval e X.env) :: starEach [] X.env := by rfl) (hplain : (backTo cpos (starEach [] X.env)).any (·.1) = false := by rfl) :
  DE X (.Call (.Attribute o "append" apos) [e] [] cpos) (EM to te) := by
 obtain ⟨t1, p1, q1⟩ := ho
 obtain ⟨t2, p2, q2⟩ := he
 refine ⟨_, Rz PySem.F.plainAttrs_list PySem.F.slot_list_append PySem.F.type_list_append ER p1 (Xk p2 Gv hs) hbase hfew hline hs hplain, fun σ H Δ M Φ Q r e h k => ?_⟩
 refine q1 σ H Δ M _ _ r e h fun v H1 x M1 r1 st rv hx => ?_
 replace hx := Z6 hx
 obtain ⟨l, rfl, hx⟩ := hx
 replace hx := QR hx
 obtain ⟨oo, ho, hx⟩ := hx
 cases (show v = .ref l from rv)
 have ty : tyV X.K "list" (.ref l) H1 := by
  obtain ⟨vs, g1, _⟩ := r1.ls l oo ho
  exact .inl ⟨rfl, vs, SqL.of g1⟩
 refine ⟨ty, q2 σ H1 Δ M1 _ _ r1 (e.step st) hx fun w H2 y M2 r2 st2 rw2 hy => ?_⟩
 replace hy := Jq hy
 obtain ⟨d, rfl, hy⟩ := hy
 replace hy := QR hy
 obtain ⟨ds, hm, hz, hy⟩ := hy
 obtain ⟨vs, g1, g2⟩ := r2.ls l ds hm
 have st3 : Step M2 H2 (Zx M2 l (.lst (ds ++ [d]))) (upd H2 l (.lst (vs ++ [w]))) := Step.K1 hm
 refine ⟨l, vs, w, rfl, rfl, g1, by rw [g2.length]; exact hz, ?_⟩
 exact k.dat (r2.Y2 st3 (g2.append (.cons rw2 .nil))) (st.trans (st2.trans st3)) Dt.non hy
end
section
variable {X : Cx} {tg iter : Expr} {body : List Stmt} {g : DTG} {tb : DTS} {pos : Pos}
noncomputable def FR (g : DTG) (tb : DTS) (D : Qa) (ds : List PyData) (Δ : DSt) (M : Mp) : Prop :=
 ∃ J : Nat → DSt → Mp → Prop, J 0 Δ M ∧ (∀ i d Δ M, ds[i]? = some d → J i Δ M → g (.dat d) Δ M fun Δ2 M2 => tb { D with nx := J (i + 1), ct := J (i + 1), bk := D.nx } Δ2 M2) ∧ ∀ Δ M, J ds.length Δ M → D.nx Δ M
noncomputable def Zbr (te : DTE) (g : DTG) (tb : DTS) : DTS := fun D Δ M => te Δ M fun x M1 => onL x fun ds => FR g tb D ds Δ M1
noncomputable def Zaj (te : DTE) (g : DTG) (tb : DTS) : DTS := fun D Δ M => te Δ M fun x M1 => onT x fun ds => FR g tb D ds Δ M1
theorem YL {te : DTE} (he : DE X iter te) (hg : DG X tg g) (hb : DSs X body tb) (hp : PassesOwn (model X.prog X.w) X.A X.env X.xe) (hc : X.calm = true) (hs : ∀ x, foldedSetIterable iter X.env x = pure x := by intro _; rfl) :
  DS X (.For tg iter body [] pos) (Zbr te g tb) := by
 obtain ⟨t1, p1, q1⟩ := he
 obtain ⟨t2, p2, q2⟩ := hg
 obtain ⟨t3, p3, q3⟩ := hb
 refine ⟨_, G0 hp hc (Eo p1) p2 p3 hs, fun σ H Δ M D E r e h k => ?_⟩
 refine q1 σ H Δ M _ _ r e h fun v H1 x M1 r1 st rv hx => ?_
 replace hx := NT hx
 obtain ⟨ds, rfl, J, j0, jt, jd⟩ := hx
 obtain ⟨a, xs, rfl, h1, h2⟩ := rv.lst
 refine ⟨a, rfl, ⟨xs, h1.sq⟩, Lr (xs := xs) (fun i σ H => ∃ Δ M, ZN X.K M H ∧ Step M1 H1 M H ∧ QP X.K M H σ Δ ∧ J i Δ M) ⟨Δ, M1, r1, Step.refl, e.step st, j0⟩
  (fun i σ H _ ⟨Δ, M, _, st', _, _⟩ => (h1.step st').sq) (fun i y σ H hi ⟨Δ, M, r', st', e', j⟩ => ?_) (fun σ H ⟨Δ, M, r', st', e', j⟩ => ?_)⟩
 ·obtain ⟨d, hd, hy⟩ := h2.TQ hi
  refine q2 y σ H (.dat d) Δ M _ _ r' e' (Dt.step st' hy) (jt i d Δ M hd j) fun σ2 H2 Δ2 M2 r2 st2 e2 hb2 => ?_
  refine q3 σ2 H2 Δ2 M2 _ _ r2 e2 hb2 ?_
  have s12 : Step M1 H1 M2 H2 := st'.trans st2
  exact ⟨fun σ' H' Δ' M' a b c d => ⟨Δ', M', a, s12.trans b, c, d⟩, k.rt.step (st.trans s12), fun σ' H' Δ' M' a b c d => k.nx σ' H' Δ' M' a ((st.trans s12).trans b) c d,
   fun σ' H' Δ' M' a b c d => ⟨Δ', M', a, s12.trans b, c, d⟩⟩
 ·rw [h2.length] at j
  exact k.nx σ H Δ M r' (st.trans st') e' (jd Δ M j)
theorem PY {te : DTE} (he : DE X iter te) (hg : DG X tg g) (hb : DSs X body tb) (hp : PassesOwn (model X.prog X.w) X.A X.env X.xe) (hc : X.calm = true) (hs : ∀ x, foldedSetIterable iter X.env x = pure x := by intro _; rfl) :
  DS X (.For tg iter body [] pos) (Zaj te g tb) := by
 obtain ⟨t1, p1, q1⟩ := he
 obtain ⟨t2, p2, q2⟩ := hg
 obtain ⟨t3, p3, q3⟩ := hb
 refine ⟨_, G0 hp hc (NR p1) p2 p3 hs, fun σ H Δ M D E r e h k => ?_⟩
 refine q1 σ H Δ M _ _ r e h fun v H1 x M1 r1 st rv hx => ?_
 replace hx := Cf hx
 obtain ⟨ds, rfl, J, j0, jt, jd⟩ := hx
 obtain ⟨a, xs, rfl, h1, h2⟩ := rv.tup
 refine ⟨a, rfl, ⟨xs, h1.sq⟩, Pk (xs := xs) (fun i σ H => ∃ Δ M, ZN X.K M H ∧ Step M1 H1 M H ∧ QP X.K M H σ Δ ∧ J i Δ M) ⟨Δ, M1, r1, Step.refl, e.step st, j0⟩
  (fun i σ H _ ⟨Δ, M, _, st', _, _⟩ => (h1.step st').sq) (fun i y σ H hi ⟨Δ, M, r', st', e', j⟩ => ?_) (fun σ H ⟨Δ, M, r', st', e', j⟩ => ?_)⟩
 ·obtain ⟨d, hd, hy⟩ := h2.TQ hi
  refine q2 y σ H (.dat d) Δ M _ _ r' e' (Dt.step st' hy) (jt i d Δ M hd j) fun σ2 H2 Δ2 M2 r2 st2 e2 hb2 => ?_
  refine q3 σ2 H2 Δ2 M2 _ _ r2 e2 hb2 ?_
  have s12 : Step M1 H1 M2 H2 := st'.trans st2
  exact ⟨fun σ' H' Δ' M' a b c d => ⟨Δ', M', a, s12.trans b, c, d⟩, k.rt.step (st.trans s12), fun σ' H' Δ' M' a b c d => k.nx σ' H' Δ' M' a ((st.trans s12).trans b) c d,
   fun σ' H' Δ' M' a b c d => ⟨Δ', M', a, s12.trans b, c, d⟩⟩
 ·rw [h2.length] at j
  exact k.nx σ H Δ M r' (st.trans st') e' (jd Δ M j)
noncomputable def Wi (g : DTG) (tb : DTS) (D : Qa) (lo : Int) (n : Nat) (Δ : DSt) (M : Mp) : Prop :=
 ∃ J : Nat → DSt → Mp → Prop, J 0 Δ M ∧ (∀ i Δ M, i < n → J i Δ M → g (.dat (.int (lo + i))) Δ M fun Δ2 M2 => tb { D with nx := J (i + 1), ct := J (i + 1), bk := D.nx } Δ2 M2) ∧ ∀ Δ M, J n Δ M → D.nx Δ M
theorem ND {g' : TG} {tb' : TS} {lo : Int} {n : Nat} (q2 : ∀ v σ H x Δ M Φ (Q : L2.St → Hp → Prop), ZN X.K M H → QP X.K M H σ Δ → Ql X.K M H v x → g x Δ M Φ →
  (∀ σ' H' Δ' M', ZN X.K M' H' → Step M H M' H' → QP X.K M' H' σ' Δ' → Φ Δ' M' → Q σ' H') → g' v σ H Q)
  (q3 : ∀ σ H Δ M D E, ZN X.K M H → QP X.K M H σ Δ → tb D Δ M → Yg X.K M H D E → tb' E σ H) {D : Qa} {E : Ends} {σ : L2.St} {H : Hp} {Δ : DSt} {M : Mp} (r : ZN X.K M H) (e : QP X.K M H σ Δ) (h : Wi g tb D lo n Δ M) (k : Yg X.K M H D E) :
  ∃ W : Nat → Nat → L2.St → Hp → Prop, (∃ m, W 0 m σ H) ∧ ∀ i m σ H, W i m σ H →
   ((Itr lo n).stop i H ∧ E.nx σ H) ∨ ((Itr lo n).go i H ∧ ∃ N : L2.St → Hp → Prop, (∀ σ' H', N σ' H' → ∃ m', m' < m ∧ W (i + 1) m' σ' H') ∧ ∀ x H', (Itr lo n).yld i H x H' → g' x σ H' fun σ2 H2 => tb' { E with nx := N, ct := N, bk := E.nx } σ2 H2) := by
 obtain ⟨J, j0, jt, jd⟩ := h
 refine CJ (fun i σ' H' => ∃ Δ' M', ZN X.K M' H' ∧ Step M H M' H' ∧ QP X.K M' H' σ' Δ' ∧ J i Δ' M') ⟨Δ, M, r, Step.refl, e, j0⟩ (fun i σ1 H1 hi ⟨Δ1, M1, r', st', e', j⟩ => ?_) (fun σ1 H1 ⟨Δ1, M1, r', st', e', j⟩ => ?_)
 ·refine q2 _ σ1 H1 (.dat (.int (lo + i))) Δ1 M1 _ _ r' e' (Dt.int _) (jt i Δ1 M1 hi j) fun σ2 H2 Δ2 M2 r2 st2 e2 hb2 => ?_
  refine q3 σ2 H2 Δ2 M2 _ _ r2 e2 hb2 ?_
  have s12 : Step M H M2 H2 := st'.trans st2
  exact ⟨fun σ' H' Δ' M' a b c d => ⟨Δ', M', a, s12.trans b, c, d⟩, k.rt.step s12, fun σ' H' Δ' M' a b c d => k.nx σ' H' Δ' M' a (s12.trans b) c d,
   fun σ' H' Δ' M' a b c d => ⟨Δ', M', a, s12.trans b, c, d⟩⟩
 ·exact k.nx σ1 H1 Δ1 M1 r' st' e' (jd Δ1 M1 j)
noncomputable def InR (j : Int) : Prop := -(2 ^ 62) ≤ j ∧ j < 2 ^ 62
noncomputable def Nr (ta : DTA) (g : DTG) (tb : DTS) : DTS := fun D Δ M => ta Δ M fun xs M1 => on1 xs fun x => onI x fun j => InR j ∧ Wi g tb D 0 j.toNat Δ M1
theorem Vk {a : Expr} {ta : DTA} {p p2 : Pos} (hg0 : Gl X "range") (hm : X.mg "range" = none) (ha : DA X [a] ta) (hg : DG X tg g) (hb : DSs X body tb) (hp : PassesOwn (model X.prog X.w) X.A X.env X.xe) (hc : X.calm = true)
  (hs : starEach [a] X.env = [(false, eval a X.env)] := by rfl) (hs2 : ∀ x, foldedSetIterable (.Call (.Name "range" p) [a] [] p2) X.env x = pure x := by intro _; rfl) : DS X (.For tg (.Call (.Name "range" p) [a] [] p2) body [] pos) (Nr ta g tb) := by
 obtain ⟨t1, p1, q1⟩ := ha
 obtain ⟨t2, p2, q2⟩ := hg
 obtain ⟨t3, p3, q3⟩ := hb
 refine ⟨_, G0 hp hc (Ko hg0 hm p1 hs) p2 p3 hs2, fun σ H Δ M D E r e h k => ?_⟩
 refine q1 σ H Δ M _ _ r e h fun vs H1 xs M1 r1 st rv hx => ?_
 replace hx := Z9 hx
 obtain ⟨x, rfl, hx⟩ := hx
 replace hx := ZG hx
 obtain ⟨j, rfl, ⟨h1, h2⟩, hx⟩ := hx
 obtain ⟨v, rfl, hv⟩ := Paired.one rv
 exact ⟨j, by rw [Ql.int hv], h1, h2, ND q2 q3 r1 (e.step st) hx (k.step st)⟩
noncomputable def NV (ta : DTA) (g : DTG) (tb : DTS) : DTS := fun D Δ M => ta Δ M fun xs M1 => on2 xs fun x y => onI x fun i => onI y fun j => (InR i ∧ InR j) ∧ Wi g tb D i (j - i).toNat Δ M1
end
noncomputable abbrev DSp := List DV → Mp → DK → Prop
noncomputable def lift (K : PySem.W.Frag) (S : DSp) : Sp := fun vs H Q _ => ∃ xs M Φ, ZN K M H ∧ J7 K M H vs xs ∧ S xs M Φ ∧ Rch K M H Φ Q
noncomputable def ZaL (S : DSp) (t : DTA) : DTE := fun Δ M Φ => t Δ M fun xs M1 => S xs M1 Φ
section
variable {X : Cx} {CX : CXT} {k : Nat} {f : Addr} {fd : FuncData} {ps : List Str} {S : DSp} {E : XK} {x : Str} {p pos : Pos} {e : Expr} {es : List Expr} {t : DTA}
theorem Zg (F : ZU X.prog X.w X.K X.mg X.base CX k f fd ps (lift X.K S)) (hr : JJ k X.A) (hg : Gl X x) (hm : X.mg x = some (.ref f)) (hk : PySem.W.keepIn X.K (.ref f) = true) (hb : Binds X.K fd ps []) (hx : Passes CX X E)
  (ha : DA X (e :: es) t) (hdb : (x == ("__debug__" : Str)) = false := by decide) (he : starEach (e :: es) X.env = (false, eval e X.env) :: starEach es X.env := by rfl) (hpl : (backTo pos (starEach es X.env)).any (·.1) = false := by rfl) :
  DE X (.Call (.Name x p) (e :: es) [] pos) (ZaL S t) := by
 obtain ⟨t1, p1, q1⟩ := ha
 refine ⟨_, RO F hr hg hm hk hb .nil hx p1 hdb he hpl, fun σ H Δ M Φ Q r e h k => ?_⟩
 refine q1 σ H Δ M _ _ r e h fun vs H1 xs M1 r1 st rv hx => ?_
 show lift X.K S (vs ++ []) H1 Q E
 rw [List.append_nil]
 exact ⟨xs, M1, Φ, r1, rv, hx, k.step st⟩
end
section
variable {P : Program} {w : World} {K : PySem.W.Frag} {mg : Str → Option Value} {base : Heap}
theorem okD {x qual : Str} {st : Stmt} {f : Addr} {fd : FuncData} {N ps : List Str} {k : Nat} {S : DSp} (F : Fun K x qual st f fd) (Sc : Zq N ps (Zf st)) (len : ∀ xs M Φ, S xs M Φ → xs.length = ps.length)
  (hbody : ∀ (cdv : Value) (A : Around) (outer : List Env) (s : Shared) (H : Hp) (E : XK), JJ k (A.deeper (envOfC qual (Zf st) s.heap.objs.size f cdv)) →
   ∃ τ, DSs (NS CX0 P w K mg base N qual (Zf st) f cdv A outer s H E).nox (Zo st) τ ∧ ∀ xs M Φ, S xs M Φ → τ { nx := fun _ M' => Φ (.dat .none) M', rt := Φ } (VG N xs) M) : ZU P w K mg base CX0 (k + 1) f fd ps (lift K S) := by
 refine F.ok Sc (fun vs H Q E h => ?_) fun cdv A outer s H vs Q E hr h => ?_
 ·obtain ⟨xs, M, Φ, _, rv, hs, _⟩ := h
  rw [Paired.length rv]
  exact len xs M Φ hs
 ·obtain ⟨xs, M, Φ, r, rv, hs, kk⟩ := h
  obtain ⟨τ, ⟨t, p, q⟩, hτ⟩ := hbody cdv A outer s H E hr
  refine ⟨t, p, q (start N vs) H (VG N xs) M _ _ r (QP.start rv) (hτ xs M Φ hs) ⟨fun σ' H' Δ' M' r' st' e' hn => ?_, kk, fun _ _ _ _ _ _ _ h => h.elim, fun _ _ _ _ _ _ _ h => h.elim⟩⟩
  exact kk.dat r' st' Dt.non hn
end
end DL
namespace DL
open PySem PySem.Spec PyProof.Rows L2
section
variable {X : Cx} {k v : Expr} {pos : Pos}
noncomputable def At (X : Cx) (e : Expr) (τ : DTE) : Prop := ∃ t, PE X e t ∧ ∀ σ H Δ M Φ, QP X.K M H σ Δ → τ Δ M Φ → ∃ v x, Ql X.K M H v x ∧ Φ x M ∧ ∀ (H' : Hp) (Q : VK), Q v H' → t σ H' Q
noncomputable def S0 : DTE := fun _ M Φ => Φ (.dat (.dict [])) M
theorem ZfO {K : PySem.W.Frag} {M : Mp} {H : Hp} {v : V} {k : Key} (h : Dt K M H v (kD k)) : v = kV k := by
 cases k with
 | inl i => cases (show Dt K M H v (.int i) from h); rfl
 | inr x => cases (show Dt K M H v (.str x) from h); rfl
noncomputable def Ve (x : DV) (P : Key → Prop) : Prop := match x with | .dat (.int i) => P (.inl i) | .dat (.str s) => P (.inr s) | _ => False
theorem LN {x : DV} {P : Key → Prop} (h : Ve x P) : ∃ k, x = .dat (kD k) ∧ P k := by
 unfold Ve at h
 split at h
 ·exact ⟨_, rfl, h⟩
 ·exact ⟨_, rfl, h⟩
 ·exact h.elim
noncomputable def HC : List PyData → Option (List Key)
 | [] => some []
 | .int i :: r => (HC r).map (.inl i :: ·)
 | .str s :: r => (HC r).map (.inr s :: ·)
 | _ :: _ => none
noncomputable def ZcQ (ds : List PyData) (P : List Key → Prop) : Prop := match HC ds with | some ks => P ks | none => False
noncomputable def S3 (tk tv : DTE) : DTE := fun Δ M Φ => tk Δ M fun x M1 => tv Δ M1 fun y M2 => Ve x fun k => onD y fun d => Φ (.dat (.dict [(kD k, d)])) M2
noncomputable def Ti (tk tv tk' tv' : DTE) : DTE := fun Δ M Φ => tk Δ M fun x M1 => tv Δ M1 fun y M2 => tk' Δ M2 fun x' M3 => tv' Δ M3 fun y' M4 => Ve x fun k => onD y fun d => Ve x' fun k' => onD y' fun d' => k ≠ k' ∧ Φ (.dat (.dict [(kD k, d), (kD k', d')])) M4
noncomputable def Zgu (a b : Addr) (v : V) (h : Heap) : Prop := ∃ o es n u, h.get? a = some o ∧ o.cls = .type "dict" ∧ o.data = .dict es n ∧ es.toList.map (·.key) = [.ref b] ∧ es.toList.map (·.val) = [u] ∧ RelV v u
noncomputable def Pl (tk tv : DTE) : DTE := fun Δ M Φ => tk Δ M fun x M1 => tv Δ M1 fun y M2 => onT x fun ds => ZcQ ds fun ks => onD y fun d => Φ (.dat (.dict [(.tuple (ks.map kD), d)])) M2
theorem SqT.new {K : PySem.W.Frag} {H : Hp} {a p : Addr} {xs : List V} {o : HO} (h : SqT K H a xs) (hp : H p = none) : SqT K (upd H p o) a xs := by
 rcases h with (h | ⟨ob, h⟩) | h
 ·exact .inl (.inl (by rw [ZM (Zt h hp)]; exact h))
 ·exact .inl (.inr ⟨ob, by rw [ZM (Zt h hp)]; exact h⟩)
 ·exact .inr h
end
end DL
namespace DL
open PySem PySem.Spec PyProof.Rows L2
mutual
noncomputable def cost : PyData → Nat
 | .none => 4
 | .bool _ => 5
 | .int _ => 1921
 | .str x => (reprText x).length
 | .list xs => Vt xs + 2
 | .tuple xs => Vt xs + 3
 | .dict kvs => KI kvs + 2
noncomputable def Vt : List PyData → Nat
 | [] => 0
 | x :: xs => cost x + 2 + Vt xs
noncomputable def KI : List (PyData × PyData) → Nat
 | [] => 0
 | (k, v) :: r => cost k + 2 + cost v + 2 + KI r
end
theorem Yt : ∀ (ts : List Str) (k : Nat) (acc : Str), (textFrom k acc ts).length ≤ acc.length + piled ts
 | [], k, acc => Nat.le_add_right _ _
 | t :: r, k, acc => by
  have h := Yt r (k + 1) (acc ++ (if k > 0 then ", " else "" : String) ++ t)
  have e : (acc ++ (if k > 0 then ", " else "" : String) ++ t).length = acc.length + (if k > 0 then 2 else 0) + t.length := by
   rw [strLen_append, strLen_append]
   split <;> rfl
  have d1 : (if k > 0 then 2 else 0 : Nat) ≤ 2 := by split <;> omega
  rw [e] at h
  rw [piled_cons]
  show (textFrom (k + 1) _ r).length ≤ _
  omega
theorem Cq (ts : List Str) : (Str.join ", " ts).length ≤ piled ts := by
 by_cases h : ts = []
 ·subst h; exact Nat.le_of_eq rfl
 ·have := join_length_add ts h
  omega
mutual
theorem JB : ∀ d : PyData, d.showable = true → d.shown.length ≤ cost d
 | .none, _ => by simp only [PyData.shown, cost]; exact Nat.le_of_eq rfl
 | .bool b, _ => by
  simp only [PyData.shown, cost]
  cases b
  ·exact Nat.le_of_eq rfl
  ·exact (by decide : 4 ≤ 5)
 | .int i, h => by
  simp only [PyData.shown, cost]
  exact int_text_len_1921 (by simpa [PyData.showable] using h)
 | .str x, _ => by simp only [PyData.shown, cost]; exact Nat.le_refl _
 | .list xs, h => by
  have h1 := Q8 xs (by simpa [PyData.showable] using h)
  have h2 := Yt (PyData.shownAll xs) 0 "["
  have e1 : ((("[" : String) : Str)).length = 1 := rfl
  have e2 : ((("]" : String) : Str)).length = 1 := rfl
  simp only [PyData.shown, cost]
  unfold listText
  rw [strLen_append, e2]
  rw [e1] at h2
  omega
 | .tuple xs, h => by
  have h1 := Q8 xs (by simpa [PyData.showable] using h)
  have h2 := Cq (PyData.shownAll xs)
  have e1 : ((("(" : String) : Str)).length = 1 := rfl
  have e3 : (((if (PyData.shownAll xs).length == 1 then ",)" else ")" : String) : Str)).length ≤ 2 := by split <;> decide
  simp only [PyData.shown, cost]
  unfold tupleText
  rw [strLen_append, strLen_append, e1]
  omega
 | .dict kvs, h => by
  have h1 := VJ kvs (by simpa [PyData.showable] using h)
  have h2 := Cq (PyData.shownKv kvs)
  have e : (dictText (PyData.shownKv kvs)).length = 1 + (Str.join ", " (PyData.shownKv kvs)).length + 1 := by
   unfold dictText
   rw [strLen_append, strLen_append]; rfl
  simp only [PyData.shown, cost]
  omega
theorem Q8 : ∀ xs : List PyData, PyData.showableAll xs = true → piled (PyData.shownAll xs) ≤ Vt xs
 | [], _ => by simp only [PyData.shownAll, Vt]; exact Nat.le_of_eq rfl
 | x :: xs, h => by
  have h' : x.showable = true ∧ PyData.showableAll xs = true := by simpa [PyData.showableAll] using h
  have h1 := JB x h'.1
  have h2 := Q8 xs h'.2
  simp only [PyData.shownAll, Vt]
  rw [piled_cons]
  omega
theorem VJ : ∀ kvs : List (PyData × PyData), PyData.showableKv kvs = true → piled (PyData.shownKv kvs) ≤ KI kvs
 | [], _ => by simp only [PyData.shownKv, KI]; exact Nat.le_of_eq rfl
 | (k, v) :: r, h => by
  have h' : (k.showable = true ∧ v.showable = true) ∧ PyData.showableKv r = true := by simpa [PyData.showableKv] using h
  have h1 := JB k h'.1.1
  have h2 := JB v h'.1.2
  have h3 := VJ r h'.2
  have e : ((k.shown ++ ": " ++ v.shown : Str)).length = k.shown.length + 2 + v.shown.length := by rw [strLen_append, strLen_append]; rfl
  simp only [PyData.shownKv, KI]
  rw [piled_cons, e]
  omega
end
theorem Shw.of {d : PyData} (s : d.showable = true) (m : (d.hasDict && Qr d) = false) (dp : d.depth ≤ 64) (z : cost d ≤ 1000000) : Shw d :=
 ⟨s, m, dp, Nat.le_trans (JB d s) (Nat.le_trans z (by rw [sizeLine_eq]; decide))⟩
structure Own (K : PySem.W.Frag) (mg : Str → Option Value) (x : Str) (st : Stmt) (ps : List Str) (f : Addr) (fd : FuncData) : Prop where
 F : Fun K x x st f fd
 m : mg x = some (.ref f)
 b : Binds K fd ps []
noncomputable def CO : DSp := fun xs M Φ => ∃ ns : List Int, xs = [.dat (.list (ns.map PyData.int))] ∧ ns.length ≤ 63 ∧ ∀ M', Φ (.dat (.bool true)) M'
theorem Eb {K : PySem.W.Frag} {H : Hp} {a : Addr} {ns : List Int} (hl : ns.length ≤ 63) (_ : Zb0 H) (hS : SqL K H a (ns.map V.int)) : lift K CO [.ref a] H (fun v _ => v = .bl true) fun _ _ _ => False := by
 refine ⟨[.dat (.list (ns.map PyData.int))], fun _ => none, fun x _ => x = .dat (.bool true), (show ZN K (fun _ => none) H from ⟨fun b o e => (by cases e)⟩), Paired.cons (Dt.lst ?_ (Dts.ints ns)) Paired.nil, ⟨ns, rfl, hl, fun _ => rfl⟩, fun v H' x M' _ _ rv hx => ?_⟩
 ·rcases hS with h | h
  ·exact .inl ⟨rfl, h⟩
  ·exact .inr h
 ·subst hx
  exact rv.bool
end DL
namespace DL
open PySem PySem.Spec PyProof.Rows L2
theorem FI {α : Type} {l : List α} {i : Int} (h0 : 0 ≤ i) (h1 : i < l.length) : ∃ d, atI l i = some d ∧ d ∈ l := by
 have hl : i.toNat < l.length := by omega
 refine ⟨l[i.toNat], ?_, List.getElem_mem hl⟩
 have q : atI l ((i.toNat : Nat) : Int) = some l[i.toNat] := Vs (by simp [hl])
 rw [show ((i.toNat : Nat) : Int) = i by omega] at q
 exact q
theorem ZbI : ixN 3 0 = some 0 := rfl
theorem ZaN : ixN 3 1 = some 1 := rfl
theorem TN : ixN 3 2 = some 2 := rfl
theorem Ci {ns : List Int} {j : Int} (h0 : 0 ≤ j) (h1 : j < ns.length) : ∃ c : Int, atI (ns.map PyData.int) j = some (.int c) := by
 obtain ⟨d, e, hm⟩ := FI (l := ns.map PyData.int) h0 (by rw [List.length_map]; exact h1)
 obtain ⟨c, _, rfl⟩ := List.mem_map.mp hm
 exact ⟨c, e⟩
theorem DU (x : Int) {m : Int} (h : 0 < m) : 0 ≤ x % m ∧ x % m < m := ⟨Int.emod_nonneg _ (by omega), Int.emod_lt_of_pos _ h⟩
noncomputable def sp1 (f : PyData → Bool) : DSp := fun xs M Φ => ∃ d, xs = [.dat d] ∧ Φ (.dat (.bool (f d))) M
theorem RT (k : Int) (h : 0 ≤ k ∧ k ≤ 1000000) : Zcq 10 k := ⟨h.1, h.2, by decide⟩
theorem Ja {M : Mp} {a : Addr} {o : OO} (h : M a = none) : VD (Zx M a o) a = M := by
 funext b
 unfold VD Zx
 split
 ·rename_i e; rw [e, h]
 ·rfl
theorem Zw {p : Prop} [Decidable p] {A B : Prop} (h1 : p → A) (h2 : ¬ p → B) : if decide p = true then A else B := by
 by_cases h : p
 ·rw [decide_eq_true h, if_pos rfl]; exact h1 h
 ·rw [decide_eq_false h, if_neg Bool.false_ne_true]; exact h2 h
end DL
namespace DL
open PySem PySem.Spec PyProof.Rows L2
noncomputable def Ez (env : Env) : List (Str × NameKind) → List (Str × Addr) → List (Str × Addr)
 | [], cs => cs
 | (n, k) :: r, cs => Ez env r (if (k == NameKind.free) = true then (n, (env.cells.lookup n).getD 0) :: cs else cs)
theorem Y0 {env : Env} (f : Str × NameKind → List (Str × Addr) → Sem (ForInStep (List (Str × Addr)))) : ∀ (l : List (Str × NameKind)) (cs : List (Str × Addr)),
  (∀ y ∈ l, ∀ cs, f y cs = pure (.yield (if (y.2 == NameKind.free) = true then (y.1, (env.cells.lookup y.1).getD 0) :: cs else cs))) → forIn l cs f = pure (Ez env l cs)
 | [], cs, _ => by rw [List.forIn_nil]; rfl
 | (n, k) :: r, cs, h => by
  rw [List.forIn_cons, h _ List.mem_cons_self, pure_bind]
  exact Y0 f r _ fun y hy => h y (List.mem_cons_of_mem _ hy)
theorem V9 {scope : Scope} {env : Env} (h : ∀ y ∈ scope.names, y.2 = .free → ∃ c, env.cells.lookup y.1 = some c) : closureFor scope env = pure (Ez env scope.names []) := by
 simp only [closureFor]
 rw [Y0 (env := env) _ scope.names [] (fun y hy cs => by
  obtain ⟨n, k⟩ := y
  by_cases hk : k = .free
  ·subst hk
   obtain ⟨c, e⟩ := h _ hy rfl
   have e' : env.cells.lookup n = some c := e
   simp only [beq_self_eq_true, if_true, cellOf, e', Option.getD_some, pure_bind]
  ·have : (k == NameKind.free) = false := by simpa using hk
   simp only [this, Bool.false_eq_true, if_false])]
 rfl
theorem G2 {env : Env} : ∀ {l : List (Str × NameKind)} {cs : List (Str × Addr)} {x : Str} {c : Addr}, (x, c) ∈ Ez env l cs → (x, c) ∈ cs ∨ ((x, NameKind.free) ∈ l ∧ c = (env.cells.lookup x).getD 0)
 | [], _, _, _, h => .inl h
 | (n, k) :: r, cs, x, c, h => by
  rcases G2 (l := r) h with h | ⟨h1, h2⟩
  ·by_cases hk : k = .free
   ·subst hk
    rw [if_pos (by simp)] at h
    rcases List.mem_cons.mp h with h | h
    ·cases h
     exact .inr ⟨List.mem_cons_self, rfl⟩
    ·exact .inl h
   ·have : (k == NameKind.free) = false := by simpa using hk
    rw [if_neg (by rw [this]; exact Bool.false_ne_true)] at h
    exact .inl h
  ·exact .inr ⟨List.mem_cons_of_mem _ h1, h2⟩
theorem Gh {env : Env} : ∀ {l : List (Str × NameKind)} {cs : List (Str × Addr)} {x : Str}, ((x, NameKind.free) ∈ l ∨ ∃ c, (x, c) ∈ cs) → ∃ c, (x, c) ∈ Ez env l cs
 | [], _, _, h => h.elim (fun z => nomatch z) id
 | (n, k) :: r, cs, x, h => by
  refine Gh (l := r) ?_
  rcases h with h | ⟨c, h⟩
  ·rcases List.mem_cons.mp h with h | h
   ·cases h
    exact .inr ⟨_, by rw [if_pos (by simp)]; exact List.mem_cons_self⟩
   ·exact .inl h
  ·refine .inr ⟨c, ?_⟩
   split
   ·exact List.mem_cons_of_mem _ h
   ·exact h
theorem Ys {β : Type} : ∀ {l : List (Str × β)} {x : Str} {c : β}, (x, c) ∈ l → ∃ c', l.lookup x = some c'
 | [], _, _, h => nomatch h
 | (n, d) :: r, x, c, h => by
  rw [List.lookup_cons]
  cases e : x == n with
  | true => exact ⟨d, rfl⟩
  | false =>
   rcases List.mem_cons.mp h with h | h
   ·cases h
    simp at e
   ·exact Ys h
theorem Qm {env : Env} {names : List (Str × NameKind)} (hf : ∀ y ∈ names, y.2 = .free → ∃ c, env.cells.lookup y.1 = some c) {x : Str} {c : Addr} (h : (Ez env names []).lookup x = some c) :
  env.cells.lookup x = some c ∧ (x, NameKind.free) ∈ names := by
 rcases G2 (PySem.mem_of_lookup h) with h | ⟨h1, h2⟩
 ·exact nomatch h
 ·obtain ⟨c', e⟩ := hf _ h1 rfl
  have e' : env.cells.lookup x = some c' := e
  rw [e', Option.getD_some] at h2
  subst h2
  exact ⟨e', h1⟩
theorem G3 {env : Env} {names : List (Str × NameKind)} (hf : ∀ y ∈ names, y.2 = .free → ∃ c, env.cells.lookup y.1 = some c) {x : Str} (h : (x, NameKind.free) ∈ names) : ∃ c, (Ez env names []).lookup x = some c ∧ env.cells.lookup x = some c := by
 obtain ⟨c, hm⟩ := Gh (env := env) (cs := []) (.inl h)
 obtain ⟨c', e⟩ := Ys hm
 exact ⟨c', e, (Qm hf e).1⟩
noncomputable def ZY (X : Cx) (scope : Scope) (C : Addr) (N : List Str) (ex : List Addr) (s : Shared) (H : Hp) : Cx :=
 { X with N := N, s₀ := s, H₀ := H, env := compEnvC scope (Ez X.env scope.names []) C X.env, outer := X.stack, ex := ex, fn := fun _ => false, pn := [], xe := fun _ _ => False }
noncomputable def Je (ix : List (Option Nat)) (σ : L2.St) : L2.St := ix.map fun o => o.bind fun i => (σ[i]?).join
noncomputable def Bf (ix : List (Option Nat)) (Δ : DSt) : DSt := ix.map fun o => o.bind fun i => (Δ[i]?).join
structure VE (X : Cx) (scope : Scope) (N : List Str) (ix : List (Option Nat)) : Prop where
 kind : scope.kind = .function
 cellF : ∀ y ∈ scope.names, y.2 ≠ .cell
 names : ∀ y ∈ scope.names, y.2 = .local → scope.names.lookup y.1 = some .local
 free : ∀ y ∈ scope.names, y.2 = .free → X.env.kindOf y.1 = some .cell
 len : N.length = ix.length
 cap : ∀ (j : Nat) (x : Str) (i : Nat), N[j]? = some x → ix[j]? = some (some i) → X.N[i]? = some x ∧ (x, NameKind.free) ∈ scope.names ∧ (relabel scope X.env).names.lookup x = some .cell
theorem Dj {ix : List (Option Nat)} {σ : L2.St} {j : Nat} {v : V} (h : (Je ix σ)[j]? = some (some v)) : ∃ i, ix[j]? = some (some i) ∧ σ[i]? = some (some v) := by
 unfold Je at h
 rw [List.getElem?_map] at h
 cases e : ix[j]? with
 | none => rw [e] at h; cases h
 | some o =>
  rw [e] at h
  cases o with
  | none => simp at h
  | some i =>
   refine ⟨i, rfl, ?_⟩
   have h' : (σ[i]?).join = some v := by simpa using h
   cases q : σ[i]? with
   | none => rw [q] at h'; cases h'
   | some o' => rw [q] at h'; exact congrArg some h'
theorem QP.cap {K : PySem.W.Frag} {M : Mp} {H : Hp} {σ : L2.St} {Δ : DSt} (h : QP K M H σ Δ) (ix : List (Option Nat)) : QP K M H (Je ix σ) (Bf ix Δ) := by
 refine ⟨by unfold Je Bf; rw [List.length_map, List.length_map], fun j x e => ?_⟩
 unfold Bf at e
 rw [List.getElem?_map] at e
 cases q : ix[j]? with
 | none => rw [q] at e; cases e
 | some o =>
  rw [q] at e
  cases o with
  | none => simp at e
  | some i =>
   have e' : (Δ[i]?).join = some x := by simpa using e
   have e2 : Δ[i]? = some (some x) := by
    cases q2 : Δ[i]? with
    | none => rw [q2] at e'; cases e'
    | some o' => rw [q2] at e'; exact congrArg some e'
   obtain ⟨v, hv, rv⟩ := h.at' i x e2
   refine ⟨v, ?_, rv⟩
   unfold Je
   rw [List.getElem?_map, q]
   simp [hv]
section
variable {X : Cx} {pins : List (Addr × Obj)} {σ : L2.St} {H2 : Hp} {s2 : Shared} {scope : Scope} {N : List Str} {ix : List (Option Nat)} {C : Addr} {fp : List Addr}
theorem Ts (ok : VE X scope N ix) (I2 : Inv X pins σ H2 s2) : ∀ y ∈ scope.names, y.2 = .free → ∃ c, X.env.cells.lookup y.1 = some c := fun y hy hk => I2.ok.has y.1 (.inl (ok.free y hy hk))
theorem BM (ok : VE X scope N ix) (I2 : Inv X pins σ H2 s2) (f2 : ∀ b ∈ fp, DF X pins H2 b) (ex : ∀ b ∈ fp, ∃ o, s2.heap.get? b = some o) (hC : s2.heap.objs.size ≤ C) : (ZY X scope C N fp s2 H2).Ok := by
 have hf := Ts ok I2
 refine ⟨I2.ok.mod, ok.kind, I2.ok.glob, I2.ok.blt, hC, fun x y c h1 h2 => I2.ok.inj x y c (Qm hf h1).1 (Qm hf h2).1, fun x hx => ?_, fun x c h => absurd h Bool.false_ne_true, I2.ok.hd, I2.ok.frames, .inl rfl, fun b hb => ?_, fun b o e => I2.bs b o e, Nat.le_trans I2.ok.bsz I2.sz,
  fun b o e hb => ?_, fun b hb z => ?_, I2.stack, I2.CT⟩
 ·have hx' : (relabel scope X.env).names.lookup x = some .cell ∨ (relabel scope X.env).names.lookup x = some .free := hx
  have key : (x, NameKind.free) ∈ scope.names := by
   have go : ∀ k', (relabel scope X.env).names.lookup x = some k' → (k' = .cell ∨ k' = .free) → (x, NameKind.free) ∈ scope.names := fun k' e hk => by
    have hm := PySem.mem_of_lookup e
    obtain ⟨⟨n, k⟩, hn, q⟩ := List.mem_map.mp hm
    by_cases hr : (k == NameKind.free && X.env.scope.kind == .function && X.env.kindOf n == some .cell) = true
    ·have q' : (n, NameKind.cell) = (x, k') := by rw [← q]; simp [hr]
     cases q'
     have : k = .free := by simp only [Bool.and_eq_true] at hr; simpa using hr.1.1
     subst this
     exact hn
    ·have q' : (n, k) = (x, k') := by rw [← q]; simp [hr]
     cases q'
     rcases hk with rfl | rfl
     ·exact absurd rfl (ok.cellF _ hn)
     ·exact hn
   rcases hx' with h | h
   ·exact go _ h (.inl rfl)
   ·exact go _ h (.inr rfl)
  obtain ⟨c, h1, _⟩ := G3 hf key
  exact ⟨c, h1⟩
 ·obtain ⟨o, e⟩ := ex b hb
  exact ⟨Nat.ne_of_lt (Nat.lt_of_lt_of_le (Heap.lt_size e) hC), fun x c h => (f2 b hb).2.2.2.2.1 x c (Qm hf h).1⟩
 ·rcases (f2 b hb).2.2.2.1 with z | z
  ·exact I2.ok.noex b o e z
  ·exact absurd (Nat.lt_of_lt_of_le (Heap.lt_size e) (Nat.le_trans I2.ok.bsz z)) (Nat.lt_irrefl _)
 ·rcases List.mem_cons.mp (I2.CS b z) with z | z
  ·exact (f2 b hb).2.1 z
  ·exact (f2 b hb).2.2.1 z
theorem Gj (ok : VE X scope N ix) (I2 : Inv X pins σ H2 s2) (f2 : ∀ b ∈ fp, DF X pins H2 b) {s : Shared} {H : Hp} {m : Str → Option Value} (u : Un (frs X.stack) fp H2 H s2.heap s.heap) :
  ∀ (i : Nat) (x : Str) (v : V), N[i]? = some x → (Je ix σ)[i]? = some (some v) → ∃ w, RelV v w ∧ Look (ZY X scope C N fp s2 H2).env s.heap m x w := fun j x v hN hv => by
 obtain ⟨i, hi, hs⟩ := Dj hv
 obtain ⟨hx, hm, hr⟩ := ok.cap j x i hN hi
 have hk : X.env.kindOf x = some .cell := ok.free _ hm rfl
 obtain ⟨m0, _, hl⟩ := I2.loc
 obtain ⟨w, r, l⟩ := hl i x v hx hs (.inr (.inl hk))
 refine ⟨w, r, .inr ⟨.inl hr, ?_⟩⟩
 rcases l with ⟨z, _⟩ | ⟨_, c, e, hc⟩
 ·rw [hk] at z; cases z
 ·obtain ⟨c', h1, h2⟩ := G3 (Ts ok I2) hm
  rw [e] at h2
  cases h2
  refine ⟨c, h1, ?_⟩
  obtain ⟨o, ho, hd⟩ := hc
  obtain ⟨sl, q⟩ := u.any ho (I2.freeC x c e) fun z => (f2 c z).2.2.2.2.1 x c e rfl
  exact ⟨_, q, hd⟩
end
end DL
namespace DL
open PySem PySem.Spec PyProof.Rows L2
section
variable {prog : Program} {w : World} {A : Around} {R : Result → Shared → Prop} {s : Shared}
theorem WA {elt target iter : Expr} {ifs : List Expr} {scope : Scope} {pos : Pos} {it acc : Value} {env : Env} (I : Nat → Shared → Prop)
  (turn : ∀ n s, I n s → wpAny (model prog w) A (pyNext it) (fun r s₁ => match r with
   | none => R (.ok .next) s₁
   | some v => wpAny (model prog w) A (letOwnedTupleGo target it v) (fun _ s₁' => wpAny (model prog w) A (assign target env v) (fun _ s₂ =>
     wpAny (model prog w) A (forIn ifs true fun c r => if r = true then do let ok ← isTrue c env (eval c env); pure (ForInStep.yield ok) else pure (ForInStep.yield r)) (fun ok s₃ =>
      if ok = true then wpAny (model prog w) A (eval elt env) (fun x s₄ =>
       wpAny (model prog w) A (call (.builtin "list.append") [acc, x]) (fun _ s₅ => ∃ m, m < n ∧ I m s₅) (fun _ _ => False) s₄) (fun _ _ => False) s₃
      else ∃ m, m < n ∧ I m s₃) (fun _ _ => False) s₂) (fun _ _ => False) s₁') (fun _ _ => False) s₁) (fun _ _ => False) s)
  (n : Nat) (h : I n s) : codeAny (model prog w) A (.compLoop (.ListComp elt [⟨target, iter, ifs, 0⟩] scope pos) 0 it acc env) R s := by
 refine codeAny_loop rfl I (fun n s hI => ?_) n h
 show wpAny _ A ((compTurn (.ListComp elt [⟨target, iter, ifs, 0⟩] scope pos) 0 it acc env).onRaise (fun x => do noteFrame x env; theTreesLotGoes x)) _ _ s
 refine wpAny_noted ?_
 rw [compTurn_list]
 refine wpAny_bind (wpAny_standAt (wpAny_bind (wpAny_mono (turn n s hI) (fun r s₁ h₁ => ?_) fun _ _ h' => h'.elim)))
 cases r with
 | none => exact wpAny_pure h₁
 | some v =>
  refine wpAny_bind (wpAny_mono h₁ (fun _ s₁' h₁' => ?_) fun _ _ h' => h'.elim)
  refine wpAny_bind (wpAny_mono h₁' (fun _ s₂ h₂ => wpAny_bind (wpAny_mono h₂ (fun ok s₃ h₃ => ?_) fun _ _ h' => h'.elim)) fun _ _ h' => h'.elim)
  cases ok with
  | false => exact wpAny_pure ⟨rfl, h₃⟩
  | true =>
   exact wpAny_bind (wpAny_bind (wpAny_mono h₃ (fun x s₄ h₄ => wpAny_bind (wpAny_mono h₄ (fun _ s₅ h₅ => wpAny_pure (wpAny_pure ⟨rfl, h₅⟩)) fun _ _ h' => h'.elim)) fun _ _ h' => h'.elim))
end
noncomputable def Yl (K : PySem.W.Frag) (J : It) (ds : List PyData) (M : Mp) (H : Hp) : Prop := ∀ M2 H2, Step M H M2 H2 → ∀ i,
 (i < ds.length → J.go i H2 ∧ ∀ x H', J.yld i H2 x H' → ZN K M2 H2 → ZN K M2 H' ∧ Step M2 H2 M2 H' ∧ ∃ d, ds[i]? = some d ∧ Dt K M2 H' x d) ∧ (ds.length ≤ i → J.stop i H2)
noncomputable abbrev YU := DSt → Mp → (List PyData → Mp → Prop) → Prop
noncomputable def DI (X : Cx) (tg iter : Expr) (src : YU) : Prop := ∃ wi, PI X tg iter wi ∧ ∀ σ H Δ M Ψ (R : It → Hp → Prop), ZN X.K M H → QP X.K M H σ Δ → src Δ M Ψ →
 (∀ J H' M' ds, ZN X.K M' H' → Step M H M' H' → Yl X.K J ds M' H' → Ψ ds M' → R J H') → wi σ H R
section
variable {X : Cx} {tg iter : Expr}
noncomputable def ZeM (te : DTE) : YU := fun Δ M Ψ => te Δ M fun x M1 => onL x fun ds => Ψ ds M1
noncomputable def Zd7 (te : DTE) : YU := fun Δ M Ψ => te Δ M fun x M1 => onT x fun ds => Ψ ds M1
theorem Q4 {te : DTE} (he : DE X iter te) : DI X tg iter (ZeM te) := by
 obtain ⟨t, p, q⟩ := he
 refine ⟨_, Eo p, fun σ H Δ M Ψ R dr er h k => ?_⟩
 refine q σ H Δ M _ _ dr er h fun v H1 x M1 r1 st rv hx => ?_
 replace hx := NT hx
 obtain ⟨ds, rfl, hΨ⟩ := hx
 obtain ⟨a, xs, rfl, h1, h2⟩ := rv.lst
 refine ⟨a, rfl, ⟨xs, h1.sq⟩, k _ H1 M1 ds r1 st (fun M2 H2 st2 i => ⟨fun hi => ?_, fun hi => ?_⟩) hΨ⟩
 ·have hx : i < xs.length := by rw [h2.length]; exact hi
  refine ⟨⟨xs, xs[i], (h1.step st2).sq, by simp [hx]⟩, fun x H' y => ?_⟩
  obtain ⟨e, y⟩ := y
  obtain ⟨d, hd, hy⟩ := (h2.step st2).TQ (y xs (h1.step st2).sq)
  subst e
  exact fun r => ⟨r, Step.refl, d, hd, hy⟩
 ·exact ⟨xs, (h1.step st2).sq, by rw [h2.length]; exact hi⟩
theorem V7 {te : DTE} (he : DE X iter te) : DI X tg iter (Zd7 te) := by
 obtain ⟨t, p, q⟩ := he
 refine ⟨_, NR p, fun σ H Δ M Ψ R dr er h k => ?_⟩
 refine q σ H Δ M _ _ dr er h fun v H1 x M1 r1 st rv hx => ?_
 replace hx := Cf hx
 obtain ⟨ds, rfl, hΨ⟩ := hx
 obtain ⟨a, xs, rfl, h1, h2⟩ := rv.tup
 refine ⟨a, rfl, ⟨xs, h1.sq⟩, k _ H1 M1 ds r1 st (fun M2 H2 st2 i => ⟨fun hi => ?_, fun hi => ?_⟩) hΨ⟩
 ·have hx : i < xs.length := by rw [h2.length]; exact hi
  refine ⟨⟨xs, xs[i], (h1.step st2).sq, by simp [hx]⟩, fun x H' y => ?_⟩
  obtain ⟨e, y⟩ := y
  obtain ⟨d, hd, hy⟩ := (h2.step st2).TQ (y xs (h1.step st2).sq)
  subst e
  exact fun r => ⟨r, Step.refl, d, hd, hy⟩
 ·exact ⟨xs, (h1.step st2).sq, by rw [h2.length]; exact hi⟩
noncomputable def XW (lo : Int) (n : Nat) : List PyData := (List.range n).map fun (i : Nat) => PyData.int (lo + (i : Int))
theorem JA (lo : Int) (n : Nat) : (XW lo n).length = n := by unfold XW; rw [List.length_map, List.length_range]
theorem Bb {lo : Int} {n i : Nat} (h : i < n) : (XW lo n)[i]? = some (.int (lo + (i : Int))) := by
 unfold XW
 rw [List.getElem?_map, List.getElem?_range h]
 rfl
theorem Nb {K : PySem.W.Frag} {M : Mp} {H : Hp} (lo : Int) (n : Nat) : Yl K (Itr lo n) (XW lo n) M H := fun M2 H2 st2 i => by
 rw [JA]
 refine ⟨fun hi => ⟨hi, fun x H' y => ?_⟩, fun hi => hi⟩
 obtain ⟨e, y⟩ := y
 subst y e
 exact fun r => ⟨r, Step.refl, _, Bb hi, Dt.int _⟩
noncomputable def Za9 (ta : DTA) : YU := fun Δ M Ψ => ta Δ M fun xs M1 => on1 xs fun x => onI x fun j => InR j ∧ Ψ (XW 0 j.toNat) M1
theorem K7 {a : Expr} {ta : DTA} {p p2 : Pos} (hg0 : Gl X "range") (hm : X.mg "range" = none) (ha : DA X [a] ta) (hs : starEach [a] X.env = [(false, eval a X.env)] := by rfl) : DI X tg (.Call (.Name "range" p) [a] [] p2) (Za9 ta) := by
 obtain ⟨t1, p1, q1⟩ := ha
 refine ⟨_, Ko hg0 hm p1 hs, fun σ H Δ M Ψ R dr er h k => ?_⟩
 refine q1 σ H Δ M _ _ dr er h fun vs H1 xs M1 r1 st rv hx => ?_
 replace hx := Z9 hx
 obtain ⟨x, rfl, hx⟩ := hx
 replace hx := ZG hx
 obtain ⟨j, rfl, ⟨h1, h2⟩, hΨ⟩ := hx
 obtain ⟨v, rfl, hv⟩ := Paired.one rv
 exact ⟨j, by rw [Ql.int hv], h1, h2, k _ H1 M1 _ r1 st (Nb 0 j.toNat) hΨ⟩
noncomputable def Zdk (ta : DTA) : YU := fun Δ M Ψ => ta Δ M fun xs M1 => on2 xs fun x y => onI x fun i => onI y fun j => (InR i ∧ InR j) ∧ Ψ (XW i (j - i).toNat) M1
end
noncomputable def UT (ow : Bool) (Φ : DK) (acc : List PyData) (M : Mp) : Prop := match ow with | true => ∀ p, M p = none → Φ (.own p) (Zx M p (.lst acc)) | false => Φ (.dat (.list acc)) M
noncomputable def Oe (ow : Bool) (src : YU) (ix : List (Option Nat)) (g : DTG) (tc : DTT) (te : DTE) : DTE := fun Δ M Φ => src Δ M fun ds M1 => ds.length ≤ sizeLine ∧ ∃ J : Nat → List PyData → Mp → Prop, J 0 [] M1 ∧
 (∀ i d acc M', ds[i]? = some d → J i acc M' → g (.dat d) (Bf ix Δ) M' fun Δ2 M2 => tc Δ2 M2 fun b M3 => if b = true then te Δ2 M3 fun y M4 => onD y fun e => J (i + 1) (acc ++ [e]) M4 else J (i + 1) acc M3) ∧
 ∀ acc M', J ds.length acc M' → UT ow Φ acc M'
noncomputable def DTs (X : Cx) (ifs : List Expr) (τ : DTT) : Prop := ∀ (pins : List (Addr × Obj)) (s : Shared) (σ : L2.St) (H : Hp) (Δ : DSt) (M : Mp) (Φ : Bool → Mp → Prop), L2.Inv X pins σ H s → ZN X.K M H → QP X.K M H σ Δ → τ Δ M Φ →
 wpAny (model X.prog X.w) X.A (forIn ifs true fun c r => if r = true then do let ok ← isTrue c X.env (eval c X.env); pure (ForInStep.yield ok) else pure (ForInStep.yield r))
  (fun b s' => ∃ H' M', L2.Inv X pins σ H' s' ∧ ZN X.K M' H' ∧ Step M H M' H' ∧ Φ b M') X.xe s
noncomputable def Zea : DTT := fun _ M Φ => Φ true M
theorem QJ {X : Cx} : DTs X [] Zea := fun pins s σ H Δ M Φ I dr er h => wpAny_tests_nil ⟨H, M, I, dr, Step.refl, h⟩
theorem JQ {X : Cx} {c : Expr} {τ : DTT} (hc : DT X c τ) : DTs X [c] τ := fun pins s σ H Δ M Φ I dr er h => by
 obtain ⟨t, p, q⟩ := hc
 refine wpAny_tests_one (thn (p pins s σ H (fun b H' => ∃ M', ZN X.K M' H' ∧ Step M H M' H' ∧ Φ b M') I (q σ H Δ M Φ _ dr er h fun b H' M' a c d => ⟨M', a, c, d⟩)) fun b s' h => ?_)
 obtain ⟨H', I', M', a, c, d⟩ := h
 exact ⟨H', M', I', a, c, d⟩
end DL
namespace DL
open PySem PySem.Spec PyProof.Rows L2
section
variable {X : Cx}
noncomputable abbrev CompSrc (ds : List PyData) (M1 : Mp) (Δ : DSt) (ix : List (Option Nat)) (g : DTG) (tc : DTT) (te : DTE) (ψ : List PyData → Mp → Prop) : Prop := ds.length ≤ sizeLine ∧ ∃ J : Nat → List PyData → Mp → Prop, J 0 [] M1 ∧
 (∀ i d acc M', ds[i]? = some d → J i acc M' → g (.dat d) (Bf ix Δ) M' fun Δ2 M2 => tc Δ2 M2 fun b M3 => if b = true then te Δ2 M3 fun y M4 => onD y fun e => J (i + 1) (acc ++ [e]) M4 else J (i + 1) acc M3) ∧ ∀ acc M', J ds.length acc M' → ψ acc M'
set_option maxHeartbeats 2000000 in
theorem K9 {elt tg iter : Expr} {ifs : List Expr} {scope : Scope} {pos ps : Pos} {src : YU} {N : List Str} {ix : List (Option Nat)} {g : DTG} {tc : DTT} {te : DTE} {use : Option (Value → Sem Unit)} {QQ : Value → Shared → Prop} {ψ : List PyData → Mp → Prop} (ok : VE X scope N ix) (hi : DI X tg iter src)
  (hg : ∀ C ex s H, DG (ZY X scope C N ex s H) tg g) (ht : ∀ C ex s H, DTs (ZY X scope C N ex s H) ifs tc) (he : ∀ C ex s H, DE (ZY X scope C N ex s H) elt te) (hc : X.calm = true)
  (hs : ∀ x, foldedSetIterable iter X.env x = pure x) {σ : L2.St} {H : Hp} {Δ : DSt} {M : Mp} {pins : List (Addr × Obj)} {s : Shared} (dr : ZN X.K M H) (er : QP X.K M H σ Δ) (h : src Δ M fun ds M1 => CompSrc ds M1 Δ ix g tc te ψ) (I : L2.Inv X pins σ H s)
  (hfin : ∀ (s4 : Shared) (C D : Addr) (H' : Hp) (M' : Mp) (vs : List V) (acc : List PyData), L2.Inv X pins σ (upd H' D (.lst vs)) s4 → H' D = none → ZN X.K M' H' → Step M H M' H' → Dts X.K M' H' vs acc → ψ acc M' → (∃ m, s4.heap.Ns C m) → DF X pins (upd H' D (.lst vs)) C →
   compPost (model X.prog X.w) X.A X.xe use QQ (.ref D) C (.ok .next) s4) :
  wpAny (model X.prog X.w) X.A (comprehension (.ListComp elt [⟨tg, iter, ifs, 0⟩] scope pos) scope X.env ps (newList []) false (eval iter X.env) use) QQ X.xe s := by
 obtain ⟨wi, pi, qi⟩ := hi
 refine wpAny_comprehension_free (use := use) (cl := Ez X.env scope.names []) rfl hs (V9 (Ts ok I)) ok.kind ok.names ?_
 show wpAny _ _ (eval iter X.env) _ _ s
 refine thn (pi pins s σ H (fun J H' => ∃ M' ds, ZN X.K M' H' ∧ Step M H M' H' ∧ Yl X.K J ds M' H' ∧ ds.length ≤ sizeLine ∧ ∃ W : Nat → List PyData → Mp → Prop, W 0 [] M' ∧
   (∀ i d acc M', ds[i]? = some d → W i acc M' → g (.dat d) (Bf ix Δ) M' fun Δ2 M2 => tc Δ2 M2 fun b M3 => if b = true then te Δ2 M3 fun y M4 => onD y fun e => W (i + 1) (acc ++ [e]) M4 else W (i + 1) acc M3) ∧
   ∀ acc M', W ds.length acc M' → ψ acc M') I (qi σ H Δ M _ _ dr er h fun J H' M' ds a b c d => ⟨M', ds, a, b, c, d⟩)) fun x s1 h1 => thn h1 fun itv s2 h2 => ?_
 obtain ⟨it, fp, tn, J, H2, e, I2, T, st2, f2, M1, ds, dr1, stp, yl, hz, W, w0, wt, wd⟩ := h2
 subst e
 have exo : ∀ b ∈ fp, ∃ o, s2.heap.get? b = some o := fun b hb => let ⟨o, q, _⟩ := T.obj 0 _ st2 b hb; ⟨o, q⟩
 refine wpAny_newObj_type (wpAny_newFunctionEnv ok.cellF (by intro y hy; simp at hy) (fun h₁ hns₁ hsb₁ => ?_) ok.kind)
 dsimp only at hns₁ hsb₁ ⊢
 generalize hH2 : s2.heap.push { cls := .type "list", dict := none, data := .seq ([] : List Value).toArray } = HH at hns₁ hsb₁ ⊢
 have hC : HH.objs.size = s2.heap.objs.size + 1 := by rw [← hH2, Heap.size_push]
 have hDC : s2.heap.objs.size ≠ HH.objs.size := by rw [hC]; exact Nat.ne_of_lt (Nat.lt_succ_self _)
 have hCle : s2.heap.objs.size ≤ HH.objs.size := by rw [hC]; exact Nat.le_succ _
 have below : ∀ b, b < s2.heap.objs.size → b ≠ HH.objs.size ∧ b ≠ s2.heap.objs.size := fun b hb => ⟨by rw [hC]; exact Nat.ne_of_lt (Nat.lt_succ_of_lt hb), Nat.ne_of_lt hb⟩
 have old : ∀ b o, s2.heap.get? b = some o → h₁.get? b = some o := fun b o e => hsb₁.extBut b o (below b (Heap.lt_size e)).1 (Heap.get?_push_of_some _ (hH2 ▸ Heap.get?_push_of_some _ e))
 have hacc : h₁.get? s2.heap.objs.size = some { cls := .type "list", data := .seq ([] : List Value).toArray } := hsb₁.extBut _ _ hDC (Heap.get?_push_of_some _ (hH2 ▸ Heap.get?_push_size _ rfl))
 generalize hCC : HH.objs.size = C at *
 generalize hDD : s2.heap.objs.size = D at hDC hacc below hCle
 have hDs : s2.heap.objs.size ≤ D := Nat.le_of_eq hDD
 have hCs : s2.heap.objs.size ≤ C := by rw [hDD]; exact hCle
 have fD : ∀ b ∈ fp, b ≠ D ∧ b ≠ C := fun b hb => by
  obtain ⟨o, q⟩ := exo b hb
  exact ⟨(below b (by rw [← hDD]; exact Heap.lt_size q)).2, (below b (by rw [← hDD]; exact Heap.lt_size q)).1⟩
 have okY : (ZY X scope C N fp s2 H2).Ok := BM ok I2 f2 exo hCs
 have fsD : ∀ b ∈ frs X.stack, b < s2.heap.objs.size := fun b hb => by
  obtain ⟨_, o, ho, _⟩ := I2.stack.mem hb
  exact Heap.lt_size ho
 have cellD : ∀ x c, (ZY X scope C N fp s2 H2).env.cells.lookup x = some c → c < s2.heap.objs.size ∧ H2 c = none := fun x c e => by
  have e' := (Qm (Ts ok I2) e).1
  obtain ⟨v, q⟩ := I2.cell x c e'
  exact ⟨q.lt, I2.freeC x c e'⟩
 have fpY : ∀ {H' : Hp} {ps : List (Addr × Obj)}, (∀ b ∈ fp, H' b = none) → (∀ p ∈ ps, p.1 = D) → ∀ b ∈ fp, DF (ZY X scope C N fp s2 H2) ps H' b := fun {H' ps} hn hp b hb =>
  ⟨hn b hb, (fD b hb).2, okY.exfs b hb, .inl hb, (okY.exf b hb).2, fun p hp' z => by
   have q : p ∈ ps := hp'
   rw [hp p q] at z
   exact (fD b hb).1 z.symm⟩
 have onlyD : ∀ (o : Obj), ∀ p ∈ [(D, o)], p.1 = D := fun o p hp => by
  have q : p = (D, o) := by simpa using hp
  rw [q]
 have reloc : ∀ {ps : List (Addr × Obj)} {σ' : L2.St} {H' : Hp} {s' : Shared} {o : Obj}, L2.Inv (ZY X scope C N fp s2 H2) ps σ' H' s' → s'.heap.get? D = some o → H' D = none → (∀ v, o.data ≠ .cell v) →
   L2.Inv (ZY X scope C N fp s2 H2) [(D, o)] (Je ix σ) H' s' := fun {ps σ' H' s' o} J' hD hn hd => by
  obtain ⟨m, hm, _⟩ := J'.loc
  refine ⟨J'.ok, J'.os, J'.bare, J'.base, ⟨m, hm, fun i x v a b _ => Gj ok I2 f2 J'.base i x v a b⟩, J'.cell, J'.free, J'.freeC, fun p hp => ?_, J'.hok, ?_⟩
  ·have q : p = (D, o) := by
    have z : p ∈ ([] : List (Addr × Obj)) ++ [(D, o)] := hp
    simpa using z
   subst q
   exact ⟨hD, hn, hDC, fun z => absurd (fsD D z) (Nat.not_lt.mpr hDs), hd⟩
  ·show (Je ix σ).length = N.length
   unfold Je
   rw [List.length_map, ok.len]
 have start : L2.Inv (ZY X scope C N fp s2 H2) [(D, { cls := .type "list", data := .seq ([] : List Value).toArray })] (Je ix σ) H2 { s2 with heap := h₁, toks := s2.toks + ([] : List (Str × Value)).length } := by
  refine ⟨okY, rfl, I2.bare, Un.kept old, ⟨_, hns₁, fun i x v a b _ => Gj ok I2 f2 (Un.kept old) i x v a b⟩, fun x c e => ?_, I2.hok.fresh hCs, fun x c e => (cellD x c e).2, fun p hp => ?_, I2.hok.kept old, ?_⟩
  ·obtain ⟨v, o, ho, hd⟩ := I2.cell x c (Qm (Ts ok I2) e).1
   exact ⟨v, o, old c o ho, hd⟩
  ·have q : p = (D, { cls := .type "list", data := .seq ([] : List Value).toArray }) := by
    have z : p ∈ ([] : List (Addr × Obj)) ++ [(D, { cls := .type "list", data := .seq ([] : List Value).toArray })] := hp
    simpa using z
   subst q
   exact ⟨hacc, I2.hok.fresh hDs, hDC, fun z => absurd (fsD D z) (Nat.not_lt.mpr hDs), fun v z => nomatch z⟩
  ·show (Je ix σ).length = N.length
   unfold Je
   rw [List.length_map, ok.len]
 have loop : ∀ s₃ : Shared, s₃ = { s2 with heap := h₁, toks := s2.toks + ([] : List (Str × Value)).length } →
   codeAny (model X.prog X.w) X.A (.compLoop (.ListComp elt [⟨tg, iter, ifs, 0⟩] scope pos) 0 (.ref it) (.ref D) (compEnvC scope (Ez X.env scope.names []) C X.env)) (compPost (model X.prog X.w) X.A X.xe use QQ (.ref D) C) s₃ := by
  rintro s₃ rfl
  refine WA (fun n s' => ∃ (i : Nat) (acc : List PyData) (vs : List V) (its : List Value) (nn : Nat) (H' : Hp) (M' : Mp), L2.Inv (ZY X scope C N fp s2 H2) [(D, { cls := .type "list", data := .seq its.toArray nn })] (Je ix σ) H' s' ∧
   tn i s'.heap ∧ (∀ b ∈ fp, H' b = none) ∧ ZN X.K M' H' ∧ Step M1 H2 M' H' ∧ Vals vs its ∧ Dts X.K M' H' vs acc ∧ W i acc M' ∧ i ≤ ds.length ∧ acc.length ≤ i ∧ n = ds.length - i) ?_ ds.length
   ⟨0, [], [], [], 0, H2, M1, start, T.keep _ _ _ st2 (fun b _ o e => old b o e), fun b hb => (f2 b hb).1, dr1, Step.refl, .nil, .nil, w0, Nat.zero_le _, Nat.le_refl _, rfl⟩
  rintro n s' ⟨i, acc, vs, its, nn, H', M', IY, ti, fr, dr', stp', rv, rd, wi', hil, hal, rfl⟩
  have pinD := IY.pin (D, { cls := .type "list", data := .seq its.toArray nn }) (by simp)
  have fok := fpY (ps := [(D, { cls := .type "list", data := .seq its.toArray nn })]) fr (onlyD _)
  obtain ⟨ygo, ystop⟩ := yl M' H' stp' i
  by_cases hlt : i < ds.length
  ·obtain ⟨jgo, jyl⟩ := ygo hlt
   refine thn (T.item (ZY X scope C N fp s2 H2) rfl rfl rfl hc i _ s' (Je ix σ) H' (fun _ _ => False) IY fok ti jgo) fun r s4 ⟨u, hr, h4⟩ => ?_
   subst hr
   refine thn h4 fun _ s5 ⟨x, H5, I5, r5, y5, st5, fr5⟩ => ?_
   obtain ⟨dr5, stp5, d, hd, hxd⟩ := jyl x H5 y5 dr'
   replace dr' := dr5
   replace stp' := stp'.trans stp5
   replace rd := rd.step stp5
   have I5' := I5.pinned (fpY (ps := [(D, { cls := .type "list", data := .seq its.toArray nn })]) fr5 (onlyD _)) (T.obj _ _ st5)
   obtain ⟨tg', pg, qg⟩ := hg C fp s2 H2
   refine thn (pg _ s5 (Je ix σ) H5 x u (fun σ6 H6 => ∃ Δ6 M6, ZN X.K M6 H6 ∧ Step M' H5 M6 H6 ∧ QP X.K M6 H6 σ6 Δ6 ∧ tc Δ6 M6 fun b M3 => if b = true then te Δ6 M3 fun y M4 => onD y fun e => W (i + 1) (acc ++ [e]) M4 else W (i + 1) acc M3) I5' r5
    (qg x (Je ix σ) H5 (.dat d) (Bf ix Δ) M' _ _ dr' ((er.step (stp.trans stp')).cap ix) hxd (wt i d acc M' hd wi') fun σ6 H6 Δ6 M6 a b c d => ⟨Δ6, M6, a, b, c, d⟩)) fun _ s6 ⟨σ6, H6, I6, Δ6, M6, dr6, stp6, er6, q6⟩ => ?_
   refine thn (ht C fp s2 H2 _ s6 σ6 H6 Δ6 M6 _ I6 dr6 er6 q6) fun b s7 ⟨H7, M7, I7, dr7, stp7, q7⟩ => ?_
   have keepD : ∀ {σz : L2.St} {Hz : Hp} {sz : Shared}, L2.Inv (ZY X scope C N fp s2 H2) ([(D, { cls := .type "list", data := .seq its.toArray nn })] ++ Kx fp s5.heap) σz Hz sz →
     sz.heap.get? D = some { cls := .type "list", data := .seq its.toArray nn } ∧ Hz D = none ∧ tn (i + 1) sz.heap ∧ ∀ b ∈ fp, Hz b = none := fun {σz Hz sz} Iz => by
    have a := Iz.pin (D, { cls := .type "list", data := .seq its.toArray nn }) (by simp)
    refine ⟨a.1, a.2.1, T.keep _ _ _ st5 fun b hb o e => (Iz.pin (b, o) (List.mem_append_right _ (List.mem_append_right _ (Jt hb e)))).1, fun b hb => ?_⟩
    obtain ⟨o, e, _⟩ := T.obj _ _ st5 b hb
    exact (Iz.pin (b, o) (List.mem_append_right _ (List.mem_append_right _ (Jt hb e)))).2.1
   cases b with
   | false =>
    have q7' : W (i + 1) acc M7 := by simpa using q7
    obtain ⟨a1, a2, a3, a4⟩ := keepD I7
    have st17 : Step M' H5 M7 H7 := stp6.trans stp7
    exact ⟨ds.length - (i + 1), by omega, i + 1, acc, vs, its, nn, H7, M7, reloc I7 a1 a2 (fun v z => nomatch z), a3, a4, dr7, stp'.trans st17, rv, rd.step st17, q7', hlt, by omega, rfl⟩
   | true =>
    have q7' : te Δ6 M7 fun y M4 => onD y fun e => W (i + 1) (acc ++ [e]) M4 := by simpa using q7
    obtain ⟨te', pe', qe'⟩ := he C fp s2 H2
    refine thn (pe' _ s7 σ6 H7 (fun v H8 => ∃ e M8, ZN X.K M8 H8 ∧ Step M7 H7 M8 H8 ∧ Dt X.K M8 H8 v e ∧ W (i + 1) (acc ++ [e]) M8) I7 (qe' σ6 H7 Δ6 M7 _ _ dr7 (er6.step stp7) q7' fun v H8 x8 M8 a b c d => by
     replace d := Jq d
     obtain ⟨e, rfl, w8⟩ := d
     exact ⟨e, M8, a, b, c, w8⟩)) fun y s8 ⟨v, H8, I8, r8, e, M8, dr8, stp8, dv8, w8⟩ => ?_
    obtain ⟨a1, a2, a3, a4⟩ := keepD I8
    have st18 : Step M' H5 M8 H8 := stp6.trans (stp7.trans stp8)
    have lv := rv.length
    have ld := rd.length
    refine call_meets PySem.F.slot_list_append ⟨_, a1, rfl⟩ PySem.F.entry_list_append (PySem.F.args_list_append_2 _ _) (PySem.list_append D its.toArray nn y (by rw [List.size_toArray]; omega)) ⟨a1, ?_⟩
    have q := PySem.IsL.update a1 (·.push y)
    have I8' : L2.Inv (ZY X scope C N fp s2 H2) [] σ6 H8 s8 := I8.YG fun p hp => nomatch hp
    have I9 := I8'.turned (it := D) (h' := s8.heap.update D (Obj.mapSeq (·.push y))) (t' := s8.toks) (fun b o hb hu => (Heap.get?_update_other s8.heap (Obj.mapSeq (·.push y)) (Ne.symm hb)).trans hu) a2 hDC (.inr hDs)
     (fun x c e z => absurd (z ▸ (cellD x c e).1) (Nat.not_lt.mpr hDs)) (fun p hp => by have z : p ∈ ([] : List (Addr × Obj)) ++ [] := hp; simp at z)
    have ea : (its.toArray.push y) = (its ++ [y]).toArray := by simp
    rw [ea] at q
    refine ⟨ds.length - (i + 1), by omega, i + 1, acc ++ [e], vs ++ [v], its ++ [y], _, H8, M8, reloc I9 q a2 (fun v z => nomatch z), T.keep _ _ _ a3 (fun b hb o e => (Heap.get?_update_other s8.heap (Obj.mapSeq (·.push y)) (Ne.symm (fD b hb).1)).trans e), a4, dr8, stp'.trans st18,
     rv.append (.cons r8 .nil), (rd.step st18).append (.cons dv8 .nil), w8, hlt, by rw [List.length_append, List.length_singleton]; omega, rfl⟩
  ·have hie : i = ds.length := by omega
   refine thn (T.done (ZY X scope C N fp s2 H2) rfl rfl rfl hc i _ s' (Je ix σ) H' (fun _ _ => False) IY fok ti (ystop (by omega))) fun r s4 ⟨hr, I4⟩ => ?_
   subst hr
   obtain ⟨m4, hm4, _⟩ := I4.loc
   have pD := I4.pin (D, { cls := .type "list", data := .seq its.toArray nn }) (by simp)
   have hCn : H' C = none := I4.free
   have hDn : H' D = none := pD.2.1
   have hok4 : HOk X.prog X.w (upd H' D (.lst vs)) s4.heap := fun b u e => by
    by_cases hb : b = D
    ·subst hb
     rw [Qx] at e
     cases e
     exact ⟨by have := rv.length; have := rd.length; omega, its, nn, rv, pD.1⟩
    ·rw [ZM hb] at e
     refine (I4.hok b u e).Sj (fun c v hc' q => q) (fun c q => ?_) fun c xs q => ?_
     ·rw [ZM (Zt q pD.2.1)]; exact q
     ·rw [ZM (Zt q pD.2.1)]; exact q
   have bu : Un (frs X.stack) fp H2 H' s2.heap s4.heap := I4.base
   have un4 : Un (frs X.stack) fp H2 (upd H' D (.lst vs)) s2.heap s4.heap := by
    have nD : ∀ b o, s2.heap.get? b = some o → b ≠ D ∧ b ≠ C := fun b o e => ⟨fun z => absurd (z ▸ Heap.lt_size e) (Nat.not_lt.mpr hDs), fun z => absurd (z ▸ Heap.lt_size e) (Nat.not_lt.mpr hCs)⟩
    refine ⟨fun b o e n hb hx => bu.keep b o e n hb hx, fun b o e n hb hx => bu.slot b o e n hb hx, fun b o e n hx => by rw [ZM (nD b o e).1]; exact bu.free b o e n hx, fun b o e hx => bu.there b o e hx, fun b xs e => ?_, fun b o xs e => ?_, fun b ps e => ?_⟩
    ·have q := bu.tups b xs e
     rw [ZM (Zt q pD.2.1)]; exact q
    ·have q := bu.frzs b o xs e
     rw [ZM (Zt q pD.2.1)]; exact q
    ·obtain ⟨mo, q⟩ := bu.tbls b ps e
     exact ⟨mo, by rw [ZM (Zt q pD.2.1)]; exact q⟩
   have os4 : s4.os = s2.os := I4.os
   have IX : L2.Inv X pins σ (upd H' D (.lst vs)) s4 := I2.T5 (s' := s4) os4 un4 hok4 I4.bare fun b hb => ⟨(f2 b hb).2.2.2.1, (f2 b hb).2.1, (f2 b hb).2.2.2.2.1, (f2 b hb).2.2.2.2.2⟩
   subst hie
   exact hfin s4 C D H' M' vs acc IX hDn dr' (stp.trans stp') rd (wd acc M' wi') ⟨m4, hm4⟩ (I2.Zb8 hCs (by rw [ZM (Ne.symm hDC)]; exact hCn))
 have hst₁ : tn 0 h₁ := T.keep _ _ _ st2 fun b _ o e => old b o e
 exact codeAny_compStart_list (loop _ rfl) (T.self _ 0 _ _ _ hst₁ (loop _ rfl))
theorem TU {h h' : Heap} {C : Addr} {m : Str → Option Value} (n : h.Ns C m) (k : ∀ o, h.get? C = some o → h'.get? C = some o) : h'.Ns C m := by
 obtain ⟨o, es, ep, ho, r⟩ := n
 exact ⟨o, es, ep, k o ho, r⟩
theorem gone {pins : List (Addr × Obj)} {σ : L2.St} {H : Hp} {s : Shared} {C : Addr} {h' : Heap} (I : L2.Inv X pins σ H s) (f : DF X pins H C) (hsb : Heap.SameBut C s.heap h') : L2.Inv X pins σ H { s with heap := h' } :=
 I.turned (t' := s.toks) (fun b o hb e => hsb.extBut b o hb e) f.1 f.2.1 f.2.2.2.1 f.2.2.2.2.1 f.2.2.2.2.2
theorem Zae {ow : Bool} {Φ : DK} {Q : VK} {M M' : Mp} {H H' : Hp} {D : Addr} {vs : List V} {acc : List PyData} (dr' : ZN X.K M' H') (st : Step M H M' H') (rd : Dts X.K M' H' vs acc) (hDn : H' D = none) (fin : UT ow Φ acc M') (k : Rch X.K M H Φ Q) : Q (.ref D) (upd H' D (.lst vs)) := by
 cases ow with
 | true =>
  have fin' : ∀ p, M' p = none → Φ (.own p) (Zx M' p (.lst acc)) := by simpa [UT] using fin
  exact k _ _ (.own D) _ (dr'.Y2 (Step.J8 hDn) rd) (st.trans (Step.J8 hDn)) rfl (fin' D (dr'.tracked hDn))
 | false =>
  have fin' : Φ (.dat (.list acc)) M' := by simpa [UT] using fin
  exact k.dat (dr'.new hDn) (st.trans (Step.new hDn)) (Dt.Vc dr' hDn rd) fin'
theorem Z5 (ow : Bool) {elt tg iter : Expr} {ifs : List Expr} {scope : Scope} {pos : Pos} {src : YU} {N : List Str} {ix : List (Option Nat)} {g : DTG} {tc : DTT} {te : DTE} (ok : VE X scope N ix) (hi : DI X tg iter src)
  (hg : ∀ C ex s H, DG (ZY X scope C N ex s H) tg g) (ht : ∀ C ex s H, DTs (ZY X scope C N ex s H) ifs tc) (he : ∀ C ex s H, DE (ZY X scope C N ex s H) elt te) (hc : X.calm = true)
  (hs : ∀ x, foldedSetIterable iter X.env x = pure x := by intro _; rfl) : DE X (.ListComp elt [⟨tg, iter, ifs, 0⟩] scope pos) (Oe ow src ix g tc te) := by
 refine ⟨fun σ H Q => ∀ pins s, L2.Inv X pins σ H s → wpAny (model X.prog X.w) X.A (eval (.ListComp elt [⟨tg, iter, ifs, 0⟩] scope pos) X.env) (EP X pins σ Q) X.xe s, fun pins s σ H Q I h => h pins s I, fun σ H Δ M Φ Q dr er h k pins s I => ?_⟩
 rw [eval_ListComp]
 refine K9 (ψ := UT ow Φ) ok hi hg ht he hc hs dr er h I fun s4 C D H' M' vs acc IX hDn dr' st rd fin hm f => ?_
 obtain ⟨m, hm⟩ := hm
 exact ⟨m, hm, fun h' hsb => ⟨.ref D, _, gone IX f hsb, rfl, Zae dr' st rd hDn fin k⟩⟩
theorem Dl (i : Nat) (ow : Bool) {x : Str} {pos' spos : Pos} (hN : X.N.Nodup) {elt tg iter : Expr} {ifs : List Expr} {scope : Scope} {pos : Pos} {src : YU} {N : List Str} {ix : List (Option Nat)} {g : DTG} {tc : DTT} {te : DTE} (ok : VE X scope N ix) (hi : DI X tg iter src)
  (hg : ∀ C ex s H, DG (ZY X scope C N ex s H) tg g) (ht : ∀ C ex s H, DTs (ZY X scope C N ex s H) ifs tc) (he : ∀ C ex s H, DE (ZY X scope C N ex s H) elt te) (hc : X.calm = true)
  (hs : ∀ x, foldedSetIterable iter X.env x = pure x := by intro _; rfl) (hin : X.N[i]? = some x := by rfl) (hx : Loc X.env.scope x := by first | exact Or.inl rfl | exact Or.inr rfl)
  (hsw : swapsWith (.ListComp elt [⟨tg, iter, ifs, 0⟩] scope pos) (some (.Name x pos')) spos.line X.env = pure true := by rfl)
  (hf : X.fn x = true ∨ X.env.scope.names.lookup x = some .local := by first | exact .inl rfl | exact .inr rfl | assumption) :
  DS X (.Assign [.Name x pos'] (.ListComp elt [⟨tg, iter, ifs, 0⟩] scope pos) spos) (ZbX (Oe ow src ix g tc te) (Gw i)) := by
 refine ⟨fun E σ H => ∀ pins s, L2.Inv X pins σ H s → wpAny (model X.prog X.w) X.A (exec (.Assign [.Name x pos'] (.ListComp elt [⟨tg, iter, ifs, 0⟩] scope pos) spos) X.env) (SP X pins E) X.xe s, fun pins s σ H E I h => h pins s I, fun σ H Δ M D E dr er h k pins s I => ?_⟩
 rw [exec_Assign_Name_used _ _ _ _ hsw]
 refine wpAny_bind (wpAny_standAt (wpAny_bind ?_))
 show wpAny _ _ (do let _ ← comprehension (.ListComp elt [⟨tg, iter, ifs, 0⟩] scope pos) scope X.env _ (newList []) false (eval iter X.env) (some (assign (.Name x pos') X.env))) _ _ s
 refine wpAny_bind (wpAny_mono (K9 (QQ := fun _ s' => SP X pins E .next s') (use := some (assign (.Name x pos') X.env)) (ψ := UT ow fun y M1 => D.nx (Δ.set i (some y)) M1) ok hi hg ht he hc hs dr er h I fun s4 C DD H' M' vs acc IX hDn dr' st rd fin hm f => ?_)
  (fun _ s' hq => wpAny_pure (wpAny_pure hq)) fun _ _ e => e)
 obtain ⟨m, hm⟩ := hm
 have hm0 := hm
 obtain ⟨oC, es, ep, hoC, hr1, hr2⟩ := hm0
 have IP : L2.Inv X (pins ++ [(C, oC)]) σ (upd H' DD (.lst vs)) s4 := IX.YG fun p hp => by
  rcases List.mem_append.mp hp with hp | hp
  ·exact IX.pin p (List.mem_append_right _ hp)
  ·rw [List.mem_singleton.mp hp]
   exact ⟨hoC, f.1, f.2.1, f.2.2.1, fun v z => nomatch (hr1.symm.trans z)⟩
 have nxt : ∀ Q' : L2.St → Hp → Prop, (Q' (σ.set i (some (.ref DD))) (upd H' DD (.lst vs))) → wpAny (model X.prog X.w) X.A (assign (.Name x pos') X.env (.ref DD)) (fun _ s' => ∃ σ' H', L2.Inv X (pins ++ [(C, oC)]) σ' H' s' ∧ Q' σ' H') X.xe s4 := fun Q' hq =>
  C4 (pos := pos') hN hin hx hf _ s4 σ _ (.ref DD) (.ref DD) Q' IP rfl hq
 have kq : E.nx (σ.set i (some (.ref DD))) (upd H' DD (.lst vs)) := by
  cases ow with
  | true =>
   have fin' : ∀ p, M' p = none → D.nx (Δ.set i (some (.own p))) (Zx M' p (.lst acc)) := by simpa [UT] using fin
   have st2 : Step M H (Zx M' DD (.lst acc)) (upd H' DD (.lst vs)) := st.trans (Step.J8 hDn)
   exact k.nx _ _ _ _ (dr'.Y2 (Step.J8 hDn) rd) st2 ((er.step st2).set (v := .ref DD) (x := .own DD) rfl) (fin' DD (dr'.tracked hDn))
  | false =>
   have fin' : D.nx (Δ.set i (some (.dat (.list acc)))) M' := by simpa [UT] using fin
   have st2 : Step M H M' (upd H' DD (.lst vs)) := st.trans (Step.new hDn)
   exact k.nx _ _ _ _ (dr'.new hDn) st2 ((er.step st2).set (v := .ref DD) (x := .dat (.list acc)) (Dt.Vc dr' hDn rd)) fin'
 show wpAny _ _ (assign (.Name x pos') X.env (.ref DD)) _ _ s4
 refine thn (nxt (fun σ' H' => σ' = σ.set i (some (.ref DD)) ∧ E.nx σ' H') ⟨rfl, kq⟩) fun _ s5 ⟨σ5, H5, I5, _, q5⟩ => ?_
 have p5 := I5.pin (C, oC) (by simp)
 refine ⟨m, TU hm fun o ho => ?_, fun h' hsb => ⟨σ5, H5, ?_, q5⟩⟩
 ·rw [hoC] at ho
  cases ho
  exact p5.1
 ·have I6 : L2.Inv X pins σ5 H5 s5 := I5.YG fun p hp => I5.pin p (List.mem_append_right _ (List.mem_append_left _ hp))
  exact gone I6 ⟨p5.2.1, f.2⟩ hsb
end
end DL
namespace DL
open PySem PySem.Spec PyProof.Rows L2
section
variable {X : Cx}
noncomputable def Jh (xs : List DV) (M : Mp) (ns : List Int) : Prop := xs = [.dat (.list (ns.map PyData.int))] ∨ ∃ l, xs = [.own l] ∧ M l = some (.lst (ns.map PyData.int))
theorem Jh.sq {M : Mp} {H : Hp} {vs : List V} {xs : List DV} {ns : List Int} (h : Jh xs M ns) (r : ZN X.K M H) (rv : J7 X.K M H vs xs) : ∃ p, vs = [.ref p] ∧ SqL X.K H p (ns.map V.int) := by
 rcases h with rfl | ⟨l, rfl, hm⟩
 ·obtain ⟨v, rfl, h1⟩ := Paired.one rv
  obtain ⟨p, ys, rfl, g1, g2⟩ := Ql.lst h1
  rw [Vv g2] at g1
  exact ⟨p, rfl, g1.sq⟩
 ·obtain ⟨v, rfl, h1⟩ := Paired.one rv
  cases (show v = .ref l from h1)
  obtain ⟨ws, g1, g2⟩ := r.ls l _ hm
  rw [Vv g2] at g1
  exact ⟨l, rfl, SqL.of g1⟩
noncomputable def Ri : D1 := fun xs M Φ => ∃ ns : List Int, Jh xs M ns ∧ ns.length < 64 ∧ ∀ ns' : List Int, ns'.Perm ns → ns'.Pairwise (· ≤ ·) → Φ (.dat (.list (ns'.map PyData.int))) M
theorem Ed (hc : X.calm = true) : JU X (.builtin "min") (fun xs H Q => ∃ (p : Addr) (ns : List Int), xs = [.ref p] ∧ SqL X.K H p (ns.map V.int) ∧ 0 < ns.length ∧ ∀ m ∈ ns, (∀ a ∈ ns, m ≤ a) → Q (.int m) H) := by
 intro pins s σ H xs us Q I r h
 obtain ⟨p, ns, rfl, hq, h0, q⟩ := h
 obtain ⟨u, rfl, rx⟩ := vals1 r
 cases rx
 obtain ⟨its, rv, pl, hz⟩ := I.list hq
 have hi : IntsAre its ns := intsAre_of rv
 obtain ⟨xs, e⟩ := hi.allInts.items
 have hns : ns = xs.toList.map (·.1) := by rw [← hi.numsOf, ← nums_intItems, ← e]
 have hsz : 0 < xs.size := by
  have h3 := h0; rw [hns, List.length_map, Array.length_toList] at h3; exact h3
 have hl := pl.isList
 rw [e] at hl
 refine min_intList (I.ok.hd hc) hl hsz fun v h' tk hv hk => ?_
 obtain ⟨t, rfl⟩ := intItems_at hv
 obtain ⟨h1, h2⟩ := argBest_lt (numAt xs) (xs.size - 1)
 refine ⟨.int _, H, I.kept hk, ⟨t, rfl⟩, q _ ?_ fun a ha => ?_⟩
 ·rw [hns, numAt_eq]; exact getD_mem (by rw [List.length_map, Array.length_toList]; omega)
 ·rw [hns] at ha
  obtain ⟨j, hj, rfl⟩ := mem_getD ha
  rw [List.length_map, Array.length_toList] at hj
  rw [← numAt_eq]; exact h2 j (by omega)
noncomputable def N5 : D1 := fun xs M Φ => ∃ ns : List Int, Jh xs M ns ∧ 0 < ns.length ∧ ∀ m ∈ ns, (∀ a ∈ ns, m ≤ a) → Φ (.dat (.int m)) M
noncomputable def ZaO : D1 := fun xs M Φ => ∃ ns : List Int, Jh xs M ns ∧ 0 < ns.length ∧ ∀ m ∈ ns, (∀ a ∈ ns, a ≤ m) → Φ (.dat (.int m)) M
theorem OM (hc : X.calm = true) : J1 X (.builtin "min") N5 := by
 refine ⟨_, Ed hc, fun vs H xs M Φ Q r rv h k => ?_⟩
 obtain ⟨ns, hx, h0, q⟩ := h
 obtain ⟨p, rfl, hs⟩ := hx.sq r rv
 exact ⟨p, ns, rfl, hs, h0, fun m a b => k.dat r Step.refl (Dt.int m) (q m a b)⟩
theorem Paired.three {α β : Type} {F : α → β → Prop} {l : List α} {b c d : β} (h : Paired F l [b, c, d]) : ∃ a a' a'', l = [a, a', a''] ∧ F a b ∧ F a' c ∧ F a'' d := by
 cases h with
 | cons h1 h2 =>
  obtain ⟨a, a', rfl, h3, h4⟩ := Paired.two h2
  exact ⟨_, a, a', rfl, h1, h3, h4⟩
noncomputable def δ3I (g : Int → Int → Int → Int) : D1 := fun xs M Φ => on3 xs fun x y z => onI x fun i => onI y fun j => onI z fun l => Φ (.dat (.int (g i j l))) M
theorem Du (hc : X.calm = true) : JU X (.builtin "max") (fun xs H Q => ∃ i j l, xs = [.int i, .int j, .int l] ∧ Q (.int (max i (max j l))) H) := by
 intro pins s σ H xs us Q I r h
 obtain ⟨i, j, l, rfl, q⟩ := h
 obtain ⟨u, hu⟩ : ∃ u, us = u := ⟨us, rfl⟩
 cases r with
 | cons r1 r2 =>
  obtain ⟨u2, u3, rfl, r3, r4⟩ := vals2 r2
  obtain ⟨t1, rfl⟩ := r1
  obtain ⟨t2, rfl⟩ := r3
  obtain ⟨t3, rfl⟩ := r4
  refine max_three_ints (I.ok.hd hc) fun h' tk k => ⟨.int (max i (max j l)), H, I.kept k, ?_, q⟩
  by_cases c1 : j > i
  ·rw [if_pos c1]
   by_cases c2 : l > j
   ·rw [if_pos c2]; exact ⟨t3, by rw [show max i (max j l) = l by omega]⟩
   ·rw [if_neg c2]; exact ⟨t2, by rw [show max i (max j l) = j by omega]⟩
  ·rw [if_neg c1]
   by_cases c2 : l > i
   ·rw [if_pos c2]; exact ⟨t3, by rw [show max i (max j l) = l by omega]⟩
   ·rw [if_neg c2]; exact ⟨t1, by rw [show max i (max j l) = i by omega]⟩
theorem O6 (hc : X.calm = true) : J1 X (.builtin "max") (δ3I fun i j l => max i (max j l)) := by
 refine ⟨_, Du hc, fun vs H xs M Φ Q r rv h k => ?_⟩
 replace h := QI h
 obtain ⟨x, y, z, rfl, h⟩ := h
 replace h := ZG h
 obtain ⟨i, rfl, h⟩ := h
 replace h := ZG h
 obtain ⟨j, rfl, h⟩ := h
 replace h := ZG h
 obtain ⟨l, rfl, q⟩ := h
 obtain ⟨v, u, w', rfl, h1, h2, h3⟩ := Paired.three rv
 exact ⟨i, j, l, by rw [Ql.int h1, Ql.int h2, Ql.int h3], k.dat r Step.refl (Dt.int _) q⟩
noncomputable def Ej : D1 := fun xs M Φ => on1 xs fun x => onQ x M fun ds => Φ (.dat (.tuple ds)) M
theorem JD : J1 X (.type "tuple") Ej := by
 refine ⟨_, X1, fun vs H xs M Φ Q r rv h k => ?_⟩
 replace h := Z9 h
 obtain ⟨x, rfl, h⟩ := h
 replace h := CA h
 obtain ⟨ds, hx, q⟩ := h
 have hx' : x = .dat (.list ds) ∨ x = .dat (.tuple ds) ∨ ∃ l, x = .own l ∧ M l = some (.lst ds) := by
  rcases hx with a | a | a
  ·exact .inr (.inl a)
  ·exact .inl a
  ·exact .inr (.inr a)
 rcases hx' with rfl | rfl | ⟨l, rfl, hm⟩
 ·obtain ⟨v, rfl, h1⟩ := Paired.one rv
  obtain ⟨p, ys, rfl, g1, g2⟩ := Ql.lst h1
  exact ⟨p, ys, rfl, .inl ⟨g1.sq, fun l hl => k.dat (r.new hl) (Step.new hl) (Dt.EV r hl g2) q⟩⟩
 ·obtain ⟨v, rfl, h1⟩ := Paired.one rv
  obtain ⟨p, ys, rfl, g1, g2⟩ := Ql.tup h1
  exact ⟨p, ys, rfl, .inr ⟨g1.sq, k.dat r Step.refl (Dt.tup g1 g2) q⟩⟩
 ·obtain ⟨v, rfl, h1⟩ := Paired.one rv
  cases (show v = .ref l from h1)
  obtain ⟨ws, g1, g2⟩ := r.ls l _ hm
  exact ⟨l, ws, rfl, .inl ⟨SqL.of g1, fun l hl => k.dat (r.new hl) (Step.new hl) (Dt.EV r hl g2) q⟩⟩
theorem NN (hu : X.A.units + 66 < cLine) : OpR X (compareOp .In) (fun x y H Q => ∃ M d ds, Dt X.K M H x d ∧ (Dt X.K M H y (.list ds) ∨ Dt X.K M H y (.tuple ds)) ∧ d.canLay0 = true ∧ PyData.canLayAll0 ds = true ∧ d.depth ≤ 64 ∧ Q (.bl (ds.any fun e => PyData.eqv e d)) H) := by
 intro pins s σ H x y v u Q I rx ry h
 obtain ⟨M, d, ds, h1, h2, c1, c2, hdp, q⟩ := h
 obtain ⟨as, ra, _⟩ := h1.reads I rx
 rcases h2 with h2 | h2
 ·obtain ⟨bs, rb, _⟩ := h2.reads I ry
  exact PySem.SeqAt.in_list_reads rb ra c2 c1 (by have := Nat.min_le_right (PyData.depthAll ds) d.depth; omega) ⟨.bl _, H, I, rfl, q⟩
 ·obtain ⟨bs, rb, _⟩ := h2.reads I ry
  exact PySem.SeqAt.in_tuple_reads rb ra c2 c1 (by have := Nat.min_le_right (PyData.depthAll ds) d.depth; omega) ⟨.bl _, H, I, rfl, q⟩
noncomputable def onW (x : DV) (P : List PyData → Prop) : Prop := match x with | .dat (.tuple ds) => P ds | .dat (.list ds) => P ds | _ => False
theorem S4 {x : DV} {P : List PyData → Prop} (h : onW x P) : ∃ ds, (x = .dat (.list ds) ∨ x = .dat (.tuple ds)) ∧ P ds := by
 unfold onW at h
 split at h
 ·exact ⟨_, .inr rfl, h⟩
 ·exact ⟨_, .inl rfl, h⟩
 ·exact h.elim
noncomputable def okIn (d : PyData) (ds : List PyData) : Bool := d.canLay0 && PyData.canLayAll0 ds && Nat.ble d.depth 64
theorem Uh {d : PyData} {ds : List PyData} (h : okIn d ds = true) : d.canLay0 = true ∧ PyData.canLayAll0 ds = true ∧ d.depth ≤ 64 := by
 unfold okIn at h
 simp only [Bool.and_eq_true] at h
 exact ⟨h.1.1, h.1.2, Nat.le_of_ble_eq_true h.2⟩
noncomputable def δIn : D2 := fun x y M Φ => onD x fun d => onW y fun ds => okIn d ds = true ∧ Φ (.dat (.bool (ds.any fun e => PyData.eqv e d))) M
theorem ZcM {k : Nat} (hr : JJ k X.A) : OpD X (compareOp .In) δIn :=
 ⟨_, NN (by have := hr.un; omega), fun v u H x y M Φ Q r rv ru h k => by
  obtain ⟨d, e1, h⟩ := Jq h
  obtain ⟨ds, e2, ho, q⟩ := S4 h
  obtain ⟨c1, c2, hdp⟩ := Uh ho
  subst e1
  refine ⟨M, d, ds, rv, ?_, c1, c2, hdp, k.dat r Step.refl (Dt.bl _) q⟩
  rcases e2 with rfl | rfl
  ·exact .inl ru
  ·exact .inr ru⟩
noncomputable def C7 (to te : DTE) : DTE := fun Δ M Φ => to Δ M fun x M1 => onO x fun l => JI (M1 l) fun _ => te Δ M1 fun y M2 => onO y fun b => JI (M2 l) fun ds => JI (M2 b) fun es => b ≠ l ∧ ds.length + es.length ≤ sizeLine ∧ Φ (.dat .none) (VD (Zx M2 l (.lst (ds ++ es))) b)
theorem Yj {o e : Expr} {to te : DTE} {apos cpos : Pos} (ho : DE X o to) (he : DE X e te) (hbase : attributeBase o "extend" X.env (eval o X.env) = eval o X.env := by rfl)
  (hfew : ((backTo cpos (starEach [e] X.env)).all (fun x => !x.1) && (backToKw cpos (keywordEach [] X.env)).all (fun x => x.1.isSome)
   && decide ([e].length + ([] : List Keyword).length + (if ([] : List Keyword).isEmpty then 0 else 1) < 30)) = true := by rfl)
  (hline : (apos.endLine == cpos.line) = true := by rfl) (hs : starEach [e] X.env = (false, eval e X.env) :: starEach [] X.env := by rfl) (hplain : (backTo cpos (starEach [] X.env)).any (·.1) = false := by rfl) :
  DE X (.Call (.Attribute o "extend" apos) [e] [] cpos) (C7 to te) := by
 obtain ⟨t1, p1, q1⟩ := ho
 obtain ⟨t2, p2, q2⟩ := he
 refine ⟨_, Rz PySem.F.plainAttrs_list PySem.F.slot_list_extend PySem.F.type_list_extend De p1 (Xk p2 Gv hs) hbase hfew hline hs hplain, fun σ H Δ M Φ Q r e h k => ?_⟩
 refine q1 σ H Δ M _ _ r e h fun v H1 x M1 r1 st rv hx => ?_
 replace hx := Z6 hx
 obtain ⟨l, rfl, hx⟩ := hx
 replace hx := QR hx
 obtain ⟨oo, ho, hx⟩ := hx
 cases (show v = .ref l from rv)
 have ty : tyV X.K "list" (.ref l) H1 := by
  obtain ⟨vs, g1, _⟩ := r1.ls l oo ho
  exact .inl ⟨rfl, vs, SqL.of g1⟩
 refine ⟨ty, q2 σ H1 Δ M1 _ _ r1 (e.step st) hx fun w H2 y M2 r2 st2 rw2 hy => ?_⟩
 replace hy := Z6 hy
 obtain ⟨b, rfl, hy⟩ := hy
 replace hy := QR hy
 obtain ⟨ds, hm, hy⟩ := hy
 replace hy := QR hy
 obtain ⟨es, hb, hne, hz, hy⟩ := hy
 cases (show w = .ref b from rw2)
 obtain ⟨vs, g1, g2⟩ := r2.ls l ds hm
 obtain ⟨ws, g3, g4⟩ := r2.ls b es hb
 have st3 : Step M2 H2 (Zx M2 l (.lst (ds ++ es))) (upd H2 l (.lst (vs ++ ws))) := Step.K1 hm
 refine ⟨l, b, vs, ws, rfl, rfl, g1, g3, by rw [g2.length, g4.length]; exact hz, ?_⟩
 exact k.dat (r2.Y2 st3 (g2.append g4)).frz (st.trans (st2.trans (st3.trans Step.frz))) Dt.non hy
theorem HN {tg a b : Expr} {body : List Stmt} {g : DTG} {tb : DTS} {pos : Pos} {ta : DTA} {p p2 : Pos} (hg0 : Gl X "range") (hm : X.mg "range" = none) (ha : DA X [a, b] ta) (hg : DG X tg g) (hb : DSs X body tb) (hp : PassesOwn (model X.prog X.w) X.A X.env X.xe) (hc : X.calm = true)
  (hs : starEach [a, b] X.env = [(false, eval a X.env), (false, eval b X.env)] := by rfl) (hs' : starEach [b] X.env = [(false, eval b X.env)] := by rfl) (hs2 : ∀ x, foldedSetIterable (.Call (.Name "range" p) [a, b] [] p2) X.env x = pure x := by intro _; rfl) :
  DS X (.For tg (.Call (.Name "range" p) [a, b] [] p2) body [] pos) (NV ta g tb) := by
 obtain ⟨t1, p1, q1⟩ := ha
 obtain ⟨t2, p2, q2⟩ := hg
 obtain ⟨t3, p3, q3⟩ := hb
 refine ⟨_, G0 hp hc (FN hg0 hm p1 hs hs') p2 p3 hs2, fun σ H Δ M D E r e h k => ?_⟩
 refine q1 σ H Δ M _ _ r e h fun vs H1 xs M1 r1 st rv hx => ?_
 replace hx := Zy hx
 obtain ⟨xx, yy, rfl, hx⟩ := hx
 replace hx := ZG hx
 obtain ⟨i, rfl, hx⟩ := hx
 replace hx := ZG hx
 obtain ⟨j, rfl, ⟨⟨a1, a2⟩, a3, a4⟩, hx⟩ := hx
 have h1 : -(2 ^ 62) ≤ i ∧ i < 2 ^ 62 ∧ -(2 ^ 62) ≤ j ∧ j < 2 ^ 62 := ⟨a1, a2, a3, a4⟩
 obtain ⟨v, u, rfl, hv, hu⟩ := Paired.two rv
 exact ⟨i, j, by rw [Ql.int hv, Ql.int hu], h1, ND q2 q3 r1 (e.step st) hx (k.step st)⟩
noncomputable def ZfH (te : DTE) (tl th : DTO) : DTE := fun Δ M Φ => te Δ M fun x M1 => tl Δ M1 fun l M2 => th Δ M2 fun u M3 => onL x fun ds => Φ (.dat (.list (cutD ds l u))) M3
noncomputable def VU (scope sc : Scope) : List (Str × NameKind) := scope.names.map fun (n, k) => if (k == .free && sc.kind == .function && sc.names.lookup n == some .cell) then (n, .cell) else (n, k)
noncomputable def RQ (sc : Scope) (XN : List Str) (scope : Scope) (N : List Str) (ix : List (Option Nat)) (j : Nat) : Bool :=
 match N[j]?, ix[j]? with
 | some x, some (some i) => decide (XN[i]? = some x) && (decide ((x, NameKind.free) ∈ scope.names) && decide ((VU scope sc).lookup x = some .cell))
 | _, _ => true
theorem Zv {sc : Scope} {XN : List Str} {scope : Scope} {N : List Str} {ix : List (Option Nat)} (hsc : X.env.scope = sc) (hN : X.N = XN)
  (h : scope.kind = .function ∧ (∀ y ∈ scope.names, y.2 ≠ .cell) ∧ (∀ y ∈ scope.names, y.2 = .local → scope.names.lookup y.1 = some .local) ∧ (∀ y ∈ scope.names, y.2 = .free → sc.names.lookup y.1 = some .cell) ∧ N.length = ix.length ∧
   ∀ j ∈ List.range N.length, RQ sc XN scope N ix j = true) : VE X scope N ix := by
 obtain ⟨h1, h2, h3, h4, h5, h6⟩ := h
 subst hsc hN
 refine ⟨h1, h2, h3, h4, h5, fun j x i hx hi => ?_⟩
 have hj : j < N.length := (List.getElem?_eq_some_iff.mp hx).1
 have q := h6 j (List.mem_range.mpr hj)
 unfold RQ at q
 rw [hx, hi] at q
 simp only [Bool.and_eq_true, decide_eq_true_eq] at q
 exact ⟨q.1, q.2.1, q.2.2⟩
end
end DL
namespace DL
open PySem PySem.Spec PyProof.Rows L2
theorem Cm {M : Mp} {p b : Addr} {o o2 o3 : OO} (h : Zx M p o b = none) : VD (Zx (Zx (Zx M p o) b o2) p o3) b = Zx M p o3 := by
 have hne : b ≠ p := fun e => by rw [e, ZI] at h; cases h
 rw [Zz hne] at h
 funext c
 unfold VD Zx
 by_cases h1 : c = b
 ·rw [if_pos h1, if_neg (by rw [h1]; exact hne), h1, h]
 ·rw [if_neg h1]
  by_cases h2 : c = p
  ·rw [if_pos h2, if_pos h2]
  ·rw [if_neg h2, if_neg h1, if_neg h2, if_neg h2]
theorem fresh_ne {M : Mp} {p b : Addr} {o : OO} (h : Zx M p o b = none) : b ≠ p := fun e => by rw [e, ZI] at h; cases h
theorem take_snoc {α β : Type} {l : List α} {i : Nat} {a : α} (f : α → β) (h : l[i]? = some a) : (l.take i).map f ++ [f a] = (l.take (i + 1)).map f := by
 rw [List.take_add_one, h, List.map_append]
 rfl
theorem Ef {α β : Type} {l : List α} {i : Nat} {a : α} (f : α → List β) (h : l[i]? = some a) : (l.take i).flatMap f ++ f a = (l.take (i + 1)).flatMap f := by
 rw [List.take_add_one, h, List.flatMap_append]
 simp
theorem ZE {α β : Type} {l : List α} {f : α → β} {i : Nat} {b : β} (h : (l.map f)[i]? = some b) : ∃ a, l[i]? = some a ∧ f a = b := by
 rw [List.getElem?_map] at h
 cases q : l[i]? with
 | none => rw [q] at h; cases h
 | some a => rw [q] at h; exact ⟨a, rfl, by simpa using h⟩
theorem Xq {α β : Type} (f : α → List β) (n : Nat) : ∀ l : List α, (∀ a ∈ l, (f a).length ≤ n) → (l.flatMap f).length ≤ l.length * n
 | [], _ => by simp
 | a :: l, h => by
  have h1 := h a List.mem_cons_self
  have h2 := Xq f n l fun b hb => h b (List.mem_cons_of_mem _ hb)
  rw [List.flatMap_cons, List.length_append, List.length_cons, Nat.succ_mul]
  omega
noncomputable def gc (Φ : DK) : DK := fun x M => ∃ ps : List Addr, Φ x (ps.foldl VD M)
theorem SE {K : PySem.W.Frag} {M : Mp} {H : Hp} {Φ : DK} {Q : VK} (k : Rch K M H Φ Q) {v : V} {H' : Hp} {x : DV} : ∀ (ps : List Addr) (M' : Mp), ZN K M' H' → Step M H M' H' → Ql K M' H' v x → Φ x (ps.foldl VD M') → Q v H'
 | [], M', r, st, rv, f => k v H' x M' r st rv f
 | p :: ps, M', r, st, rv, f => SE k ps (VD M' p) r.frz (st.trans Step.frz) (rv.step Step.frz) f
theorem NF {K : PySem.W.Frag} {M : Mp} {H : Hp} {Φ : DK} {Q : VK} (k : Rch K M H Φ Q) : Rch K M H (gc Φ) Q := fun _ _ _ M' r st rv ⟨ps, f⟩ => SE k ps M' r st rv f
theorem okG {P : Program} {w : World} {K : PySem.W.Frag} {mg : Str → Option Value} {base : Heap} {x qual : Str} {st : Stmt} {f : Addr} {fd : FuncData} {N ps : List Str} {k : Nat} {S : DSp} (F : Fun K x qual st f fd) (Sc : Zq N ps (Zf st)) (len : ∀ xs M Φ, S xs M Φ → xs.length = ps.length)
  (hbody : ∀ (cdv : Value) (A : Around) (outer : List Env) (s : Shared) (H : Hp) (E : XK), JJ k (A.deeper (envOfC qual (Zf st) s.heap.objs.size f cdv)) →
   ∃ τ, DSs (NS CX0 P w K mg base N qual (Zf st) f cdv A outer s H E).nox (Zo st) τ ∧ ∀ xs M Φ, S xs M Φ → τ { nx := fun _ M' => gc Φ (.dat .none) M', rt := gc Φ } (VG N xs) M) : ZU P w K mg base CX0 (k + 1) f fd ps (lift K S) := by
 refine F.ok Sc (fun vs H Q E h => ?_) fun cdv A outer s H vs Q E hr h => ?_
 ·obtain ⟨xs, M, Φ, _, rv, hs, _⟩ := h
  rw [Paired.length rv]
  exact len xs M Φ hs
 ·obtain ⟨xs, M, Φ, r, rv, hs, kk⟩ := h
  obtain ⟨τ, ⟨t, p, q⟩, hτ⟩ := hbody cdv A outer s H E hr
  refine ⟨t, p, q (start N vs) H (VG N xs) M _ _ r (QP.start rv) (hτ xs M Φ hs) ⟨fun σ' H' Δ' M' r' st' e' hn => ?_, NF kk, fun _ _ _ _ _ _ _ h => h.elim, fun _ _ _ _ _ _ _ h => h.elim⟩⟩
  exact (NF kk).dat r' st' Dt.non hn
theorem GN {Φ : DK} {x : DV} {M : Mp} {p : Addr} {o : OO} (hp : M p = none) (h : Φ x M) : gc Φ x (Zx M p o) := ⟨[p], by
 show Φ x (VD (Zx M p o) p)
 rw [Ja hp]; exact h⟩
theorem Zc2 {Φ : DK} {x : DV} {M : Mp} (h : Φ x M) : gc Φ x M := ⟨[], h⟩
theorem GW {n k : Nat} (h : n < 2 ^ k) (hk : 0 < k) : n.log2 < k := by
 by_cases h0 : n = 0
 ·subst h0; simpa using hk
 ·exact (Nat.log2_lt h0).mpr h
noncomputable def Mid (i : Int) : Prop := -(10 ^ 70) ≤ i ∧ i ≤ 10 ^ 70
theorem Mid.show {i : Int} (h : Mid i) : (PyData.int i).showable = true := by
 have h1 : i.natAbs.log2 < 240 := GW (by unfold Mid at h; omega) (by decide)
 simp only [PyData.showable, decide_eq_true_eq]
 omega
end DL
namespace DL
open PySem PySem.Spec PyProof.Rows L2
section
variable {X : Cx}
noncomputable def TF : D1 := fun xs M Φ => ∃ ns : List Int, Jh xs M ns ∧ Φ (.dat (.int ns.sum)) M
noncomputable def Zbs : D1 := fun xs M Φ => ∃ bs : List Bool, xs = [.dat (.list (bs.map PyData.bool))] ∧ Φ (.dat (.bool (bs.all id))) M
noncomputable def Zan : D1 := fun xs M Φ => ∃ bs : List Bool, xs = [.dat (.list (bs.map PyData.bool))] ∧ Φ (.dat (.bool (bs.any id))) M
noncomputable def SM : D1 := fun xs M Φ => on1 xs fun x => onB x fun b => Φ (.dat (.int (if b = true then 1 else 0))) M
noncomputable def ZfR (i j : Nat) (ta : DTA) : DTS := fun D Δ M => ta Δ M fun xs M1 => on2 xs fun x y => D.nx ((Δ.set i (some x)).set j (some y)) M1
noncomputable def BZ (x : DV) (M : Mp) (ds : List PyData) : Prop := x = .dat (.list ds) ∨ ∃ l, x = .own l ∧ M l = some (.lst ds)
theorem BZ.sq {x : DV} {M : Mp} {H : Hp} {v : V} {ds : List PyData} (h : BZ x M ds) (r : ZN X.K M H) (rv : Ql X.K M H v x) : ∃ p ys, v = .ref p ∧ SqL X.K H p ys ∧ Dts X.K M H ys ds := by
 rcases h with rfl | ⟨l, rfl, hm⟩
 ·obtain ⟨p, ys, rfl, g1, g2⟩ := Ql.lst rv
  exact ⟨p, ys, rfl, g1.sq, g2⟩
 ·cases (show v = .ref l from rv)
  obtain ⟨ws, g1, g2⟩ := r.ls l _ hm
  exact ⟨l, ws, rfl, SqL.of g1, g2⟩
noncomputable def Nl : D2 := fun x y M Φ => onK x M fun ds => onK y M fun es => ds.length + es.length ≤ sizeLine ∧ Φ (.dat (.list (ds ++ es))) M
theorem E6 : OpD X (binaryOp .Add) Nl := by
 refine ⟨_, Me, fun v u H x y M Φ Q r rv ru h k => ?_⟩
 replace h := Jd h
 obtain ⟨ds, hx, h⟩ := h
 replace h := Jd h
 obtain ⟨es, hy, hz, q⟩ := h
 replace hx : BZ x M ds := hx
 replace hy : BZ y M es := hy
 obtain ⟨a, xs, rfl, h1, h2⟩ := hx.sq r rv
 obtain ⟨b, ys, rfl, h3, h4⟩ := hy.sq r ru
 exact ⟨a, b, xs, ys, rfl, rfl, h1, h3, by rw [h2.length, h4.length]; exact hz, fun p hp => k.dat (r.new hp) (Step.new hp) (Dt.Vc r hp (h2.append h4)) q⟩
noncomputable def ZeH (te : DTE) (tl th : DTO) : DTE := fun Δ M Φ => te Δ M fun x M1 => tl Δ M1 fun l M2 => th Δ M2 fun u M3 => onK x M3 fun ds => Φ (.dat (.list (cutD ds l u))) M3
theorem J2 {e : Expr} {te : DTE} {lo hi : Option Expr} {tl th : DTO} {p2 pos : Pos} (he : DE X e te) (hl : DO X lo tl) (hu : DO X hi th) : DE X (.Subscript e (.Slice lo hi none p2) pos) (ZeH te tl th) := by
 obtain ⟨t1, p1, q1⟩ := he
 obtain ⟨t2, p2, q2⟩ := hl
 obtain ⟨t3, p3, q3⟩ := hu
 refine ⟨_, ME Pe p1 p2 p3, fun σ H Δ M Φ Q r e h k => ?_⟩
 refine q1 σ H Δ M _ _ r e h fun v H1 x M1 r1 st rv hx => ?_
 refine q2 σ H1 Δ M1 _ _ r1 (e.step st) hx fun l H2 M2 r2 st2 hl => ?_
 refine q3 σ H2 Δ M2 _ _ r2 (e.step (st.trans st2)) hl fun u H3 M3 r3 st3 hu => ?_
 replace hu := Jd hu
 obtain ⟨ds, hd, hu⟩ := hu
 replace hd : BZ x M3 ds := hd
 obtain ⟨a, xs, rfl, h1, h2⟩ := hd.sq r3 (rv.step (st2.trans st3))
 refine ⟨a, xs, rfl, h1, fun p hp => ?_⟩
 exact k.dat (r3.new hp) ((st.trans (st2.trans st3)).trans (Step.new hp)) (Dt.Vc r3 hp (h2.cut l u)) hu
noncomputable def Zf6 (lo : Int) (n : Nat) : List V := (List.range n).map fun (i : Nat) => V.int (lo + (i : Int))
noncomputable def Rh (ta : DTA) : DTE := fun Δ M Φ => ta Δ M fun xs M1 => on2 xs fun x y => onI x fun i => onI y fun j => (InR i ∧ InR j) ∧ (j - i).toNat ≤ 16777216 ∧ Φ (.dat (.list (XW i (j - i).toNat))) M1
noncomputable def ZfI (i : Nat) (te : DTE) (f : Int → Int → Int) : DTS := fun D Δ M => onV Δ[i]? fun z => onI z fun a => te Δ M fun x M1 => onI x fun b => D.nx (Δ.set i (some (.dat (.int (f a b))))) M1
end
end DL
namespace DL
open PySem PySem.Spec PyProof.Rows L2
noncomputable def ZcT (h : Heap) (v : Value) (q : Int × Int) : Prop := ∃ a o n t u, v = .ref a ∧ h.get? a = some o ∧ o.cls = .type "tuple" ∧ o.data = .seq #[.int q.1 t, .int q.2 u] n
theorem ZcT.keep {h h' : Heap} {v : Value} {q : Int × Int} (p : ZcT h v q) (k : ∀ b o, h.get? b = some o → h'.get? b = some o) : ZcT h' v q := by
 obtain ⟨a, o, n, t, u, e, g, c, d⟩ := p
 exact ⟨a, o, n, t, u, e, k _ _ g, c, d⟩
noncomputable def ltP (p q : Int × Int) : Bool := if p.1 = q.1 then decide (p.2 < q.2) else decide (p.1 < q.1)
section
variable {prog : Program} {w : World} {A : Around} {E : Value → Shared → Prop} {s : Shared}
end
section
variable {prog : Program} {w : World} {A : Around} {R : Result → Shared → Prop} {I : Addr} {fp wr : List Addr} {n : Nat} {P : Nat → Value → Prop} {St : Nat → Heap → Prop}
noncomputable def ZfM (prog : Program) (w : World) (A : Around) (h0 : Heap) (P : Nat → Value → Prop) (bt : Nat → Nat → Bool) : Prop :=
 ∀ i j x y (s : Shared) (Q : Value → Shared → Prop) (E : Value → Shared → Prop), (∀ b o, h0.get? b = some o → s.heap.get? b = some o) → P i x → P j y → Q (.bool (bt i j)) s → wpAny (model prog w) A (richCompare .Lt x y) Q E s
end
section
variable {prog : Program} {w : World} {A : Around} {E : Value → Shared → Prop} {s : Shared}
end
section
variable {X : Cx}
noncomputable def ZaI (i j : Int) : Prop := 0 < j ∧ j.natAbs.log2 < 9000
theorem HP : OpR X (binaryOp .FloorDiv) (rI ZaI fun i j => .int (i / j)) := opI fun i j _ _ _ _ _ hc q => by
 have h1 : (0 : Int) < j := hc.1
 exact floordiv_int (by omega) (by rw [Int.fdiv_eq_ediv_of_nonneg i (by omega)]; exact q) (.inl (PyProof.noPylong_of_log2 hc.2))
theorem Hy : OpD X (binaryOp .FloorDiv) (δI ZaI fun i j => .int (i / j)) := Zbh HP
noncomputable def prD (q : Int × Int) : PyData := .tuple [.int q.1, .int q.2]
noncomputable def Tz : D1 := fun xs M Φ => ∃ qs : List (Int × Int), xs = [.dat (.list (qs.map prD))] ∧ 0 < qs.length ∧ ∀ q ∈ qs, (∀ r ∈ qs, ltP r q = false) → Φ (.dat (prD q)) M
end
end DL
namespace DL
open PySem PySem.Spec PyProof.Rows L2
noncomputable def ZbL {α : Type} [DecidableEq α] (ks : List α) (k : α) : Bool := decide (k ∈ ks)
noncomputable def ZeB {α : Type} [DecidableEq α] (ks : List α) (k : α) : List α := if k ∈ ks then ks else ks ++ [k]
section
variable {X : Cx}
noncomputable def P9 : DTE := fun _ M Φ => ∀ p, M p = none → Φ (.own p) (Zx M p (.dct []))
noncomputable def kP (i j : Int) : List Key := [.inl i, .inl j]
noncomputable def Zce (td : DTE) (ta : DTA) (tv : DTE) : DTS := fun D Δ M => tv Δ M fun x M1 => td Δ M1 fun y M2 => ta Δ M2 fun zs M3 => onD x fun _ => onO y fun l => on2 zs fun p q => onI p fun i => onI q fun j => Oc (M3 l) fun ks => ks.length < sizeLine ∧ D.nx Δ (Zx M3 l (.dct (ZeB ks (kP i j))))
noncomputable def onP (x : DV) (P : Int → Int → Prop) : Prop := match x with | .dat (.tuple [.int i, .int j]) => P i j | _ => False
theorem J5 {x : DV} {P : Int → Int → Prop} (h : onP x P) : ∃ i j, x = .dat (.tuple [.int i, .int j]) ∧ P i j := by
 unfold onP at h
 split at h
 ·exact ⟨_, _, rfl, h⟩
 ·exact h.elim
noncomputable def Zcf : D2 := fun x y M Φ => onP x fun i j => onO y fun l => Oc (M l) fun ks => Φ (.dat (.bool (ZbL ks (kP i j)))) M
end
section
variable {prog : Program} {w : World} {A : Around} {E : Value → Shared → Prop} {s : Shared}
end
section
variable {X : Cx}
noncomputable def Zdg (te ts : DTE) : DTE := fun Δ M Φ => te Δ M fun x M1 => ts Δ M1 fun y M2 => onT x fun ds => onI y fun i => i = -1 ∧ Φ (.dat (.tuple ds.reverse)) M2
theorem Dts.reverse {K : PySem.W.Frag} {M : Mp} {H : Hp} : ∀ {vs : List V} {ds : List PyData}, Dts K M H vs ds → Dts K M H vs.reverse ds.reverse
 | _, _, .nil => .nil
 | _, _, .cons h1 h2 => by
  rw [List.reverse_cons, List.reverse_cons]
  exact (Dts.reverse h2).append (.cons h1 .nil)
end
section
variable {prog : Program} {w : World} {A : Around} {E : Value → Shared → Prop} {s : Shared}
end
section
variable {X : Cx}
noncomputable def ZfV (K : PySem.W.Frag) : V → Option Int → Option Int → Hp → VK → Prop := fun x lo hi H Q => ∃ a xs, x = .ref a ∧ SqT K H a xs ∧ (HT.sIx xs.length 0 lo = 0 ∧ HT.sIx xs.length xs.length hi = xs.length) ∧ Q (.ref a) H
noncomputable def ZcK (te : DTE) (tl th : DTO) : DTE := fun Δ M Φ => te Δ M fun x M1 => tl Δ M1 fun l M2 => th Δ M2 fun u M3 => onT x fun ds => Φ (.dat (.tuple (cutD ds l u))) M3
end
section
variable {X : Cx}
noncomputable def ZbT (x : DV) (M : Mp) (Φ : DK) : Prop := match x with | .dat (.list ds) => Φ (.dat (.list ds)) M | .own l => JI (M l) fun ds => Φ (.dat (.list ds)) (VD M l) | _ => False
noncomputable def Zcs (t : DTE) : DTE := fun Δ M Φ => t Δ M fun x M1 => ZbT x M1 Φ
end
end DL
namespace DL
open PySem PySem.Spec PyProof.Rows L2
noncomputable def Ze6 (src : YU) : YU := fun Δ M Ψ => ∃ Ψ', src Δ M Ψ' ∧ ∀ ds M1, Ψ' ds M1 → Ψ ds M1
noncomputable def QT (g : DTG) (tc : DTT) (te : DTE) (Δc : DSt) (fin : List PyData → Mp → Prop) : List PyData → List PyData → Mp → Prop
 | [], acc, M => fin acc M
 | d :: ds, acc, M => g (.dat d) Δc M fun Δ2 M2 => tc Δ2 M2 fun b M3 => if b = true then te Δ2 M3 fun y M4 => onD y fun e => QT g tc te Δc fin ds (acc ++ [e]) M4 else QT g tc te Δc fin ds acc M3
theorem Ep (g : DTG) (tc : DTT) (te : DTE) (Δc : DSt) (fin : List PyData → Mp → Prop) (acc : List PyData) (M : Mp) : QT g tc te Δc fin [] acc M = fin acc M := by rw [QT]
theorem DC (g : DTG) (tc : DTT) (te : DTE) (Δc : DSt) (fin : List PyData → Mp → Prop) (d : PyData) (ds acc : List PyData) (M : Mp) : QT g tc te Δc fin (d :: ds) acc M =
  g (.dat d) Δc M fun Δ2 M2 => tc Δ2 M2 fun b M3 => if b = true then te Δ2 M3 fun y M4 => onD y fun e => QT g tc te Δc fin ds (acc ++ [e]) M4 else QT g tc te Δc fin ds acc M3 := by rw [QT]
noncomputable def Zbz (ow : Bool) (src : YU) (ix : List (Option Nat)) (g : DTG) (tc : DTT) (te : DTE) : DTE := fun Δ M Φ => src Δ M fun ds M1 => ds.length ≤ sizeLine ∧ QT g tc te (Bf ix Δ) (UT ow Φ) ds [] M1
section
variable {X : Cx}
end
noncomputable def VL (g : DTG) (tb : DTS) (D : Qa) : List PyData → DSt → Mp → Prop
 | [], Δ, M => D.nx Δ M
 | d :: ds, Δ, M => g (.dat d) Δ M fun Δ2 M2 => tb { D with nx := VL g tb D ds, ct := VL g tb D ds, bk := D.nx } Δ2 M2
theorem MM (g : DTG) (tb : DTS) (D : Qa) (Δ : DSt) (M : Mp) : VL g tb D [] Δ M = D.nx Δ M := by rw [VL]
theorem HB (g : DTG) (tb : DTS) (D : Qa) (d : PyData) (ds : List PyData) (Δ : DSt) (M : Mp) : VL g tb D (d :: ds) Δ M = g (.dat d) Δ M fun Δ2 M2 => tb { D with nx := VL g tb D ds, ct := VL g tb D ds, bk := D.nx } Δ2 M2 := by rw [VL]
theorem GD (lo : Int) (n : Nat) : XW lo (n + 1) = .int lo :: XW (lo + 1) n := by
 unfold XW
 rw [List.range_succ_eq_map, List.map_cons, List.map_map]
 congr 1
 ·simp
 ·refine List.map_congr_left fun i _ => ?_
  show PyData.int _ = PyData.int _
  congr 1
  simp
  omega
theorem Zab (lo : Int) : XW lo 0 = [] := rfl
theorem NQ (lo : Int) : XW lo 1 = [.int lo] := by rw [GD]; rfl
theorem Nq (lo : Int) : XW lo 2 = [.int lo, .int (lo + 1)] := by rw [GD, NQ]
theorem NY (lo : Int) : XW lo 3 = [.int lo, .int (lo + 1), .int (lo + 1 + 1)] := by rw [GD, Nq]
theorem ZaD (lo : Int) : XW lo 4 = [.int lo, .int (lo + 1), .int (lo + 1 + 1), .int (lo + 1 + 1 + 1)] := by rw [GD, NY]
theorem Li {A B : DTS} {D : Qa} {Δ : DSt} {M : Mp} (h : ∀ R, R = B → Zb1 A R D Δ M) : Zb1 A B D Δ M := h B rfl
theorem Oh {l : List Int} {r : Int} (h0 : 0 ≤ r) (h1 : r < l.length) : ∃ w ∈ l, atI (l.map PyData.int) r = some (.int w) := by
 obtain ⟨d, e, hm⟩ := FI (l := l.map PyData.int) h0 (by rw [List.length_map]; exact h1)
 obtain ⟨w, hw, rfl⟩ := List.mem_map.mp hm
 exact ⟨w, hw, e⟩
end DL
namespace DL
open PySem PySem.Spec PyProof.Rows L2
theorem W9  : ZC "int" .none = false := rfl
theorem UG (b : Bool) : ZC "int" (.bool b) = true := rfl
theorem BU (i : Int) : ZC "int" (.int i) = true := rfl
theorem B6 (z : Str) : ZC "int" (.str z) = false := rfl
theorem Uu (l : List PyData) : ZC "int" (.list l) = false := rfl
theorem Kq (l : List PyData) : ZC "int" (.tuple l) = false := rfl
theorem WS (l : List (PyData × PyData)) : ZC "int" (.dict l) = false := rfl
theorem Wl  : ZC "bool" .none = false := rfl
theorem We (b : Bool) : ZC "bool" (.bool b) = true := rfl
theorem W3 (i : Int) : ZC "bool" (.int i) = false := rfl
theorem UH (z : Str) : ZC "bool" (.str z) = false := rfl
theorem Kz (l : List PyData) : ZC "bool" (.list l) = false := rfl
theorem Kf (l : List PyData) : ZC "bool" (.tuple l) = false := rfl
theorem K3 (l : List (PyData × PyData)) : ZC "bool" (.dict l) = false := rfl
theorem XC  : ZC "tuple" .none = false := rfl
theorem Kb (b : Bool) : ZC "tuple" (.bool b) = false := rfl
theorem WE (i : Int) : ZC "tuple" (.int i) = false := rfl
theorem K8 (z : Str) : ZC "tuple" (.str z) = false := rfl
theorem XH (l : List PyData) : ZC "tuple" (.list l) = false := rfl
theorem YQ (l : List PyData) : ZC "tuple" (.tuple l) = true := rfl
theorem Xi (l : List (PyData × PyData)) : ZC "tuple" (.dict l) = false := rfl
theorem Kr  : ZC "list" .none = false := rfl
theorem Ky (b : Bool) : ZC "list" (.bool b) = false := rfl
theorem UC (i : Int) : ZC "list" (.int i) = false := rfl
theorem WK (z : Str) : ZC "list" (.str z) = false := rfl
theorem K2 (l : List PyData) : ZC "list" (.list l) = true := rfl
theorem X0 (l : List PyData) : ZC "list" (.tuple l) = false := rfl
theorem Wu (l : List (PyData × PyData)) : ZC "list" (.dict l) = false := rfl
theorem WT  : ZC "str" .none = false := rfl
theorem UU (b : Bool) : ZC "str" (.bool b) = false := rfl
theorem Bo (i : Int) : ZC "str" (.int i) = false := rfl
theorem BR (z : Str) : ZC "str" (.str z) = true := rfl
theorem W6 (l : List PyData) : ZC "str" (.list l) = false := rfl
theorem Wd (l : List PyData) : ZC "str" (.tuple l) = false := rfl
theorem Uy (l : List (PyData × PyData)) : ZC "str" (.dict l) = false := rfl
theorem Wk  : ZC "dict" .none = false := rfl
theorem K0 (b : Bool) : ZC "dict" (.bool b) = false := rfl
theorem U9 (i : Int) : ZC "dict" (.int i) = false := rfl
theorem Ud (z : Str) : ZC "dict" (.str z) = false := rfl
theorem Ks (l : List PyData) : ZC "dict" (.list l) = false := rfl
theorem X4 (l : List PyData) : ZC "dict" (.tuple l) = false := rfl
theorem K4 (l : List (PyData × PyData)) : ZC "dict" (.dict l) = true := rfl
theorem Zc4 (i j : Int) : (PyData.int i).eqv (.int j) = decide (i = j) := by
 simp only [PyData.eqv]
 first | rfl | exact Bool.beq_eq_decide_eq _ _ | (rw [Bool.eq_iff_iff]; simp)
theorem PB (x y : Str) : (PyData.str x).eqv (.str y) = decide (x = y) := by
 simp only [PyData.eqv]
 first | rfl | (rw [Bool.eq_iff_iff]; simp)
theorem Zda (x y : Bool) : (PyData.bool x).eqv (.bool y) = (x == y) := by
 simp only [PyData.eqv]
theorem ZcH : PyData.none.eqv .none = true := by simp only [PyData.eqv]
theorem Zcy (x y : List PyData) : (PyData.tuple x).eqv (.tuple y) = PyData.eqvAll x y := by simp only [PyData.eqv]
theorem Dq (x y : List PyData) : (PyData.list x).eqv (.list y) = PyData.eqvAll x y := by simp only [PyData.eqv]
theorem W7 : PyData.eqvAll [] [] = true := by simp only [PyData.eqvAll]
theorem Lb (x y : PyData) (xs ys : List PyData) : PyData.eqvAll (x :: xs) (y :: ys) = (x.eqv y && PyData.eqvAll xs ys) := by simp only [PyData.eqvAll]
theorem E4 (x : PyData) (xs : List PyData) : PyData.eqvAll (x :: xs) [] = false := by simp only [PyData.eqvAll]
theorem ZaU (x : PyData) (xs : List PyData) : PyData.eqvAll [] (x :: xs) = false := by simp only [PyData.eqvAll]
end DL
namespace DL
open PySem PySem.Spec PyProof.Rows L2
section
variable {X : Cx} {pos : Pos}
noncomputable def Zar (tc : DTT) (tb : DTS) : DTS := fun D Δ M => ∃ J : Nat → DSt → Mp → Prop, (∃ m, J m Δ M) ∧ ∀ n Δ M, J n Δ M → tc Δ M fun b M1 =>
 if b = true then tb { D with nx := fun Δ' M' => ∃ m, m < n ∧ J m Δ' M', ct := fun Δ' M' => ∃ m, m < n ∧ J m Δ' M', bk := D.nx } Δ M1 else D.nx Δ M1
noncomputable def ZfP (to : DTE) : DTE := fun Δ M Φ => to Δ M fun x M1 => onO x fun l => ∃ ds d, M1 l = some (.lst (ds ++ [d])) ∧ Φ (.dat d) (Zx M1 l (.lst ds))
noncomputable def isNone : PyData → Bool
 | .none => true
 | _ => false
theorem O9 {K : PySem.W.Frag} {M : Mp} {H : Hp} {v : V} {d : PyData} (h : Dt K M H v d) : decide (v = .non) = isNone d := by
 cases h <;> rfl
noncomputable def onN (x : DV) (P : Prop) : Prop := match x with | .dat .none => P | _ => False
theorem Tt {x : DV} {P : Prop} (h : onN x P) : x = .dat .none ∧ P := by
 unfold onN at h
 split at h
 ·exact ⟨rfl, h⟩
 ·exact h.elim
noncomputable def SS (b : Bool) : D2 := fun x y M Φ => onD x fun d => onN y <| Φ (.dat (.bool (isNone d != b))) M
theorem Pp : OpD X (compareOp .IsNot) (SS true) := by
 refine ⟨_, R7, fun v u H x y M Φ Q r rv ru h k => ?_⟩
 replace h := Jq h
 obtain ⟨d, rfl, h⟩ := h
 replace h := Tt h
 obtain ⟨rfl, q⟩ := h
 cases (show Dt X.K M H u .none from ru)
 refine ⟨rfl, ?_⟩
 rw [O9 rv]
 rw [show (!isNone d) = (isNone d != true) by cases isNone d <;> rfl]
 exact k.dat r Step.refl (Dt.bl _) q
theorem isNone_none : isNone .none = true := rfl
theorem UJ (b : Bool) : isNone (.bool b) = false := rfl
theorem B7 (b : Int) : isNone (.int b) = false := rfl
theorem Ca (b : Str) : isNone (.str b) = false := rfl
theorem UI (b : List PyData) : isNone (.list b) = false := rfl
theorem WC (b : List PyData) : isNone (.tuple b) = false := rfl
theorem Uq (b : List (PyData × PyData)) : isNone (.dict b) = false := rfl
noncomputable def Zgw (c : Bool) : PyData → Bool
 | .bool b => b == c
 | _ => false
theorem Ei (hu : X.A.units + 66 < cLine) : OpR X (compareOp .NotIn) (fun x y H Q => ∃ M d ds, Dt X.K M H x d ∧ (Dt X.K M H y (.list ds) ∨ Dt X.K M H y (.tuple ds)) ∧ d.canLay0 = true ∧ PyData.canLayAll0 ds = true ∧ d.depth ≤ 64 ∧ Q (.bl (!(ds.any fun e => PyData.eqv e d))) H) := by
 intro pins s σ H x y v u Q I rx ry h
 obtain ⟨M, d, ds, h1, h2, c1, c2, hdp, q⟩ := h
 obtain ⟨as, ra, _⟩ := h1.reads I rx
 rcases h2 with h2 | h2
 ·obtain ⟨bs, rb, _⟩ := h2.reads I ry
  exact PySem.SeqAt.notIn_list_reads rb ra c2 c1 (by have := Nat.min_le_right (PyData.depthAll ds) d.depth; omega) ⟨.bl _, H, I, rfl, q⟩
 ·obtain ⟨bs, rb, _⟩ := h2.reads I ry
  exact PySem.SeqAt.notIn_tuple_reads rb ra c2 c1 (by have := Nat.min_le_right (PyData.depthAll ds) d.depth; omega) ⟨.bl _, H, I, rfl, q⟩
noncomputable def Pq : D2 := fun x y M Φ => onD x fun d => onW y fun ds => okIn d ds = true ∧ Φ (.dat (.bool (!(ds.any fun e => PyData.eqv e d)))) M
noncomputable def Lu : D2 := fun x y M Φ => onP x fun i j => onO y fun l => Oc (M l) fun ks => Φ (.dat (.bool (!ZbL ks (kP i j)))) M
end
section
variable {prog : Program} {w : World} {A : Around} {E : Value → Shared → Prop} {s : Shared}
end
end DL
namespace DL
open PySem PySem.Spec PyProof.Rows L2
theorem LQ (x : DV) (P : DV → Prop) : onV (some (some x)) P = P x := propext Iff.rfl
theorem HX (i : Int) (P : Int → Prop) : onI (.dat (.int i)) P = P i := propext Iff.rfl
theorem Mc (i : Bool) (P : Bool → Prop) : onB (.dat (.bool i)) P = P i := propext Iff.rfl
theorem MO (i : Str) (P : Str → Prop) : onS (.dat (.str i)) P = P i := propext Iff.rfl
theorem MC (i : List PyData) (P : List PyData → Prop) : onT (.dat (.tuple i)) P = P i := propext Iff.rfl
theorem MP (i : List PyData) (P : List PyData → Prop) : onL (.dat (.list i)) P = P i := propext Iff.rfl
theorem He (i : PyData) (P : PyData → Prop) : onD (.dat i) P = P i := propext Iff.rfl
theorem H0 (i : Addr) (P : Addr → Prop) : onO (.own i) P = P i := propext Iff.rfl
theorem CQ (ds : List PyData) (P : List PyData → Prop) : JI (some (.lst ds)) P = P ds := propext Iff.rfl
theorem C9 (ks : List (List Key)) (P : List (List Key) → Prop) : Oc (some (.dct ks)) P = P ks := propext Iff.rfl
theorem OV (ds : List PyData) (M : Mp) (P : List PyData → Prop) : onQ (.dat (.tuple ds)) M P = P ds := propext Iff.rfl
theorem PF (ds : List PyData) (M : Mp) (P : List PyData → Prop) : onQ (.dat (.list ds)) M P = P ds := propext Iff.rfl
theorem P5 (l : Addr) (M : Mp) (P : List PyData → Prop) : onQ (.own l) M P = JI (M l) P := propext Iff.rfl
theorem O3 (ds : List PyData) (M : Mp) (P : List PyData → Prop) : onK (.dat (.list ds)) M P = P ds := propext Iff.rfl
theorem RI (l : Addr) (M : Mp) (P : List PyData → Prop) : onK (.own l) M P = JI (M l) P := propext Iff.rfl
theorem Hu (x : DV) (P : DV → Prop) : on1 [x] P = P x := propext Iff.rfl
theorem L3 (x y : DV) (P : DV → DV → Prop) : on2 [x, y] P = P x y := propext Iff.rfl
theorem LR (x y z : DV) (P : DV → DV → DV → Prop) : on3 [x, y, z] P = P x y z := propext Iff.rfl
theorem Mv (x0 x1 x2 x3 : DV) (P : DV → DV → DV → DV → Prop) : on4 [x0, x1, x2, x3] P = P x0 x1 x2 x3 := propext Iff.rfl
theorem LP (x0 x1 x2 x3 x4 : DV) (P : DV → DV → DV → DV → DV → Prop) : on5 [x0, x1, x2, x3, x4] P = P x0 x1 x2 x3 x4 := propext Iff.rfl
theorem L0 (x0 x1 x2 x3 x4 x5 : DV) (P : DV → DV → DV → DV → DV → DV → Prop) : on6 [x0, x1, x2, x3, x4, x5] P = P x0 x1 x2 x3 x4 x5 := propext Iff.rfl
theorem Mx (P : List PyData → Prop) : YX [] P = P [] := propext Iff.rfl
theorem Hg (a0 : PyData) (P : List PyData → Prop) : YX [.dat a0] P = P [a0] := propext Iff.rfl
theorem HS (a0 a1 : PyData) (P : List PyData → Prop) : YX [.dat a0, .dat a1] P = P [a0, a1] := propext Iff.rfl
theorem Hw (a0 a1 a2 : PyData) (P : List PyData → Prop) : YX [.dat a0, .dat a1, .dat a2] P = P [a0, a1, a2] := propext Iff.rfl
theorem Lz (a0 a1 a2 a3 : PyData) (P : List PyData → Prop) : YX [.dat a0, .dat a1, .dat a2, .dat a3] P = P [a0, a1, a2, a3] := propext Iff.rfl
theorem Mr (a0 a1 a2 a3 a4 : PyData) (P : List PyData → Prop) : YX [.dat a0, .dat a1, .dat a2, .dat a3, .dat a4] P = P [a0, a1, a2, a3, a4] := propext Iff.rfl
theorem MS (a0 a1 a2 a3 a4 a5 : PyData) (P : List PyData → Prop) : YX [.dat a0, .dat a1, .dat a2, .dat a3, .dat a4, .dat a5] P = P [a0, a1, a2, a3, a4, a5] := propext Iff.rfl
theorem LF (a0 a1 a2 a3 a4 a5 a6 : PyData) (P : List PyData → Prop) : YX [.dat a0, .dat a1, .dat a2, .dat a3, .dat a4, .dat a5, .dat a6] P = P [a0, a1, a2, a3, a4, a5, a6] := propext Iff.rfl
theorem Mq (a0 a1 a2 a3 a4 a5 a6 a7 : PyData) (P : List PyData → Prop) : YX [.dat a0, .dat a1, .dat a2, .dat a3, .dat a4, .dat a5, .dat a6, .dat a7] P = P [a0, a1, a2, a3, a4, a5, a6, a7] := propext Iff.rfl
theorem HF (a0 a1 a2 a3 a4 a5 a6 a7 a8 : PyData) (P : List PyData → Prop) : YX [.dat a0, .dat a1, .dat a2, .dat a3, .dat a4, .dat a5, .dat a6, .dat a7, .dat a8] P = P [a0, a1, a2, a3, a4, a5, a6, a7, a8] := propext Iff.rfl
theorem FX (a0 a1 a2 a3 a4 a5 a6 a7 a8 a9 : PyData) (P : List PyData → Prop) : YX [.dat a0, .dat a1, .dat a2, .dat a3, .dat a4, .dat a5, .dat a6, .dat a7, .dat a8, .dat a9] P = P [a0, a1, a2, a3, a4, a5, a6, a7, a8, a9] := propext Iff.rfl
theorem Ea (a0 a1 a2 a3 a4 a5 a6 a7 a8 a9 a10 : PyData) (P : List PyData → Prop) : YX [.dat a0, .dat a1, .dat a2, .dat a3, .dat a4, .dat a5, .dat a6, .dat a7, .dat a8, .dat a9, .dat a10] P = P [a0, a1, a2, a3, a4, a5, a6, a7, a8, a9, a10] := propext Iff.rfl
theorem Fs (a0 a1 a2 a3 a4 a5 a6 a7 a8 a9 a10 a11 : PyData) (P : List PyData → Prop) : YX [.dat a0, .dat a1, .dat a2, .dat a3, .dat a4, .dat a5, .dat a6, .dat a7, .dat a8, .dat a9, .dat a10, .dat a11] P = P [a0, a1, a2, a3, a4, a5, a6, a7, a8, a9, a10, a11] := propext Iff.rfl
theorem ZaA (i : Nat) (Δ : DSt) (M : Mp) (Φ : DK) : Zd5 i Δ M Φ = (onV Δ[i]? fun x => Φ x M) := propext Iff.rfl
theorem Ze1 (d : PyData) (z0 : DSt) (M : Mp) (Φ : DK) : dC d z0 M Φ = (Φ (.dat d) M) := propext Iff.rfl
theorem ZcA (n : String) (z0 : DSt) (M : Mp) (Φ : DK) : dTy n z0 M Φ = (Φ (.ty n) M) := propext Iff.rfl
theorem ZdE (δ : D2) (ta tb : DTE) (Δ : DSt) (M : Mp) (Φ : DK) : dOp δ ta tb Δ M Φ = (ta Δ M fun x M1 => tb Δ M1 fun y M2 => δ x y M2 Φ) := propext Iff.rfl
theorem Zfc (t : DTE) (Δ : DSt) (M : Mp) (Φ : Bool → Mp → Prop) : dB t Δ M Φ = (t Δ M fun x M1 => onB x fun c => Φ c M1) := propext Iff.rfl
theorem LC (δ δ' : D2) (ta tb tc : DTE) (Δ : DSt) (M : Mp) (Φ : DK) : ZbB δ δ' ta tb tc Δ M Φ = (ta Δ M fun x M1 => tb Δ M1 fun y M2 => δ x y M2 fun z M3 => onB z fun k => (if k = true then tc Δ M3 fun w' M4 => δ' y w' M4 Φ else Φ (.dat (.bool false)) M3)) := propext Iff.rfl
theorem Zbu (t u : DTT) (Δ : DSt) (M : Mp) (Φ : Bool → Mp → Prop) : ZdT t u Δ M Φ = (t Δ M fun c M1 => if c = true then u Δ M1 Φ else Φ false M1) := propext Iff.rfl
theorem Zdp (t u : DTT) (Δ : DSt) (M : Mp) (Φ : Bool → Mp → Prop) : dOr t u Δ M Φ = (t Δ M fun c M1 => if c = true then Φ true M1 else u Δ M1 Φ) := propext Iff.rfl
theorem SJ (t : DTT) (Δ : DSt) (M : Mp) (Φ : Bool → Mp → Prop) : Zeg t Δ M Φ = (t Δ M fun c M1 => Φ (!c) M1) := propext Iff.rfl
theorem PH (ta tb : DTE) (Δ : DSt) (M : Mp) (Φ : DK) : Sy ta tb Δ M Φ = (ta Δ M fun x M1 => onB x fun c => if c = true then tb Δ M1 Φ else Φ (.dat (.bool false)) M1) := propext Iff.rfl
theorem Zbc (ta tb : DTE) (Δ : DSt) (M : Mp) (Φ : DK) : ZeC ta tb Δ M Φ = (ta Δ M fun x M1 => onB x fun c => if c = true then Φ (.dat (.bool true)) M1 else tb Δ M1 Φ) := propext Iff.rfl
theorem P4 (ta : DTE) (Δ : DSt) (M : Mp) (Φ : DK) : Zdb ta Δ M Φ = (ta Δ M fun x M1 => onB x fun c => Φ (.dat (.bool (!c))) M1) := propext Iff.rfl
theorem Zdm (t : DTT) (ta tb : DTE) (Δ : DSt) (M : Mp) (Φ : DK) : dIf t ta tb Δ M Φ = (t Δ M fun c M1 => if c = true then ta Δ M1 Φ else tb Δ M1 Φ) := propext Iff.rfl
theorem Sr (g : Int → Int) (ta : DTE) (Δ : DSt) (M : Mp) (Φ : DK) : ZdO g ta Δ M Φ = (ta Δ M fun x M1 => onI x fun i => Φ (.dat (.int (g i))) M1) := propext Iff.rfl
theorem ZdC (C : Int → Int → Prop) (g : Int → Int → PyData) (x : DV) (y : DV) (M : Mp) (Φ : DK) : δI C g x y M Φ = (onI x fun i => onI y fun j => C i j ∧ Φ (.dat (g i j)) M) := propext Iff.rfl
theorem S1 (g : Int → Int → PyData) (x : DV) (y : DV) (M : Mp) (Φ : DK) : δI0 g x y M Φ = (onI x fun i => onI y fun j => Φ (.dat (g i j)) M) := propext Iff.rfl
theorem Zch (g : Bool → Bool → Bool) (x : DV) (y : DV) (M : Mp) (Φ : DK) : δB g x y M Φ = (onB x fun c => onB y fun d => Φ (.dat (.bool (g c d))) M) := propext Iff.rfl
theorem LA  (x : DV) (y : DV) (M : Mp) (Φ : DK) : SD x y M Φ = (onT x fun ds => onT y fun es => ds ≠ [] ∧ ds.length + es.length ≤ sizeLine ∧ Φ (.dat (.tuple (ds ++ es))) M) := propext Iff.rfl
theorem Mg  (x : DV) (y : DV) (M : Mp) (Φ : DK) : Zau x y M Φ = (onL x fun ds => onL y fun es => ds.length + es.length ≤ sizeLine ∧ Φ (.dat (.list (ds ++ es))) M) := propext Iff.rfl
theorem Cd  (x : DV) (y : DV) (M : Mp) (Φ : DK) : Ol x y M Φ = (onL x fun ds => onL y fun es => ds.length + es.length ≤ sizeLine ∧ ∀ p, M p = none → Φ (.own p) (Zx M p (.lst (ds ++ es)))) := propext Iff.rfl
theorem Te  (z0 : DSt) (M : Mp) (Φ : List DV → Mp → Prop) : ZdZ z0 M Φ = (Φ [] M) := propext Iff.rfl
theorem Rn (ta : DTE) (tr : DTA) (Δ : DSt) (M : Mp) (Φ : List DV → Mp → Prop) : Za4 ta tr Δ M Φ = (ta Δ M fun x M1 => tr Δ M1 fun xs M2 => Φ (x :: xs) M2) := propext Iff.rfl
theorem SU (t : DTA) (Δ : DSt) (M : Mp) (Φ : DK) : ZdS t Δ M Φ = (t Δ M fun xs M1 => YX xs fun ds => Φ (.dat (.tuple ds)) M1) := propext Iff.rfl
theorem Zac (t : DTA) (Δ : DSt) (M : Mp) (Φ : DK) : Zeq t Δ M Φ = (t Δ M fun xs M1 => YX xs fun ds => Φ (.dat (.list ds)) M1) := propext Iff.rfl
theorem Pb (t : DTA) (Δ : DSt) (M : Mp) (Φ : DK) : Zak t Δ M Φ = (t Δ M fun xs M1 => YX xs fun ds => ∀ p, M1 p = none → Φ (.own p) (Zx M1 p (.lst ds))) := propext Iff.rfl
theorem ZbE (t : DTE) (Δ : DSt) (M : Mp) (Φ : DK) : ZdY t Δ M Φ = (t Δ M fun x M1 => onO x fun l => JI (M1 l) fun ds => Φ (.dat (.list ds)) (VD M1 l)) := propext Iff.rfl
theorem LD (a : PyData) (l : List PyData) (P : PyData → Prop) : YY (a :: l) 0 P = P a := propext Iff.rfl
theorem La (a b : PyData) (l : List PyData) (P : PyData → Prop) : YY (a :: b :: l) 1 P = P b := propext Iff.rfl
theorem HA (a b c : PyData) (l : List PyData) (P : PyData → Prop) : YY (a :: b :: c :: l) 2 P = P c := propext Iff.rfl
theorem Lp (a b c d : PyData) (l : List PyData) (P : PyData → Prop) : YY (a :: b :: c :: d :: l) 3 P = P d := propext Iff.rfl
theorem LB (a b c d e : PyData) (l : List PyData) (P : PyData → Prop) : YY (a :: b :: c :: d :: e :: l) 4 P = P e := propext Iff.rfl
theorem Hx (a b c d e f : PyData) (l : List PyData) (P : PyData → Prop) : YY (a :: b :: c :: d :: e :: f :: l) 5 P = P f := propext Iff.rfl
theorem HV (a b c d e f g : PyData) (l : List PyData) (P : PyData → Prop) : YY (a :: b :: c :: d :: e :: f :: g :: l) 6 P = P g := propext Iff.rfl
theorem MT (a b c d e f g h : PyData) (l : List PyData) (P : PyData → Prop) : YY (a :: b :: c :: d :: e :: f :: g :: h :: l) 7 P = P h := propext Iff.rfl
theorem SO  (x : DV) (y : DV) (M : Mp) (Φ : DK) : δIx x y M Φ = (onQ x M fun ds => onI y fun i => YY ds i fun d => Φ (.dat d) M) := propext Iff.rfl
theorem ZdG (δ : D1) (t : DTA) (Δ : DSt) (M : Mp) (Φ : DK) : dCB δ t Δ M Φ = (t Δ M fun xs M1 => δ xs M1 Φ) := propext Iff.rfl
theorem PD  (xs : List DV) (M : Mp) (Φ : DK) : SF xs M Φ = (on1 xs fun x => onQ x M fun ds => Φ (.dat (.int ds.length)) M) := propext Iff.rfl
theorem Hj  (xs : List DV) (M : Mp) (Φ : DK) : Za8 xs M Φ = (on1 xs fun x => onS x fun z => z.length ≤ sizeLine ∧ Φ (.dat (.int z.length)) M) := propext Iff.rfl
theorem MW  (xs : List DV) (M : Mp) (Φ : DK) : Zbo xs M Φ = (on1 xs fun x => onI x fun i => i.natAbs.log2 < 1920 ∧ Φ (.dat (.str (toString i))) M) := propext Iff.rfl
theorem O8  (xs : List DV) (M : Mp) (Φ : DK) : T6 xs M Φ = (on1 xs fun x => onI x fun i => Φ (.dat (.int (if i < 0 then -i else i))) M) := propext Iff.rfl
theorem Zbd (g : Int → Int → Int) (xs : List DV) (M : Mp) (Φ : DK) : δ2I g xs M Φ = (on2 xs fun x y => onI x fun i => onI y fun j => Φ (.dat (.int (g i j))) M) := propext Iff.rfl
theorem BG  (xs : List DV) (M : Mp) (Φ : DK) : LU xs M Φ = (on1 xs fun x => onQ x M fun ds => Φ (.dat (.list ds)) M) := propext Iff.rfl
theorem Lk  (xs : List DV) (M : Mp) (Φ : DK) : TV xs M Φ = (on1 xs fun x => onD x fun d => Shw d ∧ Φ (.dat (.str d.shown)) M) := propext Iff.rfl
theorem B9 (T : String) (d : PyData) (t : String) (M : Mp) (Φ : DK) : ZcN T [.dat d, .ty t] M Φ = (t = T ∧ Φ (.dat (.bool (ZC T d))) M) := propext Iff.rfl
theorem LG (i j : Int) (P : Bool → Prop) : eqD (.int i) (.int j) P = P (decide (i = j)) := propext Iff.rfl
theorem HR (i j : Str) (P : Bool → Prop) : eqD (.str i) (.str j) P = P (decide (i = j)) := propext Iff.rfl
theorem Lm (i j : Bool) (P : Bool → Prop) : eqD (.bool i) (.bool j) P = P (i == j) := propext Iff.rfl
theorem Za6  (x : DV) (y : DV) (M : Mp) (Φ : DK) : δEq x y M Φ = (onD x fun d => onD y fun e => eqD d e fun b => Φ (.dat (.bool b)) M) := propext Iff.rfl
theorem Zad  (x : DV) (y : DV) (M : Mp) (Φ : DK) : δNe x y M Φ = (onD x fun d => onD y fun e => eqD d e fun b => Φ (.dat (.bool (!b))) M) := propext Iff.rfl
theorem Rg  (x : DV) (y : DV) (M : Mp) (Φ : DK) : Zc1 x y M Φ = (onS x fun s => onS y fun t => Φ (.dat (.bool (!decide (s = t)))) M) := propext Iff.rfl
theorem R3  (x : DV) (y : DV) (M : Mp) (Φ : DK) : Zdv x y M Φ = (onS x fun s => onS y fun t => Φ (.dat (.bool (decide (s = t)))) M) := propext Iff.rfl
theorem Fi  (z0 : DSt) (M : Mp) (Φ : Option Int → Mp → Prop) : DM z0 M Φ = (Φ none M) := propext Iff.rfl
theorem PX (t : DTE) (Δ : DSt) (M : Mp) (Φ : Option Int → Mp → Prop) : Zbn t Δ M Φ = (t Δ M fun x M1 => onI x fun i => Φ (some i) M1) := propext Iff.rfl
theorem Zah (te : DTE) (tl th : DTO) (Δ : DSt) (M : Mp) (Φ : DK) : Zfm te tl th Δ M Φ = (te Δ M fun x M1 => tl Δ M1 fun l M2 => th Δ M2 fun u M3 => onT x fun ds => ¬ (HT.sIx ds.length 0 l = 0 ∧ HT.sIx ds.length ds.length u = ds.length) ∧ Φ (.dat (.tuple (cutD ds l u))) M3) := propext Iff.rfl
theorem Ox  (D : Qa) (Δ : DSt) (M : Mp) : Tr D Δ M = (D.nx Δ M) := propext Iff.rfl
theorem ZaW (t u : DTS) (D : Qa) (Δ : DSt) (M : Mp) : Zb1 t u D Δ M = (t { D with nx := u D } Δ M) := propext Iff.rfl
theorem LW  (D : Qa) (Δ : DSt) (M : Mp) : Tw D Δ M = (D.bk Δ M) := propext Iff.rfl
theorem Of  (D : Qa) (Δ : DSt) (M : Mp) : ZcU D Δ M = (D.ct Δ M) := propext Iff.rfl
theorem Sb (te : DTE) (D : Qa) (Δ : DSt) (M : Mp) : Zbq te D Δ M = (te Δ M fun _ M1 => D.nx Δ M1) := propext Iff.rfl
theorem SW (te : DTE) (D : Qa) (Δ : DSt) (M : Mp) : ZdK te D Δ M = (te Δ M D.rt) := propext Iff.rfl
theorem Pz  (D : Qa) (z1 : DSt) (M : Mp) : Zcp D z1 M = (D.rt (.dat .none) M) := propext Iff.rfl
theorem S8 (c : DTT) (t u : DTS) (D : Qa) (Δ : DSt) (M : Mp) : Zef c t u D Δ M = (c Δ M fun b M1 => if b = true then t D Δ M1 else u D Δ M1) := propext Iff.rfl
theorem Qn (i : Nat) (x : DV) (Δ : DSt) (M : Mp) (Φ : DSt → Mp → Prop) : Gw i x Δ M Φ = (Φ (Δ.set i (some x)) M) := propext Iff.rfl
theorem BX (Δ : DSt) (M : Mp) (Φ : DSt → Mp → Prop) : Zbv [] Δ M Φ = Φ Δ M := propext Iff.rfl
theorem WW (t : DTG) (u : Hc) (x : DV) (r : List DV) (Δ : DSt) (M : Mp) (Φ : DSt → Mp → Prop) : Nm t u (x :: r) Δ M Φ = t x Δ M fun Δ' M' => u r Δ' M' Φ := propext Iff.rfl
theorem L7 (P : List DV → Prop) : N3 0 [] P = P [] := propext Iff.rfl
theorem Nd (n : Nat) (d : PyData) (r : List PyData) (P : List DV → Prop) : N3 (n + 1) (d :: r) P = N3 n r fun xs => P (.dat d :: xs) := propext Iff.rfl
theorem O4 (n : Nat) (t : Hc) (x : DV) (Δ : DSt) (M : Mp) (Φ : DSt → Mp → Prop) : ZaT n t x Δ M Φ = (onT x fun ds => N3 n ds fun xs => t xs Δ M Φ) := propext Iff.rfl
theorem RD (to ti : DTE) (x : DV) (Δ : DSt) (M : Mp) (Φ : DSt → Mp → Prop) : ZaM to ti x Δ M Φ = (to Δ M fun o M1 => ti Δ M1 fun i M2 => onO o fun l => onI i fun k => onD x fun d => JI (M2 l) fun ds => ∃ j, ixN ds.length k = some j ∧ Φ Δ (Zx M2 l (.lst (ds.set j d)))) := propext Iff.rfl
theorem SA (te : DTE) (g : DTG) (D : Qa) (Δ : DSt) (M : Mp) : ZbX te g D Δ M = (te Δ M fun x M1 => g x Δ M1 D.nx) := propext Iff.rfl
theorem E8 (to te : DTE) (Δ : DSt) (M : Mp) (Φ : DK) : EM to te Δ M Φ = (to Δ M fun x M1 => onO x fun l => JI (M1 l) fun _ => te Δ M1 fun y M2 => onD y fun d => JI (M2 l) fun ds => ds.length < sizeLine ∧ Φ (.dat .none) (Zx M2 l (.lst (ds ++ [d])))) := propext Iff.rfl
theorem Rw (te : DTE) (g : DTG) (tb : DTS) (D : Qa) (Δ : DSt) (M : Mp) : Zbr te g tb D Δ M = (te Δ M fun x M1 => onL x fun ds => FR g tb D ds Δ M1) := propext Iff.rfl
theorem ON (te : DTE) (g : DTG) (tb : DTS) (D : Qa) (Δ : DSt) (M : Mp) : Zaj te g tb D Δ M = (te Δ M fun x M1 => onT x fun ds => FR g tb D ds Δ M1) := propext Iff.rfl
theorem Nf (ta : DTA) (g : DTG) (tb : DTS) (D : Qa) (Δ : DSt) (M : Mp) : Nr ta g tb D Δ M = (ta Δ M fun xs M1 => on1 xs fun x => onI x fun j => InR j ∧ Wi g tb D 0 j.toNat Δ M1) := propext Iff.rfl
theorem Hi (ta : DTA) (g : DTG) (tb : DTS) (D : Qa) (Δ : DSt) (M : Mp) : NV ta g tb D Δ M = (ta Δ M fun xs M1 => on2 xs fun x y => onI x fun i => onI y fun j => (InR i ∧ InR j) ∧ Wi g tb D i (j - i).toNat Δ M1) := propext Iff.rfl
theorem Rt (S : DSp) (t : DTA) (Δ : DSt) (M : Mp) (Φ : DK) : ZaL S t Δ M Φ = (t Δ M fun xs M1 => S xs M1 Φ) := propext Iff.rfl
theorem Mu  (z0 : DSt) (M : Mp) (Φ : DK) : S0 z0 M Φ = (Φ (.dat (.dict [])) M) := propext Iff.rfl
theorem Cp (i : Int) (P : Key → Prop) : Ve (.dat (.int i)) P = P (.inl i) := propext Iff.rfl
theorem Fd (i : Str) (P : Key → Prop) : Ve (.dat (.str i)) P = P (.inr i) := propext Iff.rfl
theorem MH (tk tv : DTE) (Δ : DSt) (M : Mp) (Φ : DK) : S3 tk tv Δ M Φ = (tk Δ M fun x M1 => tv Δ M1 fun y M2 => Ve x fun k => onD y fun d => Φ (.dat (.dict [(kD k, d)])) M2) := propext Iff.rfl
theorem MU (tk tv tk' tv' : DTE) (Δ : DSt) (M : Mp) (Φ : DK) : Ti tk tv tk' tv' Δ M Φ = (tk Δ M fun x M1 => tv Δ M1 fun y M2 => tk' Δ M2 fun x' M3 => tv' Δ M3 fun y' M4 => Ve x fun k => onD y fun d => Ve x' fun k' => onD y' fun d' => k ≠ k' ∧ Φ (.dat (.dict [(kD k, d), (kD k', d')])) M4) := propext Iff.rfl
theorem Em (tk tv : DTE) (Δ : DSt) (M : Mp) (Φ : DK) : Pl tk tv Δ M Φ = (tk Δ M fun x M1 => tv Δ M1 fun y M2 => onT x fun ds => ZcQ ds fun ks => onD y fun d => Φ (.dat (.dict [(.tuple (ks.map kD), d)])) M2) := propext Iff.rfl
theorem ZcV (f : PyData → Bool) (xs : List DV) (M : Mp) (Φ : DK) : sp1 f xs M Φ = (∃ d, xs = [.dat d] ∧ Φ (.dat (.bool (f d))) M) := propext Iff.rfl
theorem SH (te : DTE) (Δ : DSt) (M : Mp) (Ψ : List PyData → Mp → Prop) : ZeM te Δ M Ψ = (te Δ M fun x M1 => onL x fun ds => Ψ ds M1) := propext Iff.rfl
theorem To (te : DTE) (Δ : DSt) (M : Mp) (Ψ : List PyData → Mp → Prop) : Zd7 te Δ M Ψ = (te Δ M fun x M1 => onT x fun ds => Ψ ds M1) := propext Iff.rfl
theorem P1 (ta : DTA) (Δ : DSt) (M : Mp) (Ψ : List PyData → Mp → Prop) : Za9 ta Δ M Ψ = (ta Δ M fun xs M1 => on1 xs fun x => onI x fun j => InR j ∧ Ψ (XW 0 j.toNat) M1) := propext Iff.rfl
theorem O2 (ta : DTA) (Δ : DSt) (M : Mp) (Ψ : List PyData → Mp → Prop) : Zdk ta Δ M Ψ = (ta Δ M fun xs M1 => on2 xs fun x y => onI x fun i => onI y fun j => (InR i ∧ InR j) ∧ Ψ (XW i (j - i).toNat) M1) := propext Iff.rfl
theorem Ma (Φ : DK) (acc : List PyData) (M : Mp) : UT true Φ acc M = ∀ p, M p = none → Φ (.own p) (Zx M p (.lst acc)) := propext Iff.rfl
theorem MQ (Φ : DK) (acc : List PyData) (M : Mp) : UT false Φ acc M = Φ (.dat (.list acc)) M := propext Iff.rfl
theorem OU (ow : Bool) (src : YU) (ix : List (Option Nat)) (g : DTG) (tc : DTT) (te : DTE) (Δ : DSt) (M : Mp) (Φ : DK) : Oe ow src ix g tc te Δ M Φ = (src Δ M fun ds M1 => ds.length ≤ sizeLine ∧ ∃ J : Nat → List PyData → Mp → Prop, J 0 [] M1 ∧ (∀ i d acc M', ds[i]? = some d → J i acc M' → g (.dat d) (Bf ix Δ) M' fun Δ2 M2 => tc Δ2 M2 fun b M3 => if b = true then te Δ2 M3 fun y M4 => onD y fun e => J (i + 1) (acc ++ [e]) M4 else J (i + 1) acc M3) ∧ ∀ acc M', J ds.length acc M' → UT ow Φ acc M') := propext Iff.rfl
theorem Tn  (z0 : DSt) (M : Mp) (Φ : Bool → Mp → Prop) : Zea z0 M Φ = (Φ true M) := propext Iff.rfl
theorem C8  (xs : List DV) (M : Mp) (Φ : DK) : Ri xs M Φ = (∃ ns : List Int, Jh xs M ns ∧ ns.length < 64 ∧ ∀ ns' : List Int, ns'.Perm ns → ns'.Pairwise (· ≤ ·) → Φ (.dat (.list (ns'.map PyData.int))) M) := propext Iff.rfl
theorem Lo  (xs : List DV) (M : Mp) (Φ : DK) : N5 xs M Φ = (∃ ns : List Int, Jh xs M ns ∧ 0 < ns.length ∧ ∀ m ∈ ns, (∀ a ∈ ns, m ≤ a) → Φ (.dat (.int m)) M) := propext Iff.rfl
theorem LZ  (xs : List DV) (M : Mp) (Φ : DK) : ZaO xs M Φ = (∃ ns : List Int, Jh xs M ns ∧ 0 < ns.length ∧ ∀ m ∈ ns, (∀ a ∈ ns, a ≤ m) → Φ (.dat (.int m)) M) := propext Iff.rfl
theorem SX (g : Int → Int → Int → Int) (xs : List DV) (M : Mp) (Φ : DK) : δ3I g xs M Φ = (on3 xs fun x y z => onI x fun i => onI y fun j => onI z fun l => Φ (.dat (.int (g i j l))) M) := propext Iff.rfl
theorem EJ  (xs : List DV) (M : Mp) (Φ : DK) : Ej xs M Φ = (on1 xs fun x => onQ x M fun ds => Φ (.dat (.tuple ds)) M) := propext Iff.rfl
theorem OD (ds : List PyData) (P : List PyData → Prop) : onW (.dat (.tuple ds)) P = P ds := propext Iff.rfl
theorem OH (ds : List PyData) (P : List PyData → Prop) : onW (.dat (.list ds)) P = P ds := propext Iff.rfl
theorem So  (x : DV) (y : DV) (M : Mp) (Φ : DK) : δIn x y M Φ = (onD x fun d => onW y fun ds => okIn d ds = true ∧ Φ (.dat (.bool (ds.any fun e => PyData.eqv e d))) M) := propext Iff.rfl
theorem FF (to te : DTE) (Δ : DSt) (M : Mp) (Φ : DK) : C7 to te Δ M Φ = (to Δ M fun x M1 => onO x fun l => JI (M1 l) fun _ => te Δ M1 fun y M2 => onO y fun b => JI (M2 l) fun ds => JI (M2 b) fun es => b ≠ l ∧ ds.length + es.length ≤ sizeLine ∧ Φ (.dat .none) (VD (Zx M2 l (.lst (ds ++ es))) b)) := propext Iff.rfl
theorem Tc (te : DTE) (tl th : DTO) (Δ : DSt) (M : Mp) (Φ : DK) : ZfH te tl th Δ M Φ = (te Δ M fun x M1 => tl Δ M1 fun l M2 => th Δ M2 fun u M3 => onL x fun ds => Φ (.dat (.list (cutD ds l u))) M3) := propext Iff.rfl
theorem Lj  (xs : List DV) (M : Mp) (Φ : DK) : TF xs M Φ = (∃ ns : List Int, Jh xs M ns ∧ Φ (.dat (.int ns.sum)) M) := propext Iff.rfl
theorem MY  (xs : List DV) (M : Mp) (Φ : DK) : Zbs xs M Φ = (∃ bs : List Bool, xs = [.dat (.list (bs.map PyData.bool))] ∧ Φ (.dat (.bool (bs.all id))) M) := propext Iff.rfl
theorem Lg  (xs : List DV) (M : Mp) (Φ : DK) : Zan xs M Φ = (∃ bs : List Bool, xs = [.dat (.list (bs.map PyData.bool))] ∧ Φ (.dat (.bool (bs.any id))) M) := propext Iff.rfl
theorem Ll  (xs : List DV) (M : Mp) (Φ : DK) : SM xs M Φ = (on1 xs fun x => onB x fun b => Φ (.dat (.int (if b = true then 1 else 0))) M) := propext Iff.rfl
theorem Tp (i j : Nat) (ta : DTA) (D : Qa) (Δ : DSt) (M : Mp) : ZfR i j ta D Δ M = (ta Δ M fun xs M1 => on2 xs fun x y => D.nx ((Δ.set i (some x)).set j (some y)) M1) := propext Iff.rfl
theorem Lw  (x : DV) (y : DV) (M : Mp) (Φ : DK) : Nl x y M Φ = (onK x M fun ds => onK y M fun es => ds.length + es.length ≤ sizeLine ∧ Φ (.dat (.list (ds ++ es))) M) := propext Iff.rfl
theorem ZbD (te : DTE) (tl th : DTO) (Δ : DSt) (M : Mp) (Φ : DK) : ZeH te tl th Δ M Φ = (te Δ M fun x M1 => tl Δ M1 fun l M2 => th Δ M2 fun u M3 => onK x M3 fun ds => Φ (.dat (.list (cutD ds l u))) M3) := propext Iff.rfl
theorem FY (ta : DTA) (Δ : DSt) (M : Mp) (Φ : DK) : Rh ta Δ M Φ = (ta Δ M fun xs M1 => on2 xs fun x y => onI x fun i => onI y fun j => (InR i ∧ InR j) ∧ (j - i).toNat ≤ 16777216 ∧ Φ (.dat (.list (XW i (j - i).toNat))) M1) := propext Iff.rfl
theorem ZaQ (i : Nat) (te : DTE) (f : Int → Int → Int) (D : Qa) (Δ : DSt) (M : Mp) : ZfI i te f D Δ M = (onV Δ[i]? fun z => onI z fun a => te Δ M fun x M1 => onI x fun b => D.nx (Δ.set i (some (.dat (.int (f a b))))) M1) := propext Iff.rfl
theorem Mw  (xs : List DV) (M : Mp) (Φ : DK) : Tz xs M Φ = (∃ qs : List (Int × Int), xs = [.dat (.list (qs.map prD))] ∧ 0 < qs.length ∧ ∀ q ∈ qs, (∀ r ∈ qs, ltP r q = false) → Φ (.dat (prD q)) M) := propext Iff.rfl
theorem FO  (z0 : DSt) (M : Mp) (Φ : DK) : P9 z0 M Φ = (∀ p, M p = none → Φ (.own p) (Zx M p (.dct []))) := propext Iff.rfl
theorem Pn (td : DTE) (ta : DTA) (tv : DTE) (D : Qa) (Δ : DSt) (M : Mp) : Zce td ta tv D Δ M = (tv Δ M fun x M1 => td Δ M1 fun y M2 => ta Δ M2 fun zs M3 => onD x fun _ => onO y fun l => on2 zs fun p q => onI p fun i => onI q fun j => Oc (M3 l) fun ks => ks.length < sizeLine ∧ D.nx Δ (Zx M3 l (.dct (ZeB ks (kP i j))))) := propext Iff.rfl
theorem Lx (i j : Int) (P : Int → Int → Prop) : onP (.dat (.tuple [.int i, .int j])) P = P i j := propext Iff.rfl
theorem RH  (x : DV) (y : DV) (M : Mp) (Φ : DK) : Zcf x y M Φ = (onP x fun i j => onO y fun l => Oc (M l) fun ks => Φ (.dat (.bool (ZbL ks (kP i j)))) M) := propext Iff.rfl
theorem RG (te ts : DTE) (Δ : DSt) (M : Mp) (Φ : DK) : Zdg te ts Δ M Φ = (te Δ M fun x M1 => ts Δ M1 fun y M2 => onT x fun ds => onI y fun i => i = -1 ∧ Φ (.dat (.tuple ds.reverse)) M2) := propext Iff.rfl
theorem PJ (te : DTE) (tl th : DTO) (Δ : DSt) (M : Mp) (Φ : DK) : ZcK te tl th Δ M Φ = (te Δ M fun x M1 => tl Δ M1 fun l M2 => th Δ M2 fun u M3 => onT x fun ds => Φ (.dat (.tuple (cutD ds l u))) M3) := propext Iff.rfl
theorem Ht (ds : List PyData) (M : Mp) (Φ : DK) : ZbT (.dat (.list ds)) M Φ = Φ (.dat (.list ds)) M := propext Iff.rfl
theorem MZ (l : Addr) (M : Mp) (Φ : DK) : ZbT (.own l) M Φ = JI (M l) fun ds => Φ (.dat (.list ds)) (VD M l) := propext Iff.rfl
theorem RK (t : DTE) (Δ : DSt) (M : Mp) (Φ : DK) : Zcs t Δ M Φ = (t Δ M fun x M1 => ZbT x M1 Φ) := propext Iff.rfl
theorem TY (src : YU) (Δ : DSt) (M : Mp) (Ψ : List PyData → Mp → Prop) : Ze6 src Δ M Ψ = (∃ Ψ', src Δ M Ψ' ∧ ∀ ds M1, Ψ' ds M1 → Ψ ds M1) := propext Iff.rfl
theorem HJ (ow : Bool) (src : YU) (ix : List (Option Nat)) (g : DTG) (tc : DTT) (te : DTE) (Δ : DSt) (M : Mp) (Φ : DK) : Zbz ow src ix g tc te Δ M Φ = (src Δ M fun ds M1 => ds.length ≤ sizeLine ∧ QT g tc te (Bf ix Δ) (UT ow Φ) ds [] M1) := propext Iff.rfl
theorem LJ (tc : DTT) (tb : DTS) (D : Qa) (Δ : DSt) (M : Mp) : Zar tc tb D Δ M = (∃ J : Nat → DSt → Mp → Prop, (∃ m, J m Δ M) ∧ ∀ n Δ M, J n Δ M → tc Δ M fun b M1 => if b = true then tb { D with nx := fun Δ' M' => ∃ m, m < n ∧ J m Δ' M', ct := fun Δ' M' => ∃ m, m < n ∧ J m Δ' M', bk := D.nx } Δ M1 else D.nx Δ M1) := propext Iff.rfl
theorem Zaf (to : DTE) (Δ : DSt) (M : Mp) (Φ : DK) : ZfP to Δ M Φ = (to Δ M fun x M1 => onO x fun l => ∃ ds d, M1 l = some (.lst (ds ++ [d])) ∧ Φ (.dat d) (Zx M1 l (.lst ds))) := propext Iff.rfl
theorem Nc (P : Prop) : onN (.dat .none) P = P := propext Iff.rfl
theorem Po (b : Bool) (x : DV) (y : DV) (M : Mp) (Φ : DK) : SS b x y M Φ = (onD x fun d => onN y <| Φ (.dat (.bool (isNone d != b))) M) := propext Iff.rfl
theorem CB  (x : DV) (y : DV) (M : Mp) (Φ : DK) : Pq x y M Φ = (onD x fun d => onW y fun ds => okIn d ds = true ∧ Φ (.dat (.bool (!(ds.any fun e => PyData.eqv e d)))) M) := propext Iff.rfl
theorem Br  (x : DV) (y : DV) (M : Mp) (Φ : DK) : Lu x y M Φ = (onP x fun i j => onO y fun l => Oc (M l) fun ks => Φ (.dat (.bool (!ZbL ks (kP i j)))) M) := propext Iff.rfl
end DL
namespace DL
open PySem PySem.Spec PyProof.Rows L2
noncomputable def Zdn (x : Str) (lo hi : Option Int) : Str := ⟨((x.cps.toList.drop (HT.sIx x.length 0 lo)).take (HT.sIx x.length x.length hi - HT.sIx x.length 0 lo)).toArray⟩
section
variable {X : Cx} {a b : Expr} {ta tb : DTE} {pos : Pos}
noncomputable def Zgd : V → Option Int → Option Int → Hp → VK → Prop := fun x lo hi H Q => ∃ z, x = .str z ∧ z.length ≤ sizeLine ∧ Q (.str (Zdn z lo hi)) H
noncomputable def Ze8 (te : DTE) (tl th : DTO) : DTE := fun Δ M Φ => te Δ M fun x M1 => tl Δ M1 fun l M2 => th Δ M2 fun u M3 => onS x fun s => s.length ≤ sizeLine ∧ Φ (.dat (.str (Zdn s l u))) M3
noncomputable def Zba : D2 := fun x y M Φ => onS x fun s => onI y fun i => s.length ≤ sizeLine ∧ ∃ c, L2.atI s.cps.toList i = some c ∧ Φ (.dat (.str ⟨#[c]⟩)) M
theorem Ee (ha : DE X a ta) (hb : DE X b tb) (hs : W5 b := by intro _ _; rfl) : DE X (.Subscript a b pos) (dOp Zba ta tb) := by
 obtain ⟨ta', pa, qa⟩ := ha
 obtain ⟨tb', pb, qb⟩ := hb
 refine ⟨_, T2 Np pa pb hs, Snd.opn qa qb fun v u H x y M Φ Q r rv ru h k => ?_⟩
 replace h := VC h
 obtain ⟨s, rfl, h⟩ := h
 replace h := ZG h
 obtain ⟨i, rfl, hz, c, hc, q⟩ := h
 exact ⟨s, i, c, rv.str, ru.int, hz, hc, k.dat r Step.refl (Dt.str _) q⟩
noncomputable def Za0 : D2 := fun x y M Φ => onS x fun s => onS y fun t => s.length + t.length ≤ sizeLine ∧ Φ (.dat (.str (s ++ t))) M
noncomputable def Zes (s : Str) (n : Nat) : Str := ⟨((List.replicate n s.cps.toList).flatten).toArray⟩
noncomputable def T9 : D2 := fun x y M Φ => onS x fun s => onI y fun i => (1 ≤ i ∧ i ≤ 1000 ∧ s.length ≤ 1000) ∧ Φ (.dat (.str (Zes s i.toNat))) M
noncomputable def ZcB : D2 := fun x y M Φ => onS x fun s => onS y fun t => Φ (.dat (.bool (!decide (t.cps.toList < s.cps.toList)))) M
noncomputable def Its (x : Str) : It := ⟨fun i _ => i < x.length, fun i H y H' => H' = H ∧ ∃ c, x.cps[i]? = some c ∧ y = .str ⟨#[c]⟩, fun i _ => x.length ≤ i⟩
noncomputable def Zgn (tl : TE) : TI := fun σ H R => tl σ H fun x H1 => ∃ z, x = .str z ∧ R (Its z) H1
noncomputable def Zb7 (c : Nat) : PyData := .str ⟨#[c]⟩
noncomputable def Zfp (te : DTE) : YU := fun Δ M Ψ => te Δ M fun x M1 => onS x fun s => Ψ (s.cps.toList.map Zb7) M1
noncomputable def ZcG : D1 := fun xs M Φ => on1 xs fun x => onS x fun s => s.length ≤ sizeLine ∧ Φ (.dat (.list (s.cps.toList.map Zb7))) M
noncomputable def ZdV : D1 := fun xs M Φ => on1 xs fun x => onS x fun s => s.length ≤ sizeLine ∧ Φ (.dat (.tuple (s.cps.toList.map Zb7))) M
noncomputable def rJoin (K : PySem.W.Frag) : V → List V → Hp → VK → Prop := fun x xs H Q => ∃ z p ss, x = .str z ∧ xs = [.ref p] ∧ SqL K H p (ss.map V.str) ∧ JoinOk z ss = true ∧ Q (.str (Txt.join z ss)) H
theorem DN : ∀ {ss : List Str} {us : List Value}, Vals (ss.map V.str) us → ∃ l : List (Str × Tok), us = strValues l ∧ l.map (·.1) = ss
 | [], _, r => by rw [List.map_nil] at r; cases r; exact ⟨[], rfl, rfl⟩
 | s :: ss, _, r => by
  rw [List.map_cons] at r
  cases r with
  | cons r1 r2 =>
   obtain ⟨t, rfl⟩ := r1
   obtain ⟨l, rfl, e⟩ := DN r2
   exact ⟨(s, t) :: l, rfl, by rw [List.map_cons, e]⟩
theorem RU : MtR X "str.join" (rJoin X.K) := by
 intro pins s σ H x xs v us Q I rx rs h
 obtain ⟨z, p, ss, rfl, rfl, hq, hj, q⟩ := h
 obtain ⟨t, rfl⟩ := rx
 obtain ⟨u, rfl, ru⟩ := vals1 rs
 cases ru
 obtain ⟨its, rv, pl, hz⟩ := I.list hq
 obtain ⟨l, rfl, hl⟩ := DN rv
 exact SC.join pl.isList hl hj fun t' k => ⟨.str _, H, I.tok _, ⟨_, rfl⟩, q⟩
noncomputable def Zez (ds : List PyData) (P : List Str → Prop) : Prop := ∃ ss, ds = ss.map PyData.str ∧ P ss
noncomputable def Zbp (to te : DTE) : DTE := fun Δ M Φ => to Δ M fun x M1 => onS x fun z => te Δ M1 fun y M2 => onK y M2 fun ds => Zez ds fun ss => JoinOk z ss = true ∧ Φ (.dat (.str (Txt.join z ss))) M2
theorem Y9 {K : PySem.W.Frag} {M : Mp} {H : Hp} : ∀ {vs : List V} {ss : List Str}, Dts K M H vs (ss.map PyData.str) → vs = ss.map V.str
 | vs, [], h => by
  rw [List.map_nil] at h
  cases h
  rfl
 | vs, n :: ns, h => by
  rw [List.map_cons] at h
  cases h with
  | cons h1 h2 =>
   cases h1
   rw [Y9 h2, List.map_cons]
theorem EL {o e : Expr} {to te : DTE} {apos cpos : Pos} (ho : DE X o to) (he : DE X e te) (hbase : attributeBase o "join" X.env (eval o X.env) = eval o X.env := by rfl)
  (hfew : ((backTo cpos (starEach [e] X.env)).all (fun x => !x.1) && (backToKw cpos (keywordEach [] X.env)).all (fun x => x.1.isSome)
   && decide ([e].length + ([] : List Keyword).length + (if ([] : List Keyword).isEmpty then 0 else 1) < 30)) = true := by rfl)
  (hline : (apos.endLine == cpos.line) = true := by rfl) (hs : starEach [e] X.env = (false, eval e X.env) :: starEach [] X.env := by rfl) (hplain : (backTo cpos (starEach [] X.env)).any (·.1) = false := by rfl) :
  DE X (.Call (.Attribute o "join" apos) [e] [] cpos) (Zbp to te) := by
 obtain ⟨t1, p1, q1⟩ := ho
 obtain ⟨t2, p2, q2⟩ := he
 refine ⟨_, Rz PySem.F.plainAttrs_str PySem.F.slot_str_join PySem.F.type_str_join RU p1 (Xk p2 Gv hs) hbase hfew hline hs hplain, fun σ H Δ M Φ Q r e h k => ?_⟩
 refine q1 σ H Δ M _ _ r e h fun v H1 x M1 r1 st rv hx => ?_
 replace hx := VC hx
 obtain ⟨z, rfl, hx⟩ := hx
 cases rv.str
 refine ⟨rfl, q2 σ H1 Δ M1 _ _ r1 (e.step st) hx fun w H2 y M2 r2 st2 rw2 hy => ?_⟩
 replace hy := Jd hy
 obtain ⟨ds, hd, ss, rfl, hj, hy⟩ := hy
 replace hd : BZ y M2 (ss.map PyData.str) := hd
 obtain ⟨a, xs, rfl, h1, h2⟩ := hd.sq r2 rw2
 cases Y9 h2
 exact ⟨z, a, ss, rfl, rfl, h1, hj, k.dat r2 (st.trans st2) (Dt.str _) hy⟩
noncomputable def rUp : V → List V → Hp → VK → Prop := fun x xs H Q => ∃ z, x = .str z ∧ xs = [] ∧ z.length ≤ 1000 ∧ Q (.str (Txt.upper z)) H
noncomputable def ZdL (to : DTE) : DTE := fun Δ M Φ => to Δ M fun x M1 => onS x fun z => z.length ≤ 1000 ∧ Φ (.dat (.str (Txt.upper z))) M1
end
theorem TK (te : DTE) (tl th : DTO) (Δ : DSt) (M : Mp) (Φ : DK) : Ze8 te tl th Δ M Φ = (te Δ M fun x M1 => tl Δ M1 fun l M2 => th Δ M2 fun u M3 => onS x fun s => s.length ≤ sizeLine ∧ Φ (.dat (.str (Zdn s l u))) M3) := propext Iff.rfl
theorem OG (x y : DV) (M : Mp) (Φ : DK) : Zba x y M Φ = (onS x fun s => onI y fun i => s.length ≤ sizeLine ∧ ∃ c, L2.atI s.cps.toList i = some c ∧ Φ (.dat (.str ⟨#[c]⟩)) M) := propext Iff.rfl
theorem Mb (x y : DV) (M : Mp) (Φ : DK) : Za0 x y M Φ = (onS x fun s => onS y fun t => s.length + t.length ≤ sizeLine ∧ Φ (.dat (.str (s ++ t))) M) := propext Iff.rfl
theorem HU (x y : DV) (M : Mp) (Φ : DK) : T9 x y M Φ = (onS x fun s => onI y fun i => (1 ≤ i ∧ i ≤ 1000 ∧ s.length ≤ 1000) ∧ Φ (.dat (.str (Zes s i.toNat))) M) := propext Iff.rfl
theorem Og (x y : DV) (M : Mp) (Φ : DK) : ZcB x y M Φ = (onS x fun s => onS y fun t => Φ (.dat (.bool (!decide (t.cps.toList < s.cps.toList)))) M) := propext Iff.rfl
theorem Tf (te : DTE) (Δ : DSt) (M : Mp) (Ψ : List PyData → Mp → Prop) : Zfp te Δ M Ψ = (te Δ M fun x M1 => onS x fun s => Ψ (s.cps.toList.map Zb7) M1) := propext Iff.rfl
theorem Rk (to te : DTE) (Δ : DSt) (M : Mp) (Φ : DK) : Zbp to te Δ M Φ = (to Δ M fun x M1 => onS x fun z => te Δ M1 fun y M2 => onK y M2 fun ds => Zez ds fun ss => JoinOk z ss = true ∧ Φ (.dat (.str (Txt.join z ss))) M2) := propext Iff.rfl
theorem str_len (s : Str) : s.cps.toList.length = s.length := by simp [Str.length]
theorem add_list (s t : Str) : (s ++ t).cps.toList = s.cps.toList ++ t.cps.toList := by rw [Str.cps_append, Array.toList_append]
theorem NH {n d : Nat} {i : Int} (h0 : 0 ≤ i) : HT.sIx n d (some i) = min i.toNat n := by
 obtain ⟨k, rfl⟩ := Int.eq_ofNat_of_zero_le h0
 rw [HT.Dw]
 rfl
theorem join_list : ∀ ss : List Str, (Txt.join (Str.ofString "") ss).cps.toList = (ss.map (·.cps.toList)).flatten := by
 have e0 : (Str.ofString "").cps.toList = [] := by decide +kernel
 have go : ∀ ss : List Str, (Str.join (Str.ofString "") ss).cps.toList = (ss.map (·.cps.toList)).flatten := fun ss => by
  induction ss with
  | nil => rfl
  | cons s ss ih =>
   cases ss with
   | nil => simp [Str.join]
   | cons t ss =>
    rw [Str.join, add_list, add_list, e0, ih]
    ·simp
    ·simp
 intro ss
 have : Txt.join (Str.ofString "") ss = Str.join (Str.ofString "") ss := by
  exact StrLaws.glued_eq_join _ _
 rw [this, go]
theorem Oo {sep : Str} {ss : List Str} {B : Nat} (hB : ∀ y ∈ ss, y.length ≤ B) (h : ss.length * B + ss.length * sep.length ≤ 16777216) : JoinOk sep ss = true := by
 unfold JoinOk
 rw [StrLaws.joinFits hB h]
 rfl
end DL
namespace DL
open PySem PySem.Spec PyProof.Rows L2 PySem.W
section
variable {n : Nat} {lt : Nat → Nat → Bool}
noncomputable def KOk (n : Nat) (lt : Nat → Nat → Bool) {α : Type} : KasT α → (α → Prop) → Prop
 | .ret a, Q => Q a
 | .ask i j k, Q => i < n ∧ j < n ∧ i ≠ j ∧ KOk n lt (k (lt i j)) Q
theorem KOk.bind {α β : Type} {f : α → KasT β} {Q : β → Prop} : ∀ {t : KasT α}, KOk n lt t (fun a => KOk n lt (f a) Q) → KOk n lt (t.bind f) Q
 | .ret _, h => h
 | .ask i j k, h => ⟨h.1, h.2.1, h.2.2.1, KOk.bind (t := k (lt i j)) h.2.2.2⟩
theorem KOk.mono {α : Type} {Q Q' : α → Prop} (hq : ∀ a, Q a → Q' a) : ∀ {t : KasT α}, KOk n lt t Q → KOk n lt t Q'
 | .ret _, h => hq _ h
 | .ask i j k, h => ⟨h.1, h.2.1, h.2.2.1, KOk.mono hq (t := k (lt i j)) h.2.2.2⟩
theorem KOk.wp {cmp : Nat → Nat → (Bool → Shared → Prop) → Shared → Prop} {S : Shared → Prop} (hc : ∀ i j, i < n → j < n → i ≠ j → ∀ s, S s → ∀ C : Bool → Shared → Prop, (∀ s', S s' → C (lt i j) s') → cmp i j C s) {α : Type} {Q : α → Prop} {R : α → Shared → Prop}
  (hq : ∀ a s, Q a → S s → R a s) : ∀ {t : KasT α} {s : Shared}, KOk n lt t Q → S s → t.kasWp cmp R s
 | .ret _, _, h, hs => hq _ _ h hs
 | .ask i j k, s, h, hs => hc i j h.1 h.2.1 h.2.2.1 s hs _ fun s' hs' => KOk.wp hc hq (t := k (lt i j)) h.2.2.2 hs'
noncomputable def Le (lt : Nat → Nat → Bool) (a b : Nat) : Prop := lt b a = false
structure Ord (lt : Nat → Nat → Bool) : Prop where
 asym : ∀ a b, lt a b = true → lt b a = false
 tran : ∀ a b c, Le lt a b → Le lt b c → Le lt a c
theorem Ord.refl (o : Ord lt) (a : Nat) : Le lt a a := by
 unfold Le
 cases h : lt a a with
 | false => rfl
 | true => have := o.asym a a h; rw [h] at this; cases this
noncomputable abbrev at' (p : Array Nat) (k : Nat) : Nat := p.getD k 0
noncomputable def Up (lt : Nat → Nat → Bool) (p : Array Nat) (m : Nat) : Prop := ∀ i j, i ≤ j → j < m → Le lt (at' p i) (at' p j)
noncomputable def Dn (lt : Nat → Nat → Bool) (p : Array Nat) (m : Nat) : Prop := ∀ i j, i ≤ j → j < m → Le lt (at' p j) (at' p i)
noncomputable def Pm (n : Nat) (p : Array Nat) : Prop := p.Perm (List.range n).toArray
theorem Pm.size {p : Array Nat} (h : Pm n p) : p.size = n := by
 have := h.size_eq
 simpa using this
theorem Pm.below {p : Array Nat} (h : Pm n p) {k : Nat} (hk : k < n) : at' p k < n := by
 have hs : k < p.size := by rw [h.size]; exact hk
 have e : at' p k = p[k] := by simp [at', hs]
 have m1 : p[k] ∈ p := Array.getElem_mem hs
 have m2 := h.mem_iff.mp m1
 rw [e]
 simpa using m2
theorem Yx {α : Type} {l : List α} (nd : l.Nodup) {a b : Nat} (ha : a < l.length) (hb : b < l.length) (z : l[a] = l[b]) : a = b := by
 have pw := List.pairwise_iff_getElem.mp nd
 by_cases h1 : a < b
 ·exact absurd z (pw a b ha hb h1)
 ·by_cases h2 : b < a
  ·exact absurd z.symm (pw b a hb ha h2)
  ·omega
theorem Pm.inj {p : Array Nat} (h : Pm n p) {a b : Nat} (ha : a < n) (hb : b < n) (hn : a ≠ b) : at' p a ≠ at' p b := by
 have hs := h.size
 have e : ∀ k, (hk : k < n) → at' p k = p.toList[k]'(by simpa [hs] using hk) := fun k hk => by simp [at', hs, hk]
 have nd : p.toList.Nodup := by
  have := Array.perm_iff_toList_perm.mp h
  exact this.nodup_iff.mpr List.nodup_range
 rw [e a ha, e b hb]
 exact fun z => hn (Yx nd _ _ z)
theorem Pm.rev {p : Array Nat} (h : Pm n p) (i j : Nat) : Pm n (kas_rev p i j) := (mirror_perm _ _ _ _).trans h
theorem Pm.bub {p : Array Nat} (h : Pm n p) (i j : Nat) : Pm n (bubble p i j) := (bubble_perm _ _ _).trans h
theorem VH {p : Array Nat} {i j : Nat} (hj : j ≤ p.size) (k : Nat) : at' (kas_rev p i j) k = if i ≤ k ∧ k < j then at' p (i + j - 1 - k) else at' p k := by
 have hm := getElem?_mirror (i := i) hj ((j - i) / 2) (by omega) k
 have e : ∀ (q : Array Nat) (k : Nat), at' q k = q[k]?.getD 0 := fun q k => by simp [at', Array.getD_eq_getD_getElem?]
 rw [e, e, e]
 unfold kas_rev
 rw [hm]
 by_cases c : i ≤ k ∧ k < j
 ·rw [if_pos c]
  by_cases c2 : (i ≤ k ∧ k < i + (j - i) / 2) ∨ (j - (j - i) / 2 ≤ k ∧ k < j)
  ·rw [if_pos c2]
  ·rw [if_neg c2]
   congr 2
   omega
 ·rw [if_neg c, if_neg (by omega)]
theorem N7 {p : Array Nat} {k l : Nat} (hk : k < p.size) (hl : l ≤ k) (x : Nat) : at' (bubble p k (k - l)) x = if x = l then at' p k else if l < x ∧ x ≤ k then at' p (x - 1) else at' p x := by
 have hm := getElem?_bubble hk (k - l) (by omega) x
 have e : ∀ (q : Array Nat) (k : Nat), at' q k = q[k]?.getD 0 := fun q k => by simp [at', Array.getD_eq_getD_getElem?]
 rw [show k - (k - l) = l by omega] at hm
 rw [e, hm, e, e, e]
 split
 ·rfl
 ·split <;> rfl
theorem ET (o : Ord lt) {p : Array Nat} (hp : Pm n p) : ∀ (f m : Nat), 1 ≤ m → m + f ≤ n → Up lt p m → KOk n lt (kas_asc p f m) fun r => (m ≤ r ∧ r ≤ m + f) ∧ Up lt p r ∧ (r = m + f ∨ lt (at' p r) (at' p (r - 1)) = true)
 | 0, m, _, _, hu => ⟨⟨Nat.le_refl _, Nat.le_refl _⟩, hu, .inl rfl⟩
 | f + 1, m, h1, hf, hu => by
  unfold kas_asc
  refine ⟨hp.below (by omega), hp.below (by omega), hp.inj (by omega) (by omega) (by omega), ?_⟩
  cases hc : lt (p.getD m 0) (p.getD (m - 1) 0) with
  | true =>
   show KOk n lt (if true = true then _ else _) _
   rw [if_pos rfl]
   exact ⟨⟨Nat.le_refl _, by omega⟩, hu, .inr hc⟩
  | false =>
   show KOk n lt (if false = true then _ else _) _
   rw [if_neg Bool.false_ne_true]
   refine KOk.mono (fun r hr => ⟨⟨by omega, by omega⟩, hr.2.1, ?_⟩) (ET o hp f (m + 1) (by omega) (by omega) fun i j hij hj => ?_)
   ·rcases hr.2.2 with z | z
    ·exact .inl (by omega)
    ·exact .inr z
   ·by_cases c : j < m
    ·exact hu i j hij c
    ·have ej : j = m := by omega
     subst ej
     by_cases c2 : i = j
     ·subst c2
      exact o.refl _
     ·exact o.tran _ _ _ (hu i (j - 1) (by omega) (by omega)) hc
noncomputable def Blk (lt : Nat → Nat → Bool) (p : Array Nat) (m q : Nat) : Prop := ∀ i j, m - (q + 1) ≤ i → i < m → m - (q + 1) ≤ j → j < m → Le lt (at' p i) (at' p j)
theorem D4 {p : Array Nat} (hp : p.size = n) {m q : Nat} (hm : m ≤ n) (hq : q + 1 ≤ m) (hd : Dn lt p m) (hb : Blk lt p m q) : Dn lt (kas_rev p (m - (q + 1)) m) m := by
 intro i j hij hj
 rw [VH (by omega), VH (by omega)]
 by_cases c1 : m - (q + 1) ≤ i ∧ i < m
 ·rw [if_pos c1, if_pos (by omega)]
  exact hb _ _ (by omega) (by omega) (by omega) (by omega)
 ·rw [if_neg c1]
  split
  ·exact hd _ _ (by omega) (by omega)
  ·exact hd _ _ hij hj
theorem XJ (o : Ord lt) : ∀ (f : Nat) (p : Array Nat) (m q : Nat), Pm n p → q + 1 ≤ m → m + f ≤ n → Dn lt p m → Blk lt p m q →
  KOk n lt (kas_desc f p m q) fun r => Pm n r.1 ∧ (m ≤ r.2.1 ∧ r.2.1 ≤ m + f) ∧ r.2.2 + 1 ≤ r.2.1 ∧ Dn lt r.1 r.2.1 ∧ Blk lt r.1 r.2.1 r.2.2
 | 0, p, m, q, hp, hq, hf, hd, hb => ⟨hp, ⟨Nat.le_refl _, Nat.le_refl _⟩, hq, hd, hb⟩
 | f + 1, p, m, q, hp, hq, hf, hd, hb => by
  have hs := hp.size
  unfold kas_desc
  refine ⟨hp.below (by omega), hp.below (by omega), hp.inj (by omega) (by omega) (by omega), ?_⟩
  have one : ∀ p' : Array Nat, Blk lt p' (m + 1) 0 := fun p' i j a1 a2 a3 a4 => by
   rw [show i = m by omega, show j = m by omega]
   exact o.refl _
  cases hc : lt (p.getD m 0) (p.getD (m - 1) 0) with
  | true =>
   show KOk n lt (if true = true then _ else _) _
   rw [if_pos rfl]
   have le0 : Le lt (at' p m) (at' p (m - 1)) := o.asym _ _ hc
   have grow : ∀ p' : Array Nat, Dn lt p' m → at' p' m = at' p m → Le lt (at' p (m - 1)) (at' p' (m - 1)) → Dn lt p' (m + 1) := fun p' d e l i j hij hj => by
    by_cases c : j < m
    ·exact d i j hij c
    ·have ej : j = m := by omega
     subst ej
     by_cases c2 : i = j
     ·subst c2
      exact o.refl _
     ·rw [e]
      exact o.tran _ _ _ (o.tran _ _ _ le0 l) (d i (j - 1) (by omega) (by omega))
   split
   ·refine KOk.mono (fun r hr => ⟨hr.1, by omega, hr.2.2⟩) (XJ o f _ (m + 1) 0 (hp.rev _ _) (by omega) (by omega) (grow _ (D4 hs (by omega) hq hd hb) ?_ ?_) (one _))
    ·rw [VH (by omega), if_neg (by omega)]
    ·rw [VH (by omega), if_pos (by omega)]
     exact hb _ _ (by omega) (by omega) (by omega) (by omega)
   ·exact KOk.mono (fun r hr => ⟨hr.1, by omega, hr.2.2⟩) (XJ o f _ (m + 1) 0 hp (by omega) (by omega) (grow _ hd rfl (o.refl _)) (one _))
  | false =>
   show KOk n lt (if false = true then _ else _) _
   rw [if_neg Bool.false_ne_true]
   refine ⟨hp.below (by omega), hp.below (by omega), hp.inj (by omega) (by omega) (by omega), ?_⟩
   cases hc2 : lt (p.getD (m - 1) 0) (p.getD m 0) with
   | true =>
    show KOk n lt (if true = true then _ else _) _
    rw [if_pos rfl]
    exact ⟨hp, ⟨Nat.le_refl _, Nat.le_add_right _ _⟩, hq, hd, hb⟩
   | false =>
    show KOk n lt (if false = true then _ else _) _
    rw [if_neg Bool.false_ne_true]
    have l1 : Le lt (at' p (m - 1)) (at' p m) := hc
    have l2 : Le lt (at' p m) (at' p (m - 1)) := hc2
    refine KOk.mono (fun r hr => ⟨hr.1, by omega, hr.2.2⟩) (XJ o f p (m + 1) (q + 1) hp (by omega) (by omega) (fun i j hij hj => ?_) fun i j a1 a2 a3 a4 => ?_)
    ·by_cases c : j < m
     ·exact hd i j hij c
     ·have ej : j = m := by omega
      subst ej
      by_cases c2 : i = j
      ·subst c2
       exact o.refl _
      ·exact o.tran _ _ _ l2 (hd i (j - 1) (by omega) (by omega))
    ·have to : ∀ i, m + 1 - (q + 1 + 1) ≤ i → i < m + 1 → Le lt (at' p i) (at' p (m - 1)) ∧ Le lt (at' p (m - 1)) (at' p i) := fun i b1 b2 => by
      by_cases c : i < m
      ·exact ⟨hb _ _ (by omega) (by omega) (by omega) (by omega), hb _ _ (by omega) (by omega) (by omega) (by omega)⟩
      ·rw [show i = m by omega]
       exact ⟨l2, l1⟩
     exact o.tran _ _ _ (to i a1 a2).1 (to j a3 a4).2
theorem Th {p : Array Nat} (hp : p.size = n) {m : Nat} (hm : m ≤ n) (hd : Dn lt p m) : Up lt (kas_rev p 0 m) m := by
 intro i j hij hj
 rw [VH (by omega), VH (by omega), if_pos (by omega), if_pos (by omega)]
 exact hd _ _ (by omega) (by omega)
noncomputable def Cnt (n : Nat) (lt : Nat → Nat → Bool) (r : Nat × Array Nat) : Prop := Pm n r.2 ∧ r.1 ≤ n ∧ Up lt r.2 r.1
theorem EK (o : Ord lt) {p : Array Nat} (hp : Pm n p) {m : Nat} (h1 : 1 ≤ m) (hm : m ≤ n) (hd : Dn lt p m) : KOk n lt (kas_tail3 m n p) (Cnt n lt) := by
 unfold kas_tail3
 exact KOk.bind (KOk.mono (fun r hr => ⟨hp.rev _ _, by omega, hr.2.1⟩) (ET o (hp.rev 0 m) (n - m) m h1 (by omega) (Th hp.size hm hd)))
theorem Ym (o : Ord lt) {p : Array Nat} (hp : Pm n p) {m : Nat} (hm : m + 1 ≤ n) (hd : Dn lt p (m + 1)) : KOk n lt (kas_descPart m n p) (Cnt n lt) := by
 unfold kas_descPart
 refine KOk.bind (KOk.mono (fun r hr => ?_) (XJ o (n - (m + 1)) p (m + 1) 0 hp (by omega) (by omega) hd fun i j a1 a2 a3 a4 => ?_))
 ·obtain ⟨h1, h2, h3, h4, h5⟩ := hr
  split
  ·exact EK o (h1.rev _ _) (by omega) (by omega) (D4 h1.size (by omega) h3 h4 h5)
  ·exact EK o h1 (by omega) (by omega) h4
 ·rw [show i = m by omega, show j = m by omega]
  exact o.refl _
theorem HL (o : Ord lt) {p : Array Nat} (hp : Pm n p) (hn : 1 ≤ n) : KOk n lt (kas_count n p) (Cnt n lt) := by
 unfold kas_count
 refine KOk.bind (KOk.mono (fun m hm => ?_) (ET o hp (n - 1) 1 (Nat.le_refl _) (by omega) fun i j hij hj => ?_))
 ·obtain ⟨⟨h1, h2⟩, hu, hx⟩ := hm
  split
  ·exact ⟨hp, by omega, hu⟩
  ·rename_i hne
   have hne : m ≠ n := by simpa using hne
   have hlt : lt (at' p m) (at' p (m - 1)) = true := by
    rcases hx with z | z
    ·omega
    ·exact z
   have le0 : Le lt (at' p m) (at' p (m - 1)) := o.asym _ _ hlt
   split
   ·refine ⟨hp.below (by omega), hp.below (by omega), hp.inj (by omega) (by omega) (by omega), ?_⟩
    cases hc : lt (p.getD 0 0) (p.getD (m - 1) 0) with
    | true =>
     show KOk n lt (if true = true then _ else _) _
     rw [if_pos rfl]
     exact ⟨hp, by omega, hu⟩
    | false =>
     show KOk n lt (if false = true then _ else _) _
     rw [if_neg Bool.false_ne_true]
     have all : ∀ i j, i < m → j < m → Le lt (at' p i) (at' p j) := fun i j hi hj => o.tran _ _ _ (o.tran _ _ _ (hu i (m - 1) (by omega) (by omega)) hc) (hu 0 j (by omega) hj)
     refine Ym o (hp.rev _ _) (by omega) fun i j hij hj => ?_
     have hs := hp.size
     rw [VH (by omega), VH (by omega)]
     by_cases c : j < m
     ·rw [if_pos (by omega), if_pos (by omega)]
      exact all _ _ (by omega) (by omega)
     ·rw [if_neg (by omega), show j = m by omega]
      split
      ·exact o.tran _ _ _ le0 (all _ _ (by omega) (by omega))
      ·rw [show i = m by omega]
       exact o.refl _
   ·refine Ym o hp (by omega) fun i j hij hj => ?_
    have em : m = 1 := by omega
    subst em
    by_cases c : i = j
    ·subst c
     exact o.refl _
    ·rw [show i = 0 by omega, show j = 1 by omega]
     exact le0
 ·rw [show i = 0 by omega, show j = 0 by omega]
  exact o.refl _
theorem X8 (o : Ord lt) {p : Array Nat} (hp : Pm n p) {k : Nat} (hk : k < n) (hu : Up lt p k) : ∀ (f l r : Nat), l ≤ r → r ≤ k → r - l ≤ f → (∀ i, i < l → Le lt (at' p i) (at' p k)) → (∀ i, r ≤ i → i < k → Le lt (at' p k) (at' p i)) →
  KOk n lt (kas_place p k f l r) fun x => x ≤ k ∧ (∀ i, i < x → Le lt (at' p i) (at' p k)) ∧ ∀ i, x ≤ i → i < k → Le lt (at' p k) (at' p i)
 | 0, l, r, h1, h2, h3, hl, hr => ⟨by omega, hl, fun i a b => hr i (by omega) b⟩
 | f + 1, l, r, h1, h2, h3, hl, hr => by
  unfold kas_place
  split
  ·exact ⟨by omega, hl, fun i a b => hr i (by omega) b⟩
  ·refine ⟨hp.below hk, hp.below (by omega), hp.inj hk (by omega) (by omega), ?_⟩
   cases hc : lt (p.getD k 0) (p.getD ((l + r) / 2) 0) with
   | true =>
    show KOk n lt (if true = true then _ else _) _
    rw [if_pos rfl]
    exact X8 o hp hk hu f l _ (by omega) (by omega) (by omega) hl fun i a b => o.tran _ _ _ (o.asym _ _ hc) (hu _ _ a b)
   | false =>
    show KOk n lt (if false = true then _ else _) _
    rw [if_neg Bool.false_ne_true]
    exact X8 o hp hk hu f _ r (by omega) h2 (by omega) (fun i a => o.tran _ _ _ (hu i ((l + r) / 2) (by omega) (by omega)) hc) hr
theorem NA (o : Ord lt) : ∀ (f : Nat) (p : Array Nat) (k : Nat), Pm n p → k + f = n → Up lt p k → KOk n lt (kas_bin f p k) fun q => Pm n q ∧ Up lt q n
 | 0, p, k, hp, hk, hu => ⟨hp, by rw [← hk]; exact hu⟩
 | f + 1, p, k, hp, hk, hu => by
  have hs := hp.size
  unfold kas_bin
  refine KOk.bind (KOk.mono (fun l hl => ?_) (X8 o hp (by omega) hu k 0 k (by omega) (Nat.le_refl _) (by omega) (fun i a => (by omega)) fun i a b => (by omega)))
  obtain ⟨l1, l2, l3⟩ := hl
  refine NA o f _ (k + 1) (hp.bub _ _) (by omega) fun i j hij hj => ?_
  rw [N7 (by omega) l1, N7 (by omega) l1]
  by_cases ci : i = l
  ·rw [if_pos ci]
   by_cases cj : j = l
   ·rw [if_pos cj]
    exact o.refl _
   ·rw [if_neg cj, if_pos (by omega)]
    exact l3 _ (by omega) (by omega)
  ·rw [if_neg ci]
   by_cases cj : j = l
   ·rw [if_pos cj, if_neg (by omega)]
    exact l2 _ (by omega)
   ·rw [if_neg cj]
    split
    ·rw [if_pos (by omega)]
     exact hu _ _ (by omega) (by omega)
    ·split
     ·exact hu _ _ (by omega) (by omega)
     ·exact hu _ _ hij (by omega)
theorem Oz (o : Ord lt) (hn : 1 ≤ n) : KOk n lt (kas_sort n) fun q => Pm n q ∧ Up lt q n := by
 unfold kas_sort
 refine KOk.bind (KOk.mono (fun r hr => ?_) (HL o (p := (List.range n).toArray) (Array.Perm.refl _) hn))
 obtain ⟨h1, h2, h3⟩ := hr
 split
 ·refine NA o _ _ _ h1 (by omega) fun i j hij hj => ?_
  by_cases c : 1 ≤ r.1
  ·rw [show max r.1 1 = r.1 by omega] at hj
   exact h3 i j hij hj
  ·rw [show i = 0 by omega, show j = 0 by omega]
   exact o.refl _
 ·rw [show r.1 = n by omega] at h3
  exact ⟨h1, h3⟩
end
end DL
namespace DL
open PySem PySem.Spec PyProof.Rows L2 PySem.W
section
variable {prog : Program} {w : World} {A : Around} {E : Value → Shared → Prop} {s : Shared} {lt : Nat → Nat → Bool}
theorem TH {p : Array Nat} {m : Nat} (o : Ord lt) (h : m < 2) : Up lt p m := fun i j hij hj => by
 rw [show i = j by omega]
 exact o.refl _
noncomputable abbrev W0 (vs : List Value) (q : Array Nat) : Array Value := List.toArray (q.toList.map fun i => vs.getD i Value.none)
theorem CN (vs : List Value) : W0 vs (List.range vs.length).toArray = vs.toArray := by
 apply Array.toList_inj.mp
 show (List.range vs.length).map (fun i => vs.getD i Value.none) = vs
 apply List.ext_getElem?
 intro i
 rw [List.getElem?_map]
 by_cases h : i < vs.length
 ·rw [List.getElem?_range h, List.getElem?_eq_getElem h]
  simp [h]
 ·rw [List.getElem?_eq_none (by simpa using h), List.getElem?_eq_none (by simpa using h)]
  rfl
theorem WL {kd : SortKind} (o : Ord lt) {a : Addr} {vs : List Value} {c : Nat} {P : PySem.Fin → Shared → Prop} (gx : s.heap.get? a = some (seqObj "list" vs.toArray c)) (few : vs.length < 64)
  (kind : 2 ≤ vs.length → ∀ h1 : Heap, (∀ b u, b ≠ a → s.heap.get? b = some u → h1.get? b = some u) → ∀ R : SortKind → Shared → Prop, R kd { s with heap := h1 } → wpAny (model prog w) A (keyKind' vs.toArray) R E { s with heap := h1 })
  (ask : ∀ h1 : Heap, (∀ b u, b ≠ a → s.heap.get? b = some u → h1.get? b = some u) → ∀ i j, i < vs.length → j < vs.length → i ≠ j → ∀ C : Bool → Shared → Prop, C (lt i j) { s with heap := h1 } →
   wpAny (model prog w) A (keyLt' kd (vs.getD i Value.none) (vs.getD j Value.none)) C (fun _ _ => False) { s with heap := h1 })
  (fin : ∀ q, Pm vs.length q → Up lt q vs.length → P (.done (.ret .none)) { s with heap := sortedHeap s.heap a vs (W0 vs q) }) : wpAny (model prog w) A (Builtin.«list.sort» ⟨[.ref a], []⟩) P E s := by
 rw [list_sort_plain]
 have la : a < s.heap.objs.size := Heap.lt_size gx
 have line : vs.toArray.size ≤ sizeLine := by rw [List.size_toArray, sizeLine_eq]; omega
 obtain ⟨e1, g1⟩ : ∃ e1, (s.heap.update a (Obj.mapSeq fun _ => (#[] : Array Value))).get? a = some (seqObj "list" #[] e1) := ⟨_, get?_update_seq gx fun _ => #[]⟩
 have g6 : (((s.heap.update a (Obj.mapSeq fun _ => (#[] : Array Value))).push (seqObj "tuple" vs.toArray 0)).push (seqObj "list" #[] 0)).get? a = some (seqObj "list" #[] e1) := Heap.get?_push_of_some _ (Heap.get?_push_of_some _ g1)
 have keep : ∀ b u, b ≠ a → s.heap.get? b = some u → (((s.heap.update a (Obj.mapSeq fun _ => (#[] : Array Value))).push (seqObj "tuple" vs.toArray 0)).push (seqObj "list" #[] 0)).get? b = some u := fun b u hb e =>
  Heap.get?_push_of_some _ (Heap.get?_push_of_some _ (by rw [Heap.get?_update_ne _ _ _ _ hb]; exact e))
 refine wpAny_bind (listItems_at gx rfl (wpAny_bind (listUpdate_at gx rfl (wpAny_bind (seqEpoch_at g1 rfl (wpAny_bind (wpAny_newTuple (wpAny_bind (wpAny_newList (wpAny_holding ?_) (Nat.zero_le _))) (by simpa using line))))) line (Nat.zero_le _))))
 show wpAny (model prog w) A _ P E { s with heap := ((s.heap.update a (Obj.mapSeq fun _ => (#[] : Array Value))).push (seqObj "tuple" vs.toArray 0)).push (seqObj "list" #[] 0) }
 dsimp only
 have osz : ∀ q, Pm vs.length q → (W0 vs q).size ≤ sizeLine + 1 := fun q hq => by
  have := hq.size
  rw [List.size_toArray, List.length_map, Array.length_toList, sizeLine_eq]
  omega
 by_cases two : vs.toArray.size < 2
 ·have pm : Pm vs.length (List.range vs.length).toArray := Array.Perm.refl _
  have f := fin _ pm (TH o (by simpa using two))
  rw [CN] at f
  have es : (vs.toArray.zip vs.toArray).map (·.2) = vs.toArray := by
   apply Array.toList_inj.mp
   rw [Array.toList_map, Array.toList_zip]
   exact List.map_snd_zip (Nat.le_refl _)
  rw [if_pos two, if_pos two]
  refine wpAny_bind (wpAny_pure (by
   rw [StateT.run_pure]
   refine wpAny_bind (wpAny_pure ?_)
   dsimp only
   refine wpAny_bind (seqEpoch_at g6 rfl (wpAny_bind (listUpdate_at g6 rfl ?_ (Nat.zero_le _) ?_)))
   ·simp only [bne_self_eq_false, Bool.false_eq_true, if_false]
    refine wpAny_pure ?_
    show P _ { s with heap := sortedHeap s.heap a vs ((vs.toArray.zip vs.toArray).map (·.2)) }
    rw [es]
    exact f
   ·show ((vs.toArray.zip vs.toArray).map (·.2)).size ≤ _
    rw [es]
    exact Nat.le_succ_of_le line))
 ·rw [if_neg two, if_neg two]
  have two' : 2 ≤ vs.length := by simpa using two
  refine wpAny_bind (kind two' _ keep _ ?_)
  refine wpAny_bind (wpAny_mono (kat_run (κ := kd) (Q := fun st' s' => ∃ p : Array Nat, Pm vs.length p ∧ Up lt p vs.length ∧ arrOf st' = p.map (kas_item (vs.toArray.zip vs.toArray)) ∧ failedOf st' = none ∧
    s' = { s with heap := ((s.heap.update a (Obj.mapSeq fun _ => (#[] : Array Value))).push (seqObj "tuple" vs.toArray 0)).push (seqObj "list" #[] 0) })
   (G := fun p s' => (Pm vs.length p ∧ Up lt p vs.length) ∧ s' = { s with heap := ((s.heap.update a (Obj.mapSeq fun _ => (#[] : Array Value))).push (seqObj "tuple" vs.toArray 0)).push (seqObj "list" #[] 0) })
   rfl two' few (fun p st' s' _ b c d => ⟨p, d.1.1, d.1.2, b, c, d.2⟩)
   (KOk.wp (S := fun s' => s' = { s with heap := ((s.heap.update a (Obj.mapSeq fun _ => (#[] : Array Value))).push (seqObj "tuple" vs.toArray 0)).push (seqObj "list" #[] 0) })
    (fun i j hi hj hn s' hs C hC => by rw [hs]; exact ask _ keep i j hi hj hn C (hC _ rfl)) (fun p s' h hs => ⟨h, hs⟩) (Oz o (by omega)) rfl)) ?_ fun _ _ z => z)
  rintro ⟨⟨⟩, st'⟩ s' ⟨p, pm, pu, har, hf, rfl⟩
  dsimp only
  have es : (arrOf st').map (·.2) = W0 vs p := kat_snds rfl har
  refine wpAny_bind (seqEpoch_at g6 rfl (wpAny_bind (listUpdate_at g6 rfl ?_ (Nat.zero_le _) ?_)))
  ·rw [hf]
   simp only [bne_self_eq_false, Bool.false_eq_true, if_false]
   refine wpAny_pure ?_
   show P _ { s with heap := sortedHeap s.heap a vs ((arrOf st').map (·.2)) }
   rw [es]
   exact fin p pm pu
  ·rw [es]
   exact osz p pm
theorem G7 {kd : SortKind} (o : Ord lt) {l : Addr} {vs : List Value} {Q : Value → Shared → Prop} (gl : s.heap.IsList l vs.toArray) (few : vs.length < 64)
  (kind : 2 ≤ vs.length → ∀ h1 : Heap, (∀ b u, s.heap.get? b = some u → h1.get? b = some u) → ∀ (E' : Value → Shared → Prop) (R : SortKind → Shared → Prop), R kd { s with heap := h1 } → wpAny (model prog w) A.in1.in1 (keyKind' vs.toArray) R E' { s with heap := h1 })
  (ask : ∀ h1 : Heap, (∀ b u, s.heap.get? b = some u → h1.get? b = some u) → ∀ i j, i < vs.length → j < vs.length → i ≠ j → ∀ C : Bool → Shared → Prop, C (lt i j) { s with heap := h1 } →
   wpAny (model prog w) A.in1.in1 (keyLt' kd (vs.getD i Value.none) (vs.getD j Value.none)) C (fun _ _ => False) { s with heap := h1 })
  (fin : ∀ q, Pm vs.length q → Up lt q vs.length → Q (.ref (s.heap.objs.size + 1)) { s with heap := sortedAll s.heap vs (W0 vs q) }) : wpAny (model prog w) A (call (.builtin "sorted") [.ref l]) Q E s := by
 have line : vs.length ≤ sizeLine := by rw [sizeLine_eq]; omega
 have hz : ((s.heap.push (seqObj "list" #[] 0)).update s.heap.objs.size (Obj.mapSeq (· ++ vs.toArray))).objs.size = s.heap.objs.size + 1 := (Heap.size_update _ _ _).trans (size_push' _ _)
 have g0 : (((s.heap.push (seqObj "list" #[] 0)).update s.heap.objs.size (Obj.mapSeq (· ++ vs.toArray))).push (seqObj "list" vs.toArray 0)).get? (s.heap.objs.size + 1) = some (seqObj "list" vs.toArray 0) := hz ▸ Heap.get?_push_size _ rfl
 have old : ∀ b u, s.heap.get? b = some u → b ≠ s.heap.objs.size + 1 ∧ (((s.heap.push (seqObj "list" #[] 0)).update s.heap.objs.size (Obj.mapSeq (· ++ vs.toArray))).push (seqObj "list" vs.toArray 0)).get? b = some u := fun b u e => by
  have hb := Heap.lt_size e
  refine ⟨Nat.ne_of_lt (Nat.lt_succ_of_lt hb), Heap.get?_push_of_some _ ?_⟩
  rw [Heap.get?_update_ne _ _ _ _ (Nat.ne_of_lt hb)]
  exact Heap.get?_push_of_some _ e
 refine Calls.call_function_entry kind_sorted plain_sorted entry_sorted (args_sorted1 _) ?_
 unfold Builtin.«sorted»
 refine wpAny_bind (m := checkCount "sorted" 1 1 _) (wpAny_pure (wpAny_bind (collect_list gl (wpAny_bind (wpAny_newList ?_ line)) line)))
 show wpAny _ _ _ _ _ { s with heap := ((s.heap.push (seqObj "list" #[] 0)).update s.heap.objs.size (Obj.mapSeq (· ++ vs.toArray))).push (seqObj "list" vs.toArray 0) }
 rw [hz]
 refine wpAny_bind (wpAny_holding (wpAny_call_entry slot_list_sort ⟨_, g0, rfl⟩ entry_list_sort ?_ (args_list_sort _)))
 refine WL (kd := kd) (s := { s with heap := ((s.heap.push (seqObj "list" #[] 0)).update s.heap.objs.size (Obj.mapSeq (· ++ vs.toArray))).push (seqObj "list" vs.toArray 0) }) o g0 few (fun h2 h1 k R hR => ?_) (fun h1 k i j hi hj hn C hC => ?_) fun q pm pu => ⟨_, rfl, wpAny_pure ⟨_, rfl, fin q pm pu⟩⟩
 ·exact kind h2 h1 (fun b u e => k b u (old b u e).1 (old b u e).2) _ R hR
 ·exact ask h1 (fun b u e => k b u (old b u e).1 (old b u e).2) i j hi hj hn C hC
end
noncomputable def Hb : PyData → Option Str
 | .tuple (.str s :: _) => some s
 | _ => none
theorem Oi {d : PyData} {s : Str} (h : Hb d = some s) : ∃ r, d = .tuple (.str s :: r) := by
 unfold Hb at h
 split at h
 ·cases h
  exact ⟨_, rfl⟩
 ·cases h
noncomputable def ltK (ks : List Str) (i j : Nat) : Bool := decide ((ks.getD i Str.empty).cps.toList < (ks.getD j Str.empty).cps.toList)
theorem RL (ks : List Str) : Ord (ltK ks) := by
 refine ⟨fun a b h => ?_, fun a b c h1 h2 => ?_⟩
 ·have h' := of_decide_eq_true h
  exact decide_eq_false fun z => absurd (List.lt_trans h' z) (List.lt_irrefl _)
 ·have h1' := of_decide_eq_false h1
  have h2' := of_decide_eq_false h2
  refine decide_eq_false fun z => ?_
  have a1 := List.not_lt.mp h1'
  have a2 := List.not_lt.mp h2'
  exact absurd z (List.not_lt.mpr (List.le_trans a1 a2))
section
variable {X : Cx}
noncomputable def Zaq (K : PySem.W.Frag) : List V → Hp → VK → Prop := fun xs H Q => ∃ (p : Addr) (M : Mp) (vs : List V) (ds : List PyData) (ks : List Str), xs = [.ref p] ∧ SqL K H p vs ∧ Dts K M H vs ds ∧ ds.map Hb = ks.map some ∧ ks.Nodup ∧ ds.length < 64 ∧
 ∀ q, Pm ds.length q → Up (ltK ks) q ds.length → ∀ l, H l = none → Q (.ref l) (upd H l (.lst (q.toList.map fun i => vs.getD i .non)))
theorem KL : JU X (.builtin "sorted") (Zaq X.K) := by
 intro pins s σ H xs us Q I r h
 obtain ⟨p, M, vs, ds, ks, rfl, hq, hd, hk, nd, few, q⟩ := h
 obtain ⟨u, rfl, rx⟩ := vals1 r
 cases rx
 obtain ⟨its, rv, pl, _⟩ := I.list hq
 have n1 := rv.length
 have n2 := hd.length
 have n3 : ds.length = ks.length := by have := congrArg List.length hk; simpa using this
 have row : ∀ i, i < its.length → ∃ (a : Addr) (ob : Obj) (js : List Value) (c : Nat) (t : Tok), its[i]? = some (.ref a) ∧ s.heap.get? a = some ob ∧ ob.cls = .type "tuple" ∧ ob.data = .seq js.toArray c ∧ js[0]? = some (.str (ks.getD i Str.empty) t) := fun i hi => by
  have hi1 : i < ds.length := by omega
  obtain ⟨v, ev, dv⟩ := hd.get (i := i) (d := ds[i]) (by simp [hi1])
  obtain ⟨u, eu, ru⟩ := rv.get ev
  have ek : Hb ds[i] = some (ks.getD i Str.empty) := by
   have := congrArg (·[i]?) hk
   simp only [List.getElem?_map, List.getElem?_eq_getElem hi1, List.getElem?_eq_getElem (show i < ks.length by omega), Option.map_some] at this
   rw [Option.some.inj this, List.getD_eq_getElem?_getD, List.getElem?_eq_getElem (show i < ks.length by omega)]
   rfl
  obtain ⟨rs, er⟩ := Oi ek
  rw [er] at dv
  cases dv with
  | tup t1 t2 =>
   cases (show u = .ref _ from ru)
   obtain ⟨js, rt, ⟨ob, ho, hc, c, hd⟩, _⟩ := I.tuple t1.sq
   cases t2 with
   | cons a1 a2 =>
    cases a1
    cases rt with
    | cons b1 b2 =>
     obtain ⟨t, rfl⟩ := b1
     exact ⟨_, ob, _, c, t, eu, ho, hc, hd, rfl⟩
 have some_ : ∀ i, i < its.length → its[i]? = some (its.getD i Value.none) := fun i hi => by simp [hi]
 refine G7 (kd := tuples' true) (RL ks) pl.isList (by omega) (fun two h1 kp E' R hR => ?_) (fun h1 kp i j hi hj hn C hC => ?_) fun q' pm pu => ?_
 ·have tups : ∀ (l : List Value), (∀ v ∈ l, ∃ (a : Addr) (ob : Obj) (js : List Value) (c : Nat) (z : Str) (t : Tok), v = .ref a ∧ s.heap.get? a = some ob ∧ ob.cls = .type "tuple" ∧ ob.data = .seq js.toArray c ∧ js[0]? = some (.str z t)) →
    ∃ fs, KatTups h1 l fs ∧ fs.length = l.length ∧ ∀ v ∈ fs, ∃ z t, v = Value.str z t := fun l => by
   induction l with
   | nil => intro _; exact ⟨[], .nil, rfl, fun v hv => (nomatch hv)⟩
   | cons v l ih =>
    intro hl
    obtain ⟨a, ob, js, c, z, t, rfl, ho, hc, hd, hf⟩ := hl v List.mem_cons_self
    obtain ⟨fs, i1, i2, i3⟩ := ih fun v hv => hl v (List.mem_cons_of_mem _ hv)
    refine ⟨.str z t :: fs, .cons (kp a ob ho) hc hd (by simpa using hf) i1, by rw [List.length_cons, List.length_cons, i2], fun v hv => ?_⟩
    rcases List.mem_cons.mp hv with rfl | hv
    ·exact ⟨z, t, rfl⟩
    ·exact i3 v hv
  obtain ⟨fs, k1, k2, k3⟩ := tups its fun v hv => by
   obtain ⟨i, hi, rfl⟩ := List.getElem_of_mem hv
   obtain ⟨a, ob, js, c, t, e, r⟩ := row i hi
   rw [List.getElem?_eq_getElem hi] at e
   exact ⟨a, ob, js, c, _, t, Option.some.inj e, r⟩
  exact kat_kind (T := Value.type "str") (s := { s with heap := h1 }) k1 (by omega) (fun v hv => by obtain ⟨z, t, rfl⟩ := k3 v hv; exact .now) rfl hR
 ·obtain ⟨a, ob, js, c, t, e, ho, hc, hd, hf⟩ := row i hi
  obtain ⟨a', ob', js', c', t', e', ho', hc', hd', hf'⟩ := row j hj
  have e1 : its.getD i Value.none = .ref a := by have := some_ i hi; rw [e] at this; exact (Option.some.inj this).symm
  have e2 : its.getD j Value.none = .ref a' := by have := some_ j hj; rw [e'] at this; exact (Option.some.inj this).symm
  have ne : ks.getD i Str.empty ≠ ks.getD j Str.empty := fun z => by
   have hi2 : i < ks.length := by omega
   have hj2 : j < ks.length := by omega
   simp only [List.getD_eq_getElem?_getD, List.getElem?_eq_getElem hi2, List.getElem?_eq_getElem hj2, Option.getD_some] at z
   exact hn (Yx nd hi2 hj2 z)
  rw [e1, e2]
  refine kat_lt (s := { s with heap := h1 }) (kp a ob ho) hd (kp a' ob' ho') hd' ?_
  match js, js', hf, hf' with
  | x :: r1, y :: r2, hf, hf' =>
   cases Option.some.inj hf
   cases Option.some.inj hf'
   refine kat_cons (eqBool_str (kat_go (fun z => ?_) fun _ => kat_no (oneLt_str ?_)))
   ·exact absurd (by simpa using z) ne
   ·exact hC
 ·obtain ⟨e, he⟩ := sortedAll_at s.heap its (W0 its q')
  have hn : H (s.heap.objs.size + 1) = none := I.hok.fresh (Nat.le_succ _)
  have el : its.length = ds.length := by omega
  rw [el] at pm pu
  have hz := pm.size
  refine ⟨.ref (s.heap.objs.size + 1), _, I.laid (t' := s.toks) (a := s.heap.objs.size + 1) (o := .lst (q'.toList.map fun i => vs.getD i .non)) (fun _ _ => sortedAll_old) (Nat.le_succ _) ?_, rfl, q q' pm pu _ hn⟩
  refine ⟨?_, q'.toList.map fun i => its.getD i Value.none, e, ?_, he⟩
  ·rw [List.length_map, Array.length_toList, sizeLine_eq]
   omega
  ·have go : ∀ l : List Nat, (∀ i ∈ l, i < its.length) → Vals (l.map fun i => vs.getD i V.non) (l.map fun i => its.getD i Value.none) := fun l => by
    induction l with
    | nil => intro _; exact .nil
    | cons i l ih =>
     intro hl
     have hi := hl i List.mem_cons_self
     have hi1 : i < vs.length := by omega
     obtain ⟨u, eu, ru⟩ := rv.get (i := i) (x := vs[i]) (by simp [hi1])
     refine .cons ?_ (ih fun j hj => hl j (List.mem_cons_of_mem _ hj))
     have x1 : vs.getD i V.non = vs[i] := by simp [hi1]
     have x2 : its.getD i Value.none = u := by have := some_ i hi; rw [eu] at this; exact (Option.some.inj this).symm
     show L2.RelV (vs.getD i V.non) (its.getD i Value.none)
     rw [x1, x2]
     exact ru
   refine go _ fun i hi => ?_
   obtain ⟨k, hk, rfl⟩ := List.getElem_of_mem hi
   have := pm.below (k := k) (by rw [Array.length_toList] at hk; omega)
   rw [el]
   simpa [at', show k < q'.size by simpa using hk] using this
noncomputable def leK (a b : PyData) : Prop := ∀ s t, Hb a = some s → Hb b = some t → ¬ t.cps.toList < s.cps.toList
theorem ZaJ {ds : List PyData} {ks : List Str} (hk : ds.map Hb = ks.map some) {i : Nat} (hi : i < ds.length) : Hb (ds.getD i .none) = some (ks.getD i Str.empty) := by
 have n3 : ds.length = ks.length := by have := congrArg List.length hk; simpa using this
 have := congrArg (·[i]?) hk
 simp only [List.getElem?_map, List.getElem?_eq_getElem hi, List.getElem?_eq_getElem (show i < ks.length by omega), Option.map_some] at this
 rw [List.getD_eq_getElem?_getD, List.getD_eq_getElem?_getD, List.getElem?_eq_getElem hi, List.getElem?_eq_getElem (show i < ks.length by omega)]
 exact Option.some.inj this
theorem map_range {α : Type} (l : List α) (d : α) : (List.range l.length).map (fun i => l.getD i d) = l := by
 apply List.ext_getElem?
 intro i
 rw [List.getElem?_map]
 by_cases h : i < l.length
 ·rw [List.getElem?_range h, List.getElem?_eq_getElem h]
  simp [h]
 ·rw [List.getElem?_eq_none (by simpa using h), List.getElem?_eq_none (by simpa using h)]
  rfl
noncomputable def Fz : D1 := fun xs M Φ => on1 xs fun x => onK x M fun ds => ∃ ks : List Str, ds.map Hb = ks.map some ∧ ks.Nodup ∧ ds.length < 64 ∧ ∀ ds' : List PyData, ds'.Perm ds → ds'.Pairwise leK → Φ (.dat (.list ds')) M
theorem Dx (xs : List DV) (M : Mp) (Φ : DK) : Fz xs M Φ = (on1 xs fun x => onK x M fun ds => ∃ ks : List Str, ds.map Hb = ks.map some ∧ ks.Nodup ∧ ds.length < 64 ∧ ∀ ds' : List PyData, ds'.Perm ds → ds'.Pairwise leK → Φ (.dat (.list ds')) M) := propext Iff.rfl
theorem Bv : J1 X (.builtin "sorted") Fz := by
 refine ⟨_, KL, fun vs H xs M Φ Q r rv h k => ?_⟩
 replace h := Z9 h
 obtain ⟨x, rfl, h⟩ := h
 replace h := Jd h
 obtain ⟨ds, hx, ks, hk, nd, few, q⟩ := h
 replace hx : BZ x M ds := hx
 obtain ⟨v, rfl, h1⟩ := Paired.one rv
 obtain ⟨a, ys, rfl, g1, g2⟩ := hx.sq r h1
 refine ⟨a, M, ys, ds, ks, rfl, g1, g2, hk, nd, few, fun p pm pu l hl => ?_⟩
 have hz := pm.size
 have pl : p.toList.Perm (List.range ds.length) := by
  have := Array.perm_iff_toList_perm.mp pm
  simpa using this
 have go : ∀ l : List Nat, (∀ i ∈ l, i < ds.length) → Dts X.K M H (l.map fun i => ys.getD i V.non) (l.map fun i => ds.getD i PyData.none) := fun l => by
  induction l with
  | nil => intro _; exact .nil
  | cons i l ih =>
   intro hl
   have hi := hl i List.mem_cons_self
   obtain ⟨v, ev, dv⟩ := g2.get (i := i) (d := ds[i]) (by simp [hi])
   refine .cons ?_ (ih fun j hj => hl j (List.mem_cons_of_mem _ hj))
   show Dt X.K M H (ys.getD i V.non) (ds.getD i PyData.none)
   rw [List.getD_eq_getElem?_getD, List.getD_eq_getElem?_getD, ev, List.getElem?_eq_getElem hi]
   exact dv
 have mem : ∀ i ∈ p.toList, i < ds.length := fun i hi => by
  have := pl.mem_iff.mp hi
  simpa using this
 refine k.dat (r.new hl) (Step.new hl) (Dt.Vc r hl (go _ mem)) (q _ ?_ ?_)
 ·have := pl.map fun i => ds.getD i PyData.none
  rwa [map_range] at this
 ·rw [List.pairwise_iff_getElem]
  intro i j hi hj hij s t es et
  rw [List.length_map] at hi hj
  rw [List.getElem_map] at es et
  have hi' : i < p.size := by simpa using hi
  have hj' : j < p.size := by simpa using hj
  rw [ZaJ hk (mem _ (List.getElem_mem _))] at es et
  have u := pu i j (by omega) (by omega)
  have u' := of_decide_eq_false u
  have a1 : at' p i = p.toList[i] := by simp [at', hi']
  have a2 : at' p j = p.toList[j] := by simp [at', hj']
  rw [a1, a2] at u'
  rw [Option.some.inj es, Option.some.inj et] at u'
  exact u'
end
end DL
namespace DL
open PySem PySem.Spec PyProof.Rows L2 PySem.W
section
variable {prog : Program} {w : World} {A : Around} {E : Value → Shared → Prop} {s : Shared}
theorem R5 : typeLookup (.type "list") "keys" = pure none := am_miss_of_fast (by decide +kernel)
theorem Ro : typeLookup (.type "list") "__getattr__" = pure none := am_miss_of_fast (by decide +kernel)
noncomputable def LAt (a : Addr) (h : Heap) : Prop := ∃ xs n sl, h.get? a = some { cls := .type "list", data := .seq xs n, slots := sl }
theorem Om {a : Addr} {u : Tok} {Q : PySem.Fin → Shared → Prop} (hl : LAt a s.heap) (hA : A.handled = none) (h : ∀ h' tk e, Heap.NewAttrErr s.heap h' e (.ref a) "keys" → E (.ref e) { s with heap := h', toks := tk }) :
  wpAny (model prog w) A (Builtin.«object.__getattribute__» ⟨[.ref a, .str "keys" u], []⟩) Q E s := by
 obtain ⟨xs, n, sl, hx⟩ := hl
 obtain ⟨hp, g, d, tk, os⟩ := s
 have hT : (⟨hp, g, d, tk, os⟩ : Shared).TypeIs (.ref a) "list" := ⟨_, hx, rfl⟩
 have f4 := R5
 unfold Builtin.«object.__getattribute__»
 repeat any_goals first | wp_step | assumption
 exact wpAny_raiseAttrError hA h (attrMsg_fits (by decide +kernel) (by decide +kernel))
theorem ZbF {a : Addr} {Q : Option Value → Shared → Prop} (hl : LAt a s.heap) (hA : A.handled = none) (h : ∀ h' tk, (∀ b ob, s.heap.get? b = some ob → h'.get? b = some ob) → Q none { s with heap := h', toks := tk }) :
  wpAny (model prog w) A (getAttr? (.ref a) "keys") Q E s := by
 obtain ⟨hp, g, d, tk, os⟩ := s
 obtain ⟨xs, n, sl, hx⟩ := id hl
 have hT : ∀ t', (⟨hp, g, d, t', os⟩ : Shared).TypeIs (.ref a) "list" := fun t' => ⟨_, hx, rfl⟩
 have f1 := sub_AttributeError
 have f3 := F.slot_list_getattribute.lookup
 have f4 := F.slot_list_getattribute.bind (.ref a)
 have f5 := Ro
 unfold getAttr? getAttrBy? getAttrBy
 repeat any_goals first | wp_step | assumption
 refine codeAny_call_builtin F.slot_list_getattribute.plain F.entry_list_ga (F.slot_list_getattribute.check _ _ _ _ _ _ _ _ (hT _) (F.args_list_getattribute_2 _ _) (Om hl hA fun h' tk' e hx => ?_))
 obtain ⟨t', u', he⟩ := hx.there
 have hK := hx.keeps
 show wpAny _ _ (getattributeRaised _ _ _ _ _ _ _) _ _ _
 unfold getattributeRaised
 repeat any_goals first | wp_step | assumption
 exact h _ _ hK
theorem Bd : entryFor table "dict.update.loop" = some Builtin.«dict.update.loop» := entryFor_of_tree (by kernel_rfl)
theorem XG : plainId "dict.update.loop" = true := by decide +kernel
variable {K : Type} [DecidableEq K] {knd : KeyKind prog w K}
theorem B8 (kvs : List (K × Value)) (k : K) (v : Value) : (stored kvs k v).length ≤ kvs.length + 1 := by
 unfold stored
 split
 ·rw [List.length_map]
  omega
 ·rw [List.length_append, List.length_singleton]
  exact Nat.le_refl _
noncomputable def MX (h : Heap) (v key val : Value) : Prop := ∃ a o c, v = .ref a ∧ h.get? a = some o ∧ o.cls = .type "tuple" ∧ o.data = .seq #[key, val] c
theorem GP {D it l : Addr} {its : List Value} {res : Value} {R : Result → Shared → Prop} (hA : A.handled = none) (hDi : D ≠ it) (hDl : D ≠ l) (hil : it ≠ l) : ∀ (ps : List (K × Value)) (i : Nat) (s : Shared) (kvs : List (K × Value)), i + ps.length = its.length →
  s.heap.IsListIter it l i → s.heap.IsList l its.toArray → s.heap.DictOf knd D kvs → kvs.length + ps.length ≤ sizeLine →
  (∀ j p, ps[j]? = some p → ∃ v key, its[i + j]? = some v ∧ MX s.heap v key p.2 ∧ knd.is p.1 key = true ∧ v ≠ .ref D ∧ v ≠ .ref it) →
  (∀ h' t', (∀ b o, b ≠ D → b ≠ it → s.heap.get? b = some o → h'.get? b = some o) → h'.DictOf knd D (ps.foldl (fun m p => stored m p.1 p.2) kvs) → R (.ok (.ret res)) { s with heap := h', toks := t' }) →
  codeAny (model prog w) A (.builtin "dict.update.loop" ⟨[.ref D, .ref it, rawInt i, res], []⟩) R s
 | [], i, s, kvs, hn, h1, h2, h3, h4, h5, hR => by
  refine codeAny_builtin Bd ?_
  rw [Around.under_plainId XG _]
  show wpAny _ A.in1 (pyNext (.ref it) >>= _) _ _ s
  refine wpAny_bind (wpAny_pyNext_list_end (show A.in1.handled = none from hA) h1 h2 (by rw [List.getElem?_toArray, List.getElem?_eq_none_iff]; exact Nat.le_of_eq (by simpa using hn.symm)) fun h' eb => ?_)
  refine wpAny_bind ?_
  unfold Builtin.Dict.addKeywords
  refine wpAny_pure ?_
  exact wpAny_pure (hR h' s.toks (fun b o hb hi e => eb b o hi e) (h3.extBut eb hDi))
 | p :: ps, i, s, kvs, hn, h1, h2, h3, h4, h5, hR => by
  refine codeAny_builtin Bd ?_
  rw [Around.under_plainId XG _]
  show wpAny _ A.in1 (pyNext (.ref it) >>= _) _ _ s
  obtain ⟨v, key, e1, ⟨a, o, c, rfl, ho, hc, hd⟩, hk, n1, n2⟩ := h5 0 p rfl
  refine wpAny_bind (wpAny_pyNext_list_item h1 h2 (x := .ref a) (by simpa using e1) fun h' st sb => ?_)
  have ho' : h'.get? a = some o := (sb.2 a fun z => n2 (by rw [z])).trans ho
  dsimp only
  refine wpAny_bind (wpAny_holding ?_)
  have hT : ({ s with heap := h' } : Shared).TypeIs (.ref a) "tuple" := ⟨o, ho', hc⟩
  refine wpAny_bind (wpAny_tryCatch ?_)
  unfold Builtin.Dict.pairItems
  refine wpAny_bind (wpAny_typeOf hT ?_)
  rw [if_pos (by decide)]
  refine wpAny_bind (wpAny_seqItems ho' hd (wpAny_pure ?_))
  show wpAny _ _ (holding [key, p.2] (dictSet D key p.2)) _ _ _
  have h3' : h'.DictOf knd D kvs := h3.sameBut sb hDi
  refine wpAny_holding (wpAny_dictSet_pairs hk h3' (fun h2' dd sb2 => ?_) (by omega))
  refine wpAny_pure ⟨plainId_quiet XG _, ?_⟩
  have hal : ∀ b o, b ≠ D → b ≠ it → s.heap.get? b = some o → h2'.get? b = some o := fun b o z1 z2 e => (sb2.2 b z1).trans ((sb.2 b z2).trans e)
  have go := GP (its := its) (res := res) (R := R) hA hDi hDl hil ps (i + 1) { s with heap := h2', toks := s.toks + 1 } (stored kvs p.1 p.2) (by rw [List.length_cons] at hn; omega) ?_ ?_ dd ?_ (fun j q hj => ?_) fun h3 t3 k3 d3 => ?_
  ·rw [show (i : Int) + 1 = ((i + 1 : Nat) : Int) by omega]
   exact go
  ·exact st.at fun o e => (sb2.2 it (Ne.symm hDi)).trans e
  ·obtain ⟨ol, e1, e2⟩ := h2
   exact ⟨ol, hal l ol (Ne.symm hDl) (Ne.symm hil) e1, e2⟩
  ·have := B8 kvs p.1 p.2
   rw [List.length_cons] at h4
   omega
  ·obtain ⟨v, key', e1, ⟨a', o', c', rfl, ho2, hc2, hd2⟩, hk2, m1, m2⟩ := h5 (j + 1) q (by simpa using hj)
   exact ⟨_, key', by rw [show i + 1 + j = i + (j + 1) by omega]; exact e1, ⟨a', o', c', rfl, hal a' o' (fun z => m1 (by rw [z])) (fun z => m2 (by rw [z])) ho2, hc2, hd2⟩, hk2, m1, m2⟩
  ·exact hR h3 t3 (fun b o z1 z2 e => k3 b o z1 z2 (hal b o z1 z2 e)) d3
theorem Di {h h' : Heap} {a : Addr} {kvs : List (K × Value)} (hm : h.DictOf knd a kvs) (hk : ∀ o, h.get? a = some o → h'.get? a = some o) : h'.DictOf knd a kvs :=
 let ⟨o, es, ep, ho, r⟩ := hm
 ⟨o, es, ep, hk o ho, r⟩
theorem Yk {l : Addr} {its : List Value} {ps : List (K × Value)} {Q : Value → Shared → Prop} (hA : A.handled = none) (hl : LAt l s.heap) (hi : s.heap.IsList l its.toArray) (hn : ps.length = its.length) (hz : ps.length ≤ sizeLine)
  (hr : ∀ (j : Nat) (p : K × Value), ps[j]? = some p → ∃ v key, its[j]? = some v ∧ MX s.heap v key p.2 ∧ knd.is p.1 key = true)
  (hQ : ∀ h' t', (∀ b o, s.heap.get? b = some o → h'.get? b = some o) → h'.DictOf knd s.heap.objs.size (ps.foldl (fun m p => stored m p.1 p.2) []) → Q (.ref s.heap.objs.size) { s with heap := h', toks := t' }) :
  wpAny (model prog w) A (call (.type "dict") [.ref l]) Q E s := by
 refine callType_codes (Q₁ := fun obj s₁ => obj = .ref s.heap.objs.size ∧ s₁ = { s with heap := s.heap.push { cls := .type "dict", data := .dict #[] } }) F.kt_called_dict (F.kt_typeCall_dict_1 _) F.entry_dict_init (kt_code_dict_new _ ⟨rfl, rfl⟩) fun obj s₁ e => ?_
 obtain ⟨rfl, rfl⟩ := e
 have new : (s.heap.push { cls := .type "dict", data := .dict #[] }).DictOf knd s.heap.objs.size [] := Heap.DictOf.new s.heap
 obtain ⟨xs, n, sl, hx⟩ := id hl
 have hx1 : (s.heap.push { cls := .type "dict", data := .dict #[] }).get? l = some { cls := .type "list", data := .seq xs n, slots := sl } := Heap.get?_push_of_some _ hx
 have lt := Heap.lt_size hx
 refine ⟨new.typeIs, F.args_dict_init_2 _ _, ?_⟩
 unfold Builtin.«dict.__init__»; refine wpAny_bind ?_
 unfold Builtin.Dict.selfAndRest; refine wpAny_bind (wpAny_notOrdered_dict new.typeIs ?_)
 show wpAny _ _ (pure (s.heap.objs.size, [Value.ref l])) _ _ _
 refine wpAny_pure ?_
 show wpAny _ _ (Builtin.Dict.updateFrom "dict.__init__" s.heap.objs.size (.ref l) [] .none) _ _ _
 unfold Builtin.Dict.updateFrom; refine wpAny_bind (wpAny_typeOf (T := "list") ⟨_, hx1, rfl⟩ ?_)
 rw [if_pos (by decide)]
 refine wpAny_bind (ZbF ⟨xs, n, sl, hx1⟩ hA fun h2 t2 k2 => ?_)
 rw [if_pos (show (none : Option Value).isNone = true from rfl)]
 have k2' : ∀ b ob, s.heap.get? b = some ob → h2.get? b = some ob := fun b ob e => k2 b ob (Heap.get?_push_of_some _ e)
 have hi2 : h2.IsList l its.toArray := let ⟨o, e, r⟩ := hi; ⟨o, k2' l o e, r⟩
 have sz2 : s.heap.objs.size < h2.objs.size := by
  obtain ⟨o, _, _, e, _⟩ := new
  exact Heap.lt_size (k2 _ o e)
 refine wpAny_bind (wpAny_rule (wpAny_bind (wpAny_pyIter_list hi2 ?_)))
 refine wpAny_pure ⟨plainId_quiet XG _, ?_⟩
 have bnd : ∀ {a : Addr} {o : Obj}, s.heap.get? a = some o → a ≠ s.heap.objs.size ∧ a ≠ h2.objs.size := fun e => by
  have := Heap.lt_size e
  exact ⟨Nat.ne_of_lt this, Nat.ne_of_lt (Nat.lt_trans this sz2)⟩
 show codeAny _ A.in1 (.builtin "dict.update.loop" ⟨[.ref s.heap.objs.size, .ref h2.objs.size, rawInt ((0 : Nat) : Int), .none], []⟩) _ { s with heap := h2.push { cls := .type "list_iterator", data := .fields #[.ref l, .int 0 0] }, toks := t2 }
 refine GP (A := A.in1) (its := its) (l := l) (knd := knd) (ps := ps) (kvs := []) (i := 0) hA (Nat.ne_of_lt sz2) (Ne.symm (bnd hx).1) (Ne.symm (bnd hx).2) _ (by omega) ?_ ?_
  ?_ (by simpa using hz) (fun j p hj => ?_) fun h3 t3 k3 d3 => ?_
 ·exact ⟨_, Heap.get?_push_size _ rfl, rfl, rfl⟩
 ·obtain ⟨o, e, r⟩ := hi2
  exact ⟨o, Heap.get?_push_of_some _ e, r⟩
 ·exact Di new fun o e => Heap.get?_push_of_some _ (k2 _ o e)
 ·obtain ⟨v, key, e1, ⟨a, o, c, rfl, ho, r⟩, hk⟩ := hr j p hj
  exact ⟨_, key, by rw [Nat.zero_add]; exact e1, ⟨a, o, c, rfl, Heap.get?_push_of_some _ (k2' a o ho), r⟩, hk, fun z => (bnd ho).1 (by cases z; rfl), fun z => (bnd ho).2 (by cases z; rfl)⟩
 ·exact ⟨rfl, hQ h3 t3 (fun b o e => k3 b o (bnd e).1 (bnd e).2 (Heap.get?_push_of_some _ (k2' b o e))) d3⟩
end
section
variable {X : Cx}
noncomputable def V2 (K : PySem.W.Frag) (H : Hp) (v : V) (p : Key × V) : Prop := ∃ a, v = .ref a ∧ SqT K H a [kV p.1, p.2]
noncomputable def Zbw (K : PySem.W.Frag) : List V → Hp → VK → Prop := fun xs H Q => ∃ (a : Addr) (vs : List V) (ps : List (Key × V)), xs = [.ref a] ∧ SqL K H a vs ∧ vs.length = ps.length ∧ (∀ (j : Nat) (p : Key × V), ps[j]? = some p → ∃ v, vs[j]? = some v ∧ V2 K H v p) ∧
 ∀ l, H l = none → Q (.ref l) (upd H l (.dK (ps.foldl (fun m p => putK m p.1 p.2) [])))
theorem FT : ∀ {ps : List (Key × V)} {qs : List (Key × Value)} {m : List (Key × V)} {n : List (Key × Value)}, KV ps qs → KV m n → KV (ps.foldl (fun m p => putK m p.1 p.2) m) (qs.foldl (fun m p => stored m p.1 p.2) n)
 | [], _, _, _, r, h => by cases r; exact h
 | p :: ps, _, _, _, r, h => by
  cases r with
  | cons r1 r2 =>
   rw [List.foldl_cons, List.foldl_cons]
   refine FT r2 ?_
   rw [r1.1]
   exact h.put _ r1.2
theorem J3 : ∀ (ps m : List (Key × V)), (ps.foldl (fun m p => putK m p.1 p.2) m).length ≤ m.length + ps.length
 | [], m => by simp
 | p :: ps, m => by
  rw [List.foldl_cons, List.length_cons]
  have := J3 ps (putK m p.1 p.2)
  have := Q3 m p.1 p.2
  omega
theorem Bt (hc : X.calm = true) : JU X (.type "dict") (Zbw X.K) := by
 intro pins s σ H xs us Q I r h
 obtain ⟨a, vs, ps, rfl, hq, hn, hv, q⟩ := h
 obtain ⟨u, rfl, rx⟩ := vals1 r
 cases rx
 obtain ⟨its, rv, pl, hz⟩ := I.list hq
 have n1 := rv.length
 have row : ∀ (j : Nat) (p : Key × V), ps[j]? = some p → ∃ v key val, its[j]? = some v ∧ MX s.heap v key val ∧ (ZT X.prog X.w).is p.1 key = true ∧ RelV p.2 val := fun j p hj => by
  obtain ⟨v, ev, a', rfl, ht⟩ := hv j p hj
  obtain ⟨u, eu, ru⟩ := rv.get ev
  cases (show u = .ref a' from ru)
  obtain ⟨js, rt, ⟨ob, ho, hcl, c, hd⟩, _⟩ := I.tuple ht
  cases rt with
  | cons b1 b2 => cases b2 with
   | cons b3 b4 =>
    cases b4
    exact ⟨_, _, _, eu, ⟨a', ob, c, rfl, ho, hcl, hd⟩, Bu b1, b3⟩
 have all : ∀ (l : List (Key × V)) (i : Nat), (∀ (j : Nat) (p : Key × V), l[j]? = some p → ps[i + j]? = some p) → ∃ qs : List (Key × Value), KV l qs ∧ ∀ (j : Nat) (p : Key × Value), qs[j]? = some p → ∃ v key, its[i + j]? = some v ∧ MX s.heap v key p.2 ∧ (ZT X.prog X.w).is p.1 key = true := fun l => by
  induction l with
  | nil => intro i _; exact ⟨[], .nil, fun j p hj => by simp at hj⟩
  | cons p l ih =>
   intro i hl
   obtain ⟨qs, k1, k2⟩ := ih (i + 1) fun j p hj => by rw [show i + 1 + j = i + (j + 1) by omega]; exact hl (j + 1) p (by simpa using hj)
   obtain ⟨v, key, val, e1, e2, e3, e4⟩ := row i p (by have := hl 0 p rfl; simpa using this)
   refine ⟨(p.1, val) :: qs, .cons ⟨rfl, e4⟩ k1, fun j p' hj => ?_⟩
   cases j with
   | zero =>
    cases Option.some.inj hj
    exact ⟨v, key, e1, e2, e3⟩
   | succ j =>
    obtain ⟨v, key, e⟩ := k2 j p' (by simpa using hj)
    exact ⟨v, key, by rw [show i + (j + 1) = i + 1 + j by omega]; exact e.1, e.2⟩
 obtain ⟨qs, k1, k2⟩ := all ps 0 fun j p hj => by rw [Nat.zero_add]; exact hj
 have n2 : qs.length = ps.length := (Paired.length k1).symm
 have big := I.big
 obtain ⟨ob, n, ho, hcl, hdi, hda⟩ := id pl
 refine Yk (knd := ZT X.prog X.w) (its := its) (ps := qs) (I.ok.hd hc) ⟨its.toArray, n, ob.slots, by rw [ho]; cases ob; cases hcl; cases hdi; cases hda; rfl⟩ pl.isList (by omega) (by omega)
  (fun j p hj => by have := k2 j p hj; rwa [Nat.zero_add] at this) fun h' t' kp dd => ?_
 have hlen := J3 ps []
 refine ⟨.ref s.heap.objs.size, _, I.laid (t' := t') kp (Nat.le_refl _) (C1 (by rw [List.length_nil] at hlen; omega) ?_ (FT k1 .nil) dd), rfl, q _ (I.hok.fresh (Nat.le_refl _))⟩
 exact beq_eq_false_iff_ne.mpr (Nat.ne_of_gt big)
end
end DL
namespace DL
open PySem PySem.Spec PyProof.Rows L2
noncomputable def Wn (o : Option OO) (P : List (Key × PyData) → Prop) : Prop := match o with | some (.dkv ps) => P ps | _ => False
theorem Fl (ps : List (Key × PyData)) (P : List (Key × PyData) → Prop) : Wn (some (.dkv ps)) P = P ps := propext Iff.rfl
theorem WU {o : Option OO} {P : List (Key × PyData) → Prop} (h : Wn o P) : ∃ ps, o = some (.dkv ps) ∧ P ps := by
 unfold Wn at h
 split at h
 ·exact ⟨_, rfl, h⟩
 ·exact h.elim
noncomputable def QK (ps : List (Key × PyData)) (k : Key) : Option PyData := (ps.find? fun kv => decide (kv.1 = k)).map (·.2)
noncomputable def JG (ps : List (Key × PyData)) (k : Key) (d : PyData) : List (Key × PyData) := if (ps.any fun kv => decide (kv.1 = k)) = true then ps.map (fun kv => if kv.1 = k then (kv.1, d) else kv) else ps ++ [(k, d)]
section
variable {K : PySem.W.Frag} {M : Mp} {H : Hp}
inductive KD (K : PySem.W.Frag) (M : Mp) (H : Hp) : List (Key × V) → List (Key × PyData) → Prop
 | nil : KD K M H [] []
 | cons {k : Key} {v : V} {d : PyData} {kvs : List (Key × V)} {ps : List (Key × PyData)} : Dt K M H v d → KD K M H kvs ps → KD K M H ((k, v) :: kvs) ((k, d) :: ps)
theorem KD.of : ∀ {kvs : List (Key × V)} {ps : List (Key × PyData)}, kvs.map (·.1) = ps.map (·.1) → Dts K M H (kvs.map (·.2)) (ps.map (·.2)) → KD K M H kvs ps
 | [], [], _, _ => .nil
 | [], _ :: _, h, _ => by simp at h
 | _ :: _, [], h, _ => by simp at h
 | (k, v) :: kvs, (k', d) :: ps, h, hd => by
  rw [List.map_cons, List.map_cons, List.cons.injEq] at h
  cases (show k = k' from h.1)
  cases hd with
  | cons h1 h2 => exact .cons h1 (KD.of h.2 h2)
theorem KD.keys : ∀ {kvs : List (Key × V)} {ps : List (Key × PyData)}, KD K M H kvs ps → kvs.map (·.1) = ps.map (·.1)
 | _, _, .nil => rfl
 | _, _, .cons _ h => by rw [List.map_cons, List.map_cons, h.keys]
theorem KD.vals : ∀ {kvs : List (Key × V)} {ps : List (Key × PyData)}, KD K M H kvs ps → Dts K M H (kvs.map (·.2)) (ps.map (·.2))
 | _, _, .nil => .nil
 | _, _, .cons h1 h => .cons h1 h.vals
theorem KD.any (k : Key) : ∀ {kvs : List (Key × V)} {ps : List (Key × PyData)}, KD K M H kvs ps → (kvs.any fun kv => decide (kv.1 = k)) = ps.any fun kv => decide (kv.1 = k)
 | _, _, .nil => rfl
 | _, _, .cons _ h => by rw [List.any_cons, List.any_cons, h.any k]
theorem KD.snoc {k : Key} {v : V} {d : PyData} (hd : Dt K M H v d) : ∀ {kvs : List (Key × V)} {ps : List (Key × PyData)}, KD K M H kvs ps → KD K M H (kvs ++ [(k, v)]) (ps ++ [(k, d)])
 | _, _, .nil => .cons hd .nil
 | _, _, .cons h1 h => .cons h1 (h.snoc hd)
theorem KD.PM (k : Key) {v : V} {d : PyData} (hd : Dt K M H v d) : ∀ {kvs : List (Key × V)} {ps : List (Key × PyData)}, KD K M H kvs ps → KD K M H (kvs.map fun kv => if kv.1 = k then (kv.1, v) else kv) (ps.map fun kv => if kv.1 = k then (kv.1, d) else kv)
 | _, _, .nil => .nil
 | _, _, .cons (k := k') h1 h => by
  rw [List.map_cons, List.map_cons]
  by_cases e : k' = k
  ·rw [if_pos e, if_pos e]
   exact .cons hd (h.PM k hd)
  ·rw [if_neg e, if_neg e]
   exact .cons h1 (h.PM k hd)
theorem KD.put (k : Key) {v : V} {d : PyData} (hd : Dt K M H v d) {kvs : List (Key × V)} {ps : List (Key × PyData)} (h : KD K M H kvs ps) : KD K M H (putK kvs k v) (JG ps k d) := by
 unfold putK JG
 rw [h.any k]
 split
 ·exact h.PM k hd
 ·exact h.snoc hd
theorem KD.val (k : Key) : ∀ {kvs : List (Key × V)} {ps : List (Key × PyData)}, KD K M H kvs ps → (YF kvs k = none ∧ QK ps k = none) ∨ ∃ v d, YF kvs k = some v ∧ QK ps k = some d ∧ Dt K M H v d
 | _, _, .nil => .inl ⟨rfl, rfl⟩
 | _, _, .cons (k := k') (v := v) (d := d) h1 h => by
  unfold YF QK
  by_cases e : k' = k
  ·rw [List.find?_cons_of_pos (by simpa using e), List.find?_cons_of_pos (by simpa using e)]
   exact .inr ⟨v, d, rfl, rfl, h1⟩
  ·rw [List.find?_cons_of_neg (by simpa using e), List.find?_cons_of_neg (by simpa using e)]
   exact h.val k
theorem KD.length {kvs : List (Key × V)} {ps : List (Key × PyData)} (h : KD K M H kvs ps) : kvs.length = ps.length := by
 have := congrArg List.length h.keys
 simpa using this
theorem ZN.dk (r : ZN K M H) {a : Addr} {ps : List (Key × PyData)} (h : M a = some (.dkv ps)) : ∃ kvs, H a = some (.dK kvs) ∧ KD K M H kvs ps := by
 obtain ⟨kvs, e1, e2, e3⟩ := r.ok a _ h
 exact ⟨kvs, e1, .of e2 e3⟩
theorem ZN.ZcI (r : ZN K M H) {p : Addr} {kvs : List (Key × V)} {ps : List (Key × PyData)} (st : Step M H (Zx M p (.dkv ps)) (upd H p (.dK kvs))) (h : KD K M H kvs ps) : ZN K (Zx M p (.dkv ps)) (upd H p (.dK kvs)) :=
 r.C6 st ⟨kvs, Qx, h.keys, h.vals.step st⟩
end
section
variable {X : Cx} {o i e value : Expr} {td ti te tv : DTE} {pos pos' : Pos}
noncomputable def Pw : DTE := fun _ M Φ => ∀ p, M p = none → Φ (.own p) (Zx M p (.dkv []))
noncomputable def Zck (td ti tv : DTE) : DTS := fun D Δ M => tv Δ M fun x M1 => td Δ M1 fun y M2 => ti Δ M2 fun z M3 => onD x fun d => onO y fun l => onS z fun s => Wn (M3 l) fun ps => ps.length < sizeLine ∧ D.nx Δ (Zx M3 l (.dkv (JG ps (.inr s) d)))
theorem EN (hu : X.A.units + 1 < cLine) : OpR X (compareOp .NotIn) (fun x y H Q => ∃ a kvs s, x = .str s ∧ y = .ref a ∧ H a = some (.dK kvs) ∧ Q (.bl (!(YF kvs (.inr s)).isSome)) H) := by
 intro pins s σ H x y v u Q I rx ry h
 obtain ⟨a, kvs, z, rfl, rfl, ha, q⟩ := h
 cases (show u = .ref a from ry)
 exact Pj hu I (WH.k (k := .inr z) ha) rx fun s' I' => ⟨.bl _, H, I', rfl, q⟩
theorem KD.some {K : PySem.W.Frag} {M : Mp} {H : Hp} {kvs : List (Key × V)} {ps : List (Key × PyData)} (h : KD K M H kvs ps) (k : Key) : (YF kvs k).isSome = (QK ps k).isSome := by
 rcases h.val k with ⟨a, b⟩ | ⟨v, d, a, b, _⟩
 ·rw [a, b]; rfl
 ·rw [a, b]; rfl
noncomputable def Zaz (neg : Bool) : D2 := fun x y M Φ => onS x fun s => onO y fun l => Wn (M l) fun ps => Φ (.dat (.bool ((QK ps (.inr s)).isSome != neg))) M
theorem Wr {k : Nat} (hr : JJ k X.A) : OpD X (compareOp .NotIn) (Zaz true) := by
 refine ⟨_, EN (by have := hr.un; omega), fun v u H x y M Φ Q r rv ru h k => ?_⟩
 replace h := VC h
 obtain ⟨s, rfl, h⟩ := h
 replace h := Z6 h
 obtain ⟨l, rfl, h⟩ := h
 replace h := WU h
 obtain ⟨ps, hm, q⟩ := h
 cases (show u = .ref l from ru)
 obtain ⟨kvs, g1, g2⟩ := r.dk hm
 refine ⟨l, kvs, s, rv.str, rfl, g1, ?_⟩
 rw [g2.some]
 simp only [Bool.bne_true] at q
 exact k.dat r Step.refl (Dt.bl _) q
noncomputable def S7 (td ti : DTE) : DTE := fun Δ M Φ => td Δ M fun x M1 => ti Δ M1 fun y M2 => onO x fun l => onS y fun s => Wn (M2 l) fun ps => ∃ d, QK ps (.inr s) = some d ∧ Φ (.dat d) M2
theorem Uc {k : Nat} (hr : JJ k X.A) (ho : DE X o td) (hi : DE X i ti) (hs : ZbY i := by intro _ _; rfl) : DE X (.Subscript o i pos) (S7 td ti) := by
 obtain ⟨t1, p1, q1⟩ := ho
 obtain ⟨t2, p2, q2⟩ := hi
 refine ⟨_, Ec (by have := hr.un; omega) p1 p2 hs, fun σ H Δ M Φ Q r e h k => ?_⟩
 refine q1 σ H Δ M _ _ r e h fun v H1 x M1 r1 st1 rv hx => ?_
 refine q2 σ H1 Δ M1 _ _ r1 (e.step st1) hx fun w H2 y M2 r2 st2 rw2 hy => ?_
 replace hy := Z6 hy
 obtain ⟨l, rfl, hy⟩ := hy
 replace hy := VC hy
 obtain ⟨s, rfl, hy⟩ := hy
 replace hy := WU hy
 obtain ⟨ps, hm, d, hd, q⟩ := hy
 cases (show v = .ref l from rv)
 cases rw2.str
 obtain ⟨kvs, g1, g2⟩ := r2.dk hm
 rcases g2.val (.inr s) with ⟨_, b⟩ | ⟨u, d', a, b, du⟩
 ·rw [hd] at b
  cases b
 ·rw [hd] at b
  cases b
  exact ⟨l, u, rfl, by rw [← a]; exact WH.k (k := .inr s) g1, k.dat r2 (st1.trans st2) du q⟩
noncomputable def Zdr (td ti : DTE) : DTE := fun Δ M Φ => td Δ M fun x M1 => onO x fun l => Wn (M1 l) fun _ => ti Δ M1 fun y M2 => onS y fun s => Wn (M2 l) fun ps => Φ (.dat ((QK ps (.inr s)).getD .none)) M2
theorem EY : JU X (.builtin "len") (fun xs H Q => ∃ a kvs, xs = [.ref a] ∧ H a = some (.dK kvs) ∧ Q (.int kvs.length) H) := by
 intro pins s σ H xs us Q I r h
 obtain ⟨a, kvs, rfl, ha, q⟩ := h
 obtain ⟨u, rfl, rx⟩ := vals1 r
 cases rx
 exact ZcR I (.inl ha) fun t s' I' => ⟨.int kvs.length, H, I', ⟨t, rfl⟩, q⟩
noncomputable def Nv : D1 := fun xs M Φ => on1 xs fun x => onO x fun l => Wn (M l) fun ps => Φ (.dat (.int ps.length)) M
theorem P8 : J1 X (.builtin "len") Nv := by
 refine ⟨_, EY, fun vs H xs M Φ Q r rv h k => ?_⟩
 replace h := Z9 h
 obtain ⟨x, rfl, h⟩ := h
 replace h := Z6 h
 obtain ⟨l, rfl, h⟩ := h
 replace h := WU h
 obtain ⟨ps, hm, q⟩ := h
 obtain ⟨v, rfl, h1⟩ := Paired.one rv
 cases (show v = .ref l from h1)
 obtain ⟨kvs, g1, g2⟩ := r.dk hm
 exact ⟨l, kvs, rfl, g1, by rw [g2.length]; exact k.dat r Step.refl (Dt.int _) q⟩
noncomputable def pairD (p : Str × PyData) : PyData := .tuple [.str p.1, p.2]
noncomputable def Fu (l : List (Str × PyData)) : List (Key × PyData) := l.foldl (fun m p => JG m (.inr p.1) p.2) []
noncomputable def Cy : D1 := fun xs M Φ => on1 xs fun x => onK x M fun ds => ∃ l : List (Str × PyData), ds = l.map pairD ∧ ∀ p, M p = none → Φ (.own p) (Zx M p (.dkv (Fu l)))
theorem Gm (hc : X.calm = true) : J1 X (.type "dict") Cy := by
 refine ⟨_, Bt hc, fun vs H xs M Φ Q r rv h k => ?_⟩
 replace h := Z9 h
 obtain ⟨x, rfl, h⟩ := h
 replace h := Jd h
 obtain ⟨ds, hx, l, rfl, q⟩ := h
 replace hx : BZ x M (l.map pairD) := hx
 obtain ⟨v, rfl, h1⟩ := Paired.one rv
 obtain ⟨a, ys, rfl, g1, g2⟩ := hx.sq r h1
 have all : ∀ (l : List (Str × PyData)) (ys : List V), Dts X.K M H ys (l.map pairD) → ∃ ps : List (Key × V), ps.length = ys.length ∧ (∀ (j : Nat) (p : Key × V), ps[j]? = some p → ∃ v, ys[j]? = some v ∧ V2 X.K H v p) ∧ KD X.K M H ps (l.map fun p => ((.inr p.1 : Key), p.2)) := fun l => by
  induction l with
  | nil =>
   intro ys h
   cases h
   exact ⟨[], rfl, fun j p hj => by simp at hj, .nil⟩
  | cons p l ih =>
   intro ys h
   rw [List.map_cons] at h
   cases h with
   | cons h1 h2 =>
    obtain ⟨ps, k1, k2, k3⟩ := ih _ h2
    cases h1 with
    | tup t1 t2 =>
     cases t2 with
     | cons a1 a2 => cases a2 with
      | cons a3 a4 =>
       cases a4
       cases a1
       refine ⟨(.inr p.1, _) :: ps, by rw [List.length_cons, List.length_cons, k1], fun j q hj => ?_, .cons a3 k3⟩
       cases j with
       | zero =>
        cases Option.some.inj hj
        exact ⟨_, rfl, _, rfl, t1.sq⟩
       | succ j =>
        obtain ⟨v, e1, e2⟩ := k2 j q (by simpa using hj)
        exact ⟨v, by simpa using e1, e2⟩
 obtain ⟨ps, k1, k2, k3⟩ := all l ys g2
 refine ⟨a, ys, ps, rfl, g1, k1.symm, k2, fun p hp => ?_⟩
 have fold : ∀ (ps : List (Key × V)) (l : List (Str × PyData)) (m : List (Key × V)) (n : List (Key × PyData)), KD X.K M H ps (l.map fun p => ((.inr p.1 : Key), p.2)) → KD X.K M H m n → KD X.K M H (ps.foldl (fun m p => putK m p.1 p.2) m) (l.foldl (fun m p => JG m (.inr p.1) p.2) n) := fun ps => by
  induction ps with
  | nil =>
   intro l m n h hm
   cases l with
   | nil => exact hm
   | cons _ _ => cases h
  | cons p ps ih =>
   intro l m n h hm
   cases l with
   | nil => cases h
   | cons q l =>
    rw [List.map_cons] at h
    cases h with
    | cons h1 h2 =>
     rw [List.foldl_cons, List.foldl_cons]
     exact ih l _ _ h2 (hm.put _ h1)
 have st : Step M H (Zx M p (.dkv (Fu l))) (upd H p (.dK (ps.foldl (fun m p => putK m p.1 p.2) []))) := Step.J8 hp
 exact k _ _ (.own p) _ (r.ZcI st (fold ps l [] [] k3 .nil)) st rfl (q p (r.tracked hp))
end
theorem D7 (Δ : DSt) (M : Mp) (Φ : DK) : Pw Δ M Φ = (∀ p, M p = none → Φ (.own p) (Zx M p (.dkv []))) := propext Iff.rfl
theorem Oq (td ti tv : DTE) (D : Qa) (Δ : DSt) (M : Mp) : Zck td ti tv D Δ M = (tv Δ M fun x M1 => td Δ M1 fun y M2 => ti Δ M2 fun z M3 => onD x fun d => onO y fun l => onS z fun s => Wn (M3 l) fun ps => ps.length < sizeLine ∧ D.nx Δ (Zx M3 l (.dkv (JG ps (.inr s) d)))) := propext Iff.rfl
theorem PQ (neg : Bool) (x y : DV) (M : Mp) (Φ : DK) : Zaz neg x y M Φ = (onS x fun s => onO y fun l => Wn (M l) fun ps => Φ (.dat (.bool ((QK ps (.inr s)).isSome != neg))) M) := propext Iff.rfl
theorem O5 (td ti : DTE) (Δ : DSt) (M : Mp) (Φ : DK) : S7 td ti Δ M Φ = (td Δ M fun x M1 => ti Δ M1 fun y M2 => onO x fun l => onS y fun s => Wn (M2 l) fun ps => ∃ d, QK ps (.inr s) = some d ∧ Φ (.dat d) M2) := propext Iff.rfl
theorem Pu (td ti : DTE) (Δ : DSt) (M : Mp) (Φ : DK) : Zdr td ti Δ M Φ = (td Δ M fun x M1 => onO x fun l => Wn (M1 l) fun _ => ti Δ M1 fun y M2 => onS y fun s => Wn (M2 l) fun ps => Φ (.dat ((QK ps (.inr s)).getD .none)) M2) := propext Iff.rfl
theorem MJ (xs : List DV) (M : Mp) (Φ : DK) : Nv xs M Φ = (on1 xs fun x => onO x fun l => Wn (M l) fun ps => Φ (.dat (.int ps.length)) M) := propext Iff.rfl
theorem En (xs : List DV) (M : Mp) (Φ : DK) : Cy xs M Φ = (on1 xs fun x => onK x M fun ds => ∃ l : List (Str × PyData), ds = l.map pairD ∧ ∀ p, M p = none → Φ (.own p) (Zx M p (.dkv (Fu l)))) := propext Iff.rfl
theorem C2 {X : Cx} {scope0 : Scope} {C : Addr} {N0 : List Str} {ex : List Addr} {s : Shared} {H : Hp} {sc scope : Scope} {N : List Str} {ix : List (Option Nat)} (hsc : X.env.scope = sc)
  (h : scope.kind = .function ∧ (∀ y ∈ scope.names, y.2 ≠ .cell) ∧ (∀ y ∈ scope.names, y.2 = .local → scope.names.lookup y.1 = some .local) ∧ (∀ y ∈ scope.names, y.2 = .free → (VU scope0 sc).lookup y.1 = some .cell) ∧ N.length = ix.length ∧
   ∀ j ∈ List.range N.length, RQ { scope0 with names := VU scope0 sc } N0 scope N ix j = true) : VE (ZY X scope0 C N0 ex s H) scope N ix :=
 Zv (sc := { scope0 with names := VU scope0 sc }) (by subst hsc; rfl) rfl h
end DL
namespace DL
open PySem PySem.Spec PyProof.Rows L2 PySem.W
section
variable {X : Cx}
noncomputable def ZcC (te ts : DTE) : DTE := fun Δ M Φ => te Δ M fun x M1 => ts Δ M1 fun y M2 => onK x M2 fun ds => onI y fun i => i = -1 ∧ Φ (.dat (.list ds.reverse)) M2
theorem Py (te ts : DTE) (Δ : DSt) (M : Mp) (Φ : DK) : ZcC te ts Δ M Φ = (te Δ M fun x M1 => ts Δ M1 fun y M2 => onK x M2 fun ds => onI y fun i => i = -1 ∧ Φ (.dat (.list ds.reverse)) M2) := propext Iff.rfl
end
end DL
namespace DL
open PySem PySem.Spec PyProof.Rows L2 PySem.W
section
variable {prog : Program} {w : World} {A : Around} {E : Value → Shared → Prop} {s : Shared}
end
section
variable {prog : Program} {w : World} {A : Around} {E : Value → Shared → Prop} {s : Shared}
end
section
variable {X : Cx} {pins : List (Addr × Obj)} {σ : L2.St} {H : Hp} {s : Shared} {h' : Heap}
end
noncomputable def Ite (K : PySem.W.Frag) (a : Addr) : It :=
 ⟨fun i H => ∃ xs x, SqT K H a xs ∧ xs[i]? = some x, fun i H y H' => ∃ T x, (∀ xs, SqT K H a xs → xs[i]? = some x) ∧ H T = none ∧ y = .ref T ∧ H' = upd H T (.tup [.int i, x]), fun i H => ∃ xs, SqT K H a xs ∧ xs.length ≤ i⟩
section
variable {X : Cx}
noncomputable def ZfF (K : PySem.W.Frag) (ta : TA) : TI := fun σ H R => ta σ H fun vs H1 => ∃ a, vs = [.ref a] ∧ (∃ xs, SqT K H1 a xs) ∧ R (Ite K a) H1
noncomputable def Zcl (ds : List PyData) : List PyData := ds.mapIdx fun i d => .tuple [.int i, d]
noncomputable def Zgl (ta : DTA) : YU := fun Δ M Ψ => ta Δ M fun xs M1 => on1 xs fun x => onT x fun ds => Ψ (Zcl ds) M1
end
end DL
namespace DL
open PySem PySem.Spec PyProof.Rows L2 PySem.W
section
variable {prog : Program} {w : World} {A : Around} {E : Value → Shared → Prop} {s : Shared}
end
section
variable {X : Cx} {pos : Pos}
noncomputable def Zfh (n : Nat) (t : Hc) : DTG := fun x Δ M Φ => onL x fun ds => N3 n ds fun xs => t xs Δ M Φ
end
end DL
namespace DL
open PySem PySem.Spec PyProof.Rows L2 PySem.W
section
variable {X : Cx}
theorem Hr (hu : X.A.units < cLine) : OpR X (compareOp .NotEq) (fun x y H Q => ∃ a b xs, x = .ref a ∧ y = .ref b ∧ SqL X.K H a xs ∧ SqL X.K H b [] ∧ Q (.bl (!xs.isEmpty)) H) := by
 intro pins s σ H x y v u Q I rx ry h
 obtain ⟨a, b, xs, rfl, rfl, h1, h2, q⟩ := h
 cases rx
 cases ry
 obtain ⟨its, r, p, _⟩ := I.list h1
 obtain ⟨jts, r2, p2, _⟩ := I.list h2
 cases r2
 have hl := r.length
 cases xs with
 | nil =>
  have e : its.toArray.size = ([] : List Value).toArray.size := by rw [List.size_toArray, List.size_toArray]; exact hl.symm
  refine PySem.SeqAt.RcNeAt.lists (e := fun _ => true) p.isList p2.isList e hu (fun j h1 h2 => absurd h2 (Nat.not_lt_zero _)) _ _ _ _ ⟨.bl _, H, I, ?_, q⟩
  show Value.bool (!(List.range its.toArray.size).all fun _ => true) = _
  rw [e]
  rfl
 | cons x xs =>
  refine PySem.SeqAt.RcNeAt.lists_lengths p.isList p2.isList ?_ hu _ _ _ _ ⟨.bl _, H, I, rfl, q⟩
  rw [List.size_toArray, ← hl]
  rfl
noncomputable def FP : D2 := fun x y M Φ => onK x M fun ds => onK y M fun es => es = [] ∧ Φ (.dat (.bool (!ds.isEmpty))) M
theorem GZ {k : Nat} (hr : JJ k X.A) : OpD X (compareOp .NotEq) FP := by
 refine ⟨_, Hr (by have := hr.un; omega), fun v u H x y M Φ Q r rv ru h k => ?_⟩
 replace h := Jd h
 obtain ⟨ds, hx, h⟩ := h
 replace h := Jd h
 obtain ⟨es, hy, rfl, q⟩ := h
 replace hx : BZ x M ds := hx
 replace hy : BZ y M [] := hy
 obtain ⟨a, xs, rfl, h1, h2⟩ := hx.sq r rv
 obtain ⟨b, ys, rfl, h3, h4⟩ := hy.sq r ru
 cases h4
 refine ⟨a, b, xs, rfl, rfl, h1, h3, ?_⟩
 have e : xs.isEmpty = ds.isEmpty := by cases h2 <;> rfl
 rw [e]
 exact k.dat r Step.refl (Dt.bl _) q
noncomputable def Zdw : D2 := fun x y M Φ => onK x M fun ds => onK y M fun es => ds.length + es.length ≤ sizeLine ∧ ∀ p, M p = none → Φ (.own p) (Zx M p (.lst (ds ++ es)))
noncomputable def Zcg : D1 := fun xs M Φ => on1 xs fun x => onI x fun i => Φ (.dat (.bool (i != 0))) M
theorem D6 (x y : DV) (M : Mp) (Φ : DK) : FP x y M Φ = (onK x M fun ds => onK y M fun es => es = [] ∧ Φ (.dat (.bool (!ds.isEmpty))) M) := propext Iff.rfl
end
noncomputable def isS (h : PyData) (s : Str) : Bool := match h with | .str t => decide (t = s) | _ => false
end DL
namespace DL
open PySem PySem.Spec PyProof.Rows L2 PySem.W PySem.SeqAt PySem.MeetsSeq
theorem Qt (l : Addr) (es : Array DictEntry) (n : Nat) (dd : Option Addr) (sl : Array (Option Value)) (b : Str) (u : Tok) :
  Meets (Builtin.«dict.__eq__» ⟨[.ref l, .str b u], []⟩) (fun _ R s => s.heap.get? l = some { cls := .type "dict", dict := dd, data := .dict es n, slots := sl } ∧ R (.ok (.ret .notImplemented)) s) :=
 .of_wp fun prog w A R s h => by
  obtain ⟨hp, g, d, tk, os⟩ := s; obtain ⟨hl, h⟩ := h
  have f1 := F.sub_str_dict
  wp_walk using wpAny_loadPart' hl
  exact ⟨_, rfl, h⟩
theorem Qs (b : Str) (u : Tok) (l : Addr) (c : Value) (es : Array DictEntry) (n : Nat) (dd : Option Addr) (sl : Array (Option Value)) :
  Meets (Builtin.«str.__eq__» ⟨[.str b u, .ref l], []⟩) (fun _ R s => s.heap.get? l = some { cls := c, dict := dd, data := .dict es n, slots := sl } ∧ R (.ok (.ret .notImplemented)) s) :=
 .of_wp fun prog w A R s h => by obtain ⟨hp, g, d, tk, os⟩ := s; obtain ⟨hl, h⟩ := h; wp_walk using wpAny_loadPart' hl, wpAny_load hl; exact ⟨_, rfl, h⟩
section
variable {A : Around} {s : Shared}
noncomputable def Zb6 (h : Heap) (l : Addr) : Prop := ∃ (o : Obj) (es : Array DictEntry) (n : Nat), h.get? l = some o ∧ o.cls = .type "dict" ∧ o.data = .dict es n
theorem Uz {l : Addr} (b : Str) (u : Tok) (hl : Zb6 s.heap l) (hu : A.units < cLine) : RcAt A s (.ref l) (.str b u) false := fun prog w E Q h => by
 obtain ⟨⟨cls, dd, data, sl⟩, es, n, ho, hc, hd⟩ := hl
 simp only at hc hd
 subst hc hd
 exact rc_eq_decline_or (k := false) ⟨_, ho, rfl⟩ (typeIs_str s b u) (by decide) F.sub_str_dict F.slot_dict_eq F.slot_str_eq_refl
  (fun _ hq => call_meets F.slot_dict_eq ⟨_, ho, rfl⟩ F.entry_dict_eq (F.args_dict_eq_2 _ _) (Qt l es n dd sl b u) ⟨ho, hq⟩)
  (fun _ hq => call_meets F.slot_str_eq_refl (typeIs_str s b u) F.entry_str_eq (F.args_str_eq_2 _ _) (Qs b u l (.type "dict") es n dd sl) ⟨ho, hq⟩)
  (fun _ hq => wpAny_of_eq (rfl : isSame (.ref l) (.str b u) = pure false) hq) (.inr hu) h
theorem Uo {l : Addr} (b : Str) (u : Tok) (hl : Zb6 s.heap l) (hu : A.units < cLine) : RcAt A s (.str b u) (.ref l) false := fun prog w E Q h => by
 obtain ⟨⟨cls, dd, data, sl⟩, es, n, ho, hc, hd⟩ := hl
 simp only at hc hd
 subst hc hd
 exact rc_eq_decline_or (k := false) (typeIs_str s b u) ⟨_, ho, rfl⟩ (by decide) F.sub_dict_str F.slot_str_eq F.slot_dict_eq_refl
  (fun _ hq => call_meets F.slot_str_eq (typeIs_str s b u) F.entry_str_eq (F.args_str_eq_2 _ _) (Qs b u l (.type "dict") es n dd sl) ⟨ho, hq⟩)
  (fun _ hq => call_meets F.slot_dict_eq_refl ⟨_, ho, rfl⟩ F.entry_dict_eq (F.args_dict_eq_2 _ _) (Qt l es n dd sl b u) ⟨ho, hq⟩)
  (fun _ hq => wpAny_of_eq (rfl : isSame (.str b u) (.ref l) = pure false) hq) (.inr hu) h
theorem U4 {l : Addr} (b : Str) (u : Tok) (hl : Zb6 s.heap l) (hu : A.units < cLine) : EqAt A s (.str b u) (.ref l) false := fun prog w E Q h => by
 unfold eqBool
 refine wpAny_holding ?_
 refine wpAny_ite_split (fun hab => absurd (eq_of_beq hab) nofun) (fun _ => ?_)
 exact wpAny_bind (Uo b u hl hu prog w E _ (wpAny_truthy_bool h))
end
section
variable {X : Cx}
inductive Bs (h : Heap) (b : Bool) (t : Str) : Value → Prop
 | non : b = false → Bs h b t .none
 | bl (k : Bool) : b = false → Bs h b t (.bool k)
 | int (i : Int) (u : Tok) : b = false → Bs h b t (.int i u)
 | str (x : Str) (u : Tok) : b = decide (x = t) → Bs h b t (.str x u)
 | tup {a : Addr} {items : Array Value} : h.IsTuple a items → b = false → Bs h b t (.ref a)
 | lst {a : Addr} {items : Array Value} : h.IsList a items → b = false → Bs h b t (.ref a)
 | dic {a : Addr} : Zb6 h a → b = false → Bs h b t (.ref a)
theorem Bs.rc {A : Around} {s : Shared} {b : Bool} {t : Str} {v : Value} (u : Tok) (h : Bs s.heap b t v) (hu : A.units < cLine) : RcAt A s v (.str t u) b := by
 cases h with
 | non e => rw [e]; exact RcAt.none_str t u
 | bl k e => rw [e]; exact RcAt.bool_str k t u
 | int i w e => rw [e]; exact RcAt.int_str i w t u
 | str x w e => rw [e, ← Bool.beq_eq_decide_eq]; exact RcAt.str_str x w t u
 | tup p e => rw [e]; exact RcAt.tuple_str t u p hu
 | lst p e => rw [e]; exact RcAt.list_str t u p hu
 | dic p e => rw [e]; exact Uz t u p hu
theorem Bs.eq {A : Around} {s : Shared} {b : Bool} {t : Str} {v : Value} (u : Tok) (h : Bs s.heap b t v) (hu : A.units < cLine) : EqAt A s (.str t u) v b := by
 cases h with
 | non e => rw [e]; exact EqAt.str_none t u
 | bl k e => rw [e]; exact EqAt.str_bool t u k
 | int i w e => rw [e]; exact EqAt.str_int t u i w
 | str x w e =>
  have e2 : b = (t == x) := by rw [e, Bool.beq_eq_decide_eq, decide_eq_decide]; exact eq_comm
  rw [e2]
  exact EqAt.str_str t u x w
 | tup p e => rw [e]; exact EqAt.str_tuple t u p hu
 | lst p e => rw [e]; exact EqAt.str_list t u p hu
 | dic p e => rw [e]; exact U4 t u p hu
noncomputable def Zfj : D2 := fun x y M Φ => onD x fun d => onS y fun t => Φ (.dat (.bool (isS d t))) M
noncomputable def ZfQ : D2 := fun x y M Φ => onD x fun d => onT y fun ds => ∃ ts : List Str, ds = ts.map PyData.str ∧ Φ (.dat (.bool (ts.any (isS d)))) M
end
end DL
namespace DL
open PySem PySem.Spec PyProof.Rows L2 PySem.W
theorem Wf : ∀ (l acc : List (Key × V)), (l.map (·.1)).Nodup → (∀ p ∈ l, ∀ q ∈ acc, q.1 ≠ p.1) → l.foldl (fun acc kv => putK acc kv.1 kv.2) acc = acc ++ l
 | [], acc, _, _ => by simp
 | p :: l, acc, hn, hd => by
  rw [List.map_cons, List.nodup_cons] at hn
  have e : putK acc p.1 p.2 = acc ++ [p] := by
   unfold putK
   rw [if_neg]
   intro z
   obtain ⟨q, hq, e⟩ := List.any_eq_true.mp z
   exact hd p List.mem_cons_self q hq (of_decide_eq_true e)
  rw [List.foldl_cons, e, Wf l _ hn.2 fun p' hp' q hq => ?_]
  ·simp
  ·rcases List.mem_append.mp hq with hq | hq
   ·exact hd p' (List.mem_cons_of_mem _ hp') q hq
   ·rw [List.mem_singleton.mp hq]
    intro z
    exact hn.1 (List.mem_map.mpr ⟨p', hp', z.symm⟩)
theorem B0 (l : List (Key × V)) (h : (l.map (·.1)).Nodup) : YD [] l = l := by
 unfold YD
 rw [Wf l [] h fun p _ q hq => (nomatch hq)]
 rfl
section
variable {X : Cx} {pos : Pos}
noncomputable def Zd2 (tk0 tk1 tk2 tk3 tk4 tk5 tv0 tv1 tv2 tv3 tv4 tv5 : DTE) : DTE := fun Δ M Φ => tk0 Δ M fun x0 M1 => tv0 Δ M1 fun y0 M2 => tk1 Δ M2 fun x1 M3 => tv1 Δ M3 fun y1 M4 => tk2 Δ M4 fun x2 M5 => tv2 Δ M5 fun y2 M6 => tk3 Δ M6 fun x3 M7 => tv3 Δ M7 fun y3 M8 => tk4 Δ M8 fun x4 M9 => tv4 Δ M9 fun y4 M10 => tk5 Δ M10 fun x5 M11 => tv5 Δ M11 fun y5 M12 => onS x0 fun s0 => onD y0 fun d0 => onS x1 fun s1 => onD y1 fun d1 => onS x2 fun s2 => onD y2 fun d2 => onS x3 fun s3 => onD y3 fun d3 => onS x4 fun s4 => onD y4 fun d4 => onS x5 fun s5 => onD y5 fun d5 => ([s0, s1, s2, s3, s4, s5] : List Str).Nodup ∧ ∀ p, M12 p = none → Φ (.own p) (Zx M12 p (.dkv [(Sum.inr s0, d0), (Sum.inr s1, d1), (Sum.inr s2, d2), (Sum.inr s3, d3), (Sum.inr s4, d4), (Sum.inr s5, d5)]))
noncomputable def Ze0 : D2 := fun x y M Φ => onO x fun l => onI y fun i => JI (M l) fun ds => (0 ≤ i ∧ i < 2 ^ 63 ∧ ds.length * i.toNat ≤ sizeLine) ∧ Φ (.dat (.list (List.replicate i.toNat ds).flatten)) M
end
end DL
namespace DL
open PySem PySem.Spec PyProof.Rows L2 PySem.W PySem.SeqAt PySem.MeetsSeq
section
variable {X : Cx}
noncomputable def ZdR : D2 := fun x y M Φ => onT x fun ds => onI y fun k => (2 ≤ k ∧ k ≤ 1000 ∧ 1 ≤ ds.length ∧ ds.length ≤ 1000) ∧ Φ (.dat (.tuple (List.replicate k.toNat ds).flatten)) M
noncomputable def Zcn : D2 := fun x y M Φ => onT x fun ds => onT y fun es => ds.length + es.length ≤ sizeLine ∧ Φ (.dat (.tuple (ds ++ es))) M
end
end DL
namespace DL
open PySem PySem.Spec PyProof.Rows L2 PySem.W
noncomputable def Itz (K : PySem.W.Frag) (a b : Addr) : It :=
  ⟨fun i H => ∃ xs ys x y, SqL K H a xs ∧ xs[i]? = some x ∧ SqL K H b ys ∧ ys[i]? = some y,
   fun i H v H' => ∃ T x y, (∀ xs, SqL K H a xs → xs[i]? = some x) ∧ (∀ ys, SqL K H b ys → ys[i]? = some y) ∧ H T = none ∧ v = .ref T ∧ H' = upd H T (.tup [x, y]),
   fun i H => ∃ xs ys, SqL K H a xs ∧ SqL K H b ys ∧ (xs.length ≤ i ∨ ys.length ≤ i)⟩
noncomputable def O0 (a b : Addr) (n : Nat) (i : Nat) (h : Heap) : Prop :=
 IsZip h (n + 4) (n + 2) (n + 3) .none ∧ IsPair h (n + 2) (.ref n) (.ref (n + 1)) ∧ (∃ u v, IsPair h (n + 3) u v) ∧ h.IsListIter n a i ∧ h.IsListIter (n + 1) b i
theorem O0.keep {a b : Addr} {n : Nat} {i : Nat} {h h' : Heap} (st : O0 a b n i h) (k : ∀ c ∈ [n + 4, n + 2, n + 3, n, n + 1], ∀ o, h.get? c = some o → h'.get? c = some o) : O0 a b n i h' := by
 obtain ⟨hz, h2, ⟨u, v, h3⟩, h0, h1⟩ := st
 exact ⟨k _ (by simp) _ hz, k _ (by simp) _ h2, ⟨u, v, k _ (by simp) _ h3⟩, h0.at fun o e => k _ (by simp) o e, h1.at fun o e => k _ (by simp) o e⟩
section
variable {X : Cx}
noncomputable def Zgv (K : PySem.W.Frag) (ta : TA) : TI := fun σ H R => ta σ H fun vs H1 => ∃ a b, vs = [.ref a, .ref b] ∧ (∃ xs, SqL K H1 a xs) ∧ (∃ ys, SqL K H1 b ys) ∧ R (Itz K a b) H1
noncomputable def ZbW (as bs : List PyData) : List PyData := List.zipWith (fun a b => .tuple [a, b]) as bs
noncomputable def ZfY (ta : DTA) : YU := fun Δ M Ψ => ta Δ M fun xs M1 => on2 xs fun x y => onL x fun as => onL y fun bs => Ψ (ZbW as bs) M1
end
end DL
namespace DL
open PySem PySem.Spec PyProof.Rows L2 PySem.W
section
variable {X : Cx} {pos : Pos}
noncomputable abbrev DTP := DSt → Mp → (List (DV × DV) → Mp → Prop) → Prop
noncomputable def DPs (X : Cx) (pos : Pos) (keys : List (Option Expr)) (values : List Expr) (τ : DTP) : Prop :=
 ∃ trs, PPs X pos keys values trs ∧ trs.length = keys.length ∧ ∀ σ H Δ M Φ (Q : List (V × V) → Hp → Prop), ZN X.K M H → QP X.K M H σ Δ → τ Δ M Φ →
  (∀ ps H' qs M', ZN X.K M' H' → Step M H M' H' → Paired (fun (p : V × V) (q : DV × DV) => Ql X.K M' H' p.1 q.1 ∧ Ql X.K M' H' p.2 q.2) ps qs → Φ qs M' → Q ps H') → GF trs σ H Q
noncomputable def Tv : DTP := fun _ M Φ => Φ [] M
noncomputable def Nk (tk tv : DTE) (t : DTP) : DTP := fun Δ M Φ => tk Δ M fun x M1 => tv Δ M1 fun y M2 => t Δ M2 fun qs M3 => Φ ((x, y) :: qs) M3
theorem RM (Δ : DSt) (M : Mp) (Φ : List (DV × DV) → Mp → Prop) : Tv Δ M Φ = Φ [] M := propext Iff.rfl
theorem LH (tk tv : DTE) (t : DTP) (Δ : DSt) (M : Mp) (Φ : List (DV × DV) → Mp → Prop) : Nk tk tv t Δ M Φ = (tk Δ M fun x M1 => tv Δ M1 fun y M2 => t Δ M2 fun qs M3 => Φ ((x, y) :: qs) M3) := propext Iff.rfl
theorem OE : DPs X pos [] [] Tv := ⟨[], RW, rfl, fun _ H _ M _ _ r _ h k => k [] H [] M r Step.refl .nil h⟩
theorem GO {k v : Expr} {ks : List (Option Expr)} {vs : List Expr} {tk tv : DTE} {t : DTP} (hk : DE X k tk) (hv : DE X v tv) (hr : DPs X pos ks vs t) : DPs X pos (some k :: ks) (v :: vs) (Nk tk tv t) := by
 obtain ⟨a, p, q⟩ := hk
 obtain ⟨b, p2, q2⟩ := hv
 obtain ⟨c, p3, hl, q3⟩ := hr
 refine ⟨_, Ng p p2 p3, by rw [List.length_cons, List.length_cons, hl], fun σ H Δ M Φ Q r e h k => ?_⟩
 refine q σ H Δ M _ _ r e h fun x H1 x' M1 r1 st1 rx hx => ?_
 refine q2 σ H1 Δ M1 _ _ r1 (e.step st1) hx fun y H2 y' M2 r2 st2 ry hy => ?_
 exact q3 σ H2 Δ M2 _ _ r2 ((e.step st1).step st2) hy fun ps H3 qs M3 r3 st3 rp hq => k _ H3 _ M3 r3 ((st1.trans st2).trans st3) (.cons ⟨(rx.step st2).step st3, ry.step st3⟩ rp) hq
noncomputable def Za3 : List (DV × DV) → (List (Key × PyData) → Prop) → Prop
 | [], P => P []
 | (x, y) :: r, P => Ve x fun k => onD y fun d => Za3 r fun l => P ((k, d) :: l)
noncomputable def Zft (t : DTP) : DTE := fun Δ M Φ => ∀ p, M p = none → t Δ (Zx M p (.dkv [])) fun qs M2 => Za3 qs fun l => M2 p = some (.dkv []) ∧ ((l.map (·.1)).Nodup ∧ l.length ≤ 15) ∧ Φ (.own p) (Zx M2 p (.dkv l))
noncomputable def ZeQ (td ti tx : DTE) : DTE := fun Δ M Φ => td Δ M fun x M1 => onO x fun l => Wn (M1 l) fun _ => ti Δ M1 fun y M2 => tx Δ M2 fun z M3 => onS y fun s => onD z fun d => Wn (M3 l) fun ps => Φ (.dat ((QK ps (.inr s)).getD d)) M3
end
end DL
namespace DL
open PySem PySem.Spec PyProof.Rows L2 PySem.W
section
variable {X : Cx} {pins : List (Addr × Obj)} {σ : L2.St} {H : Hp} {s : Shared} {M : Mp}
end
section
variable {X : Cx}
noncomputable def ZcS : D1 := fun xs M Φ => on1 xs fun x => onT x fun ds => ((∀ d ∈ ds, Shw d) ∧ (PyData.tuple ds).depth ≤ 64 ∧ (PyData.tuple ds).shown.length ≤ sizeLine) ∧ Φ (.dat (.str (PyData.tuple ds).shown)) M
end
end DL
namespace DL
open PySem PySem.Spec PyProof.Rows L2 PySem.W
noncomputable def Rsg (l : List Nat) : Prop := l.Pairwise (· < ·)
theorem Rsg.lt {l : List Nat} (h : Rsg l) {i j u v : Nat} (hi : l[i]? = some u) (hj : l[j]? = some v) (hij : i < j) : u < v := by
 obtain ⟨h1, rfl⟩ := List.getElem?_eq_some_iff.mp hi
 obtain ⟨h2, rfl⟩ := List.getElem?_eq_some_iff.mp hj
 exact (List.pairwise_iff_getElem.mp h) i j h1 h2 hij
noncomputable def Spl (l : List Nat) (j r : Nat) : Prop := (∀ k v, k < r → l[k]? = some v → v < j) ∧ (∀ k v, r ≤ k → l[k]? = some v → j ≤ v) ∧ r ≤ l.length
theorem Ka {xs : Array Nat} (h : Rsg xs.toList) (j : Nat) : ∀ fuel lo hi, hi - lo ≤ fuel → lo ≤ hi → hi ≤ xs.size → (∀ k v, k < lo → xs.toList[k]? = some v → v < j) → (∀ k v, hi ≤ k → xs.toList[k]? = some v → j ≤ v) → Spl xs.toList j (SetTable.below.go xs j fuel lo hi)
 | 0, lo, hi, hf, hl, hs, h1, h2 => by
  have e : hi = lo := by omega
  subst e
  exact ⟨h1, h2, by rw [Array.length_toList]; exact hs⟩
 | fuel + 1, lo, hi, hf, hl, hs, h1, h2 => by
  unfold SetTable.below.go
  by_cases hlt : lo < hi
  ·rw [if_pos hlt]
   dsimp only
   have hm : (lo + hi) / 2 < xs.size := by omega
   have hg : xs.toList[(lo + hi) / 2]? = some (xs.getD ((lo + hi) / 2) j) := by
    rw [Array.getElem?_toList, Array.getElem?_eq_getElem hm]
    simp [Array.getD, hm]
   by_cases hc : xs.getD ((lo + hi) / 2) j < j
   ·rw [if_pos hc]
    refine Ka h j fuel _ _ (by omega) (by omega) hs (fun k v hk hv => ?_) h2
    by_cases e : k = (lo + hi) / 2
    ·rw [e, hg] at hv
     cases hv
     exact hc
    ·exact Nat.lt_trans (h.lt hv hg (by omega)) hc
   ·rw [if_neg hc]
    refine Ka h j fuel _ _ (by omega) (by omega) (by omega) h1 (fun k v hk hv => ?_)
    by_cases e : k = (lo + hi) / 2
    ·rw [e, hg] at hv
     cases hv
     omega
    ·have := h.lt hg hv (by omega)
     omega
  ·rw [if_neg hlt]
   have e : hi = lo := by omega
   subst e
   exact ⟨h1, h2, by rw [Array.length_toList]; exact hs⟩
theorem YK {xs : Array Nat} (h : Rsg xs.toList) (j : Nat) : Spl xs.toList j (SetTable.below xs j) := by
 unfold SetTable.below
 exact Ka h j _ _ _ (by omega) (by omega) (Nat.le_refl _) (fun k v hk => absurd hk (by omega)) fun k v hk hv => by
  have := (List.getElem?_eq_some_iff.mp hv).1
  rw [Array.length_toList] at this
  omega
theorem BV {xs : Array Nat} (h : Rsg xs.toList) {j : Nat} (hn : xs[SetTable.below xs j]? ≠ some j) : Rsg (SetTable.insertAt xs (SetTable.below xs j) j).toList := by
 obtain ⟨h1, h2, h3⟩ := YK h j
 rw [SetTable.toList_insertAt]
 have hd : ∀ v ∈ xs.toList.drop (SetTable.below xs j), j < v := fun v hv => by
  obtain ⟨k, hk⟩ := List.mem_iff_getElem?.mp hv
  rw [List.getElem?_drop] at hk
  have l1 := h2 _ v (Nat.le_add_right _ k) hk
  by_cases e : k = 0
  ·rw [e, Nat.add_zero, Array.getElem?_toList] at hk
   rcases Nat.lt_or_eq_of_le l1 with z | z
   ·exact z
   ·rw [← z] at hk
    exact absurd hk hn
  ·have hb := (List.getElem?_eq_some_iff.mp hk).1
   have := h.lt (List.getElem?_eq_getElem (show SetTable.below xs j < xs.toList.length by omega)) hk (by omega)
   have := h2 _ _ (Nat.le_refl _) (List.getElem?_eq_getElem (show SetTable.below xs j < xs.toList.length by omega))
   omega
 have ht : ∀ u ∈ xs.toList.take (SetTable.below xs j), u < j := fun u hu => by
  obtain ⟨k, hk⟩ := List.mem_iff_getElem?.mp hu
  rw [List.getElem?_take] at hk
  split at hk
  ·exact h1 k u (by assumption) hk
  ·cases hk
 refine List.pairwise_append.mpr ⟨h.sublist (List.take_sublist _ _), List.pairwise_cons.mpr ⟨hd, h.sublist (List.drop_sublist _ _)⟩, fun u hu v hv => ?_⟩
 rcases List.mem_cons.mp hv with rfl | hv
 ·exact ht u hu
 ·exact Nat.lt_trans (ht u hu) (hd v hv)
structure TOk (bt : Bool) (t : SetTable) : Prop where
 led : t.led = !bt
 dm : t.dummies = #[]
 up : t.plain = true → Rsg t.place.toList
theorem Rc {t : SetTable} (h : t.dummies = #[]) (j : Nat) : t.slot j ≠ .dummy := by
 unfold SetTable.slot SetTable.has
 rw [h]
 dsimp only
 split
 ·exact fun e => nomatch e
 ·simp
theorem Yy {t : SetTable} {f : Nat → Int} {h : Int} (hd : t.dummies = #[]) : ∀ (fuel : Nat) (p : SetTable.Probe), p.dummy = none → ∀ j d, SetTable.probe.go t f h fuel p = some (.empty j d) → d = none ∧ t.slot j = .empty
 | 0, p, _, j, d, e => by unfold SetTable.probe.go at e; cases e
 | fuel + 1, p, hp, j, d, e => by
  unfold SetTable.probe.go at e
  cases q : t.slot p.j with
  | empty =>
   rw [q] at e
   cases e
   exact ⟨hp, q⟩
  | dummy => exact absurd q (Rc hd _)
  | live i =>
   rw [q] at e
   dsimp only at e
   split at e
   ·cases e
   ·refine Yy hd fuel _ ?_ j d e
    unfold SetTable.advance
    split
    ·exact hp
    ·exact hp
theorem LO {t : SetTable} {h : Int} {j : Nat} {b : Bool} (hd : t.dummies = #[]) (e : t.freeSlot h = some (j, b)) : t.place[SetTable.below t.place j]? ≠ some j := by
 unfold SetTable.freeSlot at e
 split at e
 ·rename_i j' d' q
  unfold SetTable.probe at q
  obtain ⟨rfl, hs⟩ := Yy hd _ _ rfl _ _ q
  simp only [Option.getD_none, Option.isSome_none, Option.some.injEq, Prod.mk.injEq] at e
  obtain ⟨rfl, _⟩ := e
  unfold SetTable.slot at hs
  dsimp only at hs
  intro z
  rw [if_pos (by rw [z]; simp)] at hs
  cases hs
 ·cases e
theorem TOk.Hq {bt : Bool} {t : SetTable} (h : TOk bt t) (n : Nat) : TOk bt (t.standIn n) := ⟨h.led, rfl, fun e => by simp [SetTable.standIn] at e⟩
theorem TOk.new {bt : Bool} {t : SetTable} (h : TOk bt t) (es : Array (Int × Value)) (k : Int) (x : Value) : TOk bt (layNew t es k x).2.1 := by
 unfold layNew
 split
 ·rename_i sl wd e
  have hn := LO h.dm e
  have hp : TOk bt (t.put sl).1 := by
   unfold SetTable.put
   refine ⟨h.led, ?_, fun e => BV (h.up e) hn⟩
   show (if SetTable.has t.dummies sl = true then _ else t.dummies) = #[]
   rw [h.dm]
   split
   ·simp [SetTable.eraseAt]
   ·rfl
  dsimp only
  unfold SetTable.orStandIn
  split
  ·exact hp
  ·exact hp.Hq _
 ·exact h.Hq _
theorem R1 (f : Nat → Option Nat) (n : Nat) : Rsg ((((List.range n).filterMap fun j => (f j).map (j, ·)).map (·.1))) := by
 have h : (((List.range n).filterMap fun j => (f j).map (j, ·)).map (·.1)).Sublist (List.range n) := by
  induction (List.range n) with
  | nil => exact .slnil
  | cons a l ih =>
   rw [List.filterMap_cons]
   cases f a with
   | none => exact ih.cons a
   | some v => exact ih.cons₂ a
 exact List.pairwise_lt_range.sublist h
theorem TOk.re {bt : Bool} {t : SetTable} (h : TOk bt t) (es : Array (Int × Value)) (n : Nat) : TOk bt (relayAll t es n).2.1 := by
 unfold relayAll
 split
 ·rename_i t' order e
  dsimp only
  split
  ·unfold SetTable.relaid SetTable.laid at e
   cases q : SetTable.layClean (SetTable.sizeAbove n - 1) (es.map (·.1)) with
   | none => rw [q] at e; cases e
   | some ow =>
    rw [q] at e
    simp only [Option.pure_def, Option.bind_eq_bind, Option.bind_some, Option.some.injEq, Prod.mk.injEq] at e
    obtain ⟨rfl, _⟩ := e
    exact ⟨h.led, rfl, fun _ => by simpa using R1 (fun j => ow.getD j none) _⟩
  ·exact h.Hq _
 ·exact h.Hq _
end DL
namespace DL
open PySem PySem.Spec PyProof.Rows L2 PySem.W
noncomputable def Zfs : Value → Int
 | .int i _ => i
 | _ => 0
noncomputable abbrev Bk := Array (Int × Value)
noncomputable def Zet (es : Bk) : List Int := es.toList.map fun e => Zfs e.2
structure Zfd (P : Program) (w : World) (o : Obj) (es : Bk) (t : SetTable) : Prop where
 ex : o.ExactSet
 dt : ∃ ep, o.data = .set es ep t
 el : ElemsOf (intKind P w) es.toList
 bd : es.size < scanBound
 ft : t.fits es.size = true
 ok : TOk (w.params.followText "set-order") t
 nd : (Zet es).Nodup
noncomputable def SI (P : Program) (w : World) (h : Heap) (a : Addr) (ks : List Int) : Prop := ∃ o es t, h.get? a = some o ∧ Zfd P w o es t ∧ ks = Zet es
section
variable {P : Program} {w : World} {A : Around} {E : Value → Shared → Prop} {s : Shared}
theorem SI.same {h h' : Heap} {a : Addr} {ks : List Int} (hS : SI P w h a ks) (k : ∀ o, h.get? a = some o → h'.get? a = some o) : SI P w h' a ks := by
 obtain ⟨o, es, t, g, r⟩ := hS
 exact ⟨o, es, t, k o g, r⟩
end
end DL
namespace DL
open PySem PySem.Spec PyProof.Rows L2 PySem.W
section
variable {P : Program} {w : World} {A : Around} {R : Result → Shared → Prop} {I : Addr} {fp wr : List Addr} {G : Array GenState → Array GenState → Prop} {n : Nat} {Pv : Nat → Value → Prop} {St : Nat → Shared → Prop}
end
section
variable {P : Program} {w : World} {A : Around} {E : Value → Shared → Prop} {s : Shared}
noncomputable def Jj (w : World) : Obj := { cls := .type "set", dict := none, data := .set #[] 0 (.fresh 0 0 (!w.params.followText "set-order")) }
theorem T8 (a : Value) {Q₁ : Value → Shared → Prop} (h : Q₁ (.ref s.heap.objs.size) { s with heap := s.heap.push (Jj w) }) :
  codeAny (model P w) A (.call (.builtin "set.__new__") ⟨[.type "set", a], []⟩) (wants Q₁ E) s := by
 refine codeAny_of_tree ?_
 refine wpAny_bind (m := checkBuiltinCall "set.__new__" ⟨[.type "set", a], []⟩) (wpAny_of_eq (PySem.F.newCall_set_1 a) (wpAny_pure ⟨plainId_quiet PySem.F.plain_set_new _, codeAny_builtin PySem.F.entry_set_new ?_⟩))
 rw [Around.under_plainId PySem.F.plain_set_new _]; unfold Builtin.«set.__new__» Builtin.Frozenset.newClass
 have hsub := sub_set_self
 obtain ⟨hp, g, d, tk, os⟩ := s; dsimp only; wp_walk
 refine wpAny_askSetting (wpAny_pure ?_); dsimp only; simp only [newObj]
 exact wpAny_bind (wpAny_alloc (wpAny_pure (wpAny_pure h)))
set_option maxHeartbeats 4000000 in
end
end DL
namespace DL
open PySem PySem.Spec PyProof.Rows L2 PySem.W
section
variable {P : Program} {w : World} {A : Around} {E : Value → Shared → Prop} {s : Shared}
theorem Fx {src : Source} {n : Nat} {Q : Nat → Shared → Prop} (hn : n ≠ 0) (h : ∀ r, r < n → Q r { s with drawn := s.drawn.bump src }) : wpAny (model P w) A (choose src n) Q E s := fun _ _ _ => ⟨hn, h _ (Nat.mod_lt _ (Nat.pos_of_ne_zero hn))⟩
theorem Vp {α : Type} : ∀ (l : List α) (r : Nat) (h : r < l.length), (l[r] :: l.eraseIdx r).Perm l
 | a :: l, 0, _ => .refl _
 | a :: l, r + 1, h => by
  rw [List.getElem_cons_succ, List.eraseIdx_cons_succ]
  exact (List.Perm.swap a _ _).trans ((Vp l r (Nat.lt_of_succ_lt_succ h)).cons a)
theorem CG {α : Type} : ∀ (n : Nat) (xs : List α) (s : Shared) (Q : List α → Shared → Prop), xs.length = n → (∀ ys d, ys.Perm xs → Q ys { s with drawn := d }) → wpAny (model P w) A (drawOrder n xs) Q E s
 | 0, xs, s, Q, hl, h => by
  cases xs with
  | nil => exact wpAny_pure (h [] s.drawn (.refl _))
  | cons a l => cases hl
 | n + 1, [], s, Q, hl, h => by cases hl
 | n + 1, a :: l, s, Q, hl, h => by
  unfold drawOrder
  refine wpAny_bind (Fx (by simp) fun r hr => ?_)
  rw [List.getElem?_eq_getElem hr]; dsimp only
  refine wpAny_bind (CG n _ _ _ (by rw [List.length_eraseIdx, if_pos hr]; simpa using hl) fun ys d hp => wpAny_pure ?_)
  exact h _ d ((hp.cons _).trans (Vp _ _ hr))
theorem FA {α : Type} (next : Nat → Nat) : ∀ (fuel k : Nat) (left : List α) (out : Array α), left.length = fuel → (pickOrder.go next fuel k left out).toList.Perm (out.toList ++ left)
 | 0, k, left, out, hl => by
  rw [List.length_eq_zero_iff.mp hl, List.append_nil]
  unfold pickOrder.go
  exact .refl _
 | fuel + 1, k, left, out, hl => by
  have hr : next k % left.length < left.length := Nat.mod_lt _ (by omega)
  unfold pickOrder.go
  rw [List.getElem?_eq_getElem hr]; dsimp only
  refine (FA next fuel (k + 1) _ _ (by rw [List.length_eraseIdx, if_pos hr, hl]; rfl)).trans ?_
  rw [Array.toList_push, List.append_assoc]
  exact (List.Perm.refl _).append (Vp _ _ hr)
theorem Vj {α : Type} (next : Nat → Nat) (xs : Array α) : (pickOrder next xs).toList.Perm xs.toList := by
 unfold pickOrder
 have := FA next xs.size 0 xs.toList #[] (by rw [Array.length_toList])
 simpa using this
noncomputable abbrev Ji (h : Heap) (it : Addr) (first : Value) (i : Nat) (S : Addr) (n ep : Nat) : Prop :=
 h.get? it = some { cls := .type "set_iterator", dict := none, data := .fields #[first, rawInt i, .ref S, rawInt n, rawInt ep], slots := #[] }
noncomputable def Md (w : World) (h : Heap) (first : Value) (i : Nat) (S : Addr) (es : Bk) (ep : Nat) (t : SetTable) (L : List Value) : Prop :=
 (w.params.followText "set-order" = true ∧ first = rawInt 0 ∧ L = (pickOrder (w.params.setOrder S ep) es).toList.map (·.2)) ∨
 (w.params.followText "set-order" = false ∧ ∃ (T : Addr) (ps : List Nat), first = .ref T ∧ IsTup h T (ps.map fun p : Nat => rawInt (p : Int)).toArray ∧ ps.Perm (List.range es.size) ∧ L = ps.map fun p => (es.getD p (0, .none)).2) ∨
 (w.params.followText "set-order" = false ∧ first = rawInt (if i = 0 then 0 else t.place.getD (i - 1) 0 + 1) ∧ Rsg t.place.toList ∧ t.led = true ∧ (t.plain = true ∨ es.size ≤ 1) ∧ L = es.toList.map (·.2))
theorem TB {it S : Addr} {first x : Value} {i n ep : Nat} {z : Int} {Q : PySem.Fin → Shared → Prop} (hit : Ji s.heap it first i S n ep) (hQ : ∀ h', Ji h' it (rawInt z) (i + 1) S n ep → Heap.SameBut it s.heap h' → Q (.done (.ret x)) { s with heap := h' }) :
  wpAny (model P w) A (do setField (.ref it) 0 (rawInt z); setField (.ref it) 1 (rawInt ((i : Int) + 1)); ret x) Q E s := by
 refine wpAny_bind (wpAny_setField_rec hit (by simp) fun h1 g1 s1 => ?_)
 refine wpAny_bind (wpAny_setField_rec (s := { s with heap := h1 }) g1 (by simp) fun h2 g2 s2 => wpAny_pure ?_)
 exact hQ h2 g2 (s1.trans s2)
theorem Zds {it S : Addr} {first x : Value} {i n ep : Nat} {Q : PySem.Fin → Shared → Prop} (hit : Ji s.heap it first i S n ep) (hQ : ∀ h', Ji h' it first (i + 1) S n ep → Heap.SameBut it s.heap h' → Q (.done (.ret x)) { s with heap := h' }) :
  wpAny (model P w) A (do setField (.ref it) 1 (rawInt ((i : Int) + 1)); ret x) Q E s :=
 wpAny_bind (wpAny_setField_rec hit (by simp) fun h1 g1 s1 => wpAny_pure (hQ h1 g1 s1))
theorem E2 {S : Addr} {ep : Nat} {o : Obj} {es : Bk} {t : SetTable} {Q : Bk → Shared → Prop} (ho : s.heap.get? S = some o) (hd : o.data = .set es ep t) (hf : t.fits es.size = true) (bt : w.params.followText "set-order" = true) (h : Q (pickOrder (w.params.setOrder S ep) es) s) : wpAny (model P w) A (setWalk S) Q E s := by
 unfold setWalk setsByText
 refine wpAny_bind (wpAny_setState_of ho hd hf ?_); dsimp only
 refine wpAny_bind (wpAny_bind (wpAny_askSetting (wpAny_pure ?_)))
 rw [if_pos (show (model P w).w.params.followText "set-order" = true from bt)]
 exact wpAny_bind (wpAny_askSetting (wpAny_pure h))
theorem below_at {xs : Array Nat} (h : Rsg xs.toList) {i : Nat} (hi : i < xs.size) : SetTable.below xs (if i = 0 then 0 else xs.getD (i - 1) 0 + 1) = i := by
 have sp := YK h (if i = 0 then 0 else xs.getD (i - 1) 0 + 1)
 generalize SetTable.below xs (if i = 0 then 0 else xs.getD (i - 1) 0 + 1) = r at sp
 obtain ⟨s1, s2, s3⟩ := sp
 rw [Array.length_toList] at s3
 have at' : ∀ k, k < xs.size → xs.toList[k]? = some (xs.getD k 0) := fun k hk => by rw [Array.getElem?_toList, Array.getElem?_eq_getElem hk]; simp [Array.getD, hk]
 by_cases e : i = 0
 ·subst e
  rw [if_pos rfl] at s1
  by_cases hr : r = 0
  ·exact hr
  ·exact absurd (s1 0 _ (by omega) (at' 0 (by omega))) (Nat.not_lt_zero _)
 ·rw [if_neg e] at s1 s2
  have h1 : ¬ r ≤ i - 1 := fun z => by
   have := s2 _ _ z (at' (i - 1) (by omega))
   omega
  have h2 : ¬ i < r := fun z => by
   have a := s1 i _ z (at' i hi)
   have b := h.lt (at' (i - 1) (by omega)) (at' i hi) (by omega)
   omega
  omega
theorem Ra {it S : Addr} {first : Value} {i n ep : Nat} {o : Obj} {es : Bk} {t : SetTable} {L : List Value} {Q : Fin → Shared → Prop} (hit : Ji s.heap it first i S n ep) (ho : s.heap.get? S = some o) (hd : o.data = .set es ep t) (hf : t.fits es.size = true) (hn : es.size = n)
  (md : Md w s.heap first i S es ep t L) (hi : i < n)
  (hQ : ∀ h' v first', L[i]? = some v → Ji h' it first' (i + 1) S n ep → Heap.SameBut it s.heap h' → (∀ h'', (∀ b o, s.heap.get? b = some o → b ≠ it → h''.get? b = some o) → Md w h'' first' (i + 1) S es ep t L) → (∀ T', first' = .ref T' → first = .ref T') → Q (.done (.ret v)) { s with heap := h' }) :
  wpAny (model P w) A (Builtin.«set_iterator.__next__» ⟨[.ref it], []⟩) Q E s := by
 subst hn
 show wpAny _ _ (fieldsOf (.ref it) >>= _) _ _ _
 refine wpAny_bind (wpAny_fieldsOf hit rfl ?_)
 refine wpAny_bind (wpAny_setEntries_of ho hd hf ?_)
 rw [if_neg (by simp)]; dsimp only
 rcases md with ⟨bt, rfl, rfl⟩ | ⟨bt, T, ps, rfl, hT, hp, rfl⟩ | ⟨bt, rfl, up, led, pl, rfl⟩
 ·show wpAny _ _ (setNext S 0 ((i : Int)).toNat ((ep : Int)).toNat >>= _) _ _ _
  rw [Int.toNat_natCast, Int.toNat_natCast]
  unfold setNext setsByText
  refine wpAny_bind (wpAny_bind (wpAny_setState_of ho hd hf ?_)); dsimp only
  refine wpAny_bind (wpAny_bind (wpAny_askSetting (wpAny_pure ?_)))
  rw [if_pos (show (model P w).w.params.followText "set-order" = true from bt), if_neg (by simp)]
  refine wpAny_bind (E2 ho hd hf bt (wpAny_pure ?_))
  have lp : (pickOrder (w.params.setOrder S ep) es).size = es.size := by rw [← Array.length_toList, (Vj _ es).length_eq, Array.length_toList]
  rw [Array.getElem?_eq_getElem (by rw [lp]; exact hi)]
  refine TB (z := ((0 : Nat) : Int)) hit fun h' g sb => hQ h' _ _ ?_ g sb (fun h'' _ => .inl ⟨bt, rfl, rfl⟩) fun T' e => nomatch e
  rw [List.getElem?_map, Array.getElem?_toList, Array.getElem?_eq_getElem (by rw [lp]; exact hi)]
  rfl
 ·show wpAny _ _ (seqItems? (.ref T) >>= _) _ _ _
  obtain ⟨oT, gT, cT, nT, dT⟩ := hT
  have lp : ps.length = es.size := by rw [hp.length_eq, List.length_range]
  refine wpAny_bind (wpAny_seqItems gT dT ?_); dsimp only
  have ip : i < ps.length := by omega
  have pe : ps[i] < es.size := List.mem_range.mp (hp.mem_iff.mp (List.getElem_mem ip))
  rw [Int.toNat_natCast, List.getElem?_toArray, List.getElem?_map, List.getElem?_eq_getElem ip]
  show wpAny _ _ (setNextDrawn S ((ps[i] : Int)).toNat ((ep : Int)).toNat >>= _) _ _ _
  rw [Int.toNat_natCast, Int.toNat_natCast]; unfold setNextDrawn
  refine wpAny_bind (wpAny_bind (wpAny_setState_of ho hd hf ?_)); dsimp only
  rw [if_neg (by simp), Array.getElem?_eq_getElem pe]; dsimp only
  refine wpAny_pure (Zds hit fun h' g sb => hQ h' _ _ ?_ g sb (fun h'' kk => .inr (.inl ⟨bt, T, ps, rfl, ⟨oT, kk T oT gT ?_, cT, nT, dT⟩, hp, rfl⟩)) fun T' e => e)
  ·rw [List.getElem?_map, List.getElem?_eq_getElem ip]
   simp [Array.getD, pe]
  ·intro e
   rw [e, hit] at gT
   cases gT
   exact absurd (Value.type.inj cT) (by decide)
 ·have sz : t.place.size = es.size := by
   unfold SetTable.fits at hf
   rw [Bool.and_eq_true] at hf
   exact eq_of_beq hf.1
  show wpAny _ _ (setNext S ((if i = 0 then (0 : Int) else (t.place.getD (i - 1) 0 : Int) + 1)).toNat ((i : Int)).toNat ((ep : Int)).toNat >>= _) _ _ _
  have ez : (if i = 0 then (0 : Int) else (t.place.getD (i - 1) 0 : Int) + 1).toNat = (if i = 0 then 0 else t.place.getD (i - 1) 0 + 1) := by split <;> omega
  rw [ez, Int.toNat_natCast, Int.toNat_natCast]
  unfold setNext setsByText
  refine wpAny_bind (wpAny_bind (wpAny_setState_of ho hd hf ?_)); dsimp only
  refine wpAny_bind (wpAny_bind (wpAny_askSetting (wpAny_pure ?_)))
  rw [if_neg (show ¬ (model P w).w.params.followText "set-order" = true by rw [show (model P w).w.params.followText "set-order" = false from bt]; exact Bool.false_ne_true)]
  have nd : (!t.plain && decide (es.size > 1)) = false := by
   rcases pl with pl | pl
   ·rw [pl]; rfl
   ·rw [decide_eq_false (by omega), Bool.and_false]
  show wpAny _ _ (if (!t.plain && decide (es.size > 1)) = true then _ else _) _ _ _
  rw [nd, if_neg Bool.false_ne_true]
  show wpAny _ _ ((if (!t.led && !es.isEmpty) = true then unsupported "set:maker-not-led" else pure ()) >>= _) _ _ _
  rw [led]; simp only [Bool.not_true, Bool.false_and, Bool.false_eq_true, if_false]
  refine wpAny_bind (wpAny_pure (wpAny_pure ?_))
  rw [below_at up (by rw [sz]; exact hi), Array.getElem?_eq_getElem hi, Array.getElem?_eq_getElem (by rw [sz]; exact hi)]; dsimp only
  refine TB (z := ((t.place[i]'(by rw [sz]; exact hi) + 1 : Nat) : Int)) hit fun h' g sb => hQ h' _ _ ?_ g sb (fun h'' _ => .inr (.inr ⟨bt, ?_, up, led, pl, rfl⟩)) fun T' e => nomatch e
  ·rw [List.getElem?_map, Array.getElem?_toList, Array.getElem?_eq_getElem hi]
   rfl
  ·rw [if_neg (Nat.succ_ne_zero i)]
   simp [Array.getD, sz, hi]
end
end DL
namespace DL
open PySem PySem.Spec PyProof.Rows L2 PySem.W
theorem QL : Slot "set_iterator" "__next__" "set_iterator.__next__" := .of (owner := "set_iterator") (n := "__next__") (by rw [typeLookup_type, builtinLookup_eq_fast]; kernel_rfl) (by decide +kernel) (by decide +kernel) (by decide +kernel) (by first | exact .inl (by decide +kernel) | exact .inr (by decide +kernel)) (by rw [isSubtype_type]; kernel_rfl)
theorem Kv : entryFor table "set_iterator.__next__" = some Builtin.«set_iterator.__next__» := entryFor_of_tree (by kernel_rfl)
theorem GY (a : Value) : argsOk "set_iterator.__next__" ⟨[a], []⟩ := by unfold argsOk; kernel_rfl
theorem KG : Slot "set_iterator" "__iter__" "set_iterator.__iter__" := .of (owner := "set_iterator") (n := "__iter__") (by rw [typeLookup_type, builtinLookup_eq_fast]; kernel_rfl) (by decide +kernel) (by decide +kernel) (by decide +kernel) (by first | exact .inl (by decide +kernel) | exact .inr (by decide +kernel)) (by rw [isSubtype_type]; kernel_rfl)
theorem BI : entryFor table "set_iterator.__iter__" = some Builtin.«dict_keyiterator.__iter__» :=
 entryFor_alias (id' := "dict_keyiterator.__iter__") (by kernel_rfl) (by first | rfl | decide +kernel | (unfold String.splitOn; simp +decide [String.splitOnAux])) (by decide +kernel) (by kernel_rfl)
theorem Fg (a : Value) : argsOk "set_iterator.__iter__" ⟨[a], []⟩ := by unfold argsOk; kernel_rfl
theorem Ux : entryFor table "set.__iter__" = some Builtin.«frozenset.__iter__» :=
 entryFor_alias (id' := "frozenset.__iter__") (by kernel_rfl) (by first | rfl | decide +kernel | (unfold String.splitOn; simp +decide [String.splitOnAux])) (by decide +kernel) (by kernel_rfl)
section
variable {P : Program} {w : World} {A : Around} {E : Value → Shared → Prop} {s : Shared}
theorem Eg {α : Type} {Q : α → Shared → Prop} (hh : A.handled = none) (hE : ∀ h' e, (∀ b o, s.heap.get? b = some o → h'.get? b = some o) → (∃ o, h'.get? e = some o ∧ o.cls = .type "StopIteration") → E (.ref e) { s with heap := h' }) :
  wpAny (model P w) A (newExc (.type "StopIteration") [] >>= fun e => (raiseNew e : Sem α)) Q E s := by
 refine wpAny_bind ?_
 simp only [newExc, newTuple]
 refine wpAny_bind (wpAny_newObj_type ?_ (by size_fits))
 refine wpAny_bind (m := firstArgMember _ _) (wpAny_of_eq (a := Value.none) (by first | rfl | (simp only [firstArgMember]; rfl)) ?_)
 refine wpAny_newObj_type ?_ (by size_fits)
 simp only [raiseNew]
 refine wpAny_bind (wpAny_handled ?_)
 rw [hh]
 refine wpAny_bind (wpAny_pure (wpAny_throw ?_))
 exact hE _ _ (fun b o q => Heap.get?_push_of_some _ (Heap.get?_push_of_some _ q)) ⟨_, Heap.get?_push_size _ rfl, rfl⟩
theorem Za2 {it S : Addr} {first : Value} {n ep : Nat} {o : Obj} {es : Bk} {t : SetTable} {L : List Value} {Q : PySem.Fin → Shared → Prop} (hh : A.handled = none) (hit : Ji s.heap it first n S n ep) (ho : s.heap.get? S = some o) (hd : o.data = .set es ep t) (hf : t.fits es.size = true) (hn : es.size = n)
  (md : Md w s.heap first n S es ep t L) (hE : ∀ h' e, (∀ b o, b ≠ it → s.heap.get? b = some o → h'.get? b = some o) → (∃ o, h'.get? e = some o ∧ o.cls = .type "StopIteration") → E (.ref e) { s with heap := h' }) :
  wpAny (model P w) A (Builtin.«set_iterator.__next__» ⟨[.ref it], []⟩) Q E s := by
 subst hn
 have fin : wpAny (model P w) A (do setField (.ref it) 2 .none; raiseNew (← newExc (.type "StopIteration") []) : Sem PySem.Fin) Q E s :=
  wpAny_bind (wpAny_setField_rec hit (by simp) fun h1 g1 s1 => Eg (s := { s with heap := h1 }) hh fun h' e k x => hE h' e (fun b o hb q => k b o ((s1.2 b hb).trans q)) x)
 show wpAny _ _ (fieldsOf (.ref it) >>= _) _ _ _
 refine wpAny_bind (wpAny_fieldsOf hit rfl (wpAny_bind (wpAny_setEntries_of ho hd hf ?_)))
 rw [if_neg (by simp)]; dsimp only
 rcases md with ⟨bt, rfl, rfl⟩ | ⟨bt, T, ps, rfl, hT, hp, rfl⟩ | ⟨bt, rfl, up, led, pl, rfl⟩
 ·show wpAny _ _ (setNext S 0 ((es.size : Int)).toNat ((ep : Int)).toNat >>= _) _ _ _
  rw [Int.toNat_natCast, Int.toNat_natCast]; unfold setNext setsByText
  refine wpAny_bind (wpAny_bind (wpAny_setState_of ho hd hf (wpAny_bind (wpAny_bind (wpAny_askSetting (wpAny_pure ?_))))))
  rw [if_pos (show (model P w).w.params.followText "set-order" = true from bt), if_neg (by simp)]
  refine wpAny_bind (E2 ho hd hf bt (wpAny_pure ?_))
  have lp : (pickOrder (w.params.setOrder S ep) es).size = es.size := by rw [← Array.length_toList, (Vj _ es).length_eq, Array.length_toList]
  rw [Array.getElem?_eq_none (by rw [lp]; exact Nat.le_refl _)]
  exact fin
 ·show wpAny _ _ (seqItems? (.ref T) >>= _) _ _ _
  obtain ⟨oT, gT, cT, nT, dT⟩ := hT
  have lp : ps.length = es.size := by rw [hp.length_eq, List.length_range]
  refine wpAny_bind (wpAny_seqItems gT dT ?_); dsimp only
  rw [Int.toNat_natCast, List.getElem?_toArray, List.getElem?_map, List.getElem?_eq_none (by omega)]; dsimp only [Option.map_none]
  refine wpAny_bind (wpAny_setField_rec hit (by simp) fun h0 g0 s0 => ?_)
  exact wpAny_bind (wpAny_setField_rec (s := { s with heap := h0 }) g0 (by simp) fun h1 g1 s1 => Eg (s := { s with heap := h1 }) hh fun h' e k x => hE h' e (fun b o hb q => k b o ((s1.2 b hb).trans ((s0.2 b hb).trans q))) x)
 ·have sz : t.place.size = es.size := by
   unfold SetTable.fits at hf
   rw [Bool.and_eq_true] at hf
   exact eq_of_beq hf.1
  show wpAny _ _ (setNext S ((if es.size = 0 then (0 : Int) else (t.place.getD (es.size - 1) 0 : Int) + 1)).toNat ((es.size : Int)).toNat ((ep : Int)).toNat >>= _) _ _ _
  rw [Int.toNat_natCast, Int.toNat_natCast]; unfold setNext setsByText
  refine wpAny_bind (wpAny_bind (wpAny_setState_of ho hd hf (wpAny_bind (wpAny_bind (wpAny_askSetting (wpAny_pure ?_))))))
  rw [if_neg (show ¬ (model P w).w.params.followText "set-order" = true by rw [show (model P w).w.params.followText "set-order" = false from bt]; exact Bool.false_ne_true)]
  have nd : (!t.plain && decide (es.size > 1)) = false := by
   rcases pl with pl | pl
   ·rw [pl]; rfl
   ·rw [decide_eq_false (by omega), Bool.and_false]
  show wpAny _ _ (if (!t.plain && decide (es.size > 1)) = true then _ else _) _ _ _
  rw [nd, if_neg Bool.false_ne_true]
  show wpAny _ _ ((if (!t.led && !es.isEmpty) = true then unsupported "set:maker-not-led" else pure ()) >>= _) _ _ _
  rw [led]; simp only [Bool.not_true, Bool.false_and, Bool.false_eq_true, if_false]
  refine wpAny_bind (wpAny_pure (wpAny_pure ?_))
  have bl : SetTable.below t.place ((if es.size = 0 then (0 : Int) else (t.place.getD (es.size - 1) 0 : Int) + 1)).toNat = es.size := by
   obtain ⟨s1, s2, s3⟩ := YK up ((if es.size = 0 then (0 : Int) else (t.place.getD (es.size - 1) 0 : Int) + 1)).toNat
   rw [Array.length_toList, sz] at s3
   by_cases e : es.size = 0
   ·omega
   ·rw [if_neg e] at s1 s2 s3 ⊢
    by_cases hr : SetTable.below t.place ((t.place.getD (es.size - 1) 0 : Int) + 1).toNat ≤ es.size - 1
    ·have := s2 _ _ hr (show t.place.toList[es.size - 1]? = some (t.place.getD (es.size - 1) 0) by rw [Array.getElem?_toList, Array.getElem?_eq_getElem (by omega)]; simp [Array.getD, sz]; omega)
     omega
    ·omega
  rw [bl, Array.getElem?_eq_none (Nat.le_refl _)]
  exact fin
noncomputable def SK (w : World) (it S T : Addr) (es : Bk) (ep : Nat) (t : SetTable) (L : List Value) (i : Nat) (h : Heap) : Prop :=
 ∃ first o, Ji h it first i S es.size ep ∧ h.get? S = some o ∧ o.data = .set es ep t ∧ t.fits es.size = true ∧ Md w h first i S es ep t L ∧ ∀ T', first = .ref T' → T' = T
theorem Md.keep {h h' : Heap} {first : Value} {i : Nat} {S : Addr} {es : Bk} {ep : Nat} {t : SetTable} {L : List Value} (md : Md w h first i S es ep t L) (k : ∀ T, first = .ref T → ∀ o, h.get? T = some o → h'.get? T = some o) : Md w h' first i S es ep t L := by
 rcases md with md | ⟨bt, T, ps, e, ⟨o, g, r⟩, r'⟩ | md
 ·exact .inl md
 ·exact .inr (.inl ⟨bt, T, ps, e, ⟨o, k T e o g, r⟩, r'⟩)
 ·exact .inr (.inr md)
theorem Dv {es : Bk} {ep : Nat} {t : SetTable} {L : List Value} (hh : A.handled = none) (it S T : Addr) (hS : S ≠ it) (hT : T ≠ it) : Walks P w A it [it, S, T] [it] es.size (fun i v => L[i]? = some v) (SK w it S T es ep t L) where
 sub := fun b hb => by simp at hb; simp [hb]
 frame := fun i h h' st hk => by
  obtain ⟨first, o, g1, g2, d, f, md, hf⟩ := st
  exact ⟨first, o, hk it (by simp) _ g1, hk S (by simp) _ g2, d, f, md.keep fun T' e o q => hk T' (by rw [hf T' e]; simp) o q, hf⟩
 item := fun i s Q E hi st hQ => by
  obtain ⟨first, o, g1, g2, d, f, md, hf⟩ := st
  have hTy : s.TypeIs (.ref it) "set_iterator" := ⟨_, g1, rfl⟩
  unfold pyNext
  refine wpAny_bind (wpAny_attempt (wpAny_callSpecial?_slot (name := Str.ofString "__next__") hTy QL (wpAny_call_entry QL hTy Kv (Ra g1 g2 d f rfl md hi fun h' v first' hv g' sb mk fr => ⟨v, rfl, wpAny_pure ?_⟩) (GY _))))
  exact hQ v h' s.toks hv ⟨first', o, g', (sb.2 S hS).trans g2, d, f, mk h' fun b o q hb => (sb.2 b hb).trans q, fun T' e => hf T' (fr T' e)⟩ fun b o hb q => (sb.2 b fun e => hb (by simp [e])).trans q
 done := fun s Q E st hQ => by
  obtain ⟨first, o, g1, g2, d, f, md, hf⟩ := st
  have hTy : s.TypeIs (.ref it) "set_iterator" := ⟨_, g1, rfl⟩
  unfold pyNext
  refine wpAny_bind (wpAny_attempt (wpAny_callSpecial?_slot (name := Str.ofString "__next__") hTy QL (wpAny_call_entry QL hTy Kv (Za2 (by first | exact hh | simp [hh]) g1 g2 d f rfl md fun h' e k x => ?_) (GY _))))
  obtain ⟨oe, ge, ce⟩ := x
  refine wpAny_bind (wpAny_isInstance (T := "StopIteration") (b := true) ⟨oe, ge, ce⟩ isSubtype_stop (wpAny_pure ?_))
  exact hQ h' s.toks fun b o hb q => k b o (fun e => hb (by simp [e])) q
 self := fun i s Q E st hQ => by
  obtain ⟨first, o, g1, _⟩ := st
  have hTy : s.TypeIs (.ref it) "set_iterator" := ⟨_, g1, rfl⟩
  refine wpAny_pyIter_slot hTy KG (wpAny_call_entry KG hTy BI ?_ (Fg _))
  exact wpAny_pure ⟨_, rfl, "set_iterator", _, hTy, QL.lookup, hQ⟩
end
end DL
namespace DL
open PySem PySem.Spec PyProof.Rows L2 PySem.W
theorem Rv : Slot "set" "__len__" "set.__len__" := .of (owner := "set") (n := "__len__") (by rw [typeLookup_type, builtinLookup_eq_fast]; kernel_rfl) (by decide +kernel) (by decide +kernel) (by decide +kernel) (by first | exact .inl (by decide +kernel) | exact .inr (by decide +kernel)) (by rw [isSubtype_type]; kernel_rfl)
section
variable {P : Program} {w : World} {A : Around} {E : Value → Shared → Prop} {s : Shared}
end
theorem SI.nodup {P : Program} {w : World} {h : Heap} {a : Addr} {ks : List Int} (q : SI P w h a ks) : ks.Nodup := by
 obtain ⟨o, es, t, _, so, rfl⟩ := q
 exact so.nd
theorem MV {h : Heap} {vs : List Value} {out : Array Value} {b : Addr} {o : Obj} (q : h.get? b = some o) : (sortedHeap (h.push (seqObj "list" vs.toArray 0)) h.objs.size vs out).get? b = some o := by
 have bl : b < h.objs.size := Heap.lt_size q
 unfold sortedHeap
 exact (Heap.get?_update_other _ _ (Nat.ne_of_gt bl)).trans (Heap.get?_push_of_some _ (Heap.get?_push_of_some _ ((Heap.get?_update_other _ _ (Nat.ne_of_gt bl)).trans (Heap.get?_push_of_some _ q))))
theorem RA (h : Heap) (vs : List Value) (out : Array Value) : ∃ e, (sortedHeap (h.push (seqObj "list" vs.toArray 0)) h.objs.size vs out).get? h.objs.size = some (seqObj "list" out e) := by
 unfold sortedHeap
 have h1 : (h.push (seqObj "list" vs.toArray 0)).get? h.objs.size = some (seqObj "list" vs.toArray 0) := Heap.get?_push_size _ rfl
 exact ⟨_, get?_update_seq (Heap.get?_push_of_some _ (Heap.get?_push_of_some _ (get?_update_seq h1 (fun _ => #[])))) (fun _ => out)⟩
section
variable {P : Program} {w : World} {A : Around} {E : Value → Shared → Prop} {s : Shared}
end
section
variable {X : Cx} {e : Expr} {t : TA} {p pos p2 pos2 : Pos}
noncomputable def tSS (X : Cx) (t : TA) : TE := fun σ H Q => t σ H fun xs H1 => ∃ (l : Addr) (ns : List Int), xs = [.ref l] ∧ SqL X.K H1 l (ns.map V.int) ∧ ns.length < 64 ∧ ∀ ks : List Int, ks.Pairwise (· ≤ ·) → ks.Nodup → (∀ z, z ∈ ks ↔ z ∈ ns) → ∀ l, H1 l = none → Q (.ref l) (upd H1 l (.lst (ks.map V.int)))
noncomputable def dSS (t : DTA) : DTE := fun Δ M Φ => t Δ M fun xs M1 => ∃ ns : List Int, Jh xs M1 ns ∧ ns.length < 64 ∧ ∀ ks : List Int, ks.Pairwise (· ≤ ·) → ks.Nodup → (∀ z, z ∈ ks ↔ z ∈ ns) → Φ (.dat (.list (ks.map PyData.int))) M1
end
end DL
namespace DL
open PySem PySem.Spec PyProof.Rows L2
section
variable {X : Cx}
noncomputable def Zgb (τ : DTE) : DTT := fun Δ M Φ => τ Δ M fun x M1 => onQ x M1 fun ds => Φ (!ds.isEmpty) M1
end
end DL
namespace DL
open PySem PySem.Spec PyProof.Rows L2 PySem.W
structure Gives (it l : Addr) (xs : Array Value) (st : Nat → Heap → Prop) : Prop where
 frame : ∀ {i : Nat} {h h' : Heap}, st i h → (∀ b, b = it ∨ b = l → ∀ o, h.get? b = some o → h'.get? b = some o) → st i h'
 live : ∀ {i : Nat} {h : Heap}, st i h → ∃ o, h.get? it = some o
 item : ∀ {prog : Program} {w : World} {A : Around} {E : Value → Shared → Prop} {s : Shared} {Q : Value → Shared → Prop} {i : Nat} {x : Value}, st i s.heap → xs[i]? = some x →
  (∀ h', st (i + 1) h' → Heap.SameBut it s.heap h' → Q x { s with heap := h' }) → wpAny (model prog w) A (Builtin.SmallTypes.nextOf (.ref it)) Q E s
 done : ∀ {prog : Program} {w : World} {A : Around} {E : Value → Shared → Prop} {s : Shared} {Q : Value → Shared → Prop} {i : Nat}, A.handled = none → st i s.heap → xs[i]? = none →
  (∀ h' e, Heap.ExtBut it s.heap h' → (∃ o, h'.get? e = some o ∧ o.cls = .type "StopIteration") → E (.ref e) { s with heap := h' }) → wpAny (model prog w) A (Builtin.SmallTypes.nextOf (.ref it)) Q E s
noncomputable def Zgq (a b c d : Addr) (h h' : Heap) : Prop := ∀ x o, x ≠ a → x ≠ b → x ≠ c → x ≠ d → h.get? x = some o → h'.get? x = some o
section
variable {prog : Program} {w : World} {A : Around} {E : Value → Shared → Prop} {s : Shared} {z TI TO p q l m : Addr} {xs ys : Array Value} {f g : Nat → Heap → Prop} {i j : Nat}
end
noncomputable abbrev zt1 (h : Heap) (l : Addr) : Heap := h.push { cls := .type "tuple_iterator", data := .fields #[.ref l, .int 0 0] }
noncomputable abbrev zt2 (h : Heap) (l m : Addr) : Heap := (zt1 h l).push { cls := .type "list_iterator", data := .fields #[.ref m, .int 0 0] }
noncomputable abbrev zt3 (h : Heap) (l m : Addr) : Heap := (zt2 h l m).push { cls := .type "tuple", data := .seq #[.ref h.objs.size, .ref (zt1 h l).objs.size] }
noncomputable abbrev zt4 (h : Heap) (l m : Addr) : Heap := (zt3 h l m).push { cls := .type "tuple", data := .seq #[.none, .none] }
noncomputable abbrev zt5 (h : Heap) (l m : Addr) : Heap := (zt4 h l m).push { cls := .type "zip", data := .fields #[.none, .bool false, .bool false, .ref (zt2 h l m).objs.size, .ref (zt3 h l m).objs.size] }
section
variable {prog : Program} {w : World} {A : Around} {E : Value → Shared → Prop} {s : Shared}
end
noncomputable def Zfn (K : PySem.W.Frag) (a b : Addr) : It :=
  ⟨fun i H => ∃ xs ys x y, SqT K H a xs ∧ xs[i]? = some x ∧ SqL K H b ys ∧ ys[i]? = some y,
   fun i H v H' => ∃ T x y, (∀ xs, SqT K H a xs → xs[i]? = some x) ∧ (∀ ys, SqL K H b ys → ys[i]? = some y) ∧ H T = none ∧ v = .ref T ∧ H' = upd H T (.tup [x, y]),
   fun i H => ∃ xs ys, SqT K H a xs ∧ SqL K H b ys ∧ (xs.length ≤ i ∨ ys.length ≤ i)⟩
noncomputable def Zgy (a b : Addr) (n : Nat) (i : Nat) (h : Heap) : Prop :=
 IsZip h (n + 4) (n + 2) (n + 3) .none ∧ IsPair h (n + 2) (.ref n) (.ref (n + 1)) ∧ (∃ u v, IsPair h (n + 3) u v) ∧ h.IsTupleIter n a i ∧ h.IsListIter (n + 1) b i
section
variable {X : Cx}
noncomputable def ZfW (K : PySem.W.Frag) (ta : TA) : TI := fun σ H R => ta σ H fun vs H1 => ∃ a b, vs = [.ref a, .ref b] ∧ (∃ xs, SqT K H1 a xs) ∧ (∃ ys, SqL K H1 b ys) ∧ R (Zfn K a b) H1
noncomputable def Zfv (ta : DTA) : YU := fun Δ M Ψ => ta Δ M fun xs M1 => on2 xs fun x y => onT x fun as => onL y fun bs => Ψ (ZbW as bs) M1
end
end DL
namespace DL
open PySem PySem.Spec PyProof.Rows L2 PySem.W
section
variable {X : Cx} {tg iter : Expr} {g : DTG} {tb : DTS} {body : List Stmt} {pos : Pos}
noncomputable def ZfL (src : YU) (g : DTG) (tb : DTS) : DTS := fun D Δ M => src Δ M fun ds M1 => FR g tb D ds Δ M1
noncomputable def ZdM (K : PySem.W.Frag) : V → List V → Hp → VK → Prop := fun x vs H Q => ∃ (l : Addr) (ss : List Str) (t : Str), x = .ref l ∧ vs = [V.str t] ∧ SqL K H l (List.map V.str ss) ∧ t ∈ ss ∧ Q (.int (ss.idxOf t : Nat)) H
noncomputable def YI (ds : List PyData) (P : List Str → Prop) : Prop := ∃ ss, ds = ss.map PyData.str ∧ P ss
theorem X2 {K : PySem.W.Frag} {M : Mp} {H : Hp} : ∀ {vs : List V} {ss : List Str}, Dts K M H vs (ss.map PyData.str) → vs = ss.map V.str
 | vs, [], h => by
  rw [List.map_nil] at h
  cases h
  rfl
 | vs, n :: ns, h => by
  rw [List.map_cons] at h
  cases h with
  | cons h1 h2 =>
   cases h1
   rw [X2 h2, List.map_cons]
noncomputable def Zgt (to te : DTE) : DTE := fun Δ M Φ => to Δ M fun x M1 => onL x fun ds => te Δ M1 fun y M2 => onS y fun t => YI ds fun ss => t ∈ ss ∧ Φ (.dat (.int (ss.idxOf t : Nat))) M2
noncomputable def Zfo (x : DV) (P : List PyData → Prop) : Prop := match x with | .dat (.tuple ds) => P ds | .dat (.list ds) => P ds | _ => False
noncomputable def iTL (K : PySem.W.Frag) (tl : TE) : TI := fun σ H R => tl σ H fun x H1 => ∃ a, x = .ref a ∧ (((∃ xs, SqL K H1 a xs) ∧ R (Itl K a) H1) ∨ (∃ xs, SqT K H1 a xs) ∧ R (Itt K a) H1)
noncomputable def Zfq (te : DTE) : YU := fun Δ M Ψ => te Δ M fun x M1 => Zfo x fun ds => Ψ ds M1
end
end DL
namespace DL
open PySem PySem.Spec PyProof.Rows L2
noncomputable def Zdq (X : Cx) (scope : Scope) (k : Str) (C : Addr) (N : List Str) (ex : List Addr) (s : Shared) (H : Hp) : Cx :=
 { X with N := N, s₀ := s, H₀ := H, env := compEnvC scope ((k, C + 1) :: Ez X.env scope.names []) C X.env, outer := X.stack, ex := ex, fn := fun x => x == k, pn := [], xe := fun _ _ => False }
structure Zci (X : Cx) (scope : Scope) (k : Str) (N : List Str) (ix : List (Option Nat)) : Prop where
 kind : scope.kind = .function
 cf : ∀ n cl, cellsFrom n scope.names cl = (k, n) :: cl
 pc : ∀ h, pushCells h scope.names = h.push { cls := .type "cell", data := .cell none }
 cellK : ∀ y ∈ scope.names, y.2 = .cell → y.1 = k
 nk : ∀ y ∈ scope.names, y.2 = .free → y.1 ≠ k
 names : ∀ y ∈ scope.names, y.2 = .local → scope.names.lookup y.1 = some .local
 free : ∀ y ∈ scope.names, y.2 = .free → X.env.kindOf y.1 = some .cell
 len : N.length = ix.length
 cap : ∀ (j : Nat) (x : Str) (i : Nat), N[j]? = some x → ix[j]? = some (some i) → X.N[i]? = some x ∧ (x, NameKind.free) ∈ scope.names ∧ (relabel scope X.env).names.lookup x = some .cell
section
variable {X : Cx} {pins : List (Addr × Obj)} {σ : L2.St} {H2 : Hp} {s2 : Shared} {scope : Scope} {k : Str} {N : List Str} {ix : List (Option Nat)} {C : Addr} {fp : List Addr}
end
section
variable {X : Cx}
set_option maxHeartbeats 2000000 in
end
end DL
namespace DL
open PySem PySem.Spec PyProof.Rows L2 PySem.W
noncomputable def N6 (o : Option OO) (P : List (Key × DV) → Prop) : Prop := match o with | some (.dko ps) => P ps | _ => False
theorem Fn (ps : List (Key × DV)) (P : List (Key × DV) → Prop) : N6 (some (.dko ps)) P = P ps := propext Iff.rfl
theorem EA {o : Option OO} {P : List (Key × DV) → Prop} (h : N6 o P) : ∃ ps, o = some (.dko ps) ∧ P ps := by
 unfold N6 at h
 split at h
 ·exact ⟨_, rfl, h⟩
 ·exact h.elim
noncomputable def VP (ps : List (Key × DV)) (k : Key) : Option DV := (ps.find? fun p => decide (p.1 = k)).map (·.2)
noncomputable def Ge (ps : List (Key × DV)) (k : Key) (x : DV) : List (Key × DV) := if (ps.any fun p => decide (p.1 = k)) = true then ps.map (fun p => if p.1 = k then (p.1, x) else p) else ps ++ [(k, x)]
section
variable {K : PySem.W.Frag} {M : Mp} {H : Hp}
noncomputable abbrev KO (K : PySem.W.Frag) (M : Mp) (H : Hp) : List (Key × V) → List (Key × DV) → Prop := Paired fun (p : Key × V) (q : Key × DV) => p.1 = q.1 ∧ VR0 K M H p.2 q.2
theorem VR0.rel {v : V} {x : DV} (h : VR0 K M H v x) : Ql K M H v x := by
 cases x with
 | dat d => exact h
 | own b => exact h
 | ty n => exact h.elim
theorem ZbG {kvs : List (Key × V)} {ps : List (Key × DV)} (h : KO K M H kvs ps) (k : Key) : (kvs.any fun p => decide (p.1 = k)) = ps.any fun p => decide (p.1 = k) := by
 induction h with
 | nil => rfl
 | @cons p q ps qs h1 h2 ih => rw [List.any_cons, List.any_cons, ih, h1.1]
theorem Zaa {kvs : List (Key × V)} {ps : List (Key × DV)} (h : KO K M H kvs ps) (k : Key) {x : DV} (e : VP ps k = some x) : ∃ v, YF kvs k = some v ∧ VR0 K M H v x := by
 induction h with
 | nil => cases e
 | @cons p q ps qs h1 h2 ih =>
  unfold VP at e
  unfold YF
  by_cases z : q.1 = k
  ·rw [List.find?_cons_of_pos (by simpa using z)] at e
   rw [List.find?_cons_of_pos (by simpa using h1.1.trans z)]
   cases e
   exact ⟨p.2, rfl, h1.2⟩
  ·rw [List.find?_cons_of_neg (by simpa using z)] at e
   rw [List.find?_cons_of_neg (by simpa using fun y => z (h1.1.symm.trans y))]
   exact ih e
theorem Oj {kvs : List (Key × V)} {ps : List (Key × DV)} (h : KO K M H kvs ps) (k : Key) {v : V} {x : DV} (hv : VR0 K M H v x) : KO K M H (kvs.map fun p => if p.1 = k then (p.1, v) else p) (ps.map fun p => if p.1 = k then (p.1, x) else p) := by
 induction h with
 | nil => exact .nil
 | @cons p q ps qs h1 h2 ih =>
  refine .cons ?_ ih
  dsimp only
  by_cases z : q.1 = k
  ·rw [if_pos z, if_pos (h1.1.trans z)]
   exact ⟨h1.1, hv⟩
  ·rw [if_neg z, if_neg fun y => z (h1.1.symm.trans y)]
   exact h1
theorem Ta {kvs : List (Key × V)} {ps : List (Key × DV)} (h : KO K M H kvs ps) (k : Key) {v : V} {x : DV} (hv : VR0 K M H v x) : KO K M H (putK kvs k v) (Ge ps k x) := by
 unfold putK Ge
 rw [ZbG h k]
 split
 ·exact Oj h k hv
 ·exact Paired.snoc h ⟨rfl, hv⟩
theorem NO {kvs : List (Key × V)} {ps : List (Key × DV)} (h : KO K M H kvs ps) : kvs.length = ps.length := by
 induction h with
 | nil => rfl
 | cons h1 h2 ih => rw [List.length_cons, List.length_cons, ih]
theorem OY {kvs : List (Key × V)} {ps : List (Key × DV)} (h : KO K M H kvs ps) : kvs.map (·.1) = ps.map (·.1) := by
 induction h with
 | nil => rfl
 | cons h1 h2 ih => rw [List.map_cons, List.map_cons, ih, h1.1]
theorem Ry {M' : Mp} {H' : Hp} {kvs : List (Key × V)} {ps : List (Key × DV)} (h : KO K M H kvs ps) (st : Step M H M' H') : KO K M' H' kvs ps := Paired.Si h fun _ _ z => ⟨z.1, z.2.step st⟩
theorem ZN.ko (r : ZN K M H) {a : Addr} {ps : List (Key × DV)} (h : M a = some (.dko ps)) : ∃ kvs, H a = some (.dK kvs) ∧ KO K M H kvs ps := r.ok a _ h
theorem ZN.Pa (r : ZN K M H) {p : Addr} {kvs : List (Key × V)} {ps : List (Key × DV)} (st : Step M H (Zx M p (.dko ps)) (upd H p (.dK kvs))) (h : KO K M H kvs ps) : ZN K (Zx M p (.dko ps)) (upd H p (.dK kvs)) :=
 r.C6 st ⟨kvs, Qx, Ry h st⟩
theorem Ql.zero {v : V} {x : DV} (h : Ql K M H v x) (n : ∀ t, x ≠ .ty t) : VR0 K M H v x := by
 cases x with
 | dat d => exact h
 | own b => exact h
 | ty t => exact absurd rfl (n t)
end
section
variable {X : Cx} {o i value : Expr} {td ti tv : DTE} {pos pos' : Pos}
noncomputable def Nw (x : DV) (P : Prop) : Prop := match x with | .ty _ => False | _ => P
theorem LL (d : PyData) (P : Prop) : Nw (.dat d) P = P := propext Iff.rfl
theorem MG (a : Addr) (P : Prop) : Nw (.own a) P = P := propext Iff.rfl
theorem D0 {x : DV} {P : Prop} (h : Nw x P) : (∀ t, x ≠ .ty t) ∧ P := by
 cases x with
 | dat d => exact ⟨fun t e => (by cases e), h⟩
 | own a => exact ⟨fun t e => (by cases e), h⟩
 | ty t => exact h.elim
noncomputable def ZaE (td ti tv : DTE) : DTS := fun D Δ M => tv Δ M fun x M1 => td Δ M1 fun y M2 => ti Δ M2 fun z M3 => Nw x (onO y fun l => onS z fun s => N6 (M3 l) fun ps => ps.length < sizeLine ∧ D.nx Δ (Zx M3 l (.dko (Ge ps (.inr s) x))))
theorem Ot (td ti tv : DTE) (D : Qa) (Δ : DSt) (M : Mp) : ZaE td ti tv D Δ M = (tv Δ M fun x M1 => td Δ M1 fun y M2 => ti Δ M2 fun z M3 => Nw x (onO y fun l => onS z fun s => N6 (M3 l) fun ps => ps.length < sizeLine ∧ D.nx Δ (Zx M3 l (.dko (Ge ps (.inr s) x))))) := propext Iff.rfl
theorem OS {k : Nat} (hr : JJ k X.A) (ho : DE X o td) (hi : DE X i ti) (hv : DE X value tv) (hs : swapsWith value (some (.Subscript o i pos')) pos.line X.env = pure false := by rfl) : DS X (.Assign [.Subscript o i pos'] value pos) (ZaE td ti tv) := by
 obtain ⟨t1, p1, q1⟩ := hv
 obtain ⟨t2, p2, q2⟩ := ho
 obtain ⟨t3, p3, q3⟩ := hi
 refine ⟨_, Oy (by have := hr.un; omega) p2 p3 p1 hs, fun σ H Δ M D E r e h k => ?_⟩
 refine q1 σ H Δ M _ _ r e h fun v H1 x M1 r1 st1 rv hx => ?_
 refine q2 σ H1 Δ M1 _ _ r1 (e.step st1) hx fun w H2 y M2 r2 st2 rw2 hy => ?_
 refine q3 σ H2 Δ M2 _ _ r2 (e.step (st1.trans st2)) hy fun u H3 z M3 r3 st3 ru hz => ?_
 replace hz := D0 hz
 obtain ⟨nt, hz⟩ := hz
 replace hz := Z6 hz
 obtain ⟨l, rfl, hz⟩ := hz
 replace hz := VC hz
 obtain ⟨s, rfl, hz⟩ := hz
 obtain ⟨ps, hm, hl, hn⟩ := EA hz
 cases (show w = .ref l from rw2)
 cases ru.str
 obtain ⟨kvs, g1, g2⟩ := r3.ko hm
 have dv : VR0 X.K M3 H3 v x := (rv.step (st2.trans st3)).zero nt
 refine ⟨l, _, rfl, Nn.k (k := .inr s) g1 (by rw [NO g2]; exact hl), ?_⟩
 have st4 : Step M3 H3 (Zx M3 l (.dko (Ge ps (.inr s) x))) (upd H3 l (.dK (putK kvs (.inr s) v))) := Step.K1 hm
 have stA := st1.trans (st2.trans (st3.trans st4))
 exact k.nx _ _ _ _ (r3.Pa st4 (Ta g2 _ dv)) stA (e.step stA) hn
noncomputable def TL (td ti : DTE) : DTE := fun Δ M Φ => td Δ M fun x M1 => ti Δ M1 fun y M2 => onO x fun l => onS y fun s => N6 (M2 l) fun ps => ∃ z, VP ps (.inr s) = some z ∧ Φ z M2
theorem R4 (td ti : DTE) (Δ : DSt) (M : Mp) (Φ : DK) : TL td ti Δ M Φ = (td Δ M fun x M1 => ti Δ M1 fun y M2 => onO x fun l => onS y fun s => N6 (M2 l) fun ps => ∃ z, VP ps (.inr s) = some z ∧ Φ z M2) := propext Iff.rfl
theorem QE {k : Nat} (hr : JJ k X.A) (ho : DE X o td) (hi : DE X i ti) (hs : ZbY i := by intro _ _; rfl) : DE X (.Subscript o i pos) (TL td ti) := by
 obtain ⟨t1, p1, q1⟩ := ho
 obtain ⟨t2, p2, q2⟩ := hi
 refine ⟨_, Ec (by have := hr.un; omega) p1 p2 hs, fun σ H Δ M Φ Q r e h k => ?_⟩
 refine q1 σ H Δ M _ _ r e h fun v H1 x M1 r1 st1 rv hx => ?_
 refine q2 σ H1 Δ M1 _ _ r1 (e.step st1) hx fun w H2 y M2 r2 st2 rw2 hy => ?_
 replace hy := Z6 hy
 obtain ⟨l, rfl, hy⟩ := hy
 replace hy := VC hy
 obtain ⟨s, rfl, hy⟩ := hy
 obtain ⟨ps, hm, z, hd, q⟩ := EA hy
 cases (show v = .ref l from rv)
 cases rw2.str
 obtain ⟨kvs, g1, g2⟩ := r2.ko hm
 obtain ⟨u, a, du⟩ := Zaa g2 (.inr s) hd
 exact ⟨l, u, rfl, by rw [← a]; exact WH.k (k := .inr s) g1, k _ _ z _ r2 (st1.trans st2) du.rel q⟩
noncomputable def Wo : List (DV × DV) → (List (Key × DV) → Prop) → Prop
 | [], P => P []
 | (x, y) :: r, P => Ve x fun k => Nw y (Wo r fun l => P ((k, y) :: l))
theorem Um (P : List (Key × DV) → Prop) : Wo [] P = P [] := propext Iff.rfl
theorem KZ (x y : DV) (r : List (DV × DV)) (P : List (Key × DV) → Prop) : Wo ((x, y) :: r) P = (Ve x fun k => Nw y (Wo r fun l => P ((k, y) :: l))) := propext Iff.rfl
theorem GS : ∀ {qs : List (DV × DV)} {P : List (Key × DV) → Prop}, Wo qs P → ∃ l, qs = l.map (fun kd => (DV.dat (kD kd.1), kd.2)) ∧ (∀ p ∈ l, ∀ t, p.2 ≠ .ty t) ∧ P l
 | [], P, h => ⟨[], rfl, fun _ z => (nomatch z), h⟩
 | (x, y) :: r, P, h => by
  obtain ⟨k, rfl, h1⟩ := LN (show Ve x fun k => Nw y (Wo r fun l => P ((k, y) :: l)) from h)
  obtain ⟨n, h2⟩ := D0 h1
  obtain ⟨l, rfl, n2, h3⟩ := GS h2
  refine ⟨(k, y) :: l, rfl, fun p hp => ?_, h3⟩
  rcases List.mem_cons.mp hp with rfl | hp
  ·exact n
  ·exact n2 p hp
theorem G4 {K : PySem.W.Frag} {M : Mp} {H : Hp} : ∀ {l : List (Key × DV)} {ps : List (V × V)}, (∀ p ∈ l, ∀ t, p.2 ≠ .ty t) → Paired (fun (p : V × V) (q : DV × DV) => Ql K M H p.1 q.1 ∧ Ql K M H p.2 q.2) ps (l.map fun kd => (DV.dat (kD kd.1), kd.2)) →
  ∃ kvs : List (Key × V), ps = kvs.map (fun kv => (kV kv.1, kv.2)) ∧ KO K M H kvs l
 | [], ps, _, h => by rw [List.map_nil] at h; cases h; exact ⟨[], rfl, .nil⟩
 | (k, d) :: l, ps, n, h => by
  rw [List.map_cons] at h
  cases h with
  | @cons p q ps' qs' h1 h2 =>
   obtain ⟨kvs, rfl, hk⟩ := G4 (fun p hp => n p (List.mem_cons_of_mem _ hp)) h2
   obtain ⟨p1, p2⟩ := p
   have e : p1 = kV k := ZfO h1.1
   exact ⟨(k, p2) :: kvs, by rw [e]; rfl, .cons ⟨rfl, h1.2.zero (n _ List.mem_cons_self)⟩ hk⟩
noncomputable def NK (t : DTP) : DTE := fun Δ M Φ => ∀ p, M p = none → t Δ (Zx M p (.dko [])) fun qs M2 => Wo qs fun l => M2 p = some (.dko []) ∧ ((l.map (·.1)).Nodup ∧ l.length ≤ 15) ∧ Φ (.own p) (Zx M2 p (.dko l))
theorem Hf (t : DTP) (Δ : DSt) (M : Mp) (Φ : DK) : NK t Δ M Φ = (∀ p, M p = none → t Δ (Zx M p (.dko [])) fun qs M2 => Wo qs fun l => M2 p = some (.dko []) ∧ ((l.map (·.1)).Nodup ∧ l.length ≤ 15) ∧ Φ (.own p) (Zx M2 p (.dko l))) := propext Iff.rfl
theorem HW {keys : List (Option Expr)} {values : List Expr} {t : DTP} (h : DPs X pos keys values t) (hall : keys.all (·.isSome) = true := by rfl) (hl : keys.length = values.length := by rfl) (h0 : keys ≠ [] := by exact List.cons_ne_nil _ _)
  (h15 : keys.length ≤ 15 := by decide) : DE X (.Dict keys values pos) (NK t) := by
 obtain ⟨trs, p, _, q⟩ := h
 refine ⟨_, RJ p hall hl h0 h15, fun σ H Δ M Φ Q r e h k a ha => ?_⟩
 have ma := r.tracked ha
 have r0 : ZN X.K (Zx M a (.dko [])) (upd H a (.dK [])) := r.Pa (kvs := []) (ps := []) (Step.J8 ha) .nil
 have s0 : Step M H (Zx M a (.dko [])) (upd H a (.dK [])) := Step.J8 ha
 refine q σ _ Δ _ _ _ r0 (e.step s0) (h a ma) fun ps H2 qs M2 r2 st2 rp hq => ?_
 obtain ⟨l, rfl, nt, m2, ⟨nd, l15⟩, f⟩ := GS hq
 obtain ⟨kvs, rfl, hk⟩ := G4 nt rp
 obtain ⟨kvs0, g0, k0⟩ := r2.ko m2
 cases k0
 refine ⟨g0, kvs, rfl, by rw [NO hk]; exact l15, ?_⟩
 rw [B0 kvs (by rw [OY hk]; exact nd)]
 have s3 : Step M2 H2 (Zx M2 a (.dko l)) (upd H2 a (.dK kvs)) := Step.K1 m2
 exact k _ _ (.own a) _ (r2.Pa s3 hk) ((s0.trans st2).trans s3) rfl f
end
end DL
namespace DL
open PySem PySem.Spec PyProof.Rows L2 PySem.W
section
open PySem.SeqAt
open PySem.AutoSeq1 (wpAny_loadPart')
open PySem.MeetsSeq PySem.MeetsSeq2 PySem.MeetsSeq3
theorem YV (l b : Addr) (vs ws : List Value) (n n2 : Nat) (dd dd2 : Option Addr) (sl sl2 : Array (Option Value)) (x y : Str) (t u : Tok) (ne : x ≠ y) :
  Meets (Builtin.«tuple.__lt__» ⟨[.ref l, .ref b], []⟩) (fun _ R s => s.heap.get? l = some { cls := .type "tuple", dict := dd, data := .seq (Value.str x t :: vs).toArray n, slots := sl } ∧
   s.heap.get? b = some { cls := .type "tuple", dict := dd2, data := .seq (Value.str y u :: ws).toArray n2, slots := sl2 } ∧ R (.ok (.ret (.bool (decide (x.cps.toList < y.cps.toList))))) s) :=
 .of_wp fun prog w A R s h => by
  obtain ⟨hp, g, d, tk, os⟩ := s
  obtain ⟨hl, hb, h⟩ := h
  have f2 := AutoSeq1.sub_tuple_tuple
  wp_walk using wpAny_loadPart' hl, wpAny_loadPart' hb, wpAny_forIn_list _ (fun rest b s' => b.1 = none ∧ s' = ⟨hp, g, d, tk, os⟩ ∧ rest = (Value.str x t, Value.str y u) :: vs.zip ws) _
  case turn =>
   rintro ⟨p, q⟩ rest b s' ⟨hb', rfl, hz⟩
   injection hz with hpq hr
   injection hpq with e1 e2
   subst e1 e2
   have he := EqAt.str_str (A := A.in1) (s := ⟨hp, g, d, tk, os⟩) x t y u
   rw [show (x == y) = false from beq_eq_false_iff_ne.mpr ne] at he
   refine wpAny_bind (he prog w _ _ ?_)
   have hri : ∀ (E' : Value → Shared → Prop) (Q : Value → Shared → Prop), Q (.bool (decide (x.cps.toList < y.cps.toList))) ⟨hp, g, d, tk, os⟩ → wpAny (model prog w) A.in1 (richCompare .Lt (.str x t) (.str y u)) Q E' ⟨hp, g, d, tk, os⟩ := fun E' Q q => PyProof.Rows.lt_str q
   wp_walk using hri
   exact ⟨_, rfl, by simpa using h⟩
  case fin =>
   rintro ⟨b1, b2⟩ s' ⟨_, _, hz⟩
   cases hz
  case h =>
   exact ⟨rfl, rfl, by simp⟩
theorem YO (l b : Addr) (vs ws : List Value) (n n2 : Nat) (dd dd2 : Option Addr) (sl sl2 : Array (Option Value)) (x y : Str) (t u : Tok) (ne : x ≠ y) :
  Meets (Builtin.«tuple.__eq__» ⟨[.ref l, .ref b], []⟩) (fun _ R s => s.heap.get? l = some { cls := .type "tuple", dict := dd, data := .seq (Value.str x t :: vs).toArray n, slots := sl } ∧
   s.heap.get? b = some { cls := .type "tuple", dict := dd2, data := .seq (Value.str y u :: ws).toArray n2, slots := sl2 } ∧ R (.ok (.ret (.bool false))) s) :=
 .of_wp fun prog w A R s h => by
  obtain ⟨hp, g, d, tk, os⟩ := s
  obtain ⟨hl, hb, h⟩ := h
  have f2 := AutoSeq1.sub_tuple_tuple
  wp_walk using wpAny_loadPart' hl, wpAny_loadPart' hb, wpAny_forIn_list _ (fun rest b s' => b.1 = none ∧ s' = ⟨hp, g, d, tk, os⟩ ∧ rest = (Value.str x t, Value.str y u) :: vs.zip ws) _
  case turn =>
   rintro ⟨p, q⟩ rest b s' ⟨hb', rfl, hz⟩
   injection hz with hpq hr
   injection hpq with e1 e2
   subst e1 e2
   have he := EqAt.str_str (A := A.in1) (s := ⟨hp, g, d, tk, os⟩) x t y u
   rw [show (x == y) = false from beq_eq_false_iff_ne.mpr ne] at he
   refine wpAny_bind (he prog w _ _ ?_)
   wp_walk
   exact ⟨_, rfl, by simpa using h⟩
  case fin =>
   rintro ⟨b1, b2⟩ s' ⟨_, _, hz⟩
   cases hz
  case h =>
   exact ⟨rfl, rfl, by simp⟩
variable {prog : Program} {w : World} {A : Around} {E : Value → Shared → Prop} {s : Shared}
theorem Mz {l b : Addr} {vs ws : List Value} {x y : Str} {t u : Tok} {Q : Value → Shared → Prop} (hl : IsTup s.heap l (Value.str x t :: vs).toArray) (hb : IsTup s.heap b (Value.str y u :: ws).toArray) (ne : x ≠ y) (hu : A.units < cLine)
  (h : Q (.bool (decide (x.cps.toList < y.cps.toList))) s) : wpAny (model prog w) A (compareOp .Lt (.ref l) (.ref b)) Q E s := by
 obtain ⟨⟨cls, dd, data, sl⟩, ho, hc, n, hd⟩ := id hl
 obtain ⟨⟨cls2, dd2, data2, sl2⟩, ho2, hc2, n2, hd2⟩ := id hb
 simp only at hc hd hc2 hd2
 subst hc hd hc2 hd2
 exact richCompare_meets_room (op := .Lt) ⟨_, ho, rfl⟩ ⟨_, ho2, rfl⟩ PySem.F.slot_tuple_lt PySem.F.entry_tuple_lt (PySem.F.args_tuple_lt_2 _ _) (YV l b vs ws n n2 dd dd2 sl sl2 x y t u ne)
  ⟨ho, ho2, show Value.bool (decide (x.cps.toList < y.cps.toList)) ≠ Value.notImplemented ∧ Q _ s from ⟨(fun x => nomatch x), h⟩⟩ hu
theorem MD {l b : Addr} {vs ws : List Value} {x y : Str} {t u : Tok} (hl : IsTup s.heap l (Value.str x t :: vs).toArray) (hb : IsTup s.heap b (Value.str y u :: ws).toArray) (ne : x ≠ y) (hu : A.units < cLine) : EqAt A s (.ref l) (.ref b) false := by
 obtain ⟨⟨cls, dd, data, sl⟩, ho, hc, n, hd⟩ := id hl
 obtain ⟨⟨cls2, dd2, data2, sl2⟩, ho2, hc2, n2, hd2⟩ := id hb
 simp only at hc hd hc2 hd2
 subst hc hd hc2 hd2
 refine EqAt.of_refs (fun e => ?_) fun prog w E Q hq => richCompare_meets_room (op := .Eq) ⟨_, ho, rfl⟩ ⟨_, ho2, rfl⟩ PySem.F.slot_tuple_eq PySem.F.entry_tuple_eq (PySem.F.args_tuple_eq_2 _ _) (YO l b vs ws n n2 dd dd2 sl sl2 x y t u ne)
  ⟨ho, ho2, show Value.bool false ≠ Value.notImplemented ∧ Q _ s from ⟨(fun x => nomatch x), hq⟩⟩ hu
 rw [e, ho2] at ho
 injection ho with ho
 injection ho with _ _ h3
 injection h3 with h3
 simp at h3
 exact ne h3.1.1.symm
end
noncomputable def Hd : PyData → Option (Int × Str)
 | .tuple [.int i, .tuple (.str s :: _)] => some (i, s)
 | _ => none
theorem OP {d : PyData} {n : Int} {s : Str} (h : Hd d = some (n, s)) : ∃ r, d = .tuple [.int n, .tuple (.str s :: r)] := by
 unfold Hd at h
 split at h
 ·cases h
  exact ⟨_, rfl⟩
 ·cases h
noncomputable def S5 (ks : List (Int × Str)) (i j : Nat) : Bool := decide ((ks.getD i (0, Str.empty)).1 < (ks.getD j (0, Str.empty)).1 ∨ (ks.getD i (0, Str.empty)).1 = (ks.getD j (0, Str.empty)).1 ∧ (ks.getD i (0, Str.empty)).2.cps.toList < (ks.getD j (0, Str.empty)).2.cps.toList)
theorem Ln (ks : List (Int × Str)) : Ord (S5 ks) := by
 refine ⟨fun a b h => ?_, fun a b c h1 h2 => ?_⟩
 ·have h' := of_decide_eq_true h
  refine decide_eq_false fun z => ?_
  rcases h' with h' | ⟨e1, h'⟩
  ·omega
  ·rcases z with z | ⟨_, z⟩
   ·omega
   ·exact absurd (List.lt_trans h' z) (List.lt_irrefl _)
 ·have h1' := of_decide_eq_false h1
  have h2' := of_decide_eq_false h2
  refine decide_eq_false fun z => ?_
  generalize ks.getD a (0, Str.empty) = x at *
  generalize ks.getD b (0, Str.empty) = y at *
  generalize ks.getD c (0, Str.empty) = w at *
  have q1 : ¬ y.1 < x.1 := fun q => h1' (.inl q)
  have q2 : ¬ w.1 < y.1 := fun q => h2' (.inl q)
  rcases z with z | ⟨e, z⟩
  ·omega
  ·have e1 : y.1 = x.1 := by omega
   have e2 : w.1 = y.1 := by omega
   have a1 := List.not_lt.mp fun q => h1' (.inr ⟨e1, q⟩)
   have a2 := List.not_lt.mp fun q => h2' (.inr ⟨e2, q⟩)
   exact absurd z (List.not_lt.mpr (List.le_trans a1 a2))
section
variable {X : Cx}
noncomputable def SR (K : PySem.W.Frag) : List V → Hp → VK → Prop := fun xs H Q => ∃ (p : Addr) (M : Mp) (vs : List V) (ds : List PyData) (ks : List (Int × Str)), xs = [.ref p] ∧ SqL K H p vs ∧ Dts K M H vs ds ∧ ds.map Hd = ks.map some ∧ ks.Nodup ∧ ds.length < 64 ∧
 ∀ q, Pm ds.length q → Up (S5 ks) q ds.length → ∀ l, H l = none → Q (.ref l) (upd H l (.lst (q.toList.map fun i => vs.getD i .non)))
theorem KS {kk : Nat} (hr : JJ kk X.A) : JU X (.builtin "sorted") (SR X.K) := by
 intro pins s σ H xs us Q I r h
 obtain ⟨p, M, vs, ds, ks, rfl, hq, hd, hk, nd, few, q⟩ := h
 obtain ⟨u, rfl, rx⟩ := vals1 r
 cases rx
 obtain ⟨its, rv, pl, _⟩ := I.list hq
 have n1 := rv.length
 have n2 := hd.length
 have n3 : ds.length = ks.length := by have := congrArg List.length hk; simpa using this
 have row : ∀ i, i < its.length → ∃ (a b : Addr) (n : Int) (z : Str) (tn tz : Tok) (js : List Value), ks.getD i (0, Str.empty) = (n, z) ∧ its[i]? = some (.ref a) ∧ IsTup s.heap a [Value.int n tn, .ref b].toArray ∧ IsTup s.heap b (Value.str z tz :: js).toArray := fun i hi => by
  have hi1 : i < ds.length := by omega
  obtain ⟨v, ev, dv⟩ := hd.get (i := i) (d := ds[i]) (by simp [hi1])
  obtain ⟨u, eu, ru⟩ := rv.get ev
  have ek : Hd ds[i] = some (ks.getD i (0, Str.empty)) := by
   have := congrArg (·[i]?) hk
   simp only [List.getElem?_map, List.getElem?_eq_getElem hi1, List.getElem?_eq_getElem (show i < ks.length by omega), Option.map_some] at this
   rw [Option.some.inj this, List.getD_eq_getElem?_getD, List.getElem?_eq_getElem (show i < ks.length by omega)]
   rfl
  generalize hks : ks.getD i (0, Str.empty) = kz at ek
  obtain ⟨n, z⟩ := kz
  obtain ⟨rs, er⟩ := OP ek
  rw [er] at dv
  cases dv with
  | tup t1 t2 =>
   cases (show u = .ref _ from ru)
   obtain ⟨js, rt, it, _⟩ := I.tuple t1.sq
   cases t2 with
   | cons a1 a2 =>
    cases a1
    cases a2 with
    | cons a2 a3 =>
     cases a3
     cases a2 with
     | tup t3 t4 =>
      obtain ⟨js2, rt2, it2, _⟩ := I.tuple t3.sq
      cases t4 with
      | cons a4 a5 =>
       cases a4
       cases rt with
       | cons b1 b2 =>
        obtain ⟨tn, rfl⟩ := b1
        cases b2 with
        | cons b2 b3 =>
         cases b3
         cases (show _ = Value.ref _ from b2)
         cases rt2 with
         | cons c1 c2 =>
          obtain ⟨tz, rfl⟩ := c1
          exact ⟨_, _, n, z, tn, tz, _, rfl, eu, it, it2⟩
 have some_ : ∀ i, i < its.length → its[i]? = some (its.getD i Value.none) := fun i hi => by simp [hi]
 refine G7 (kd := tuples' true) (Ln ks) pl.isList (by omega) (fun two h1 kp E' R hR => ?_) (fun h1 kp i j hi hj hn C hC => ?_) fun q' pm pu => ?_
 ·have tups : ∀ (l : List Value), (∀ v ∈ l, ∃ (a b : Addr) (n : Int) (t : Tok), v = .ref a ∧ IsTup s.heap a [Value.int n t, .ref b].toArray) → ∃ fs, KatTups h1 l fs ∧ fs.length = l.length ∧ ∀ v ∈ fs, ∃ n t, v = Value.int n t := fun l => by
   induction l with
   | nil => intro _; exact ⟨[], .nil, rfl, fun v hv => (nomatch hv)⟩
   | cons v l ih =>
    intro hl
    obtain ⟨a, b, n, t, rfl, ob, ho, hc, c, hd⟩ := hl v List.mem_cons_self
    obtain ⟨fs, i1, i2, i3⟩ := ih fun v hv => hl v (List.mem_cons_of_mem _ hv)
    refine ⟨.int n t :: fs, .cons (kp a ob ho) hc hd (by simp) i1, by rw [List.length_cons, List.length_cons, i2], fun v hv => ?_⟩
    rcases List.mem_cons.mp hv with rfl | hv
    ·exact ⟨n, t, rfl⟩
    ·exact i3 v hv
  obtain ⟨fs, k1, k2, k3⟩ := tups its fun v hv => by
   obtain ⟨i, hi, rfl⟩ := List.getElem_of_mem hv
   obtain ⟨a, b, n, z, tn, tz, js, _, e, r, _⟩ := row i hi
   rw [List.getElem?_eq_getElem hi] at e
   exact ⟨a, b, n, tn, Option.some.inj e, r⟩
  exact kat_kind (T := Value.type "int") (s := { s with heap := h1 }) k1 (by omega) (fun v hv => by obtain ⟨z, t, rfl⟩ := k3 v hv; exact .now) rfl hR
 ·obtain ⟨a, b, n, z, tn, tz, js, ea, e, ⟨ob, ho, hc, c, hd⟩, ⟨oz, hoz, rz⟩⟩ := row i hi
  obtain ⟨a', b', n', z', tn', tz', js', ea', e', ⟨ob', ho', hc', c', hd'⟩, ⟨oz', hoz', rz'⟩⟩ := row j hj
  have e1 : its.getD i Value.none = .ref a := by have := some_ i hi; rw [e] at this; exact (Option.some.inj this).symm
  have e2 : its.getD j Value.none = .ref a' := by have := some_ j hj; rw [e'] at this; exact (Option.some.inj this).symm
  have ne : ks.getD i (0, Str.empty) ≠ ks.getD j (0, Str.empty) := fun z => by
   have hi2 : i < ks.length := by omega
   have hj2 : j < ks.length := by omega
   simp only [List.getD_eq_getElem?_getD, List.getElem?_eq_getElem hi2, List.getElem?_eq_getElem hj2, Option.getD_some] at z
   exact hn (Yx nd hi2 hj2 z)
  have el : S5 ks i j = decide (n < n' ∨ n = n' ∧ z.cps.toList < z'.cps.toList) := by unfold S5; rw [ea, ea']
  rw [ea, ea'] at ne
  rw [e1, e2]
  rw [el] at hC
  have hu : X.A.in1.in1.units < cLine := by have := hr.un; show X.A.units + 1 + 1 < _; omega
  have tz1 : IsTup h1 b (Value.str z tz :: js).toArray := ⟨oz, kp b oz hoz, rz⟩
  have tz2 : IsTup h1 b' (Value.str z' tz' :: js').toArray := ⟨oz', kp b' oz' hoz', rz'⟩
  refine kat_lt (s := { s with heap := h1 }) (kp a ob ho) hd (kp a' ob' ho') hd' ?_
  refine kat_cons ((PySem.SeqAt.EqAt.int_int n tn n' tn') _ _ _ _ (kat_go (fun y => ?_) fun y => kat_no (oneLt_int ?_)))
  ·have en : n = n' := by simpa using y
   subst en
   have nz : z ≠ z' := fun q => ne (by rw [q])
   refine kat_yes (kat_cons ((MD tz1 tz2 nz hu) _ _ _ _ (kat_go (fun q => (by cases q)) fun _ => kat_no (kat_one _ _ (Mz tz1 tz2 nz hu ?_)))))
   show C _ _
   rw [show decide (n < n ∨ n = n ∧ z.cps.toList < z'.cps.toList) = decide (z.cps.toList < z'.cps.toList) by rw [decide_eq_decide]; simp] at hC
   exact hC
  ·have nn : n ≠ n' := by simpa using y
   rw [show decide (n < n' ∨ n = n' ∧ z.cps.toList < z'.cps.toList) = decide (n < n') by rw [decide_eq_decide]; simp [nn]] at hC
   exact hC
 ·obtain ⟨e, he⟩ := sortedAll_at s.heap its (W0 its q')
  have hn : H (s.heap.objs.size + 1) = none := I.hok.fresh (Nat.le_succ _)
  have el : its.length = ds.length := by omega
  rw [el] at pm pu
  have hz := pm.size
  refine ⟨.ref (s.heap.objs.size + 1), _, I.laid (t' := s.toks) (a := s.heap.objs.size + 1) (o := .lst (q'.toList.map fun i => vs.getD i .non)) (fun _ _ => sortedAll_old) (Nat.le_succ _) ?_, rfl, q q' pm pu _ hn⟩
  refine ⟨?_, q'.toList.map fun i => its.getD i Value.none, e, ?_, he⟩
  ·rw [List.length_map, Array.length_toList, sizeLine_eq]
   omega
  ·have go : ∀ l : List Nat, (∀ i ∈ l, i < its.length) → Vals (l.map fun i => vs.getD i V.non) (l.map fun i => its.getD i Value.none) := fun l => by
    induction l with
    | nil => intro _; exact .nil
    | cons i l ih =>
     intro hl
     have hi := hl i List.mem_cons_self
     have hi1 : i < vs.length := by omega
     obtain ⟨u, eu, ru⟩ := rv.get (i := i) (x := vs[i]) (by simp [hi1])
     refine .cons ?_ (ih fun j hj => hl j (List.mem_cons_of_mem _ hj))
     have x1 : vs.getD i V.non = vs[i] := by simp [hi1]
     have x2 : its.getD i Value.none = u := by have := some_ i hi; rw [eu] at this; exact (Option.some.inj this).symm
     show L2.RelV (vs.getD i V.non) (its.getD i Value.none)
     rw [x1, x2]
     exact ru
   refine go _ fun i hi => ?_
   obtain ⟨k, hk, rfl⟩ := List.getElem_of_mem hi
   have := pm.below (k := k) (by rw [Array.length_toList] at hk; omega)
   rw [el]
   simpa [at', show k < q'.size by simpa using hk] using this
noncomputable def Zcb (a b : PyData) : Prop := ∀ s t, Hd a = some s → Hd b = some t → ¬ (t.1 < s.1 ∨ t.1 = s.1 ∧ t.2.cps.toList < s.2.cps.toList)
theorem Px {ds : List PyData} {ks : List (Int × Str)} (hk : ds.map Hd = ks.map some) {i : Nat} (hi : i < ds.length) : Hd (ds.getD i .none) = some (ks.getD i (0, Str.empty)) := by
 have n3 : ds.length = ks.length := by have := congrArg List.length hk; simpa using this
 have := congrArg (·[i]?) hk
 simp only [List.getElem?_map, List.getElem?_eq_getElem hi, List.getElem?_eq_getElem (show i < ks.length by omega), Option.map_some] at this
 rw [List.getD_eq_getElem?_getD, List.getD_eq_getElem?_getD, List.getElem?_eq_getElem hi, List.getElem?_eq_getElem (show i < ks.length by omega)]
 exact Option.some.inj this
noncomputable def Cj : D1 := fun xs M Φ => on1 xs fun x => onK x M fun ds => ∃ ks : List (Int × Str), ds.map Hd = ks.map some ∧ ks.Nodup ∧ ds.length < 64 ∧ ∀ ds' : List PyData, ds'.Perm ds → ds'.Pairwise Zcb → Φ (.dat (.list ds')) M
theorem DX (xs : List DV) (M : Mp) (Φ : DK) : Cj xs M Φ = (on1 xs fun x => onK x M fun ds => ∃ ks : List (Int × Str), ds.map Hd = ks.map some ∧ ks.Nodup ∧ ds.length < 64 ∧ ∀ ds' : List PyData, ds'.Perm ds → ds'.Pairwise Zcb → Φ (.dat (.list ds')) M) := propext Iff.rfl
theorem BN {kk : Nat} (hr : JJ kk X.A) : J1 X (.builtin "sorted") Cj := by
 refine ⟨_, KS hr, fun vs H xs M Φ Q r rv h k => ?_⟩
 replace h := Z9 h
 obtain ⟨x, rfl, h⟩ := h
 replace h := Jd h
 obtain ⟨ds, hx, ks, hk, nd, few, q⟩ := h
 replace hx : BZ x M ds := hx
 obtain ⟨v, rfl, h1⟩ := Paired.one rv
 obtain ⟨a, ys, rfl, g1, g2⟩ := hx.sq r h1
 refine ⟨a, M, ys, ds, ks, rfl, g1, g2, hk, nd, few, fun p pm pu l hl => ?_⟩
 have hz := pm.size
 have pl : p.toList.Perm (List.range ds.length) := by
  have := Array.perm_iff_toList_perm.mp pm
  simpa using this
 have go : ∀ l : List Nat, (∀ i ∈ l, i < ds.length) → Dts X.K M H (l.map fun i => ys.getD i V.non) (l.map fun i => ds.getD i PyData.none) := fun l => by
  induction l with
  | nil => intro _; exact .nil
  | cons i l ih =>
   intro hl
   have hi := hl i List.mem_cons_self
   obtain ⟨v, ev, dv⟩ := g2.get (i := i) (d := ds[i]) (by simp [hi])
   refine .cons ?_ (ih fun j hj => hl j (List.mem_cons_of_mem _ hj))
   show Dt X.K M H (ys.getD i V.non) (ds.getD i PyData.none)
   rw [List.getD_eq_getElem?_getD, List.getD_eq_getElem?_getD, ev, List.getElem?_eq_getElem hi]
   exact dv
 have mem : ∀ i ∈ p.toList, i < ds.length := fun i hi => by
  have := pl.mem_iff.mp hi
  simpa using this
 refine k.dat (r.new hl) (Step.new hl) (Dt.Vc r hl (go _ mem)) (q _ ?_ ?_)
 ·have := pl.map fun i => ds.getD i PyData.none
  rwa [map_range] at this
 ·rw [List.pairwise_iff_getElem]
  intro i j hi hj hij s t es et
  rw [List.length_map] at hi hj
  rw [List.getElem_map] at es et
  have hi' : i < p.size := by simpa using hi
  have hj' : j < p.size := by simpa using hj
  rw [Px hk (mem _ (List.getElem_mem _))] at es et
  have u := pu i j (by omega) (by omega)
  have u' := of_decide_eq_false u
  have a1 : at' p i = p.toList[i] := by simp [at', hi']
  have a2 : at' p j = p.toList[j] := by simp [at', hj']
  rw [a1, a2] at u'
  rw [Option.some.inj es, Option.some.inj et] at u'
  exact u'
theorem Vn : ∀ {ss : List Str} {us : List Value}, Vals (ss.map V.str) us → StrsAre us ss
 | [], _, r => by rw [List.map_nil] at r; cases r; exact .nil
 | s :: ss, _, r => by
  rw [List.map_cons] at r
  cases r with
  | cons r1 r2 =>
   obtain ⟨t, rfl⟩ := r1
   exact .cons s t (Vn r2)
theorem Yc : ∀ {us : List Value} {ss : List Str}, StrsAre us ss → Vals (ss.map V.str) us
 | _, _, .nil => .nil
 | _, _, .cons n t h => .cons ⟨t, rfl⟩ (Yc h)
theorem JV {K : PySem.W.Frag} {M : Mp} {H : Hp} : ∀ ss : List Str, Dts K M H (ss.map V.str) (ss.map PyData.str)
 | [] => .nil
 | s :: ss => .cons (.str s) (JV ss)
theorem Wx : JU X (.builtin "sorted") (fun xs H Q => ∃ (p : Addr) (ss : List Str), xs = [.ref p] ∧ SqL X.K H p (ss.map V.str) ∧ ss.length < 64 ∧ ∀ ss' : List Str, ss'.Perm ss → sortedS ss' = true → ∀ l, H l = none → Q (.ref l) (upd H l (.lst (ss'.map V.str)))) := by
 intro pins s σ H xs us Q I r h
 obtain ⟨p, ss, rfl, hq, h64, q⟩ := h
 obtain ⟨u, rfl, rx⟩ := vals1 r
 cases rx
 obtain ⟨its, rv, pl, hz⟩ := I.list hq
 have hlen : its.length < 64 := by have := rv.length; rw [List.length_map] at this; omega
 refine sorted_strs pl.isList (Vn rv) hlen fun out ss' a1 a2 a3 => ?_
 obtain ⟨e, he⟩ := sortedAll_at s.heap its out
 have hn : H (s.heap.objs.size + 1) = none := I.hok.fresh (Nat.le_succ _)
 refine ⟨.ref (s.heap.objs.size + 1), _, I.laid (t' := s.toks) (a := s.heap.objs.size + 1) (o := .lst (ss'.map V.str)) (fun _ _ => sortedAll_old) (Nat.le_succ _) ?_, rfl, q ss' a2 a3 _ hn⟩
 refine ⟨?_, out.toList, e, Yc a1, he⟩
 rw [List.length_map, a2.length_eq, sizeLine_eq]
 omega
noncomputable def FV : D1 := fun xs M Φ => on1 xs fun x => onK x M fun ds => YI ds fun ss => ss.length < 64 ∧ ∀ ss' : List Str, ss'.Perm ss → sortedS ss' = true → Φ (.dat (.list (ss'.map PyData.str))) M
theorem Cs (xs : List DV) (M : Mp) (Φ : DK) : FV xs M Φ = (on1 xs fun x => onK x M fun ds => YI ds fun ss => ss.length < 64 ∧ ∀ ss' : List Str, ss'.Perm ss → sortedS ss' = true → Φ (.dat (.list (ss'.map PyData.str))) M) := propext Iff.rfl
theorem Vm : J1 X (.builtin "sorted") FV := by
 refine ⟨_, Wx, fun vs H xs M Φ Q r rv h k => ?_⟩
 replace h := Z9 h
 obtain ⟨x, rfl, h⟩ := h
 replace h := Jd h
 obtain ⟨ds, hx, ss, rfl, h64, q⟩ := h
 replace hx : BZ x M (ss.map PyData.str) := hx
 obtain ⟨v, rfl, h1⟩ := Paired.one rv
 obtain ⟨a, ys, rfl, g1, g2⟩ := hx.sq r h1
 cases X2 g2
 exact ⟨a, ss, rfl, g1, h64, fun ss' a b l hl => k.dat (r.new hl) (Step.new hl) (Dt.Vc r hl (JV ss')) (q ss' a b)⟩
end
end DL
namespace DL
open PySem PySem.Spec PyProof.Rows L2 PySem.W
theorem Step.all {M : Mp} {H : Hp} : Step M H (fun _ => none) H := ⟨fun _ _ _ h => h, fun _ _ _ _ => rfl⟩
noncomputable def WG (x : DV) (M : Mp) (P : PyData → Prop) : Prop := match x with | .dat d => P d | .own q => JI (M q) (fun ds => P (.list ds)) | _ => False
theorem LV (d : PyData) (M : Mp) (P : PyData → Prop) : WG (.dat d) M P = P d := propext Iff.rfl
theorem L6 (q : Addr) (M : Mp) (P : PyData → Prop) : WG (.own q) M P = JI (M q) (fun ds => P (.list ds)) := propext Iff.rfl
section
variable {X : Cx}
noncomputable def ZcP : D2 := fun x y M Φ => WG x M fun d => WG y M fun e => CP d e = true ∧ Φ (.dat (.bool (PyData.eqv d e))) M
theorem OW (x y : DV) (M : Mp) (Φ : DK) : ZcP x y M Φ = (WG x M fun d => WG y M fun e => CP d e = true ∧ Φ (.dat (.bool (PyData.eqv d e))) M) := propext Iff.rfl
noncomputable def ZcW : D2 := fun x y M Φ => WG x M fun d => WG y M fun e => CP d e = true ∧ Φ (.dat (.bool (!PyData.eqv d e))) M
theorem P2 (x y : DV) (M : Mp) (Φ : DK) : ZcW x y M Φ = (WG x M fun d => WG y M fun e => CP d e = true ∧ Φ (.dat (.bool (!PyData.eqv d e))) M) := propext Iff.rfl
noncomputable def Pg : D1 := fun xs M Φ => on1 xs fun x => WG x M fun d => Shw d ∧ Φ (.dat (.str d.shown)) M
theorem CU (xs : List DV) (M : Mp) (Φ : DK) : Pg xs M Φ = (on1 xs fun x => WG x M fun d => Shw d ∧ Φ (.dat (.str d.shown)) M) := propext Iff.rfl
noncomputable def Sv (T : String) : D1 := fun xs M Φ => match xs with | [x, .ty t] => t = T ∧ WG x M fun d => Φ (.dat (.bool (ZC T d))) M | _ => False
theorem UP (T : String) (x : DV) (t : String) (M : Mp) (Φ : DK) : Sv T [x, .ty t] M Φ = (t = T ∧ WG x M fun d => Φ (.dat (.bool (ZC T d))) M) := propext Iff.rfl
noncomputable def Zc8 (te : DTE) : DTE := fun Δ M Φ => te Δ M fun x M1 => WG x M1 fun d => Φ (.dat (.bool (ZC "list" d || ZC "tuple" d))) M1
theorem Ob (te : DTE) (Δ : DSt) (M : Mp) (Φ : DK) : Zc8 te Δ M Φ = (te Δ M fun x M1 => WG x M1 fun d => Φ (.dat (.bool (ZC "list" d || ZC "tuple" d))) M1) := propext Iff.rfl
end
end DL
namespace DL
open PySem PySem.Spec PyProof.Rows L2
noncomputable def YlG (K : PySem.W.Frag) (J : It) (ds : List PyData) (G : Mp → Prop) (M : Mp) (H : Hp) : Prop := ∀ M2 H2, Step M H M2 H2 → ZN K M2 H2 → G M2 → ∀ i,
 (i < ds.length → J.go i H2 ∧ ∀ x H', J.yld i H2 x H' → ZN K M2 H2 → ZN K M2 H' ∧ Step M2 H2 M2 H' ∧ ∃ d, ds[i]? = some d ∧ Dt K M2 H' x d) ∧ (ds.length ≤ i → J.stop i H2)
noncomputable abbrev BO := DSt → Mp → (List PyData → (Mp → Prop) → Mp → Prop) → Prop
noncomputable def DIG (X : Cx) (tg iter : Expr) (src : BO) : Prop := ∃ wi, PI X tg iter wi ∧ ∀ σ H Δ M Ψ (R : It → Hp → Prop), ZN X.K M H → QP X.K M H σ Δ → src Δ M Ψ →
 (∀ J H' M' ds G, ZN X.K M' H' → Step M H M' H' → YlG X.K J ds G M' H' → Ψ ds G M' → R J H') → wi σ H R
section
variable {X : Cx}
noncomputable abbrev ZbP (ds : List PyData) (G : Mp → Prop) (M1 : Mp) (Δ : DSt) (ix : List (Option Nat)) (g : DTG) (tc : DTT) (te : DTE) (ψ : List PyData → Mp → Prop) : Prop := ds.length ≤ sizeLine ∧ ∃ J : Nat → List PyData → Mp → Prop, (∀ i acc M', J i acc M' → G M') ∧ J 0 [] M1 ∧
 (∀ i d acc M', ds[i]? = some d → J i acc M' → g (.dat d) (Bf ix Δ) M' fun Δ2 M2 => tc Δ2 M2 fun b M3 => if b = true then te Δ2 M3 fun y M4 => onD y fun e => J (i + 1) (acc ++ [e]) M4 else J (i + 1) acc M3) ∧ ∀ acc M', J ds.length acc M' → ψ acc M'
set_option maxHeartbeats 2000000 in
noncomputable def TM (ow : Bool) (src : BO) (ix : List (Option Nat)) (g : DTG) (tc : DTT) (te : DTE) : DTE := fun Δ M Φ => src Δ M fun ds G M1 => ds.length ≤ sizeLine ∧ ∃ J : Nat → List PyData → Mp → Prop, (∀ i acc M', J i acc M' → G M') ∧ J 0 [] M1 ∧
 (∀ i d acc M', ds[i]? = some d → J i acc M' → g (.dat d) (Bf ix Δ) M' fun Δ2 M2 => tc Δ2 M2 fun b M3 => if b = true then te Δ2 M3 fun y M4 => onD y fun e => J (i + 1) (acc ++ [e]) M4 else J (i + 1) acc M3) ∧ ∀ acc M', J ds.length acc M' → UT ow Φ acc M'
theorem LY (ow : Bool) (src : BO) (ix : List (Option Nat)) (g : DTG) (tc : DTT) (te : DTE) (Δ : DSt) (M : Mp) (Φ : DK) : TM ow src ix g tc te Δ M Φ = (src Δ M fun ds G M1 => ds.length ≤ sizeLine ∧ ∃ J : Nat → List PyData → Mp → Prop, (∀ i acc M', J i acc M' → G M') ∧ J 0 [] M1 ∧
 (∀ i d acc M', ds[i]? = some d → J i acc M' → g (.dat d) (Bf ix Δ) M' fun Δ2 M2 => tc Δ2 M2 fun b M3 => if b = true then te Δ2 M3 fun y M4 => onD y fun e => J (i + 1) (acc ++ [e]) M4 else J (i + 1) acc M3) ∧ ∀ acc M', J ds.length acc M' → UT ow Φ acc M') := propext Iff.rfl
noncomputable def ZdA (ta : DTA) : BO := fun Δ M Ψ => ta Δ M fun xs M1 => on2 xs fun x y => onK x M1 fun as => onL y fun bs => Ψ (ZbW as bs) (fun M2 => onK x M2 fun cs => cs = as) M1
theorem OT (ta : DTA) (Δ : DSt) (M : Mp) (Ψ : List PyData → (Mp → Prop) → Mp → Prop) : ZdA ta Δ M Ψ = (ta Δ M fun xs M1 => on2 xs fun x y => onK x M1 fun as => onL y fun bs => Ψ (ZbW as bs) (fun M2 => onK x M2 fun cs => cs = as) M1) := propext Iff.rfl
end
end DL
namespace DL
open PySem PySem.Spec PyProof.Rows L2
section
variable {X : Cx}
noncomputable def L5 : D1 := fun xs M Φ => on1 xs fun x => onK x M fun ds => YI ds fun ss => ss.length < 64 ∧ ∀ ss' : List Str, ss'.Perm ss → sortedS ss' = true → ∀ p, M p = none → Φ (.own p) (Zx M p (.lst (ss'.map PyData.str)))
theorem BF (xs : List DV) (M : Mp) (Φ : DK) : L5 xs M Φ = (on1 xs fun x => onK x M fun ds => YI ds fun ss => ss.length < 64 ∧ ∀ ss' : List Str, ss'.Perm ss → sortedS ss' = true → ∀ p, M p = none → Φ (.own p) (Zx M p (.lst (ss'.map PyData.str)))) := propext Iff.rfl
end
end DL
namespace DL
open PySem PySem.Spec PyProof.Rows L2 PySem.W
noncomputable def NB (x : DV) (M : Mp) (P : List PyData → Prop) : Prop := match x with | .dat (.list ds) => P ds | .own q => JI (M q) P | _ => False
theorem Ms (ds : List PyData) (M : Mp) (P : List PyData → Prop) : NB (.dat (.list ds)) M P = P ds := propext Iff.rfl
theorem LK (q : Addr) (M : Mp) (P : List PyData → Prop) : NB (.own q) M P = JI (M q) P := propext Iff.rfl
section
variable {X : Cx}
theorem FE {M : Mp} {H : Hp} {v : V} {x : DV} {P : List PyData → Prop} (h : NB x M P) (r : ZN X.K M H) (rv : Ql X.K M H v x) : ∃ ds, Dt X.K (fun _ => none) H v (.list ds) ∧ P ds := by
 unfold NB at h
 split at h
 ·exact ⟨_, Dt.step Step.all rv, h⟩
 ·rename_i q
  replace h := QR h
  obtain ⟨ds, hm, h⟩ := h
  cases (show v = .ref q from rv)
  obtain ⟨vs, g1, g2⟩ := r.ls q ds hm
  exact ⟨ds, .lst (.inl ⟨rfl, .inl g1⟩) (g2.step Step.all), h⟩
 ·exact h.elim
noncomputable def ZaF : D2 := fun x y M Φ => onD x fun d => NB y M fun ds => okIn d ds = true ∧ Φ (.dat (.bool (ds.any fun e => PyData.eqv e d))) M
theorem OB (x y : DV) (M : Mp) (Φ : DK) : ZaF x y M Φ = (onD x fun d => NB y M fun ds => okIn d ds = true ∧ Φ (.dat (.bool (ds.any fun e => PyData.eqv e d))) M) := propext Iff.rfl
noncomputable def GJ : D2 := fun x y M Φ => onD x fun d => NB y M fun ds => okIn d ds = true ∧ Φ (.dat (.bool (!(ds.any fun e => PyData.eqv e d)))) M
theorem BL (x y : DV) (M : Mp) (Φ : DK) : GJ x y M Φ = (onD x fun d => NB y M fun ds => okIn d ds = true ∧ Φ (.dat (.bool (!(ds.any fun e => PyData.eqv e d)))) M) := propext Iff.rfl
theorem NI {k : Nat} (hr : JJ k X.A) : OpD X (compareOp .In) ZaF :=
 ⟨_, NN (by have := hr.un; omega), fun v u H x y M Φ Q r rv ru h k => by
  obtain ⟨d, e1, h⟩ := Jq h
  subst e1
  obtain ⟨ds, he, ho, q⟩ := FE h r ru
  obtain ⟨c1, c2, hdp⟩ := Uh ho
  exact ⟨_, d, ds, Dt.step Step.all rv, .inl he, c1, c2, hdp, k.dat r Step.refl (Dt.bl _) q⟩⟩
theorem Jf {k : Nat} (hr : JJ k X.A) : OpD X (compareOp .NotIn) GJ :=
 ⟨_, Ei (by have := hr.un; omega), fun v u H x y M Φ Q r rv ru h k => by
  obtain ⟨d, e1, h⟩ := Jq h
  subst e1
  obtain ⟨ds, he, ho, q⟩ := FE h r ru
  obtain ⟨c1, c2, hdp⟩ := Uh ho
  exact ⟨_, d, ds, Dt.step Step.all rv, .inl he, c1, c2, hdp, k.dat r Step.refl (Dt.bl _) q⟩⟩
noncomputable def Zdf (i : Nat) (t : DTS) : DTS := fun D Δ M => onV Δ[i]? fun x => onO x fun l => JI (M l) fun ds => t D (Δ.set i (some (.dat (.list ds)))) (VD M l)
theorem OL (i : Nat) (t : DTS) (D : Qa) (Δ : DSt) (M : Mp) : Zdf i t D Δ M = (onV Δ[i]? fun x => onO x fun l => JI (M l) fun ds => t D (Δ.set i (some (.dat (.list ds)))) (VD M l)) := propext Iff.rfl
end
end DL
namespace DL
open PySem PySem.Spec PyProof.Rows L2 PySem.W
noncomputable def Itd (o : Obj) (a : Addr) (ks : List Key) : It :=
 ⟨fun i H => i < ks.length ∧ ∃ kvs, H a = some (.frz o (.dK kvs)) ∧ kvs.map (·.1) = ks, fun i H x H' => H' = H ∧ ∃ k, ks[i]? = some k ∧ x = kV k,
  fun i H => ks.length ≤ i ∧ ∃ kvs, H a = some (.frz o (.dK kvs)) ∧ kvs.map (·.1) = ks⟩
noncomputable def Ze4 (o : Obj) (a it : Addr) (n : Nat) (i : Nat) (h : Heap) : Prop := ∃ es ep, o.data = .dict es ep ∧ h.IsKeyIter it a i n ep
section
variable {X : Cx} {tg l : Expr} {tl : TE}
noncomputable def Zfz (tl : TE) : TI := fun σ H R => tl σ H fun x H1 => ∃ a kvs, x = .ref a ∧ ((H1 a = some (.dK kvs) ∧ ∀ o, R (Itd o a (kvs.map (·.1))) (upd H1 a (.frz o (.dK kvs)))) ∨ ∃ o, H1 a = some (.frz o (.dK kvs)) ∧ R (Itd o a (kvs.map (·.1))) H1)
end
noncomputable def ZeX (o : Option OO) (P : List (Key × PyData) → Prop) (Q : Obj → List (Key × PyData) → Prop) : Prop := match o with | some (.dkv ps) => P ps | some (.fdk o ps) => Q o ps | _ => False
section
variable {X : Cx} {tg iter : Expr} {te : DTE} {g : DTG} {tb : DTS} {body : List Stmt} {pos : Pos}
noncomputable def Zfi (te : DTE) : BO := fun Δ M Ψ => te Δ M fun x M1 => onO x fun l => ZeX (M1 l) (fun ps => ∀ o, Ψ (ps.map fun p => kD p.1) (fun M2 => M2 l = some (.fdk o ps)) (Zx M1 l (.fdk o ps))) fun o ps => Ψ (ps.map fun p => kD p.1) (fun M2 => M2 l = some (.fdk o ps)) M1
noncomputable def ZbK (G : Mp → Prop) (g : DTG) (tb : DTS) (D : Qa) (ds : List PyData) (Δ : DSt) (M : Mp) : Prop :=
 ∃ J : Nat → DSt → Mp → Prop, (∀ i Δ M, J i Δ M → G M) ∧ J 0 Δ M ∧ (∀ i d Δ M, ds[i]? = some d → J i Δ M → g (.dat d) Δ M fun Δ2 M2 => tb { D with nx := J (i + 1), ct := J (i + 1), bk := D.nx } Δ2 M2) ∧ ∀ Δ M, J ds.length Δ M → D.nx Δ M
noncomputable def ZfC (src : BO) (g : DTG) (tb : DTS) : DTS := fun D Δ M => src Δ M fun ds G M1 => ZbK G g tb D ds Δ M1
end
noncomputable def Zel (o : Option OO) (P : List (Key × PyData) → Prop) : Prop := match o with | some (.dkv ps) => P ps | some (.fdk _ ps) => P ps | _ => False
section
variable {X : Cx} {o i : Expr} {td ti : DTE} {pos : Pos}
noncomputable def ZeN (td ti : DTE) : DTE := fun Δ M Φ => td Δ M fun x M1 => ti Δ M1 fun y M2 => onO x fun l => onS y fun s => Zel (M2 l) fun ps => ∃ d, QK ps (.inr s) = some d ∧ Φ (.dat d) M2
noncomputable def Zem : D1 := fun xs M Φ => on1 xs fun x => onO x fun l => Zel (M l) fun ps => Φ (.dat (.int ps.length)) M
end
end DL
namespace DL
open PySem PySem.Spec PyProof.Rows L2 PySem.W
noncomputable def Zb5 : PyData → Option (Int × Str)
 | .tuple [.int i, .str s] => some (i, s)
 | _ => none
section
variable {X : Cx}
noncomputable def ZeF (K : PySem.W.Frag) : List V → Hp → VK → Prop := fun xs H Q => ∃ (p : Addr) (M : Mp) (vs : List V) (ds : List PyData) (ks : List (Int × Str)), xs = [.ref p] ∧ SqL K H p vs ∧ Dts K M H vs ds ∧ ds.map Zb5 = ks.map some ∧ ks.Nodup ∧ ds.length < 64 ∧
 ∀ q, Pm ds.length q → Up (S5 ks) q ds.length → ∀ l, H l = none → Q (.ref l) (upd H l (.lst (q.toList.map fun i => vs.getD i .non)))
noncomputable def Zfx (a b : PyData) : Prop := ∀ s t, Zb5 a = some s → Zb5 b = some t → ¬ (t.1 < s.1 ∨ t.1 = s.1 ∧ t.2.cps.toList < s.2.cps.toList)
noncomputable def ZcJ : D1 := fun xs M Φ => on1 xs fun x => onK x M fun ds => ∃ ks : List (Int × Str), ds.map Zb5 = ks.map some ∧ ks.Nodup ∧ ds.length < 64 ∧ ∀ ds' : List PyData, ds'.Perm ds → ds'.Pairwise Zfx → Φ (.dat (.list ds')) M
noncomputable def Zek (to : DTE) : DTE := fun Δ M Φ => to Δ M fun x M1 => onO x fun l => JI (M1 l) fun _ => Φ (.dat .none) (Zx M1 l (.lst []))
end
end DL
namespace DL
open PySem PySem.Spec PyProof.Rows L2 PySem.W
noncomputable def Er : Value → Str
 | .str i _ => i
 | _ => Str.empty
theorem CY : ∀ {vs : List Value} {ss : List Str}, StrsAre vs ss → ∀ (i : Nat) (v : Value), vs[i]? = some v → ∃ t, v = .str (ss.getD i Str.empty) t
 | _, _, .nil, i, v, h => by simp at h
 | _, _, .cons n t h, 0, v, e => ⟨t, by simpa using e.symm⟩
 | _, _, .cons n t h, i + 1, v, e => by
  obtain ⟨t', q⟩ := CY h i v (by simpa using e)
  exact ⟨t', by simpa using q⟩
noncomputable def QA (es : Bk) : List Str := es.toList.map fun e => Er e.2
structure Ly (P : Program) (w : World) (o : Obj) (es : Bk) (t : SetTable) : Prop where
 ex : o.ExactSet
 dt : ∃ ep, o.data = .set es ep t
 el : ElemsOf (PySem.strKind P w) es.toList
 bd : es.size < scanBound
 ft : t.fits es.size = true
 ok : TOk (w.params.followText "set-order") t
 nd : (QA es).Nodup
noncomputable def SIS (P : Program) (w : World) (h : Heap) (a : Addr) (ks : List Str) : Prop := ∃ o es t, h.get? a = some o ∧ Ly P w o es t ∧ ks = QA es
section
variable {P : Program} {w : World} {A : Around} {E : Value → Shared → Prop} {s : Shared}
theorem GV {es : List (Int × Value)} (h : ElemsOf (PySem.strKind P w) es) {e : Int × Value} (he : e ∈ es) : ∃ t, e.2 = .str (Er e.2) t := by
 obtain ⟨⟨k, hk, _⟩, _⟩ := h e he
 obtain ⟨t, q⟩ := Value.isStrOf_shape (x := k) (v := e.2) hk
 rw [q]
 exact ⟨t, rfl⟩
theorem SIS.size {h : Heap} {a : Addr} {ks : List Str} (hS : SIS P w h a ks) : ks.length < scanBound := by
 obtain ⟨o, es, t, _, so, rfl⟩ := hS
 unfold QA
 rw [List.length_map, Array.length_toList]
 exact so.bd
theorem SIS.same {h h' : Heap} {a : Addr} {ks : List Str} (hS : SIS P w h a ks) (k : ∀ o, h.get? a = some o → h'.get? a = some o) : SIS P w h' a ks := by
 obtain ⟨o, es, t, g, r⟩ := hS
 exact ⟨o, es, t, k o g, r⟩
theorem Eu {a : Addr} {o : Obj} {es es' : Bk} {t t' : SetTable} (g : s.heap.get? a = some o) (so : Ly P w o es t) (el : ElemsOf (PySem.strKind P w) es'.toList) (bd : es'.size < scanBound) (ft : t'.fits es'.size = true) (ok : TOk (w.params.followText "set-order") t') (nd : (QA es').Nodup) :
  ∃ o', (s.heap.update a (Obj.putSet es' t')).get? a = some o' ∧ Ly P w o' es' t' := by
 obtain ⟨ep, hd⟩ := so.dt
 have e := putSet_of es' t' hd
 have q := Heap.get?_update_self (Obj.putSet es' t') g (by rw [e]; rfl)
 rw [e] at q
 exact ⟨_, q, so.ex, ⟨_, rfl⟩, el, bd, ft, ok, nd⟩
theorem EX {a : Addr} {o : Obj} {es es' : Bk} {t t' : SetTable} {Q : Unit → Shared → Prop} (g : s.heap.get? a = some o) (so : Ly P w o es t) (bd : es'.size < scanBound) (h : Q () { s with heap := s.heap.update a (Obj.putSet es' t') }) : wpAny (model P w) A (storeSet a es' t') Q E s := by
 obtain ⟨ep, hd⟩ := so.dt
 exact wpAny_storeSet_of g hd h (fits_of_scanBound bd)
theorem LI {a : Addr} {k : Str} {tok : Tok} {ks : List Str} {Q : Bool → Shared → Prop} (hS : SIS P w s.heap a ks) (room : ks.length + 1 < scanBound)
  (h : ∀ h' ks' b, Heap.SameBut a s.heap h' → SIS P w h' a ks' → (∀ z, z ∈ ks' ↔ z ∈ ks ∨ z = k) → ks'.length ≤ ks.length + 1 → Q b { s with heap := h' }) :
  wpAny (model P w) A (setAddHashed a (.str k tok) ((PySem.strKind P w).hash k)) Q E s := by
 obtain ⟨o, es, t, g, so, rfl⟩ := hS
 obtain ⟨ep, hd⟩ := so.dt
 have len : (QA es).length = es.size := by unfold QA; rw [List.length_map, Array.length_toList]
 have key : (PySem.strKind P w).is k (.str k tok) = true := strKind_is _ _ _ _
 have gv : ∀ (b : Bool) {s₁ : Shared} {Q' : Unit → Shared → Prop}, Q' () s₁ → wpAny (model P w) A (match b with | true => rule "set.scan.the-table-gave-way" | false => pure ()) Q' E s₁ :=
  fun b s₁ Q' hq => match b with | false => wpAny_pure hq | true => wpAny_rule hq
 unfold setAddHashed setAddHashedIn
 refine wpAny_holding (wpAny_bind (wpAny_setState_of g hd so.ft ?_)); dsimp only
 rw [byScan_of (knd := PySem.strKind P w) (x := .str k tok) rfl so.bd so.el]; simp only [↓reduceIte]; unfold setAddByScan
 refine wpAny_bind (wpAny_bind (wpAny_rule (wpAny_bind (wpAny_setScan_of key g hd so.ft so.el ?_))))
 cases hr : List.findIdx? (fun e => (PySem.strKind P w).is k e.2) es.toList with
 | some j =>
  obtain ⟨hj, hpj, _⟩ := List.findIdx?_eq_some_iff_getElem.mp hr
  have hin : k ∈ QA es := by
   obtain ⟨t', q⟩ := Value.isStrOf_shape (x := k) hpj
   exact List.mem_map.mpr ⟨es.toList[j], List.getElem_mem hj, by rw [q]; rfl⟩
  refine wpAny_pure (wpAny_pure ?_)
  exact h s.heap (QA es) false (Heap.SameBut.refl a s.heap) ⟨o, es, t, g, so, rfl⟩ (fun z => ⟨.inl, fun q => q.elim id fun e => e ▸ hin⟩) (Nat.le_succ _)
 | none =>
  have hno : k ∉ QA es := fun hm => by
   obtain ⟨e, he, q⟩ := List.mem_map.mp hm
   obtain ⟨t', q'⟩ := GV so.el he
   have := List.findIdx?_eq_none_iff.mp hr e he
   rw [q', q] at this
   exact absurd (strKind_is P w k t') (by rw [this]; exact Bool.false_ne_true)
  have pm := layNew_perm t es ((PySem.strKind P w).hash k) (.str k tok)
  have ft := layNew_fits t es ((PySem.strKind P w).hash k) (.str k tok)
  have tk := so.ok.new es ((PySem.strKind P w).hash k) (.str k tok)
  dsimp only
  generalize layNew t es ((PySem.strKind P w).hash k) (.str k tok) = L at pm ft tk ⊢
  obtain ⟨e1, t1, wd, gave⟩ := L; dsimp only at pm ft tk ⊢; rw [Array.toList_push] at pm
  have el1 : ElemsOf (PySem.strKind P w) e1.toList := (so.el.push key rfl).perm pm
  have pk : (QA e1).Perm (QA es ++ [k]) := by
   have := pm.map fun e : Int × Value => Er e.2
   rw [List.map_append] at this
   exact this
  have sz1 : e1.size = es.size + 1 := by rw [← Array.length_toList, pm.length_eq, List.length_append, Array.length_toList]; rfl
  have bd1 : e1.size < scanBound := by omega
  have nd1 : (QA e1).Nodup := pk.nodup_iff.mpr (List.nodup_append.mpr ⟨so.nd, List.nodup_cons.mpr ⟨(fun q => nomatch q), List.nodup_nil⟩, fun x hx y hy e => hno (by rw [List.mem_singleton.mp hy] at e; rw [← e]; exact hx)⟩)
  have mem1 : ∀ z, z ∈ QA e1 ↔ z ∈ QA es ∨ z = k := fun z => by rw [pk.mem_iff, List.mem_append, List.mem_singleton]
  have fin : ∀ (t2 : SetTable), t2.fits e1.size = true → TOk (w.params.followText "set-order") t2 → wpAny (model P w) A (do
     storeSet a e1 t2
     if (!wd && t2.tooFull) = true then do
       (match (relayAll t2 e1 (SetTable.grown e1.size)).2.2 with | true => rule "set.scan.the-table-gave-way" | false => pure ())
       storeSet a (relayAll t2 e1 (SetTable.grown e1.size)).1 (relayAll t2 e1 (SetTable.grown e1.size)).2.1
       pure (some true)
      else pure (some true)) (fun r s' => ∃ h' ks', s' = { s with heap := h' } ∧ r = some true ∧ Heap.SameBut a s.heap h' ∧ SIS P w h' a ks' ∧ (∀ z, z ∈ ks' ↔ z ∈ QA es ∨ z = k) ∧ ks'.length ≤ (QA es).length + 1) E s := fun t2 ft2 tk2 => by
   obtain ⟨o1, g1, so1⟩ := Eu (s := s) g so el1 bd1 ft2 tk2 nd1
   refine wpAny_bind (EX g so bd1 ?_)
   have sb1 := Heap.SameBut.update s.heap a (Obj.putSet e1 t2)
   have ln1 : (QA e1).length ≤ (QA es).length + 1 := by rw [pk.length_eq, List.length_append]; exact Nat.le_refl _
   split
   ·have pm2 := relayAll_perm t2 e1 (SetTable.grown e1.size)
    have ft3 := relayAll_fits t2 e1 (SetTable.grown e1.size)
    have tk3 := tk2.re e1 (SetTable.grown e1.size)
    generalize relayAll t2 e1 (SetTable.grown e1.size) = L at pm2 ft3 tk3 ⊢
    obtain ⟨e2, t3, gave2⟩ := L; dsimp only at pm2 ft3 tk3 ⊢
    have pk2 : (QA e2).Perm (QA e1) := pm2.map _
    have sz2 : e2.size = e1.size := by rw [← Array.length_toList, pm2.length_eq, Array.length_toList]
    have bd2 : e2.size < scanBound := by omega
    obtain ⟨o2, g2, so2⟩ := Eu (s := { s with heap := s.heap.update a (Obj.putSet e1 t2) }) g1 so1 (el1.perm pm2) bd2 ft3 tk3 (pk2.nodup_iff.mpr nd1)
    refine wpAny_bind (gv _ (wpAny_bind (EX (s := { s with heap := s.heap.update a (Obj.putSet e1 t2) }) g1 so1 bd2 (wpAny_pure ?_))))
    exact ⟨_, _, rfl, rfl, sb1.trans (Heap.SameBut.update _ a _), ⟨o2, e2, t3, g2, so2, rfl⟩, fun z => (pk2.mem_iff).trans (mem1 z), by rw [pk2.length_eq]; exact ln1⟩
   ·exact wpAny_pure ⟨_, _, rfl, rfl, sb1, ⟨o1, e1, t2, g1, so1, rfl⟩, mem1, ln1⟩
  refine wpAny_bind (gv _ ?_)
  split
  ·rw [hashByValue_scannable 8 (x := .str k tok) rfl]
   refine wpAny_bind (wpAny_pure ?_)
   rw [show plainKind (Value.str k tok) = false from rfl]; simp only [Bool.false_eq_true, ↓reduceIte]
   exact wpAny_mono (fin { t1 with plain := false } ft ⟨tk.led, tk.dm, fun e => (nomatch e)⟩) (fun r s' ⟨h', ks', e1, e2, sb, hs, hm, hl⟩ => by subst e1 e2; exact wpAny_pure (h h' ks' true sb hs hm hl)) fun _ _ q => q
  ·refine wpAny_bind (wpAny_pure ?_); simp only [↓reduceIte]
   exact wpAny_mono (fin t1 ft tk) (fun r s' ⟨h', ks', e1, e2, sb, hs, hm, hl⟩ => by subst e1 e2; exact wpAny_pure (h h' ks' true sb hs hm hl)) fun _ _ q => q
end
section
variable {P : Program} {w : World} {A : Around} {R : Result → Shared → Prop} {I : Addr} {fp wr : List Addr} {G : Array GenState → Array GenState → Prop} {n : Nat} {Pv : Nat → Value → Prop} {St : Nat → Shared → Prop}
theorem Ew (W : WalksS P w A.in1 I fp wr G n Pv St) (S : Addr) (hSf : S ∉ fp) (val : Nat → Str) (hval : ∀ i v, Pv i v → ∃ t, v = .str (val i) t) (hb : n + 1 < scanBound) :
  ∀ (k i : Nat) (s : Shared) (ks : List Str), n - i = k → i ≤ n → St i s → SIS P w s.heap S ks → ks.length ≤ i → (∀ z, z ∈ ks ↔ ∃ j, j < i ∧ z = val j) →
   (∀ s' ks', Moved (S :: wr) G s s' → SIS P w s'.heap S ks' → (∀ z, z ∈ ks' ↔ ∃ j, j < n ∧ z = val j) → ks'.length ≤ n → R (.ok (.ret .none)) s') →
   codeAny (model P w) A (.builtin "set.update.loop" ⟨[.ref S, .ref I], []⟩) R s := by
 have hSw : S ∉ wr := fun h => hSf (W.sub _ h)
 have up : ∀ b, b ∈ wr → b ∈ S :: wr := fun _ h => List.mem_cons_of_mem _ h
 intro k
 induction k with
 | zero =>
  intro i s ks hk hi hst hS hl hm hR
  obtain rfl : i = n := by omega
  refine codeAny_builtin PyProof.Rows.F.entry_set_update_loop ?_; rw [Around.under_plainId PyProof.Rows.F.plain_set_update_loop _]
  refine wpAny_bind (W.done s _ _ hst fun s' mv => wpAny_pure ?_)
  exact hR s' ks (mv.mono up) (hS.same fun o e => mv.heap S o hSw e) hm hl
 | succ k ih =>
  intro i s ks hk hi hst hS hl hm hR
  have hlt : i < n := by omega
  refine codeAny_builtin PyProof.Rows.F.entry_set_update_loop ?_; rw [Around.under_plainId PyProof.Rows.F.plain_set_update_loop _]
  refine wpAny_bind (W.item i s _ _ hlt hst fun v s' hP hst' mv => ?_)
  obtain ⟨t, rfl⟩ := hval i v hP
  have hS' : SIS P w s'.heap S ks := hS.same fun o e => mv.heap S o hSw e
  refine wpAny_bind (wpAny_holding ?_); unfold setAdd
  refine wpAny_holding (wpAny_bind ((PySem.strKind P w).pyHash (k := val i) (strKind_is _ _ _ _) ?_))
  refine LI (s := { s' with toks := s'.toks + 1 }) hS' (by omega) fun h' ks' b sb hS2 hm2 hl2 => ?_
  refine wpAny_pure ⟨plainId_quiet PyProof.Rows.F.plain_set_update_loop _, ih (i + 1) _ ks' (by omega) hlt (W.frame _ s' _ _ hst' (Nat.le_succ _) fun b hb o e => ?_) hS2 (by omega) (fun z => ?_) fun s'' ks'' mv'' hS'' hm'' hl'' => ?_⟩
  ·exact (sb.2 b fun h : b = S => hSf (by rw [← h]; exact hb)).trans e
  ·rw [hm2, hm]
   constructor
   ·rintro (⟨j, hj, e⟩ | e)
    ·exact ⟨j, by omega, e⟩
    ·exact ⟨i, by omega, e⟩
   ·rintro ⟨j, hj, e⟩
    by_cases ej : j = i
    ·exact .inr (by rw [e, ej])
    ·exact .inl ⟨j, by omega, e⟩
  ·exact hR s'' ks'' (Moved.trans W.gtrans ((mv.mono up).then_heap (Nat.le_succ _) fun b o hb e => (sb.2 b fun h : b = S => hb (by rw [h]; exact List.mem_cons_self)).trans e) mv'') hS'' hm'' hl''
end
section
variable {P : Program} {w : World} {A : Around} {E : Value → Shared → Prop} {s : Shared}
theorem FW {h : Heap} {a : Addr} (g : h.get? a = some (Jj w)) : SIS P w h a [] :=
 ⟨_, #[], _, g, ⟨⟨rfl, rfl, rfl⟩, ⟨0, rfl⟩, fun e he => by simp at he, by decide, rfl, ⟨rfl, rfl, fun _ => List.Pairwise.nil⟩, by simp [QA]⟩, rfl⟩
theorem getD_memS {ns : List Str} {n : Nat} (hn : ns.length = n) (z : Str) : (∃ j, j < n ∧ z = ns.getD j Str.empty) ↔ z ∈ ns := by
 subst hn
 constructor
 ·rintro ⟨j, hj, rfl⟩
  rw [List.getD_eq_getElem?_getD, List.getElem?_eq_getElem hj]
  exact List.getElem_mem hj
 ·intro hz
  obtain ⟨j, hj, e⟩ := List.mem_iff_getElem.mp hz
  exact ⟨j, hj, by rw [List.getD_eq_getElem?_getD, List.getElem?_eq_getElem hj]; exact e.symm⟩
set_option maxHeartbeats 4000000 in
theorem CD {l : Addr} {items : Array Value} {ns : List Str} {Q : Value → Shared → Prop} (hh : A.handled = none) (hl : s.heap.IsList l items) (hi : StrsAre items.toList ns) (hb : items.size + 1 < scanBound)
  (h : ∀ (h' : Heap) (tk : Nat) (ks : List Str), SIS P w h' s.heap.objs.size ks → (∀ z, z ∈ ks ↔ z ∈ ns) → ks.length ≤ ns.length → (∀ b o, b < s.heap.objs.size → s.heap.get? b = some o → h'.get? b = some o) → Q (.ref s.heap.objs.size) { s with heap := h', toks := tk }) :
  wpAny (model P w) A (call (.type "set") [.ref l]) Q E s := by
 obtain ⟨c, tl, hmro⟩ := PySem.F.called_set.mro
 have ln : ns.length = items.size := by rw [← StrsAre.length hi, Array.length_toList]
 have hmade := PySem.F.called_set.made; have hsub := PySem.F.called_set.sub
 refine wpAny_call (codeAny_of_tree ?_); show wpAny _ _ (callAny (.type "set") _) _ _ _
 refine wpAny_pure ⟨Code.quiet_builtin _ (by decide +kernel), codeAny_builtin PySem.F.entry_type_call ?_⟩
 rw [Around.under_plain (weight_type_call_type "set" [.ref l] []) rfl]
 have h1 := PySem.F.called_set.notType; have h2 := PySem.F.called_set.canCreate; have hct := PySem.F.typeCall_set_1 (.ref l)
 repeat (any_goals (first | assumption | wp_step))
 refine codeAny_mono (T8 (P := P) (w := w) (.ref l) (E := E) (Q₁ := fun obj s₁ => obj = .ref s.heap.objs.size ∧ s₁ = { s with heap := s.heap.push (Jj w) }) ⟨rfl, rfl⟩) fun r s₁ hr => ?_
 cases r with
 | error e => exact hr
 | ok fl =>
  cases fl with
  | ret obj =>
   obtain ⟨rfl, rfl⟩ := hr
   have hS : (s.heap.push (Jj w)).get? s.heap.objs.size = some (Jj w) := Heap.get?_push_size _ rfl
   have hT : Shared.TypeIs { s with heap := s.heap.push (Jj w) } (.ref s.heap.objs.size) "set" := ⟨_, hS, rfl⟩
   have hli := PySem.F.called_set.init.lookup; have hbi := PySem.F.called_set.init.bind (.ref s.heap.objs.size)
   repeat (any_goals (first | assumption | wp_step))
   refine codeAny_mono (codeAny_call_builtin (R := wants (fun r s₂ => r = .none ∧ ∃ h' tk ks, s₂ = { s with heap := h', toks := tk } ∧ SIS P w h' s.heap.objs.size ks ∧ (∀ z, z ∈ ks ↔ z ∈ ns) ∧ ks.length ≤ ns.length ∧ (∀ b o, b < s.heap.objs.size → s.heap.get? b = some o → h'.get? b = some o)) E)
    PySem.F.called_set.init.plain PySem.F.entry_set_init (check_set_init_1 hT ?_)) fun r₂ s₂ hr₂ => ?_
   ·obtain ⟨ol, hol, hcl, nl, hdl⟩ := hl
    obtain ⟨ocls, odict, odata, oslots⟩ := ol
    simp only at hcl hdl
    subst hcl; subst hdl
    have hol' : (s.heap.push (Jj w)).get? l = some { cls := .type "list", dict := odict, data := .seq items nl, slots := oslots } := Heap.get?_push_of_some _ hol
    have hsls := PySem.F.sub_list_set; have hslf := PySem.F.sub_list_frozenset; have hne : (Value.type "list" == Value.type "dict") = false := by decide
    have hl1 : (s.heap.push (Jj w)).IsList l items := ⟨_, hol', rfl, nl, rfl⟩
    unfold Builtin.«set.__init__» noKeywords Builtin.Frozenset.updateFrom
    generalize hPI : pyIter = PI; wp_walk; subst hPI
    refine wpAny_pyIter_list hl1 (wpAny_bind (wpAny_runValue ?_))
    have lS : l < s.heap.objs.size := Heap.lt_size hol
    have nI : l ≠ (s.heap.push (Jj w)).objs.size := by rw [Heap.size_push]; exact Nat.ne_of_lt (Nat.lt_succ_of_lt lS)
    have nS : s.heap.objs.size ∉ [(s.heap.push (Jj w)).objs.size, l] := by
     rw [Heap.size_push]; simp only [List.mem_cons, List.not_mem_nil, or_false, not_or]; exact ⟨Nat.ne_of_lt (Nat.lt_succ_self _), Nat.ne_of_gt lS⟩
    refine Ew (P := P) (w := w) ((Walks.list (show A.in1.in1.in1.handled = none by simp [hh]) _ l nI items).toS) s.heap.objs.size nS (fun i => ns.getD i Str.empty) (fun i v hv => CY hi i v (by rw [Array.getElem?_toList]; exact hv)) hb (items.size - 0) 0 _ [] (by omega) (Nat.zero_le _)
     ⟨⟨_, Heap.get?_push_size _ rfl, rfl, rfl⟩, (hl1.push _)⟩ (FW (Heap.get?_push_of_some _ hS)) (Nat.le_refl _) (fun z => ⟨fun q => (nomatch q), fun ⟨j, hj, _⟩ => by omega⟩) ?_
    intro s' ks mv hS' hm hlk
    obtain ⟨h', g', d', tk', os'⟩ := s'
    have eg : g' = s.gens := mv.gens
    have ed : d' = s.drawn := mv.drawn
    have eo : os' = s.os := mv.os
    subst eg ed eo
    refine wpAny_pure (wpAny_pure ⟨rfl, h', tk', ks, rfl, hS', fun z => (hm z).trans (getD_memS ln z), by rw [ln]; exact hlk, fun b o hb e => ?_⟩)
    have b2 : b ≠ (s.heap.push (Jj w)).objs.size := by rw [Heap.size_push]; exact Nat.ne_of_lt (Nat.lt_succ_of_lt hb)
    exact mv.heap b o (by simp only [List.mem_cons, List.not_mem_nil, or_false, not_or]; exact ⟨Nat.ne_of_lt hb, b2⟩) (Heap.get?_push_of_some _ (Heap.get?_push_of_some _ e))
   ·cases r₂ with
    | error e => exact hr₂
    | ok fl₂ =>
     cases fl₂ with
     | ret r =>
      obtain ⟨rfl, h', tk, ks, rfl, q1, q2, q3, q4⟩ := hr₂
      repeat (any_goals (first | assumption | wp_step))
      exact h _ _ ks q1 q2 q3 q4
     | _ => exact hr₂.elim
  | _ => exact hr.elim
end
section
variable {P : Program} {w : World} {A : Around} {E : Value → Shared → Prop} {s : Shared}
theorem MN {S : Addr} {ks : List Str} {Q : Value → Shared → Prop} (hS : SIS P w s.heap S ks)
  (hQ : ∀ it T es ep t L h' d, SK w it S T es ep t L 0 h' → S ≠ it → T ≠ it → s.heap.objs.size ≤ it → (T = S ∨ s.heap.objs.size ≤ T) → (L.map Er).Perm ks → (∀ v ∈ L, ∃ t, v = .str (Er v) t) → es.size = ks.length → (∀ b o, s.heap.get? b = some o → h'.get? b = some o) → Q (.ref it) { s with heap := h', drawn := d }) :
  wpAny (model P w) A (pyIter (.ref S)) Q E s := by
 obtain ⟨o, es, t, g, so, rfl⟩ := hS
 obtain ⟨ep, hd⟩ := so.dt
 have hTy : s.TypeIs (.ref S) "set" := ⟨o, g, so.ex.1⟩
 have all : ∀ v ∈ es.toList.map (·.2), ∃ t, v = .str (Er v) t := fun v hv => by
  obtain ⟨e, he, rfl⟩ := List.mem_map.mp hv
  exact GV so.el he
 have len : es.size = (QA es).length := by unfold QA; rw [List.length_map, Array.length_toList]
 have lt : S < s.heap.objs.size := Heap.lt_size g
 refine wpAny_pyIter_slot hTy PySem.F.slot_set_iter (wpAny_call_entry PySem.F.slot_set_iter hTy Ux ?_ (PySem.F.args_set_iter_1 _))
 show wpAny _ _ (Builtin.Frozenset.sizeOf S >>= _) _ _ _
 unfold Builtin.Frozenset.sizeOf
 refine wpAny_bind (wpAny_bind (wpAny_setEntries_of g hd so.ft (wpAny_pure ?_)))
 unfold setDrawn setsByText
 refine wpAny_bind (wpAny_bind (wpAny_setState_of g hd so.ft ?_)); dsimp only
 refine wpAny_bind (wpAny_bind (wpAny_askSetting (wpAny_pure (wpAny_pure ?_))))
 have fin : ∀ (first : Value) (s₁ : Shared), s₁.heap.get? S = some o → wpAny (model P w) A.in1 (do
    let e ← setEpoch S
    let it ← newFields "set_iterator" [first, rawInt 0, Value.ref S, rawInt (es.size : Int), rawInt (e : Int)]
    ret it) (fun fin s' => ∃ v, fin = PySem.Fin.done (Flow.ret v) ∧ v = .ref s₁.heap.objs.size ∧ s' = { s₁ with heap := s₁.heap.push { cls := .type "set_iterator", dict := none, data := .fields #[first, rawInt 0, .ref S, rawInt es.size, rawInt ep], slots := #[] } }) E s₁ := fun first s₁ g₁ => by
  refine wpAny_bind (wpAny_setEpoch_of g₁ hd so.ft ?_)
  unfold newFields
  refine wpAny_bind (wpAny_newObj_type ?_ (by size_fits))
  exact wpAny_pure ⟨_, rfl, rfl, rfl⟩
 have nx : ∀ (s' : Shared) (it : Addr) (first : Value), s'.heap.get? it = some { cls := .type "set_iterator", dict := none, data := .fields #[first, rawInt 0, .ref S, rawInt es.size, rawInt ep], slots := #[] } → s'.TypeIs (.ref it) "set_iterator" := fun _ _ _ q => ⟨_, q, rfl⟩
 show wpAny _ _ (if (!w.params.followText "set-order" && (!t.plain && decide (es.size > 1))) = true then _ else _) _ _ _
 cases bt : w.params.followText "set-order" with
 | true =>
  simp only [Bool.not_true, Bool.false_and, Bool.false_eq_true, if_false]
  refine wpAny_bind (wpAny_pure (wpAny_mono (fin (rawInt 0) s g) (fun r s' ⟨v, e1, e2, e3⟩ => ?_) fun _ _ q => q))
  subst e1 e2 e3
  have gi : (s.heap.push { cls := .type "set_iterator", dict := none, data := .fields #[rawInt 0, rawInt 0, .ref S, rawInt es.size, rawInt ep], slots := #[] }).get? s.heap.objs.size = some _ := Heap.get?_push_size _ rfl
  refine ⟨_, rfl, "set_iterator", _, nx _ _ _ gi, QL.lookup, hQ _ S es ep t _ _ s.drawn ⟨_, o, gi, Heap.get?_push_of_some _ g, hd, so.ft, .inl ⟨bt, rfl, rfl⟩, fun T' e => nomatch e⟩ (Nat.ne_of_lt lt) (Nat.ne_of_lt lt) (Nat.le_refl _) (.inl rfl) ?_ ?_ len fun b o q => Heap.get?_push_of_some _ q⟩
  ·rw [List.map_map]
   exact (Vj _ es).map _
  ·intro v hv
   exact all v (((Vj _ es).map _).mem_iff.mp hv)
 | false =>
  cases dr : (!t.plain && decide (es.size > 1)) with
  | false =>
   simp only [Bool.not_false, Bool.true_and, Bool.false_eq_true, if_false]
   refine wpAny_bind (wpAny_pure (wpAny_mono (fin (rawInt 0) s g) (fun r s' ⟨v, e1, e2, e3⟩ => ?_) fun _ _ q => q))
   subst e1 e2 e3
   have gi : (s.heap.push { cls := .type "set_iterator", dict := none, data := .fields #[rawInt 0, rawInt 0, .ref S, rawInt es.size, rawInt ep], slots := #[] }).get? s.heap.objs.size = some _ := Heap.get?_push_size _ rfl
   have pl : t.plain = true ∨ es.size ≤ 1 := by
    cases hp : t.plain with
    | true => exact .inl rfl
    | false =>
     rw [hp] at dr
     have := of_decide_eq_false (show decide (es.size > 1) = false from dr)
     exact .inr (by omega)
   have up : Rsg t.place.toList := by
    rcases pl with pl | pl
    ·exact so.ok.up pl
    ·have sz : t.place.toList.length ≤ 1 := by
      have hf := so.ft
      unfold SetTable.fits at hf
      rw [Bool.and_eq_true] at hf
      rw [Array.length_toList, eq_of_beq hf.1]
      exact pl
     match t.place.toList, sz with
     | [], _ => exact List.Pairwise.nil
     | [a], _ => exact List.pairwise_singleton _ _
   refine ⟨_, rfl, "set_iterator", _, nx _ _ _ gi, QL.lookup, hQ _ S es ep t _ _ s.drawn ⟨_, o, gi, Heap.get?_push_of_some _ g, hd, so.ft, .inr (.inr ⟨bt, rfl, up, by rw [so.ok.led, bt]; rfl, pl, rfl⟩), fun T' e => nomatch e⟩ (Nat.ne_of_lt lt) (Nat.ne_of_lt lt) (Nat.le_refl _) (.inl rfl) ?_ all len fun b o q => Heap.get?_push_of_some _ q⟩
   rw [List.map_map]
   exact .refl _
  | true =>
   simp only [Bool.not_false, Bool.true_and, if_true]
   refine wpAny_bind (CG _ _ _ _ List.length_range fun ps d hp => ?_)
   have lp : ps.length = es.size := by rw [hp.length_eq, List.length_range]
   refine wpAny_bind (wpAny_newTuple ?_ (by rw [List.length_map, lp]; exact fits_of_scanBound so.bd))
   refine wpAny_mono (fin (.ref s.heap.objs.size) _ (Heap.get?_push_of_some _ g)) (fun r s' ⟨v, e1, e2, e3⟩ => ?_) fun _ _ q => q
   subst e1 e2 e3
   have sz : (s.heap.push { cls := .type "tuple", data := .seq (ps.map fun p : Nat => rawInt (p : Int)).toArray }).objs.size = s.heap.objs.size + 1 := Heap.size_push ..
   have gT : (s.heap.push { cls := .type "tuple", data := .seq (ps.map fun p : Nat => rawInt (p : Int)).toArray }).get? s.heap.objs.size = some _ := Heap.get?_push_size _ rfl
   have gi : ((s.heap.push { cls := .type "tuple", data := .seq (ps.map fun p : Nat => rawInt (p : Int)).toArray }).push { cls := .type "set_iterator", dict := none, data := .fields #[.ref s.heap.objs.size, rawInt 0, .ref S, rawInt es.size, rawInt ep], slots := #[] }).get? (s.heap.push { cls := .type "tuple", data := .seq (ps.map fun p : Nat => rawInt (p : Int)).toArray }).objs.size = some _ := Heap.get?_push_size _ rfl
   have pm : (ps.map fun p => (es.getD p (0, Value.none)).2).Perm (es.toList.map (·.2)) := by
    refine (hp.map _).trans (.of_eq ?_)
    refine List.ext_getElem (by simp) fun i h1 h2 => ?_
    have hi : i < es.size := by simpa using h1
    simp [Array.getD, hi]
   refine ⟨_, rfl, "set_iterator", _, nx _ _ _ gi, QL.lookup, hQ _ s.heap.objs.size es ep t _ _ d ⟨_, o, gi, Heap.get?_push_of_some _ (Heap.get?_push_of_some _ g), hd, so.ft, .inr (.inl ⟨bt, s.heap.objs.size, ps, rfl, ⟨_, Heap.get?_push_of_some _ gT, rfl, _, rfl⟩, hp, rfl⟩), fun T' e => by cases e; rfl⟩ ?_ ?_ ?_ (.inr (Nat.le_refl _)) ?_ ?_ len fun b o q => Heap.get?_push_of_some _ (Heap.get?_push_of_some _ q)⟩
   ·intro e
    rw [sz] at e
    exact absurd e (Nat.ne_of_lt (Nat.lt_succ_of_lt lt))
   ·intro e
    rw [sz] at e
    exact absurd e (Nat.ne_of_lt (Nat.lt_succ_self _))
   ·rw [sz]
    exact Nat.le_succ _
   ·have := pm.map Er
    rw [List.map_map (f := fun x : Int × Value => x.2)] at this
    exact this
   ·intro v hv
    exact all v (pm.mem_iff.mp hv)
end
theorem Ce : ∀ L : List Value, (∀ v ∈ L, ∃ t, v = .str (Er v) t) → StrsAre L (L.map Er)
 | [], _ => .nil
 | v :: L, h => by
  obtain ⟨t, e⟩ := h v List.mem_cons_self
  have := Ce L fun x hx => h x (List.mem_cons_of_mem _ hx)
  rw [List.map_cons, e]
  exact .cons _ t this
section
variable {P : Program} {w : World} {A : Around} {E : Value → Shared → Prop} {s : Shared}
theorem Kt {S : Addr} {ks : List Str} {Q : List Value → Shared → Prop} (hh : A.handled = none) (hS : SIS P w s.heap S ks)
  (hQ : ∀ (vs : List Value) (s' : Shared), StrsAre vs (vs.map Er) → (vs.map Er).Perm ks → s'.gens = s.gens → s'.os = s.os → s.toks ≤ s'.toks → (∀ b o, s.heap.get? b = some o → s'.heap.get? b = some o) → Q vs s') :
  wpAny (model P w) A (collect (.ref S)) Q E s := by
 have hz := hS.size
 obtain ⟨o, es0, t0, g, so, e0⟩ := id hS
 have lt : S < s.heap.objs.size := Heap.lt_size g
 unfold collect
 refine wpAny_bind (wpAny_runValue (codeAny_builtin PySem.F.entry_proto_collect ?_)); rw [Around.under_plainId PySem.F.plain_proto_collect _]
 show wpAny _ A.in1 (newList [] >>= fun l => again (.builtin "list.__iadd__" ⟨[l, .ref S], []⟩)) _ _ s
 refine wpAny_bind (wpAny_newObj_type (wpAny_pure ⟨plainId_quiet PySem.F.plain_list_iadd _, codeAny_builtin PySem.F.entry_list_iadd ?_⟩)); rw [Around.under_plainId PySem.F.plain_list_iadd _]
 show wpAny _ A.in1 (Builtin.List.listExtendWith (.ref s.heap.objs.size) (.ref S) (.ref s.heap.objs.size)) _ _ _
 have hS1 : SIS P w (s.heap.push { cls := .type "list", data := .seq ([] : List Value).toArray }) S ks := hS.same fun o q => Heap.get?_push_of_some _ q
 have hTy : Shared.TypeIs { s with heap := s.heap.push { cls := .type "list", data := .seq ([] : List Value).toArray } } (.ref S) "set" := ⟨o, Heap.get?_push_of_some _ g, so.ex.1⟩
 unfold Builtin.List.listExtendWith
 refine wpAny_bind (wpAny_typeOf hTy ?_)
 have h1 : Builtin.List.listSameRef (.ref s.heap.objs.size) (.ref S) = false := by simp [Builtin.List.listSameRef]; exact fun e => absurd e (Nat.ne_of_gt lt)
 simp only [h1, show (Value.type "set" == Value.type "list") = false by decide, show (Value.type "set" == Value.type "tuple") = false by decide, Bool.or_false, Bool.false_eq_true, if_false]
 refine wpAny_bind (MN hS1 fun it T es ep t L h2 d st nS nT lit lT pL hL len k2 => ?_)
 have hTy2 : Shared.TypeIs { s with heap := h2, drawn := d } (.ref S) "set" := ⟨o, k2 S o (Heap.get?_push_of_some _ g), so.ex.1⟩
 refine wpAny_bind (wpAny_holding ?_)
 unfold Builtin.List.listLengthHint
 refine wpAny_bind (wpAny_specialOf hTy2 Rv.lookup ?_)
 (generalize hid : ("set.__len__" : String) = id0; (fail_if_success (clear hid id0)); wp_delta; rw [show splitId id0 = some ("set", "__len__") from by subst hid; decide +kernel]; subst hid)
 refine wpAny_bind (wpAny_isInstance (b := true) hTy2 sub_set_self ?_)
 rw [if_neg (by decide)]; dsimp only
 rw [if_pos (by decide +kernel)]
 refine wpAny_bind (wpAny_typeOf hTy2 (wpAny_pure ?_))
 rw [if_pos (by decide +kernel)]
 have gN : h2.get? s.heap.objs.size = some { cls := .type "list", data := .seq ([] : List Value).toArray } := k2 _ _ (Heap.get?_push_size _ rfl)
 have szp : (s.heap.push { cls := .type "list", data := .seq ([] : List Value).toArray }).objs.size = s.heap.objs.size + 1 := size_push' _ _
 have nN : s.heap.objs.size ∉ [it, S, T] := fun hm => by
  rw [show (Shared.heap { s with heap := s.heap.push { cls := .type "list", data := .seq ([] : List Value).toArray } }).objs.size = s.heap.objs.size + 1 from szp] at lit lT
  simp at hm
  rcases hm with e | e | e
  ·omega
  ·exact absurd e (Nat.ne_of_gt lt)
  ·rcases lT with q | q
   ·exact absurd (e.trans q) (Nat.ne_of_gt lt)
   ·omega
 have W := (Dv (P := P) (w := w) (A := A.in1) (es := es) (ep := ep) (t := t) (L := L) hh it S T nS nT)
 have g2 := Heap.get?_update_self (Obj.mapSeq (·.push Value.none)) gN rfl
 have g3 := Heap.get?_update_self (Obj.mapSeq (·.pop)) g2 rfl
 have oth : ∀ b o, b ≠ s.heap.objs.size → h2.get? b = some o → ((h2.update s.heap.objs.size (Obj.mapSeq (·.push Value.none))).update s.heap.objs.size (Obj.mapSeq (·.pop))).get? b = some o :=
  fun b o hb e => (Heap.get?_update_other _ _ (Ne.symm hb)).trans ((Heap.get?_update_other _ _ (Ne.symm hb)).trans e)
 refine wpAny_bind (wpAny_rule (wpAny_bind ?_))
 show wpAny _ A.in1 (updateSeq s.heap.objs.size (·.push .none) >>= fun _ => updateSeq s.heap.objs.size (·.pop)) _ _ _
 refine wpAny_bind (wpAny_updateSeq gN rfl (wpAny_updateSeq g2 rfl ?_))
 have lL : L.length = es.size := by rw [len, ← pL.length_eq, List.length_map]
 refine wpAny_pure ⟨plainId_quiet PySem.F.plain_extend_loop _, codeAny_extend_loopS W.toS (by rw [len]; exact Nat.le_trans (Nat.le_of_lt hz) (by decide)) _ nN _ es.size 0 _ _ _ rfl (Nat.zero_le _) (W.frame 0 h2 _ st fun b hb o e => oth b o (fun q => nN (q ▸ hb)) e) g3 (ItemsOf.nil _) fun s' acc c hm hS' hacc => ?_⟩
 have eL : acc.toList = L := by
  refine List.ext_getElem? fun j => ?_
  by_cases hj : j < acc.size
  ·rw [Array.getElem?_toList, Array.getElem?_eq_getElem hj]
   exact (hacc.2 j _ (Array.getElem?_eq_getElem hj)).symm
  ·rw [List.getElem?_eq_none (by rw [Array.length_toList]; omega), List.getElem?_eq_none (by rw [lL, ← hacc.1]; omega)]
 show wpAny _ A (load s.heap.objs.size >>= _) _ _ s'
 refine wpAny_bind (wpAny_load hS' (wpAny_pure ?_))
 rw [eL]
 refine hQ L s' (Ce L hL) pL hm.gens hm.os hm.toks fun b o q => ?_
 have bl : b < s.heap.objs.size := Heap.lt_size q
 refine hm.heap b o (fun hb => ?_) (oth b o (Nat.ne_of_lt bl) (k2 b o (Heap.get?_push_of_some _ q)))
 rw [show (Shared.heap { s with heap := s.heap.push { cls := .type "list", data := .seq ([] : List Value).toArray } }).objs.size = s.heap.objs.size + 1 from szp] at lit
 rcases List.mem_cons.mp hb with e | e
 ·exact absurd e (Nat.ne_of_lt bl)
 ·rw [List.mem_singleton.mp e] at bl; exact absurd (Nat.lt_of_lt_of_le bl (Nat.le_of_succ_le lit)) (Nat.lt_irrefl _)
end
theorem SIS.nodup {P : Program} {w : World} {h : Heap} {a : Addr} {ks : List Str} (q : SIS P w h a ks) : ks.Nodup := by
 obtain ⟨o, es, t, _, so, rfl⟩ := q
 exact so.nd
section
variable {P : Program} {w : World} {A : Around} {E : Value → Shared → Prop} {s : Shared}
theorem UN {S : Addr} {ks : List Str} {Q : Value → Shared → Prop} (hh : A.handled = none) (hS : SIS P w s.heap S ks) (h64 : ks.length < 64)
  (h : ∀ (out : Array Value) (ns : List Str) (s1 : Shared) (h' : Heap) (e : Nat), StrsAre out.toList ns → ns.Perm ks → sortedS ns = true → s1.gens = s.gens → s1.os = s.os → (∀ b o, s.heap.get? b = some o → s1.heap.get? b = some o) → (∀ b o, s1.heap.get? b = some o → h'.get? b = some o) → h'.get? s1.heap.objs.size = some (seqObj "list" out e) → Q (.ref s1.heap.objs.size) { s1 with heap := h' }) :
  wpAny (model P w) A (call (.builtin "sorted") [.ref S]) Q E s := by
 refine Calls.call_function_entry kind_sorted plain_sorted entry_sorted (args_sorted1 _) ?_; unfold Builtin.«sorted»
 refine wpAny_bind (m := checkCount "sorted" 1 1 _) (wpAny_pure (wpAny_bind (Kt (by exact hh) hS fun vs s1 a1 a2 a3 a4 a5 a6 => wpAny_bind (wpAny_newList ?_ (by have := a2.length_eq; rw [List.length_map] at this; rw [sizeLine_eq]; omega)))))
 have hoL : (s1.heap.push (seqObj "list" vs.toArray 0)).get? s1.heap.objs.size = some (seqObj "list" vs.toArray 0) := Heap.get?_push_size _ rfl
 have hl : vs.length < 64 := by have := a2.length_eq; rw [List.length_map] at this; omega
 show wpAny _ _ _ _ _ { s1 with heap := s1.heap.push (seqObj "list" vs.toArray 0) }
 refine wpAny_bind (wpAny_holding (wpAny_call_entry slot_list_sort ⟨_, hoL, rfl⟩ entry_list_sort (list_sort_treeK strKind_oneLt hoL a1.keysOf (fun v₁ v₂ rest e => keyKind_strs (by rw [← e]; exact a1)) hl fun st' hp hs => ⟨_, rfl, ?_⟩) (args_list_sort _)))
 obtain ⟨ns', b1, b2, b3⟩ := sorted_out_str a1 hp hs
 obtain ⟨e, he⟩ := RA s1.heap vs ((arrOf st').map (·.2))
 exact wpAny_pure ⟨_, rfl, h _ ns' s1 _ e b1 (b2.trans a2) b3 a3 a4 a6 (fun b o q => MV q) he⟩
end
section
variable {X : Cx} {e : Expr} {t : TA} {p pos p2 pos2 : Pos}
noncomputable def ZfX (X : Cx) (t : TA) : TE := fun σ H Q => t σ H fun xs H1 => ∃ (l : Addr) (ns : List Str), xs = [.ref l] ∧ SqL X.K H1 l (ns.map V.str) ∧ ns.length < 64 ∧ ∀ ks : List Str, sortedS ks = true → ks.Nodup → (∀ z, z ∈ ks ↔ z ∈ ns) → ∀ l, H1 l = none → Q (.ref l) (upd H1 l (.lst (ks.map V.str)))
theorem Xm (hc : X.calm = true) (hg : Gl X "sorted") (hm : X.mg "sorted" = none) (hg2 : Gl X "set") (hm2 : X.mg "set" = none) (ha : PA X [e] t) (he : starEach [e] X.env = [(false, eval e X.env)] := by rfl) :
  PE X (.Call (.Name "sorted" p) [.Call (.Name "set" p2) [e] [] pos2] [] pos) (ZfX X t) := by
 intro pins s σ H Q I h
 refine wpAny_Call_Name_kw (Xc I hg hm (u := .builtin "sorted") (by rfl) ?_ (by decide) (by decide))
 refine PyProof.Rows.callWith_builtin1 ?_ (by rfl) (by rfl)
 refine Calls.spliced_cons (wpAny_Call_Name_kw (Xc I hg2 hm2 (u := .type "set") (by rfl) ?_ (by decide) (by decide)))
 refine PyProof.Rows.callWith_type1 (thn (ha pos2 pins s σ H _ I h) fun us s1 ⟨vs, H1, I1, r1, q1⟩ => ?_) he (by rfl)
 obtain ⟨l, ns, rfl, hq, h64, q⟩ := q1
 obtain ⟨u, rfl, rx⟩ := vals1 r1
 cases rx
 obtain ⟨its, rv, pl, hz⟩ := I1.list hq
 have hi : StrsAre its ns := Vn rv
 have hlen : its.length < 64 := by have := rv.length; rw [List.length_map] at this; omega
 refine CD (I1.ok.hd hc) pl.isList (by simpa using hi) (by simpa using Nat.lt_trans (Nat.succ_lt_succ hlen) (by decide)) fun h' tk ks a1 a2 a3 a4 => ?_
 have k1 : ∀ b o, s1.heap.get? b = some o → h'.get? b = some o := fun b o q => a4 b o (Heap.lt_size q) q
 refine Calls.spliced_nil ?_
 refine UN (s := { s1 with heap := h', toks := tk }) (I1.ok.hd hc) a1 (by omega) fun out ns' s2 h2 e b1 b2 b3 b4 b5 b6 b7 b8 => ?_
 have I2 := I1.kept (t' := tk) k1
 have I3 : Inv X pins σ H1 s2 := I2.T5 (ch := []) b5 (Un.kept b6) (I2.hok.kept b6) (by rw [b4]; exact I2.bare) (fun _ z => nomatch z)
 have hn : H1 s2.heap.objs.size = none := I3.hok.fresh (Nat.le_refl _)
 refine ⟨.ref s2.heap.objs.size, _, I3.laid (t' := s2.toks) (a := s2.heap.objs.size) (o := .lst (ns'.map V.str)) b7 (Nat.le_refl _) ⟨?_, out.toList, e, Yc b1, b8⟩, rfl, q ns' b3 ?_ (fun z => (b2.mem_iff).trans (a2 z)) _ hn⟩
 ·rw [List.length_map, b2.length_eq, sizeLine_eq]
  omega
 ·exact b2.nodup_iff.mpr (SIS.nodup a1)
noncomputable def Zd9 (t : DTA) : DTE := fun Δ M Φ => t Δ M fun xs M1 => on1 xs fun x => onK x M1 fun ds => YI ds fun ns => ns.length < 64 ∧ ∀ ks : List Str, sortedS ks = true → ks.Nodup → (∀ z, z ∈ ks ↔ z ∈ ns) → Φ (.dat (.list (ks.map PyData.str))) M1
theorem ZaG (t : DTA) (Δ : DSt) (M : Mp) (Φ : DK) : Zd9 t Δ M Φ = (t Δ M fun xs M1 => on1 xs fun x => onK x M1 fun ds => YI ds fun ns => ns.length < 64 ∧ ∀ ks : List Str, sortedS ks = true → ks.Nodup → (∀ z, z ∈ ks ↔ z ∈ ns) → Φ (.dat (.list (ks.map PyData.str))) M1) := propext Iff.rfl
theorem X6 {t : DTA} (hg : Gl X "sorted") (hm : X.mg "sorted" = none) (hg2 : Gl X "set") (hm2 : X.mg "set" = none) (ha : DA X [e] t) (hc : X.calm = true := by rfl) (he : starEach [e] X.env = [(false, eval e X.env)] := by rfl) :
  DE X (.Call (.Name "sorted" p) [.Call (.Name "set" p2) [e] [] pos2] [] pos) (Zd9 t) := by
 obtain ⟨u, pa, q⟩ := ha
 refine ⟨_, Xm hc hg hm hg2 hm2 pa he, fun σ H Δ M Φ Q r e h k => ?_⟩
 refine q σ H Δ M _ _ r e h fun vs H1 xs M1 r1 st rv hx => ?_
 replace hx := Z9 hx
 obtain ⟨x, rfl, hx⟩ := hx
 replace hx := Jd hx
 obtain ⟨ds, hl, ns, rfl, h64, q⟩ := hx
 replace hl : BZ x M1 (ns.map PyData.str) := hl
 obtain ⟨v, rfl, h1⟩ := Paired.one rv
 obtain ⟨a, ys, rfl, g1, g2⟩ := hl.sq r1 h1
 rw [X2 g2] at g1
 exact ⟨a, ns, rfl, g1, h64, fun ks a b c l hl => (k.step st).dat (r1.new hl) (Step.new hl) (Dt.Vc r1 hl (JV ks)) (q ks a b c)⟩
end
end DL
namespace My
open PySem PySem.Spec PyProof.Rows L2 DL
set_option maxHeartbeats 8000000
noncomputable def top (i : Nat) : Stmt := PySem.Challenge.pw_landsentered_k23_whole_looks_beside_look.main.body.getD i (.Pass ⟨0, 0, 0, 0⟩)
noncomputable abbrev Qk : Stmt := top 1
noncomputable abbrev Qz : Stmt := top 2
noncomputable abbrev ZS : Stmt := top 3
noncomputable abbrev Bp : Stmt := top 4
noncomputable abbrev Jv : Stmt := top 5
noncomputable abbrev Js : Stmt := top 6
noncomputable abbrev QG : Stmt := top 7
noncomputable abbrev Qi : Stmt := top 8
noncomputable abbrev YZ : Stmt := top 10
noncomputable abbrev Z0 : Stmt := top 11
noncomputable abbrev JY : Stmt := top 13
noncomputable abbrev Jz : Stmt := top 14
noncomputable abbrev ZF : Stmt := top 15
noncomputable abbrev VB : Stmt := top 16
noncomputable abbrev BB : Stmt := top 18
noncomputable abbrev Y5 : Stmt := top 19
noncomputable abbrev QS : Stmt := top 20
noncomputable abbrev Vl : Stmt := top 21
noncomputable abbrev Vz : Stmt := top 22
noncomputable abbrev Y4 : Stmt := top 23
noncomputable abbrev Y6 : Stmt := top 24
noncomputable abbrev Yf : Stmt := top 25
noncomputable abbrev Vx : Stmt := top 26
noncomputable abbrev Vy : Stmt := top 27
noncomputable abbrev QW : Stmt := top 28
noncomputable abbrev QF : Stmt := top 29
noncomputable abbrev Qd : Stmt := top 30
noncomputable abbrev JR : Stmt := top 31
noncomputable abbrev ZD : Stmt := top 32
noncomputable abbrev Uj : Stmt := top 33
theorem K6 : Zq ["box"] ["box"] (Zf Qk) := ⟨rfl, rfl, rfl, by decide +kernel, rfl, by decide +kernel, by decide +kernel⟩
theorem U3 : Zq ["box", "spot"] ["box", "spot"] (Zf Qz) := ⟨rfl, rfl, rfl, by decide +kernel, rfl, by decide +kernel, by decide +kernel⟩
theorem VO : Zq ["one", "other"] ["one", "other"] (Zf ZS) := ⟨rfl, rfl, rfl, by decide +kernel, rfl, by decide +kernel, by decide +kernel⟩
theorem S9 : Zq ["one", "other", "way"] ["one", "other", "way"] (Zf Bp) := ⟨rfl, rfl, rfl, by decide +kernel, rfl, by decide +kernel, by decide +kernel⟩
theorem Ex : Zq ["spot", "r"] ["spot", "r"] (Zf Jv) := ⟨rfl, rfl, rfl, by decide +kernel, rfl, by decide +kernel, by decide +kernel⟩
theorem Ya : Zq ["one", "other", "low", "high"] ["one", "other"] (Zf Js) := ⟨rfl, rfl, rfl, by decide +kernel, rfl, by decide +kernel, by decide +kernel⟩
theorem Qy : Zq ["one", "other", "middle", "left", "right", "below", "above"] ["one", "other"] (Zf QG) := ⟨rfl, rfl, rfl, by decide +kernel, rfl, by decide +kernel, by decide +kernel⟩
theorem Qb : Zq ["box", "others", "pieces", "other", "rest", "piece"] ["box", "others"] (Zf Qi) := ⟨rfl, rfl, rfl, by decide +kernel, rfl, by decide +kernel, by decide +kernel⟩
theorem Rr : Zq ["shape", "wobble", "spot"] ["shape", "wobble", "spot"] (Zf YZ) := ⟨rfl, rfl, rfl, by decide +kernel, rfl, by decide +kernel, by decide +kernel⟩
theorem Xf : Zq ["pieces", "spot"] ["pieces", "spot"] (Zf Z0) := ⟨rfl, rfl, rfl, by decide +kernel, rfl, by decide +kernel, by decide +kernel⟩
theorem J9 : Zq ["lands", "land", "outers", "at", "many"] ["lands", "land"] (Zf JY) := ⟨rfl, rfl, rfl, by decide +kernel, rfl, by decide +kernel, by decide +kernel⟩
theorem Yb : Zq ["lands", "held", "spot", "told", "row"] ["lands", "held", "spot"] (Zf Jz) := ⟨rfl, rfl, rfl, by decide +kernel, rfl, by decide +kernel, by decide +kernel⟩
theorem JL : Zq ["lands", "ranked"] ["lands"] (Zf ZF) := ⟨rfl, rfl, rfl, by decide +kernel, rfl, by decide +kernel, by decide +kernel⟩
theorem GH : Zq ["row", "held", "spot", "found"] ["row", "held", "spot"] (Zf VB) := ⟨rfl, rfl, rfl, by decide +kernel, rfl, by decide +kernel, by decide +kernel⟩
theorem Bh : Zq ["_law_script", "_law_k", "_law_cell"] ["_law_script", "_law_k"] (Zf BB) := ⟨rfl, rfl, rfl, by decide +kernel, rfl, by decide +kernel, by decide +kernel⟩
theorem XB : Zq ["_law_pen_here", "_law_many", "_law_mixed", "_law_drawn"] ["_law_pen_here", "_law_many"] (Zf Y5) := ⟨rfl, rfl, rfl, by decide +kernel, rfl, by decide +kernel, by decide +kernel⟩
theorem QN : Zq ["_law_pen_here", "_law_many", "_law_letters", "_law_base", "_law_long", "_law_at", "_law_found", "_law_k", "_law_signs"] ["_law_pen_here", "_law_many"] (Zf QS) := ⟨rfl, rfl, rfl, by decide +kernel, rfl, by decide +kernel, by decide +kernel⟩
theorem G8 : Zq ["_law_pen_here", "_law_far"] ["_law_pen_here"] (Zf Vl) := ⟨rfl, rfl, rfl, by decide +kernel, rfl, by decide +kernel, by decide +kernel⟩
theorem Qg : Zq ["_law_pen_here", "_law_found", "_law_k", "_law_wide", "_law_high", "_law_x", "_law_y", "_law_low", "_law_top"] ["_law_pen_here"] (Zf Vz) := ⟨rfl, rfl, rfl, by decide +kernel, rfl, by decide +kernel, by decide +kernel⟩
theorem RF : Zq ["_law_frame_here", "_law_spot_here", "_law_more"] ["_law_frame_here", "_law_spot_here", "_law_more"] (Zf Y4) := ⟨rfl, rfl, rfl, by decide +kernel, rfl, by decide +kernel, by decide +kernel⟩
theorem Yp : Zq ["_law_pen_here", "_law_house_here", "_law_one", "_law_other", "_law_small", "_law_frame_here"] ["_law_pen_here", "_law_house_here"] (Zf Y6) := ⟨rfl, rfl, rfl, by decide +kernel, rfl, by decide +kernel, by decide +kernel⟩
theorem QU : Zq ["_law_pen_here", "_law_house_here", "_law_boxes_here", "_law_frame_here", "_law_outers", "_law_outer", "_law_shape", "_law_wobble", "_law_far", "_law_low", "_law_top"] ["_law_pen_here", "_law_house_here"] (Zf Yf) := ⟨rfl, rfl, rfl, by decide +kernel, rfl, by decide +kernel, by decide +kernel⟩
theorem Gq : Zq ["_law_pen_here", "_law_house_here"] ["_law_pen_here"] (Zf Vx) := ⟨rfl, rfl, rfl, by decide +kernel, rfl, by decide +kernel, by decide +kernel⟩
theorem Qo : Zq ["_law_pen_here", "_law_house_here", "_law_way", "_law_rows", "_law_name", "_law_outer", "_law_shape", "_law_wobble"] ["_law_pen_here", "_law_house_here"] (Zf Vy) := ⟨rfl, rfl, rfl, by decide +kernel, rfl, by decide +kernel, by decide +kernel⟩
theorem EE : Zq ["_law_one", "_law_other"] ["_law_one", "_law_other"] (Zf QW) := ⟨rfl, rfl, rfl, by decide +kernel, rfl, by decide +kernel, by decide +kernel⟩
theorem By : Zq ["_law_lands_here", "_law_least", "_law_more"] ["_law_lands_here", "_law_least", "_law_more"] (Zf QF) := ⟨rfl, rfl, rfl, by decide +kernel, rfl, by decide +kernel, by decide +kernel⟩
theorem Z4 : Zq ["_law_lands_here", "_law_names_here", "_law_held", "_law_spot_here", "_law_told", "_law_some", "_law_all_held", "_law_calm", "_law_wider"] ["_law_lands_here", "_law_names_here", "_law_held", "_law_spot_here"] (Zf Qd) := ⟨rfl, rfl, rfl, by decide +kernel, rfl, by decide +kernel, by decide +kernel⟩
theorem X5 : Zq ["_law_lands_here", "_law_land_here", "_law_found", "_law_turn"] ["_law_lands_here", "_law_land_here"] (Zf JR) := ⟨rfl, rfl, rfl, by decide +kernel, rfl, by decide +kernel, by decide +kernel⟩
theorem ZX : Zq ["_law_lands_here", "_law_held", "_law_spot_here", "_law_told", "_law_outers", "_law_land_here", "_law_gone", "_law_rest"] ["_law_lands_here", "_law_held", "_law_spot_here"] (Zf ZD) := ⟨rfl, rfl, rfl, by decide +kernel, rfl, by decide +kernel, by decide +kernel⟩
theorem VF : Zq ["_law_script", "_law_k", "_law_pen_here", "_law_house_here", "_law_lands_here", "_law_turn", "_law_spot_here", "_law_held"] ["_law_script"] (Zf Uj) := ⟨rfl, rfl, rfl, by decide +kernel, rfl, by decide +kernel, by decide +kernel⟩
theorem NP : bootBuiltins "abs" = some (.builtin "abs") := by decide +kernel
theorem FD : bootBuiltins "dict" = some (.type "dict") := by decide +kernel
theorem VI : bootBuiltins "len" = some (.builtin "len") := by decide +kernel
theorem G9 : bootBuiltins "max" = some (.builtin "max") := by decide +kernel
theorem Fb : bootBuiltins "min" = some (.builtin "min") := by decide +kernel
theorem ZbU : bootBuiltins "range" = some (.type "range") := by decide +kernel
theorem ZdQ : bootBuiltins "set" = some (.type "set") := by decide +kernel
theorem Jr : bootBuiltins "sorted" = some (.builtin "sorted") := by decide +kernel
theorem VW : bootBuiltins "tuple" = some (.type "tuple") := by decide +kernel
set_option genInjectivity false in
structure Tx (K : PySem.W.Frag) (mg : Str → Option Value) where
 JS : Addr
 JP : FuncData
 Q7 : Own K mg "has_spots" Qk ["box"] JS JP
 Vw : Addr
 Vo : FuncData
 Jy : Own K mg "steps_to" Qz ["box", "spot"] Vw Vo
 Qh : Addr
 Qf : FuncData
 ZK : Own K mg "steps_between" ZS ["one", "other"] Qh Qf
 R0 : Addr
 PU : FuncData
 WV : Own K mg "gap" Bp ["one", "other", "way"] R0 PU
 Ki : Addr
 Xt : FuncData
 VS : Own K mg "square" Jv ["spot", "r"] Ki Xt
 XE : Addr
 Xg : FuncData
 V5 : Own K mg "common" Js ["one", "other"] XE Xg
 Yw : Addr
 YH : FuncData
 Vh : Own K mg "cut_out" QG ["one", "other"] Yw YH
 JX : Addr
 JZ : FuncData
 Q1 : Own K mg "left_over" Qi ["box", "others"] JX JZ
 FG : Addr
 Cz : FuncData
 Gy : Own K mg "side" YZ ["shape", "wobble", "spot"] FG Cz
 Jc : Addr
 Jm : FuncData
 QM : Own K mg "steps_away" Z0 ["pieces", "spot"] Jc Jm
 U2 : Addr
 UX : FuncData
 XR : Own K mg "level" JY ["lands", "land"] U2 UX
 V6 : Addr
 V4 : FuncData
 Zl : Own K mg "looked" Jz ["lands", "held", "spot"] V6 V4
 Q5 : Addr
 Q0 : FuncData
 Qu : Own K mg "outer_first" ZF ["lands"] Q5 Q0
 US : Addr
 Ur : FuncData
 XQ : Own K mg "keeps" VB ["row", "held", "spot"] US Ur
 RV : Addr
 RN : FuncData
 MF : Own K mg "_law_pen" BB ["_law_script", "_law_k"] RV RN
 Vb : Addr
 J6 : FuncData
 Zj : Own K mg "_law_draw" Y5 ["_law_pen_here", "_law_many"] Vb J6
 U7 : Addr
 Uk : FuncData
 Xr : Own K mg "_law_names" QS ["_law_pen_here", "_law_many"] U7 Uk
 UZ : Addr
 U0 : FuncData
 XY : Own K mg "_law_frame" Vl ["_law_pen_here"] UZ U0
 UK : Addr
 UO : FuncData
 Xn : Own K mg "_law_boxes" Vz ["_law_pen_here"] UK UO
 Bg : Addr
 GB : FuncData
 JK : Own K mg "_law_laid" Y4 ["_law_frame_here", "_law_spot_here", "_law_more"] Bg GB
 Ff : Addr
 DQ : FuncData
 Ba : Own K mg "_law_spot" Y6 ["_law_pen_here", "_law_house_here"] Ff DQ
 CV : Addr
 EU : FuncData
 GA : Own K mg "_law_land" Yf ["_law_pen_here", "_law_house_here"] CV EU
 UD : Addr
 UA : FuncData
 Kk : Own K mg "_law_house" Vx ["_law_pen_here"] UD UA
 WN : Addr
 U1 : FuncData
 XI : Own K mg "_law_lands" Vy ["_law_pen_here", "_law_house_here"] WN U1
 XO : Addr
 XS : FuncData
 Z2 : Own K mg "_law_within" QW ["_law_one", "_law_other"] XO XS
 Yi : Addr
 YJ : FuncData
 QH : Own K mg "_law_wobbled" QF ["_law_lands_here", "_law_least", "_law_more"] Yi YJ
 Jl : Addr
 Jp : FuncData
 QO : Own K mg "_law_held_right" Qd ["_law_lands_here", "_law_names_here", "_law_held", "_law_spot_here"] Jl Jp
 Ub : Addr
 Ui : FuncData
 Kj : Own K mg "_law_inner" JR ["_law_lands_here", "_law_land_here"] Ub Ui
 QZ : Addr
 Q6 : FuncData
 Qw : Own K mg "_law_apart_right" ZD ["_law_lands_here", "_law_held", "_law_spot_here"] QZ Q6
 TJ : Addr
 Zal : FuncData
 o_law : Own K mg "law" Uj ["_law_script"] TJ Zal
 Zbg : mg "abs" = none
 NM : mg "dict" = none
 KA : mg "len" = none
 Hh : mg "max" = none
 OX : mg "min" = none
 Jb : mg "range" = none
 ZdH : mg "set" = none
 Jw : mg "sorted" = none
 XD : mg "tuple" = none
local macro_rules | `(tactic| walk_at "hd") => `(tactic| (subst_vars; (try dsimp only); refine DL.Li fun R hR => ?_))
noncomputable def ab (i : Int) : Int := if i < 0 then -i else i
noncomputable def Qj (x y x' y' : Int) : Int := max (ab (x - x')) (ab (y - y'))
noncomputable def gp (a b a' b' : Int) : Int := max 0 (max (a' - b) (a - b'))
noncomputable def btw (x y X Y x' y' X' Y' : Int) : Int := max (gp x X x' X') (gp y Y y' Y')
structure B4 where
 x : Int
 y : Int
 X : Int
 Y : Int
noncomputable def bD (b : B4) : PyData := .tuple [.tuple [.int b.x, .int b.y], .tuple [.int b.X, .int b.Y]]
noncomputable def Y8 (a b : B4) : Int := btw a.x a.y a.X a.Y b.x b.y b.X b.Y
noncomputable def Qp (p : B4) (u v : Int) : Int := btw p.x p.y p.X p.Y u v u v
noncomputable def hasB (b : B4) (u v : Int) : Bool := decide (b.x ≤ u ∧ u ≤ b.X ∧ b.y ≤ v ∧ v ≤ b.Y)
noncomputable def okB (b : B4) : Bool := decide (b.x ≤ b.X) && decide (b.y ≤ b.Y)
noncomputable def Tu (a b : B4) : B4 := ⟨max a.x b.x, max a.y b.y, min a.X b.X, min a.Y b.Y⟩
noncomputable def Cc (a b : B4) : List B4 :=
 let mx := max a.x b.x
 let my := max a.y b.y
 let mX := min a.X b.X
 let mY := min a.Y b.Y
 [⟨a.x, a.y, mx - 1, a.Y⟩, ⟨mX + 1, a.y, a.X, a.Y⟩, ⟨mx, a.y, mX, my - 1⟩, ⟨mx, mY + 1, mX, a.Y⟩]
noncomputable def YN (a b : B4) : List B4 := if 0 < Y8 a b then [a] else (Cc a b).filter okB
noncomputable def QX (a : B4) (bs : List B4) : List B4 := bs.foldl (fun ps b => ps.flatMap fun p => YN p b) [a]
noncomputable def QY (u v r : Int) : B4 := ⟨u - r, v - r, u + r, v + r⟩
noncomputable def onX (x : DV) (P : B4 → Prop) : Prop := match x with | .dat (.tuple [.tuple [.int x, .int y], .tuple [.int X, .int Y]]) => P ⟨x, y, X, Y⟩ | _ => False
theorem ZeD (b : B4) (P : B4 → Prop) : onX (.dat (bD b)) P = P b := rfl
theorem HG (b : B4) (P : B4 → Prop) : onX (.dat (bD b)) P = P b := propext Iff.rfl
theorem Zep (x y X Y : Int) (P : B4 → Prop) : onX (.dat (.tuple [.tuple [.int x, .int y], .tuple [.int X, .int Y]])) P = P ⟨x, y, X, Y⟩ := rfl
theorem HD (x y X Y : Int) (P : B4 → Prop) : onX (.dat (.tuple [.tuple [.int x, .int y], .tuple [.int X, .int Y]])) P = P ⟨x, y, X, Y⟩ := propext Iff.rfl
theorem Jo {x : DV} {P : B4 → Prop} (h : onX x P) : ∃ b, x = .dat (bD b) ∧ P b := by
 unfold onX at h
 split at h
 ·exact ⟨⟨_, _, _, _⟩, rfl, h⟩
 ·exact h.elim
theorem Zd8 (b : B4) (M : Mp) (P : List PyData → Prop) : onQ (.dat (bD b)) M P = P [.tuple [.int b.x, .int b.y], .tuple [.int b.X, .int b.Y]] := rfl
theorem Nh (b : B4) (M : Mp) (P : List PyData → Prop) : onQ (.dat (bD b)) M P = P [.tuple [.int b.x, .int b.y], .tuple [.int b.X, .int b.Y]] := propext Iff.rfl
theorem Zev (b : B4) (P : List PyData → Prop) : onT (.dat (bD b)) P = P [.tuple [.int b.x, .int b.y], .tuple [.int b.X, .int b.Y]] := rfl
theorem HK (b : B4) (P : List PyData → Prop) : onT (.dat (bD b)) P = P [.tuple [.int b.x, .int b.y], .tuple [.int b.X, .int b.Y]] := propext Iff.rfl
noncomputable def FZ (x : DV) (P : List B4 → Prop) : Prop := ∃ bs, x = .dat (.tuple (bs.map bD)) ∧ P bs
noncomputable def ZeE (x : DV) (P : List B4 → Prop) : Prop := ∃ bs, x = .dat (.list (bs.map bD)) ∧ P bs
theorem WJ {x : DV} {P : List B4 → Prop} (h : FZ x P) : ∃ bs, x = .dat (.tuple (bs.map bD)) ∧ P bs := h
theorem Zdh {x : DV} {P : List B4 → Prop} (h : ZeE x P) : ∃ bs, x = .dat (.list (bs.map bD)) ∧ P bs := h
theorem ZaV {a b : B4} (h : bD a = bD b) : a = b := by
 unfold bD at h
 simp only [PyData.tuple.injEq, List.cons.injEq, PyData.int.injEq, and_true] at h
 obtain ⟨⟨h1, h2⟩, h3, h4⟩ := h
 cases a
 cases b
 simp only at h1 h2 h3 h4
 subst h1 h2 h3 h4
 rfl
theorem Vq : ∀ {as bs : List B4}, as.map bD = bs.map bD → as = bs
 | [], [], _ => rfl
 | [], _ :: _, h => by simp at h
 | _ :: _, [], h => by simp at h
 | a :: as, b :: bs, h => by
  rw [List.map_cons, List.map_cons, List.cons.injEq] at h
  rw [ZaV h.1, Vq h.2]
theorem O1 (bs : List B4) (P : List B4 → Prop) : FZ (.dat (.tuple (bs.map bD))) P = P bs := propext ⟨fun ⟨cs, e, h⟩ => by
 rw [DV.dat.injEq, PyData.tuple.injEq] at e
 rw [Vq e]
 exact h, fun h => ⟨bs, rfl, h⟩⟩
theorem PV (bs : List B4) (P : List B4 → Prop) : ZeE (.dat (.list (bs.map bD))) P = P bs := propext ⟨fun ⟨cs, e, h⟩ => by
 rw [DV.dat.injEq, PyData.list.injEq] at e
 rw [Vq e]
 exact h, fun h => ⟨bs, rfl, h⟩⟩
noncomputable def Shp (bs : List B4) : Prop := 1 ≤ bs.length ∧ bs.length ≤ 6 ∧ ∀ b ∈ bs, okB b = true
noncomputable abbrev anyB (bs : List B4) : Int → Int → Bool := fun x y => bs.any fun b => hasB b x y
noncomputable def PN : DSp := fun xs M Φ => on1 xs fun x => onX x fun b => Φ (.dat (.bool (okB b))) M
theorem OA (xs : List DV) (M : Mp) (Φ : DK) : PN xs M Φ = (on1 xs fun x => onX x fun b => Φ (.dat (.bool (okB b))) M) := propext Iff.rfl
noncomputable def Rx : DSp := fun xs M Φ => on3 xs fun x y z => onX x fun a => onX y fun b => onI z fun i => (i = 0 ∨ i = 1) ∧ Φ (.dat (.int (if i = 0 then gp a.x a.X b.x b.X else gp a.y a.Y b.y b.Y))) M
theorem PZ (xs : List DV) (M : Mp) (Φ : DK) : Rx xs M Φ = (on3 xs fun x y z => onX x fun a => onX y fun b => onI z fun i => (i = 0 ∨ i = 1) ∧ Φ (.dat (.int (if i = 0 then gp a.x a.X b.x b.X else gp a.y a.Y b.y b.Y))) M) := propext Iff.rfl
noncomputable def Vf : DSp := fun xs M Φ => on2 xs fun x y => onX x fun a => onX y fun b => Φ (.dat (.int (Y8 a b))) M
theorem WQ (xs : List DV) (M : Mp) (Φ : DK) : Vf xs M Φ = (on2 xs fun x y => onX x fun a => onX y fun b => Φ (.dat (.int (Y8 a b))) M) := propext Iff.rfl
noncomputable def ZdD : DSp := fun xs M Φ => on2 xs fun x y => onX x fun a => onP y fun u v => Φ (.dat (.int (Qp a u v))) M
theorem ZaP (xs : List DV) (M : Mp) (Φ : DK) : ZdD xs M Φ = (on2 xs fun x y => onX x fun a => onP y fun u v => Φ (.dat (.int (Qp a u v))) M) := propext Iff.rfl
noncomputable def ZaZ : DSp := fun xs M Φ => on2 xs fun x y => onX x fun a => onP y fun u v => Φ (.dat (.bool (hasB a u v))) M
theorem Hm (xs : List DV) (M : Mp) (Φ : DK) : ZaZ xs M Φ = (on2 xs fun x y => onX x fun a => onP y fun u v => Φ (.dat (.bool (hasB a u v))) M) := propext Iff.rfl
noncomputable def Rf : DSp := fun xs M Φ => on2 xs fun x y => onP x fun a b => onP y fun u v => Φ (.dat (.int (Qj a b u v))) M
theorem EC (xs : List DV) (M : Mp) (Φ : DK) : Rf xs M Φ = (on2 xs fun x y => onP x fun a b => onP y fun u v => Φ (.dat (.int (Qj a b u v))) M) := propext Iff.rfl
noncomputable def Kl : DSp := fun xs M Φ => on2 xs fun x y => onP x fun u v => onI y fun r => Φ (.dat (bD (QY u v r))) M
theorem BJ (xs : List DV) (M : Mp) (Φ : DK) : Kl xs M Φ = (on2 xs fun x y => onP x fun u v => onI y fun r => Φ (.dat (bD (QY u v r))) M) := propext Iff.rfl
noncomputable def XZ : DSp := fun xs M Φ => on2 xs fun x y => onX x fun a => onX y fun b => Φ (.dat (bD (Tu a b))) M
theorem Bm (xs : List DV) (M : Mp) (Φ : DK) : XZ xs M Φ = (on2 xs fun x y => onX x fun a => onX y fun b => Φ (.dat (bD (Tu a b))) M) := propext Iff.rfl
noncomputable def RB : DSp := fun xs M Φ => on2 xs fun x y => onX x fun a => onX y fun b => ∀ p, M p = none → Φ (.own p) (Zx M p (.lst ((YN a b).map bD)))
theorem Ph (xs : List DV) (M : Mp) (Φ : DK) : RB xs M Φ = (on2 xs fun x y => onX x fun a => onX y fun b => ∀ p, M p = none → Φ (.own p) (Zx M p (.lst ((YN a b).map bD)))) := propext Iff.rfl
noncomputable def CW : DSp := fun xs M Φ => on2 xs fun x y => onX x fun a => FZ y fun bs => bs.length ≤ 6 ∧ Φ (.dat (.list ((QX a bs).map bD))) M
theorem Mo (xs : List DV) (M : Mp) (Φ : DK) : CW xs M Φ = (on2 xs fun x y => onX x fun a => FZ y fun bs => bs.length ≤ 6 ∧ Φ (.dat (.list ((QX a bs).map bD))) M) := propext Iff.rfl
noncomputable def Su : DSp := fun xs M Φ => on2 xs fun x y => FZ x fun bs => onP y fun u v => bs.length ≤ 6 ∧ Φ (.dat (.bool (anyB bs u v))) M
theorem Lf (xs : List DV) (M : Mp) (Φ : DK) : Su xs M Φ = (on2 xs fun x y => FZ x fun bs => onP y fun u v => bs.length ≤ 6 ∧ Φ (.dat (.bool (anyB bs u v))) M) := propext Iff.rfl
theorem WM {α : Type} {l : List α} {i : Nat} {q : α} (f : α → Bool) (h : l[i]? = some q) : (l.take (i + 1)).filter f = (l.take i).filter f ++ (if f q = true then [q] else []) := by
 rw [List.take_add_one, h, List.filter_append]
 cases e : f q <;> simp [e]
theorem Xz (a b : B4) : (YN a b).length ≤ 4 := by
 unfold YN
 split
 ·simp
 ·exact Nat.le_trans (List.length_filter_le _ _) (Nat.le_refl 4)
theorem GG : ∀ (bs ps : List B4), (bs.foldl (fun ps b => ps.flatMap fun p => YN p b) ps).length ≤ ps.length * 4 ^ bs.length
 | [], ps => by simp
 | b :: bs, ps => by
  have h1 := Xq (fun p => YN p b) 4 ps fun p _ => Xz p b
  have h2 := GG bs (ps.flatMap fun p => YN p b)
  rw [List.foldl_cons, List.length_cons, Nat.pow_succ]
  refine Nat.le_trans h2 (Nat.le_trans (Nat.mul_le_mul_right _ h1) ?_)
  rw [Nat.mul_assoc, Nat.mul_comm 4]
  exact Nat.le_refl _
theorem EB (a : B4) (bs : List B4) (h : bs.length ≤ 6) : (QX a bs).length ≤ 4096 := by
 have h1 := GG bs [a]
 rw [List.length_singleton, Nat.one_mul] at h1
 have h2 : 4 ^ bs.length ≤ 4 ^ 6 := Nat.pow_le_pow_right (by decide) h
 exact Nat.le_trans h1 (Nat.le_trans h2 (by decide))
theorem BE {a b : B4} {bs : List B4} {i : Nat} (h : bs[i]? = some b) : QX a (bs.take (i + 1)) = (QX a (bs.take i)).flatMap fun p => YN p b := by
 unfold QX
 rw [List.take_add_one, h, List.foldl_append]
 rfl
theorem Sn {ds : List PyData} {i : Nat} (h : i ≤ ds.length) : DL.cutD ds none (some (i : Int)) = ds.take i := by
 unfold DL.cutD
 rw [HT.VQ, HT.Dw, List.drop_zero, Nat.min_eq_left h, Nat.sub_zero]
noncomputable def Sub (q p : B4) : Prop := okB q = true ∧ p.x ≤ q.x ∧ q.X ≤ p.X ∧ p.y ≤ q.y ∧ q.Y ≤ p.Y
theorem Sub.trans {a b c : B4} (h : Sub a b) (k : Sub b c) : Sub a c := by
 unfold Sub at *
 exact ⟨h.1, by omega⟩
theorem Co {a b q : B4} (ha : okB a = true) (h : q ∈ YN a b) : Sub q a := by
 unfold YN at h
 split at h
 ·rw [List.mem_singleton.mp h]
  exact ⟨ha, by omega⟩
 ·rename_i h0
  obtain ⟨h1, h2⟩ := List.mem_filter.mp h
  refine ⟨h2, ?_⟩
  unfold Y8 btw gp at h0
  unfold okB at ha h2
  simp only [Bool.and_eq_true, decide_eq_true_eq] at ha h2
  unfold Cc at h1
  simp only [List.mem_cons, List.not_mem_nil, or_false] at h1
  rcases h1 with rfl | rfl | rfl | rfl
  all_goals (dsimp only at h2 ⊢; omega)
theorem Gx {a : B4} : ∀ (bs ps : List B4), (∀ p ∈ ps, Sub p a) → ∀ q ∈ bs.foldl (fun ps b => ps.flatMap fun p => YN p b) ps, Sub q a
 | [], ps, h, q, hq => h q hq
 | b :: bs, ps, h, q, hq => by
  rw [List.foldl_cons] at hq
  refine Gx bs _ (fun p hp => ?_) q hq
  obtain ⟨p', hp', hc⟩ := List.mem_flatMap.mp hp
  exact (Co (h p' hp').1 hc).trans (h p' hp')
theorem GC {a q : B4} {bs : List B4} (ha : okB a = true) (h : q ∈ QX a bs) : Sub q a :=
 Gx bs [a] (fun p hp => by rw [List.mem_singleton.mp hp]; exact ⟨ha, by omega⟩) q h
theorem Zb2 {α : Type} {l : List α} {i : Nat} {q : α} (f : α → Bool) (h : l[i]? = some q) : (l.take (i + 1)).any f = ((l.take i).any f || f q) := by
 rw [List.take_add_one, h, List.any_append]
 simp
section
variable {P : Program} {w : World} {K : PySem.W.Frag} {mg : Str → Option Value} {base : Heap}
theorem Dm {a b a' b' : Int} : gp a b a' b' = 0 ↔ a' ≤ b ∧ a ≤ b' := by
 unfold gp
 omega
theorem ZaS (a b a' b' : Int) : 0 ≤ gp a b a' b' := Int.le_max_left _ _
theorem RZ {x y : Int} (hx : 0 ≤ x) (hy : 0 ≤ y) : max x y = 0 ↔ x = 0 ∧ y = 0 := by omega
theorem ZbQ (b : B4) (u v : Int) : decide (Qp b u v = 0) = hasB b u v := by
 unfold hasB Qp btw
 rw [decide_eq_decide, RZ (ZaS _ _ _ _) (ZaS _ _ _ _), Dm, Dm]
 omega
theorem Ds {a n : Int} : ab a ≤ n ↔ -n ≤ a ∧ a ≤ n := by unfold ab; split <;> omega
theorem QC (a : Int) : (0 ≤ a ∧ ab a = a) ∨ (a < 0 ∧ ab a = -a) := by unfold ab; split <;> omega
theorem Zav (a : Int) : ab (-a) = ab a := by unfold ab; split <;> split <;> omega
theorem Ni (a b : Int) : ab (a - b) = ab (b - a) := by rw [← Zav, Int.neg_sub]
theorem Z1 {a b x y n : Int} : Qj a b x y ≤ n ↔ (-n ≤ a - x ∧ a - x ≤ n) ∧ (-n ≤ b - y ∧ b - y ≤ n) := by
 unfold Qj
 rw [Int.max_le, Ds, Ds]
theorem XU (a b c d x y : Int) : Qj a b x y ≤ Qj a b c d + Qj c d x y := by
 have h1 := Z1.mp (Int.le_refl (Qj a b c d))
 have h2 := Z1.mp (Int.le_refl (Qj c d x y))
 rw [Z1]
 omega
theorem YB (a b x y : Int) : Qj a b x y = Qj x y a b := by
 unfold Qj
 rw [Ni a x, Ni b y]
theorem Hk {a b x y : Int} (h : ¬ (x = a ∧ y = b)) : 1 ≤ Qj a b x y := by
 have h1 := Z1.mp (Int.le_refl (Qj a b x y))
 omega
structure IsD (S : Int → Int → Bool) (u v d : Int) : Prop where
 sg : S u v = decide (0 < d)
 ne : d ≠ 0
 ex : ∃ x y, S x y ≠ S u v ∧ Qj u v x y = ab d
 mn : ∀ x y, S x y ≠ S u v → ab d ≤ Qj u v x y
section
variable {S S' : Int → Int → Bool} {u v d h : Int}
theorem IsD.pos (h : IsD S u v d) (k : S u v = true) : 0 < d := by have := h.sg; rw [k] at this; exact of_decide_eq_true this.symm
theorem IsD.neg (h : IsD S u v d) (k : S u v = false) : d < 0 := by
 have h1 := h.sg
 rw [k] at h1
 have h2 := of_decide_eq_false h1.symm
 have h3 := h.ne
 omega
theorem IsD.eq (h : IsD S u v d) {e : Int} (k : IsD S u v e) : d = e := by
 obtain ⟨x, y, h1, h2⟩ := h.ex
 obtain ⟨x', y', k1, k2⟩ := k.ex
 have a := h.mn x' y' k1
 have b := k.mn x y h1
 cases c : S u v with
 | true =>
  have c1 := h.pos c
  have c2 := k.pos c
  have i1 := QC d
  have i2 := QC e
  omega
 | false =>
  have c1 := h.neg c
  have c2 := k.neg c
  have i1 := QC d
  have i2 := QC e
  omega
noncomputable def cl (f a : Int) : Int := max (0 - f) (min f a)
theorem G6 {f : Int} (hf : 0 ≤ f) (a : Int) : (a < -f ∧ cl f a = -f) ∨ (f < a ∧ cl f a = f) ∨ ((-f ≤ a ∧ a ≤ f) ∧ cl f a = a) := by unfold cl; omega
theorem Zat {f : Int} (hf : 0 ≤ f) (a : Int) : ab (cl f a) ≤ f := by
 rw [Ds]
 have := G6 hf a
 omega
theorem Kd {f : Int} (hf : 0 ≤ f) (u x : Int) : ab (u + cl f (x - u) - x) = max 0 (ab (u - x) - f) := by
 have h1 := G6 hf (x - u)
 have h2 := QC (u - x)
 have h3 := QC (u + cl f (x - u) - x)
 omega
theorem CZ {f : Int} (hf : 0 ≤ f) (u v x y : Int) : Qj u v (u + cl f (x - u)) (v + cl f (y - v)) ≤ f := by
 rw [Z1]
 have h1 := Ds.mp (Zat hf (x - u))
 have h2 := Ds.mp (Zat hf (y - v))
 omega
noncomputable def sgn (h : Int) : Int := if h < 0 then -1 else 1
theorem Nu (h : Int) : (0 ≤ h ∧ sgn h = 1) ∨ (h < 0 ∧ sgn h = -1) := by unfold sgn; split <;> omega
theorem sgn_mul (h f : Int) : (0 ≤ h ∧ sgn h * f = f) ∨ (h < 0 ∧ sgn h * f = -f) := by
 rcases Nu h with ⟨a, b⟩ | ⟨a, b⟩
 ·rw [b, Int.one_mul]; exact .inl ⟨a, rfl⟩
 ·rw [b, Int.neg_mul, Int.one_mul]; exact .inr ⟨a, rfl⟩
theorem IsD.near (k : IsD S u v h) {x y : Int} (c : Qj u v x y < ab h) : S x y = S u v := by
 by_cases e : S x y = S u v
 ·exact e
 ·have := k.mn x y e
  omega
theorem IsD.toward (k : IsD S u v h) {x y f : Int} (o : S x y ≠ S u v) (c : Qj u v x y = ab h) (f0 : 0 ≤ f) (f1 : f < ab h) :
  IsD S (u + cl f (x - u)) (v + cl f (y - v)) (h - sgn h * f) := by
 have e0 := CZ f0 u v x y
 have e1 : Qj (u + cl f (x - u)) (v + cl f (y - v)) x y = ab h - f := by
  unfold Qj at c ⊢
  rw [Kd f0, Kd f0]
  omega
 have e2 : S (u + cl f (x - u)) (v + cl f (y - v)) = S u v := k.near (by omega)
 have g1 := sgn_mul h f
 have g2 := QC h
 have g3 := QC (h - sgn h * f)
 have e3 : ab (h - sgn h * f) = ab h - f := by omega
 have e4 : decide (0 < h - sgn h * f) = decide (0 < h) := by
  rw [decide_eq_decide]
  have := k.ne
  omega
 refine ⟨by rw [e2, e4]; exact k.sg, fun z => ?_, ⟨x, y, by rw [e2]; exact o, by rw [e1, e3]⟩, fun x' y' q => ?_⟩
 ·rw [z] at e3
  rw [show ab 0 = 0 from rfl] at e3
  omega
 ·rw [e2] at q
  have := k.mn x' y' q
  have := XU u v (u + cl f (x - u)) (v + cl f (y - v)) x' y'
  omega
theorem UQ {S : Int → Int → Bool} {u v x y : Int} (h : S x y ≠ S u v) : 1 ≤ Qj u v x y := by
 by_cases e : x = u ∧ y = v
 ·rw [e.1, e.2] at h
  exact absurd rfl h
 ·exact Hk e
theorem IsD.other (k : IsD S u v h) {x y : Int} (o : S x y ≠ S u v) (c : Qj u v x y = ab h) : IsD S x y (0 - sgn h) := by
 have hn := k.ne
 have g2 := QC h
 have f0 : 0 ≤ ab h - 1 := by omega
 have n1 := k.near (x := u + cl (ab h - 1) (x - u)) (y := v + cl (ab h - 1) (y - v)) (by have := CZ f0 u v x y; omega)
 have a0 : ab (0 - sgn h) = 1 := by
  have g3 := QC (0 - sgn h)
  have g4 := Nu h
  omega
 have far : 1 ≤ Qj x y (u + cl (ab h - 1) (x - u)) (v + cl (ab h - 1) (y - v)) := UQ (S := S) (by rw [n1]; exact fun z => o z.symm)
 have near : Qj x y (u + cl (ab h - 1) (x - u)) (v + cl (ab h - 1) (y - v)) ≤ 1 := by
  rw [YB]
  unfold Qj at c ⊢
  rw [Kd f0, Kd f0]
  omega
 refine ⟨?_, by unfold sgn; split <;> decide, ⟨u + cl (ab h - 1) (x - u), v + cl (ab h - 1) (y - v), by rw [n1]; exact fun z => o z.symm, by rw [a0]; omega⟩, fun x' y' q => by rw [a0]; exact UQ q⟩
 cases c : S u v with
 | true =>
  have := k.pos c
  rw [c] at o
  rw [show sgn h = 1 from if_neg (by omega)]
  cases c' : S x y with
  | true => exact absurd c' o
  | false => rfl
 | false =>
  have := k.neg c
  rw [c] at o
  rw [show sgn h = -1 from if_pos this]
  cases c' : S x y with
  | true => rfl
  | false => exact absurd c' o
theorem IsD.ZeV (k : IsD S u v h) {x y e : Int} (k' : IsD S x y e) (c : Qj u v x y ≤ 1) :
  (decide (0 < e) ≠ decide (0 < h) → (e = 1 ∧ h = -1) ∨ (e = -1 ∧ h = 1)) ∧ (decide (0 < e) = decide (0 < h) → -1 ≤ e - h ∧ e - h ≤ 1) := by
 have hs := k.sg
 have hs' := k'.sg
 have h0 := k.ne
 have h0' := k'.ne
 constructor
 ·intro q
  rw [← hs, ← hs'] at q
  have a := k.mn x y q
  have b := k'.mn u v (fun z => q z.symm)
  rw [YB] at b
  have : decide (0 < e) ≠ decide (0 < h) := by rw [← hs, ← hs']; exact q
  have : ¬ ((0 < e) ↔ (0 < h)) := fun z => this (decide_eq_decide.mpr z)
  have i1 := QC h
  have i2 := QC e
  omega
 ·intro q
  have q' := decide_eq_decide.mp q
  have e0 : S x y = S u v := by rw [hs, hs', q]
  obtain ⟨a, b, a1, a2⟩ := k.ex
  obtain ⟨a', b', a1', a2'⟩ := k'.ex
  have m1 := k'.mn a b (by rw [e0]; exact a1)
  have m2 := k.mn a' b' (by rw [← e0]; exact a1')
  have t1 := XU x y u v a b
  have t2 := XU u v x y a' b'
  rw [YB x y u v] at t1
  have i1 := QC h
  have i2 := QC e
  omega
theorem IsD.carry (k : IsD S u v h) (f g f' g' : Int → Int → Int) (hS : ∀ x y, S' (f x y) (g x y) = S x y) (hi : ∀ x y, f (f' x y) (g' x y) = x ∧ g (f' x y) (g' x y) = y)
  (hc : ∀ x y x' y', Qj (f x y) (g x y) (f x' y') (g x' y') = Qj x y x' y') : IsD S' (f u v) (g u v) h := by
 refine ⟨by rw [hS]; exact k.sg, k.ne, ?_, fun x y q => ?_⟩
 ·obtain ⟨x, y, a, b⟩ := k.ex
  exact ⟨f x y, g x y, by rw [hS, hS]; exact a, by rw [hc]; exact b⟩
 ·have e := hi x y
  have m := k.mn (f' x y) (g' x y) (fun z => q (by rw [hS, ← z, ← hS, e.1, e.2]))
  rw [← hc, e.1, e.2] at m
  exact m
theorem IsD.more (k : IsD S u v h) (k' : IsD S' u v d) (hS : ∀ x y, S x y = true → S' x y = true) : h ≤ d := by
 cases c : S u v with
 | true =>
  have c1 := k.pos c
  have c' := hS u v c
  have c2 := k'.pos c'
  obtain ⟨x, y, a, b⟩ := k'.ex
  have a' : S x y ≠ S u v := fun z => a (by rw [c', hS x y (by rw [z, c])])
  have := k.mn x y a'
  have i1 := QC h
  have i2 := QC d
  omega
 | false =>
  have c1 := k.neg c
  cases c' : S' u v with
  | true =>
   have := k'.pos c'
   omega
  | false =>
   have c2 := k'.neg c'
   obtain ⟨x, y, a, b⟩ := k.ex
   have a' : S x y = true := by
    cases z : S x y with
    | true => rfl
    | false => rw [c, z] at a; exact absurd rfl a
   have := k'.mn x y (by rw [hS x y a', c']; decide)
   have i1 := QC h
   have i2 := QC d
   omega
theorem IsD.le (k : IsD S u v d) {x y : Int} (q : S x y ≠ S u v) {n : Int} (hn : Qj u v x y ≤ n) : -n ≤ d ∧ d ≤ n := by
 have := k.mn x y q
 have i1 := QC d
 omega
end
theorem JT {b : B4} : okB b = true ↔ b.x ≤ b.X ∧ b.y ≤ b.Y := by
 unfold okB
 simp only [Bool.and_eq_true, decide_eq_true_eq]
theorem ZW {b : B4} {u v : Int} : hasB b u v = true ↔ b.x ≤ u ∧ u ≤ b.X ∧ b.y ≤ v ∧ v ≤ b.Y := by
 unfold hasB
 rw [decide_eq_true_eq]
theorem VT {p : B4} {u v n : Int} (hn : 0 ≤ n) : Qp p u v ≤ n ↔ (u - p.X ≤ n ∧ p.x - u ≤ n) ∧ (v - p.Y ≤ n ∧ p.y - v ≤ n) := by
 unfold Qp btw gp
 omega
theorem X7 (p : B4) (u v : Int) : 0 ≤ Qp p u v := by
 unfold Qp btw gp
 omega
theorem R8 (a b x y : Int) : 0 ≤ Qj a b x y := by
 have := Z1.mp (Int.le_refl (Qj a b x y))
 omega
theorem VR {p : B4} {u v x y : Int} (h : hasB p x y = true) : Qp p u v ≤ Qj u v x y := by
 have h1 := Z1.mp (Int.le_refl (Qj u v x y))
 have h2 := ZW.mp h
 rw [VT (R8 u v x y)]
 omega
theorem UL {p : B4} (h : okB p = true) (u v : Int) : ∃ x y, hasB p x y = true ∧ Qj u v x y = Qp p u v := by
 have h1 := JT.mp h
 have h2 := (VT (X7 p u v)).mp (Int.le_refl _)
 have h3 : hasB p (max p.x (min p.X u)) (max p.y (min p.Y v)) = true := by
  rw [ZW]
  omega
 refine ⟨_, _, h3, Int.le_antisymm ?_ (VR h3)⟩
 rw [Z1]
 have h4 := X7 p u v
 omega
theorem P7 {a b : B4} (ha : okB a = true) (x y : Int) : ((YN a b).any fun p => hasB p x y) = (hasB a x y && !hasB b x y) := by
 have ok := JT.mp ha
 rw [Bool.eq_iff_iff, Bool.and_eq_true, Bool.not_eq_true', ← Bool.not_eq_true, ZW, ZW, List.any_eq_true]
 unfold YN
 split
 ·rename_i h0
  unfold Y8 btw gp at h0
  constructor
  ·rintro ⟨p, hp, h⟩
   rw [List.mem_singleton.mp hp, ZW] at h
   omega
  ·intro h
   exact ⟨a, List.mem_singleton.mpr rfl, ZW.mpr (by omega)⟩
 ·rename_i h0
  unfold Y8 btw gp at h0
  constructor
  ·rintro ⟨p, hp, h⟩
   have hp := (List.mem_filter.mp hp).1
   rw [ZW] at h
   unfold Cc at hp
   simp only [List.mem_cons, List.not_mem_nil, or_false] at hp
   rcases hp with rfl | rfl | rfl | rfl
   all_goals (dsimp only at h; omega)
  ·intro h
   have fin : ∀ p : B4, p ∈ Cc a b → (p.x ≤ x ∧ x ≤ p.X ∧ p.y ≤ y ∧ y ≤ p.Y) → ∃ p, p ∈ (Cc a b).filter okB ∧ hasB p x y = true := fun p hp hh => ⟨p, List.mem_filter.mpr ⟨hp, JT.mpr (by omega)⟩, ZW.mpr hh⟩
   by_cases c1 : x < b.x
   ·exact fin ⟨a.x, a.y, max a.x b.x - 1, a.Y⟩ (by simp [Cc]) (by dsimp only; omega)
   ·by_cases c2 : b.X < x
    ·exact fin ⟨min a.X b.X + 1, a.y, a.X, a.Y⟩ (by simp [Cc]) (by dsimp only; omega)
    ·by_cases c3 : y < b.y
     ·exact fin ⟨max a.x b.x, a.y, min a.X b.X, max a.y b.y - 1⟩ (by simp [Cc]) (by dsimp only; omega)
     ·exact fin ⟨max a.x b.x, min a.Y b.Y + 1, min a.X b.X, a.Y⟩ (by simp [Cc]) (by dsimp only; omega)
theorem fold_any (x y : Int) : ∀ (bs ps : List B4), (∀ p ∈ ps, okB p = true) → ((bs.foldl (fun ps b => ps.flatMap fun p => YN p b) ps).any fun p => hasB p x y) = ((ps.any fun p => hasB p x y) && !(bs.any fun b => hasB b x y))
 | [], ps, _ => by simp
 | b :: bs, ps, hp => by
  have go : ∀ qs : List B4, (∀ p ∈ qs, okB p = true) → ((qs.flatMap fun p => YN p b).any fun p => hasB p x y) = ((qs.any fun p => hasB p x y) && !hasB b x y) := fun qs => by
   induction qs with
   | nil => intro _; simp
   | cons q qs ih =>
    intro hq
    rw [List.flatMap_cons, List.any_append, P7 (hq q List.mem_cons_self), ih fun p h => hq p (List.mem_cons_of_mem _ h), List.any_cons]
    cases hasB q x y <;> cases hasB b x y <;> cases (qs.any fun p => hasB p x y) <;> rfl
  rw [List.foldl_cons, fold_any x y bs _ (fun p h => by
   obtain ⟨q, hq, hc⟩ := List.mem_flatMap.mp h
   exact (Co (hp q hq) hc).1), go ps hp, List.any_cons]
  cases (ps.any fun p => hasB p x y) <;> cases hasB b x y <;> cases (bs.any fun p => hasB p x y) <;> rfl
theorem V0 {a : B4} {bs : List B4} (ha : okB a = true) (_ : ∀ b ∈ bs, okB b = true) (x y : Int) : ((QX a bs).any fun p => hasB p x y) = (hasB a x y && !(bs.any fun b => hasB b x y)) := by
 unfold QX
 rw [fold_any x y bs [a] fun p hp => by rw [List.mem_singleton.mp hp]; exact ha]
 simp
structure Pieces (S : Int → Int → Bool) (u v : Int) (ps : List B4) : Prop where
 ok : ∀ p ∈ ps, okB p = true
 ne : ps ≠ []
 on : ∀ p ∈ ps, ∀ x y, hasB p x y = true → S x y ≠ S u v
 al : ∀ x y, S x y ≠ S u v → ∃ p ∈ ps, Qp p u v ≤ Qj u v x y
theorem Vg {bs : List B4} {x y : Int} (h : anyB bs x y = true) : ∃ b ∈ bs, hasB b x y = true := List.any_eq_true.mp h
theorem Pt {bs : List B4} {b : B4} {x y : Int} (hb : b ∈ bs) (h : hasB b x y = true) : anyB bs x y = true := List.any_eq_true.mpr ⟨b, hb, h⟩
noncomputable def Frames (fr : B4) (bs : List B4) : Prop := ∀ b ∈ bs, fr.x < b.x ∧ b.X < fr.X ∧ fr.y < b.y ∧ b.Y < fr.Y
theorem DZ {bs : List B4} {fr : B4} {u v : Int} (hb : ∀ b ∈ bs, okB b = true) (hf : Frames fr bs) (h : anyB bs u v = true) : Pieces (anyB bs) u v (QX fr bs) := by
 obtain ⟨b0, m0, h0⟩ := Vg h
 have f0 := hf b0 m0
 have i0 := ZW.mp h0
 have hok : okB fr = true := JT.mpr (by omega)
 have key : ∀ x y, hasB fr x y = true → anyB bs x y = false → ∃ p ∈ QX fr bs, hasB p x y = true := fun x y a b => by
  have e := V0 hok hb x y
  rw [a, show (bs.any fun b => hasB b x y) = false from b] at e
  exact List.any_eq_true.mp e
 have al : ∀ x y, anyB bs x y ≠ anyB bs u v → ∃ p ∈ QX fr bs, Qp p u v ≤ Qj u v x y := fun x y q => by
  have q' : anyB bs x y = false := by
   rw [h] at q
   exact Bool.eq_false_iff.mpr q
  have hc := Z1.mp (Int.le_refl (Qj u v x y))
  have c1 : hasB fr (max fr.x (min fr.X x)) (max fr.y (min fr.Y y)) = true := by
   rw [ZW]
   omega
  have c2 : anyB bs (max fr.x (min fr.X x)) (max fr.y (min fr.Y y)) = false := by
   by_cases z : fr.x ≤ x ∧ x ≤ fr.X ∧ fr.y ≤ y ∧ y ≤ fr.Y
   ·rw [show max fr.x (min fr.X x) = x by omega, show max fr.y (min fr.Y y) = y by omega]
    exact q'
   ·refine Bool.eq_false_iff.mpr fun t => ?_
    obtain ⟨b, mb, tb⟩ := Vg t
    have fb := hf b mb
    have ib := ZW.mp tb
    omega
  obtain ⟨p, mp, hp⟩ := key _ _ c1 c2
  refine ⟨p, mp, Int.le_trans (VR hp) ?_⟩
  rw [Z1]
  omega
 refine ⟨fun p mp => (GC hok mp).1, fun z => ?_, fun p mp x y hp => ?_, al⟩
 ·obtain ⟨p, mp, _⟩ := al fr.x fr.y (by
   rw [h]
   intro t
   obtain ⟨b, mb, tb⟩ := Vg t
   have fb := hf b mb
   have ib := ZW.mp tb
   omega)
  rw [z] at mp
  cases mp
 ·have e := V0 hok hb x y
  rw [List.any_eq_true.mpr ⟨p, mp, hp⟩] at e
  have e' := (Bool.and_eq_true _ _ ▸ e.symm : _ ∧ _).2
  rw [h]
  intro t
  rw [show (bs.any fun b => hasB b x y) = true from t] at e'
  cases e'
theorem Y1 {bs : List B4} {u v : Int} (hb : ∀ b ∈ bs, okB b = true) (h1 : bs ≠ []) (h : anyB bs u v = false) : Pieces (anyB bs) u v bs := by
 refine ⟨hb, h1, fun p mp x y hp => ?_, fun x y q => ?_⟩
 ·rw [h, Pt mp hp]
  decide
 ·rw [h] at q
  obtain ⟨b, mb, tb⟩ := Vg (Bool.of_not_eq_false q)
  exact ⟨b, mb, VR tb⟩
section
variable {S : Int → Int → Bool} {u v m : Int} {ps : List B4}
theorem Pieces.pos (h : Pieces S u v ps) {p : B4} (mp : p ∈ ps) : 1 ≤ Qp p u v := by
 obtain ⟨x, y, a, b⟩ := UL (h.ok p mp) u v
 rw [← b]
 exact UQ (h.on p mp x y a)
theorem Pieces.depth (h : Pieces S u v ps) (h1 : ∃ p ∈ ps, Qp p u v = m) (h2 : ∀ p ∈ ps, m ≤ Qp p u v) : IsD S u v (if S u v = true then m else -m) := by
 obtain ⟨p, mp, e⟩ := h1
 have hp := h.pos mp
 obtain ⟨x, y, a, b⟩ := UL (h.ok p mp) u v
 have ea : ab (if S u v = true then m else -m) = m := by
  split
  ·have := QC m
   omega
  ·have := QC (-m)
   omega
 refine ⟨?_, ?_, ⟨x, y, h.on p mp x y a, by rw [ea, b, e]⟩, fun x y q => ?_⟩
 ·cases S u v with
  | true => rw [if_pos rfl]; exact (decide_eq_true (by omega)).symm
  | false => rw [if_neg Bool.false_ne_true]; exact (decide_eq_false (by omega)).symm
 ·split <;> omega
 ·obtain ⟨p', mp', q'⟩ := h.al x y q
  have := h2 p' mp'
  rw [ea]
  omega
theorem Pieces.ZeA (h : Pieces S u v ps) (h2 : ∀ p ∈ ps, m ≤ Qp p u v) {p : B4} (mp : p ∈ ps) (h0 : btw p.x p.y p.X p.Y (u - m) (v - m) (u + m) (v + m) = 0) (hm : 0 ≤ m) :
  S (max p.x (u - m)) (max p.y (v - m)) ≠ S u v ∧ Qj u v (max p.x (u - m)) (max p.y (v - m)) = m := by
 have ok := JT.mp (h.ok p mp)
 have h0' : (u - m ≤ p.X ∧ p.x ≤ u + m) ∧ (v - m ≤ p.Y ∧ p.y ≤ v + m) := by
  unfold btw gp at h0
  omega
 have hh : hasB p (max p.x (u - m)) (max p.y (v - m)) = true := by
  rw [ZW]
  omega
 refine ⟨h.on p mp _ _ hh, Int.le_antisymm ?_ (Int.le_trans (h2 p mp) (VR hh))⟩
 rw [Z1]
 omega
theorem Sq (h1 : ∃ p ∈ ps, Qp p u v = m) : ∃ p ∈ ps, btw p.x p.y p.X p.Y (u - m) (v - m) (u + m) (v + m) = 0 := by
 obtain ⟨p, mp, e⟩ := h1
 have := (VT (X7 p u v)).mp (Int.le_refl _)
 refine ⟨p, mp, ?_⟩
 unfold btw gp
 omega
end
theorem NL {α : Type} (f : α → Int) : ∀ l : List α, l ≠ [] → ∃ a ∈ l, ∀ b ∈ l, f a ≤ f b
 | [], h => absurd rfl h
 | [a], _ => ⟨a, List.mem_singleton.mpr rfl, fun b hb => by rw [List.mem_singleton.mp hb]; exact Int.le_refl _⟩
 | a :: c :: l, _ => by
  obtain ⟨m, hm, hl⟩ := NL f (c :: l) (by simp)
  by_cases h : f a ≤ f m
  ·refine ⟨a, List.mem_cons_self, fun b hb => ?_⟩
   rcases List.mem_cons.mp hb with rfl | hb
   ·exact Int.le_refl _
   ·exact Int.le_trans h (hl b hb)
  ·refine ⟨m, List.mem_cons_of_mem _ hm, fun b hb => ?_⟩
   rcases List.mem_cons.mp hb with rfl | hb
   ·omega
   ·exact hl b hb
theorem Bj : ∀ bs : List B4, ∃ fr, Frames fr bs
 | [] => ⟨⟨0, 0, 0, 0⟩, fun b hb => (nomatch hb)⟩
 | b :: bs => by
  obtain ⟨fr, h⟩ := Bj bs
  refine ⟨⟨min fr.x (b.x - 1), min fr.y (b.y - 1), max fr.X (b.X + 1), max fr.Y (b.Y + 1)⟩, fun c hc => ?_⟩
  dsimp only
  rcases List.mem_cons.mp hc with rfl | hc
  ·omega
  ·have := h c hc
   omega
theorem Ss {bs : List B4} (hb : ∀ b ∈ bs, okB b = true) (h1 : bs ≠ []) (u v : Int) : ∃ d, IsD (anyB bs) u v d := by
 have go : ∀ ps, Pieces (anyB bs) u v ps → ∃ d, IsD (anyB bs) u v d := fun ps hp => by
  obtain ⟨p, mp, hm⟩ := NL (fun p => Qp p u v) ps hp.ne
  exact ⟨_, hp.depth ⟨p, mp, rfl⟩ hm⟩
 cases q : anyB bs u v with
 | true =>
  obtain ⟨fr, hf⟩ := Bj bs
  exact go _ (DZ hb hf q)
 | false => exact go _ (Y1 hb h1 q)
noncomputable def UR (d wb : Int) : Str := if wb < d then "in" else if d < -wb then "out" else "between"
noncomputable def Ga : DSp := fun xs M Φ => on2 xs fun x y => FZ x fun ps => onP y fun u v => (ps ≠ [] ∧ ps.length ≤ 4096) ∧ ∀ m, (∃ p ∈ ps, Qp p u v = m) → (∀ p ∈ ps, m ≤ Qp p u v) → Φ (.dat (.int m)) M
theorem Eh (xs : List DV) (M : Mp) (Φ : DK) : Ga xs M Φ = (on2 xs fun x y => FZ x fun ps => onP y fun u v => (ps ≠ [] ∧ ps.length ≤ 4096) ∧ ∀ m, (∃ p ∈ ps, Qp p u v = m) → (∀ p ∈ ps, m ≤ Qp p u v) → Φ (.dat (.int m)) M) := propext Iff.rfl
noncomputable def Es : DSp := fun xs M Φ => on3 xs fun x y z => FZ x fun bs => onI y fun wb => onP z fun u v => (Shp bs ∧ 0 ≤ wb) ∧ ∀ d, IsD (anyB bs) u v d → Φ (.dat (.str (UR d wb))) M
theorem Mf (xs : List DV) (M : Mp) (Φ : DK) : Es xs M Φ = (on3 xs fun x y z => FZ x fun bs => onI y fun wb => onP z fun u v => (Shp bs ∧ 0 ≤ wb) ∧ ∀ d, IsD (anyB bs) u v d → Φ (.dat (.str (UR d wb))) M) := propext Iff.rfl
theorem El {bs : List B4} {u v wb d : Int} (hb : ∀ b ∈ bs, okB b = true) (hw : 0 ≤ wb) (hd : IsD (anyB bs) u v d) : QX (QY u v wb) bs = [] ↔ wb < d := by
 have hok : okB (QY u v wb) = true := JT.mpr (by unfold QY; dsimp only; omega)
 have sq : ∀ x y, hasB (QY u v wb) x y = true ↔ Qj u v x y ≤ wb := fun x y => by
  rw [ZW, Z1]
  unfold QY
  dsimp only
  omega
 have ad := QC d
 constructor
 ·intro z
  have key : ∀ x y, Qj u v x y ≤ wb → anyB bs x y = true := fun x y c => by
   have e := V0 hok hb x y
   rw [z, (sq x y).mpr c] at e
   simpa using e.symm
  have k0 : anyB bs u v = true := key u v (by rw [Z1]; omega)
  have d0 := hd.pos k0
  by_cases c : wb < d
  ·exact c
  ·obtain ⟨x, y, e1, e2⟩ := hd.ex
   exact absurd (by rw [key x y (by omega), k0]) e1
 ·intro z
  cases q : QX (QY u v wb) bs with
  | nil => rfl
  | cons p ps =>
   have mp : p ∈ QX (QY u v wb) bs := by rw [q]; exact List.mem_cons_self
   obtain ⟨x, y, h1, h2⟩ := UL (GC hok mp).1 u v
   have e := V0 hok hb x y
   rw [List.any_eq_true.mpr ⟨p, mp, h1⟩] at e
   have e' := (Bool.and_eq_true _ _ ▸ e.symm : _ ∧ _)
   have k0 : anyB bs u v = true := by
    rw [hd.sg]
    exact decide_eq_true (by omega)
   have k1 : anyB bs x y = false := by
    have e2 := e'.2
    rwa [Bool.not_eq_true'] at e2
   have := hd.mn x y (by rw [k0, k1]; decide)
   have := (sq x y).mp e'.1
   omega
theorem HI {bs : List B4} {u v wb d m : Int} (hb : ∀ b ∈ bs, okB b = true) (h1 : bs ≠ []) (hw : 0 ≤ wb) (hd : IsD (anyB bs) u v d) (h2 : ∃ p ∈ bs, Qp p u v = m) (h3 : ∀ p ∈ bs, m ≤ Qp p u v) : wb < m ↔ d < -wb := by
 cases q : anyB bs u v with
 | true =>
  have d0 := hd.pos q
  obtain ⟨b, mb, tb⟩ := Vg q
  have a1 := h3 b mb
  have a2 : Qp b u v ≤ 0 := by
   have i := ZW.mp tb
   rw [VT (Int.le_refl 0)]
   omega
  omega
 | false =>
  have k := (Y1 hb h1 q).depth h2 h3
  rw [q, if_neg Bool.false_ne_true] at k
  have := hd.eq k
  omega
theorem Nz : ∀ ps : List B4, PyData.canLayAll0 (ps.map bD) = true
 | [] => by simp [PyData.canLayAll0]
 | p :: ps => by
  rw [List.map_cons]
  simp only [PyData.canLayAll0, Bool.and_eq_true]
  exact ⟨by simp [bD, PyData.canLay0, PyData.canLayAll0], Nz ps⟩
theorem Pd (ps : List B4) {P : Bool → Prop} (h : P (decide (ps = []))) : eqD (.list (ps.map bD)) (.list []) P := by
 refine Dp ?_ ?_
 ·unfold CP
  simp only [PyData.canLay0, Nz, Bool.true_and]
  simp [PyData.canLayAll0, PyData.depth, PyData.depthAll]
 ·cases ps with
  | nil => simpa [Dq, W7] using h
  | cons p ps => simpa [Dq, E4] using h
structure Row where
 n : Str
 o : Str
 sh : PyData
 wb : PyData
noncomputable def ZbM (r : Row) : PyData := .tuple [.str r.n, .str r.o, r.sh, r.wb]
noncomputable def J0 (rs : List Row) (s : Str) : Option Str := (rs.find? fun r => decide (r.n = s)).map (·.o)
noncomputable def lev (rs : List Row) : Nat → Str → Option Nat
 | 0, _ => none
 | k + 1, s => match J0 rs s with
  | none => none
  | some o => if o = Str.ofString "" then some 1 else (lev rs k o).map (· + 1)
noncomputable def XT (rs : List Row) (s : Str) : PyData := match lev rs rs.length s with
 | some m => .int m
 | none => .none
noncomputable def Zex (x : DV) (P : List Row → Prop) : Prop := ∃ rs, x = .dat (.tuple (rs.map ZbM)) ∧ P rs
noncomputable def prs (rs : List Row) : List (Str × PyData) := rs.map fun r => (r.n, .str r.o)
theorem Gz : ∀ (l : List (Str × PyData)) (m : List (Key × PyData)), (l.map (·.1)).Nodup → (∀ p ∈ l, ∀ q ∈ m, q.1 ≠ .inr p.1) → l.foldl (fun m p => JG m (.inr p.1) p.2) m = m ++ l.map fun p => ((.inr p.1 : Key), p.2)
 | [], m, _, _ => by simp
 | p :: l, m, hn, hd => by
  rw [List.map_cons, List.nodup_cons] at hn
  have e : JG m (.inr p.1) p.2 = m ++ [(.inr p.1, p.2)] := by
   unfold JG
   rw [if_neg]
   intro z
   obtain ⟨q, hq, e⟩ := List.any_eq_true.mp z
   exact hd p List.mem_cons_self q hq (of_decide_eq_true e)
  rw [List.foldl_cons, e, Gz l _ hn.2 fun p' hp' q hq => ?_]
  ·simp
  ·rcases List.mem_append.mp hq with hq | hq
   ·exact hd p' (List.mem_cons_of_mem _ hp') q hq
   ·rw [List.mem_singleton.mp hq]
    intro z
    exact hn.1 (List.mem_map.mpr ⟨p', hp', (Sum.inr.inj z).symm⟩)
theorem GL {rs : List Row} (h : (rs.map (·.n)).Nodup) : Fu (prs rs) = rs.map fun r => ((.inr r.n : Key), PyData.str r.o) := by
 unfold Fu
 rw [Gz _ _ (by unfold prs; rw [List.map_map]; exact h) fun p _ q hq => by cases hq]
 unfold prs
 rw [List.nil_append, List.map_map]
 rfl
theorem XA (rs : List Row) (s : Str) : QK (rs.map fun r => ((.inr r.n : Key), PyData.str r.o)) (.inr s) = (J0 rs s).map PyData.str := by
 unfold QK J0
 induction rs with
 | nil => rfl
 | cons r rs ih =>
  rw [List.map_cons]
  by_cases e : r.n = s
  ·rw [List.find?_cons_of_pos (by simpa using e), List.find?_cons_of_pos (by simpa using e)]
   rfl
  ·rw [List.find?_cons_of_neg (by simpa using e), List.find?_cons_of_neg (by simpa using e)]
   exact ih
noncomputable def Uw : DSp := fun xs M Φ => on2 xs fun x y => Zex x fun rs => onS y fun s => (rs.length ≤ 60 ∧ (rs.map (·.n)).Nodup) ∧ Φ (.dat (XT rs s)) M
theorem Fp (xs : List DV) (M : Mp) (Φ : DK) : Uw xs M Φ = (on2 xs fun x y => Zex x fun rs => onS y fun s => (rs.length ≤ 60 ∧ (rs.map (·.n)).Nodup) ∧ Φ (.dat (XT rs s)) M) := propext Iff.rfl
inductive Lv (rs : List Row) : Str → Nat → Prop
 | one {s : Str} : J0 rs s = some (Str.ofString "") → Lv rs s 1
 | up {s o : Str} {m : Nat} : J0 rs s = some o → o ≠ Str.ofString "" → Lv rs o m → Lv rs s (m + 1)
theorem Lv.pos {rs : List Row} {s : Str} {m : Nat} (h : Lv rs s m) : 1 ≤ m := by cases h <;> omega
theorem Lv.uniq {rs : List Row} {s : Str} {m : Nat} (h : Lv rs s m) : ∀ {k : Nat}, Lv rs s k → m = k := by
 induction h with
 | one e =>
  intro k h2
  cases h2 with
  | one _ => rfl
  | up e2 ne _ => rw [e] at e2; exact absurd (Option.some.inj e2).symm ne
 | up e ne _ ih =>
  intro k h2
  cases h2 with
  | one e2 => rw [e] at e2; exact absurd (Option.some.inj e2) ne
  | up e2 _ h3 =>
   rw [e] at e2
   cases e2
   rw [ih h3]
theorem Cw {rs : List Row} : ∀ {k : Nat} {s : Str} {m : Nat}, lev rs k s = some m → Lv rs s m ∧ m ≤ k
 | 0, _, _, h => by simp [lev] at h
 | k + 1, s, m, h => by
  unfold lev at h
  cases q : J0 rs s with
  | none => rw [q] at h; cases h
  | some o =>
   rw [q] at h
   dsimp only at h
   by_cases z : o = Str.ofString ""
   ·rw [if_pos z] at h
    cases h
    exact ⟨.one (by rw [q, z]), by omega⟩
   ·rw [if_neg z] at h
    cases q2 : lev rs k o with
    | none => rw [q2] at h; cases h
    | some j =>
     rw [q2] at h
     cases h
     obtain ⟨a, b⟩ := Cw q2
     exact ⟨.up q z a, Nat.succ_le_succ b⟩
theorem NU {rs : List Row} {s : Str} {m : Nat} (h : Lv rs s m) : ∀ {k : Nat}, m ≤ k → lev rs k s = some m := by
 induction h with
 | one e =>
  intro k hk
  obtain ⟨j, rfl⟩ : ∃ j, k = j + 1 := ⟨k - 1, by omega⟩
  unfold lev
  rw [e]
  dsimp only
  rw [if_pos rfl]
 | up e ne _ ih =>
  intro k hk
  obtain ⟨j, rfl⟩ : ∃ j, k = j + 1 := ⟨k - 1, by omega⟩
  unfold lev
  rw [e]
  dsimp only
  rw [if_neg ne, ih (by omega)]
  rfl
theorem Gf {rs : List Row} (h : (rs.map (·.n)).Nodup) : ∀ {r : Row}, r ∈ rs → J0 rs r.n = some r.o := by
 induction rs with
 | nil => intro r hr; cases hr
 | cons a rs ih =>
  intro r hr
  rw [List.map_cons, List.nodup_cons] at h
  unfold J0
  rcases List.mem_cons.mp hr with rfl | hr
  ·rw [List.find?_cons_of_pos (by simp)]
   rfl
  ·have ne : a.n ≠ r.n := fun e => h.1 (by rw [e]; exact List.mem_map_of_mem hr)
   rw [List.find?_cons_of_neg (by simpa using ne)]
   exact ih h.2 hr
theorem Q2 {rs : List Row} {s o : Str} (h : J0 rs s = some o) : ∃ r ∈ rs, r.n = s ∧ r.o = o := by
 unfold J0 at h
 cases q : rs.find? fun r => decide (r.n = s) with
 | none => rw [q] at h; cases h
 | some r =>
  rw [q] at h
  cases h
  exact ⟨r, List.mem_of_find?_eq_some q, by simpa using List.find?_some q, rfl⟩
theorem Zbt {rs : List Row} {s : Str} (h : s ∉ rs.map (·.n)) : J0 rs s = none := by
 cases q : J0 rs s with
 | none => rfl
 | some o =>
  obtain ⟨r, hr, e, _⟩ := Q2 q
  exact absurd (List.mem_map.mpr ⟨r, hr, e⟩) h
theorem Lv.mem {rs : List Row} {s : Str} {m : Nat} (h : Lv rs s m) : ∃ r ∈ rs, r.n = s := by
 cases h with
 | one e => obtain ⟨r, hr, e, _⟩ := Q2 e; exact ⟨r, hr, e⟩
 | up e _ _ => obtain ⟨r, hr, e, _⟩ := Q2 e; exact ⟨r, hr, e⟩
theorem Yo {α : Type} [DecidableEq α] : ∀ {l l' : List α}, l.Nodup → (∀ a ∈ l, a ∈ l') → l.length ≤ l'.length
 | [], _, _, _ => Nat.zero_le _
 | a :: l, l', h, hs => by
  rw [List.nodup_cons] at h
  have ha := hs a List.mem_cons_self
  have := Yo (l := l) (l' := l'.erase a) h.2 fun b hb => (List.mem_erase_of_ne (fun e => h.1 (by rw [← e]; exact hb))).mpr (hs b (List.mem_cons_of_mem _ hb))
  rw [List.length_erase_of_mem ha] at this
  have : 0 < l'.length := List.length_pos_of_mem ha
  rw [List.length_cons]
  omega
structure Tb (rs : List Row) (ps : List (Key × PyData)) : Prop where
 nd : (ps.map (·.1)).Nodup
 ok : ∀ k d, (k, d) ∈ ps → ∃ (s : Str) (m : Nat), k = .inr s ∧ d = .int m ∧ s ∈ rs.map (·.n) ∧ Lv rs s m ∧ m ≤ ps.length
theorem Tb.len {rs : List Row} {ps : List (Key × PyData)} (h : Tb rs ps) : ps.length ≤ rs.length := by
 have := Yo (l := ps.map (·.1)) (l' := rs.map fun r => (Sum.inr r.n : Key)) h.nd fun k hk => by
  obtain ⟨p, hp, rfl⟩ := List.mem_map.mp hk
  obtain ⟨s, m, e, _, hs, _⟩ := h.ok p.1 p.2 hp
  obtain ⟨r, hr, rfl⟩ := List.mem_map.mp hs
  rw [e]
  exact List.mem_map.mpr ⟨r, hr, rfl⟩
 simpa using this
theorem MA {ps : List (Key × PyData)} {k : Key} {d : PyData} (h : QK ps k = some d) : (k, d) ∈ ps := by
 unfold QK at h
 cases q : ps.find? fun kv => decide (kv.1 = k) with
 | none => rw [q] at h; cases h
 | some p =>
  rw [q] at h
  cases h
  have e : p.1 = k := by simpa using List.find?_some q
  rw [← e]
  exact List.mem_of_find?_eq_some q
theorem CC {ps : List (Key × PyData)} {k : Key} : (QK ps k).isSome = ps.any fun kv => decide (kv.1 = k) := by
 unfold QK
 rw [Option.isSome_map, Bool.eq_iff_iff, List.find?_isSome, List.any_eq_true]
noncomputable def Has (ps : List (Key × PyData)) (s : Str) : Prop := ∃ p ∈ ps, p.1 = .inr s
theorem Has.put {ps : List (Key × PyData)} {s : Str} {k : Key} {d : PyData} (h : Has ps s) : Has (JG ps k d) s := by
 obtain ⟨p, hp, e⟩ := h
 unfold JG
 split
 ·by_cases z : p.1 = k
  ·exact ⟨(p.1, d), List.mem_map.mpr ⟨p, hp, by rw [if_pos z]⟩, e⟩
  ·exact ⟨p, List.mem_map.mpr ⟨p, hp, by rw [if_neg z]⟩, e⟩
 ·exact ⟨p, List.mem_append_left _ hp, e⟩
theorem Has.new {ps : List (Key × PyData)} {s : Str} {d : PyData} : Has (JG ps (.inr s) d) s := by
 unfold JG
 split
 ·rename_i h
  obtain ⟨p, hp, e⟩ := List.any_eq_true.mp h
  have e : p.1 = .inr s := of_decide_eq_true e
  exact ⟨(p.1, d), List.mem_map.mpr ⟨p, hp, by rw [if_pos e]⟩, e⟩
 ·exact ⟨_, List.mem_append_right _ (List.mem_singleton.mpr rfl), rfl⟩
theorem Rq {ps : List (Key × PyData)} {s : Str} : Has ps s ↔ (QK ps (.inr s)).isSome = true := by
 rw [CC, List.any_eq_true]
 exact ⟨fun ⟨p, hp, e⟩ => ⟨p, hp, decide_eq_true e⟩, fun ⟨p, hp, e⟩ => ⟨p, hp, of_decide_eq_true e⟩⟩
theorem Tb.val {rs : List Row} {ps : List (Key × PyData)} (h : Tb rs ps) {s : Str} {d : PyData} (e : QK ps (.inr s) = some d) : ∃ m : Nat, d = .int m ∧ Lv rs s m ∧ m ≤ ps.length := by
 obtain ⟨t, m, e1, e2, _, e3, e4⟩ := h.ok _ _ (MA e)
 cases e1
 exact ⟨m, e2, e3, e4⟩
theorem Tb.put {rs : List Row} {ps : List (Key × PyData)} (h : Tb rs ps) {s : Str} {m : Nat} (hs : s ∈ rs.map (·.n)) (hl : Lv rs s m) (hm : m ≤ ps.length + 1) : Tb rs (JG ps (.inr s) (.int m)) := by
 by_cases q : (ps.any fun kv => decide (kv.1 = .inr s)) = true
 ·obtain ⟨p, hp, e⟩ := List.any_eq_true.mp q
  have e : p.1 = .inr s := of_decide_eq_true e
  obtain ⟨t, j, e1, e2, _, e3, e4⟩ := h.ok p.1 p.2 hp
  rw [e] at e1
  cases e1
  have ej := hl.uniq e3
  have keys : (ps.map fun kv => if kv.1 = (.inr s : Key) then (kv.1, PyData.int m) else kv).map (·.1) = ps.map (·.1) := by
   rw [List.map_map]
   refine List.map_congr_left fun kv _ => ?_
   show (if kv.1 = (.inr s : Key) then (kv.1, PyData.int m) else kv).1 = kv.1
   split <;> rfl
  unfold JG
  rw [if_pos q]
  refine ⟨by rw [keys]; exact h.nd, fun k d hk => ?_⟩
  obtain ⟨kv, hkv, ek⟩ := List.mem_map.mp hk
  rw [List.length_map]
  by_cases z : kv.1 = .inr s
  ·rw [if_pos z] at ek
   cases ek
   exact ⟨s, m, z, rfl, hs, hl, by omega⟩
  ·rw [if_neg z] at ek
   rw [ek] at hkv
   exact h.ok k d hkv
 ·unfold JG
  rw [if_neg q]
  refine ⟨?_, fun k d hk => ?_⟩
  ·rw [List.map_append, List.nodup_append]
   refine ⟨h.nd, by simp, fun a ha b hb => ?_⟩
   intro e
   rw [List.map_cons, List.map_nil, List.mem_singleton] at hb
   obtain ⟨p, hp, e2⟩ := List.mem_map.mp ha
   exact q (List.any_eq_true.mpr ⟨p, hp, decide_eq_true (e2.trans (e.trans hb))⟩)
  ·rw [List.length_append, List.length_singleton]
   rcases List.mem_append.mp hk with hk | hk
   ·obtain ⟨t, j, e1, e2, e3, e4, e5⟩ := h.ok k d hk
    exact ⟨t, j, e1, e2, e3, e4, by omega⟩
   ·have e := List.mem_singleton.mp hk
    cases e
    exact ⟨s, m, rfl, rfl, hs, hl, hm⟩
noncomputable def Full (rs : List Row) (ps : List (Key × PyData)) (r : Nat) : Prop := ∀ s m, Lv rs s m → m ≤ r → Has ps s
theorem Zdx {rs : List Row} {ps : List (Key × PyData)} (h : Tb rs ps) (hf : Full rs ps rs.length) (s : Str) : (QK ps (.inr s)).getD .none = XT rs s := by
 have hl := h.len
 unfold XT
 cases q : QK ps (.inr s) with
 | some d =>
  obtain ⟨m, rfl, h1, h2⟩ := h.val q
  rw [NU h1 (by omega)]
  rfl
 | none =>
  cases q2 : lev rs rs.length s with
  | none => rfl
  | some m =>
   obtain ⟨a, b⟩ := Cw q2
   have := Rq.mp (hf s m a b)
   rw [q] at this
   cases this
theorem Fy {rs rs' : List Row} (h : (rs.map (·.n)).Nodup) (p : rs'.Perm rs) (s : Str) : J0 rs' s = J0 rs s := by
 have h' : (rs'.map (·.n)).Nodup := (List.Perm.nodup_iff (p.map _)).mpr h
 cases q : J0 rs s with
 | none =>
  cases q' : J0 rs' s with
  | none => rfl
  | some o =>
   obtain ⟨r, hr, rfl, rfl⟩ := Q2 q'
   rw [Gf h (p.mem_iff.mp hr)] at q
   cases q
 | some o =>
  obtain ⟨r, hr, rfl, rfl⟩ := Q2 q
  exact Gf h' (p.mem_iff.mpr hr)
theorem G5 {rs rs' : List Row} (h : (rs.map (·.n)).Nodup) (p : rs'.Perm rs) : ∀ (k : Nat) (s : Str), lev rs' k s = lev rs k s
 | 0, _ => rfl
 | k + 1, s => by
  unfold lev
  rw [Fy h p]
  cases J0 rs s with
  | none => rfl
  | some o => dsimp only; rw [G5 h p k o]
theorem S2 {rs rs' : List Row} (h : (rs.map (·.n)).Nodup) (p : rs'.Perm rs) (s : Str) : XT rs' s = XT rs s := by
 unfold XT
 rw [p.length_eq, G5 h p]
theorem GU {α β : Type} {f : α → β} {ds es : List β} (p : ds.Perm es) : ∀ l : List α, es = l.map f → ∃ l' : List α, ds = l'.map f ∧ l'.Perm l := by
 induction p with
 | nil =>
  intro l e
  cases l with
  | nil => exact ⟨[], rfl, .nil⟩
  | cons _ _ => cases e
 | cons x p ih =>
  intro l e
  cases l with
  | nil => cases e
  | cons a l =>
   rw [List.map_cons, List.cons.injEq] at e
   obtain ⟨l', e1, p1⟩ := ih l e.2
   exact ⟨a :: l', by rw [List.map_cons, e.1, e1], p1.cons a⟩
 | swap x y l0 =>
  intro l e
  match l, e with
  | [], e => cases e
  | [_], e => simp at e
  | a :: b :: t, e =>
   rw [List.map_cons, List.map_cons, List.cons.injEq, List.cons.injEq] at e
   exact ⟨b :: a :: t, by rw [List.map_cons, List.map_cons, e.1, e.2.1, e.2.2], .swap a b t⟩
 | trans p1 p2 ih1 ih2 =>
  intro l e
  obtain ⟨l2, e2, q2⟩ := ih2 l e
  obtain ⟨l1, e1, q1⟩ := ih1 l2 e2
  exact ⟨l1, e1, q1.trans q2⟩
open Classical in
noncomputable def JE (bs : List B4) (wb u v : Int) : Str := if (∀ x y, Qj u v x y ≤ wb → anyB bs x y = true) then Str.ofString "in" else if (∀ x y, Qj u v x y ≤ wb → anyB bs x y = false) then Str.ofString "out" else Str.ofString "between"
theorem Sf {bs : List B4} {wb u v d : Int} (hw : 0 ≤ wb) (hd : IsD (anyB bs) u v d) : UR d wb = JE bs wb u v := by
 have ad := QC d
 have self : Qj u v u v ≤ wb := Z1.mpr (by omega)
 obtain ⟨x, y, e1, e2⟩ := hd.ex
 unfold UR JE
 by_cases h1 : wb < d
 ·have s : anyB bs u v = true := by rw [hd.sg]; exact decide_eq_true (by omega)
  have a : ∀ x y, Qj u v x y ≤ wb → anyB bs x y = true := fun x y hc => by
   cases q : anyB bs x y with
   | true => rfl
   | false =>
    have := hd.mn x y (by rw [q, s]; exact Bool.false_ne_true)
    omega
  rw [if_pos h1, if_pos a]
 ·have n1 : ¬ ∀ x y, Qj u v x y ≤ wb → anyB bs x y = true := fun k => by
   have s := k u v self
   have d0 := hd.pos s
   have := k x y (by omega)
   rw [s] at e1
   exact e1 this
  rw [if_neg h1, if_neg n1]
  by_cases h2 : d < -wb
  ·have s : anyB bs u v = false := by rw [hd.sg]; exact decide_eq_false (by omega)
   have a : ∀ x y, Qj u v x y ≤ wb → anyB bs x y = false := fun x y hc => by
    cases q : anyB bs x y with
    | false => rfl
    | true =>
     have := hd.mn x y (by rw [q, s]; exact (Bool.false_ne_true ·.symm))
     omega
   rw [if_pos h2, if_pos a]
  ·have n2 : ¬ ∀ x y, Qj u v x y ≤ wb → anyB bs x y = false := fun k => by
    have s := k u v self
    rw [hd.sg] at s
    have d0 := of_decide_eq_false s
    have := k x y (by omega)
    rw [k u v self] at e1
    exact e1 this
   rw [if_neg h2, if_neg n2]
structure Ld where
 n : Str
 o : Str
 bs : List B4
 wb : Int
noncomputable def ldR (l : Ld) : Row := ⟨l.n, l.o, .tuple (l.bs.map bD), .int l.wb⟩
noncomputable def ldD (l : Ld) : PyData := .tuple [.str l.n, .str l.o, .tuple (l.bs.map bD), .int l.wb]
theorem WD (l : Ld) : ldD l = .tuple [.str l.n, .str l.o, .tuple (l.bs.map bD), .int l.wb] := rfl
noncomputable def Zbl (l : Ld) : Prop := Shp l.bs ∧ 0 ≤ l.wb
noncomputable def Z8 (held : List Str) (u v : Int) (l : Ld) : Bool := decide (JE l.bs l.wb u v = Str.ofString "in") || (decide (JE l.bs l.wb u v = Str.ofString "between") && decide (l.n ∈ held))
noncomputable def WI (x : DV) (P : List Str → Prop) : Prop := ∃ ss, x = .dat (.list (ss.map PyData.str)) ∧ P ss
theorem Zcc {ss : List Str} {P : List Str → Prop} (h : P ss) : WI (.dat (.list (ss.map PyData.str))) P := ⟨ss, rfl, h⟩
noncomputable def Zd4 (x : DV) (P : Ld → Prop) : Prop := ∃ l, x = .dat (ldD l) ∧ P l
noncomputable def VN (x : DV) (P : List Ld → Prop) : Prop := ∃ ls : List Ld, x = .dat (.tuple (ls.map ldD)) ∧ P ls
noncomputable def Vr (ls : List Ld) : Prop := ls.length ≤ 24 ∧ (∀ l ∈ ls, Zbl l) ∧ ls.Pairwise fun a b => a.n.cps.toList < b.n.cps.toList
theorem Vr.nodup {ls : List Ld} (h : Vr ls) : (ls.map (·.n)).Nodup := by
 rw [List.nodup_iff_pairwise_ne, List.pairwise_map]
 exact h.2.2.imp fun hab e => absurd hab (by rw [e]; exact List.lt_irrefl _)
theorem Vr.CI {ls : List Ld} (h : Vr ls) : ((ls.map ldR).map (·.n)).Nodup := by
 rw [List.map_map]
 exact h.nodup
theorem Vr.inj {ls : List Ld} (h : Vr ls) {a b : Ld} (ha : a ∈ ls) (hb : b ∈ ls) (e : a.n = b.n) : a = b := by
 obtain ⟨i, hi, rfl⟩ := List.getElem_of_mem ha
 obtain ⟨j, hj, rfl⟩ := List.getElem_of_mem hb
 have hp := List.pairwise_iff_getElem.mp h.2.2
 rcases Nat.lt_trichotomy i j with q | rfl | q
 ·have := hp i j hi hj q
  rw [e] at this
  exact absurd this (List.lt_irrefl _)
 ·rfl
 ·have := hp j i hj hi q
  rw [e] at this
  exact absurd this (List.lt_irrefl _)
noncomputable def lvl (ls : List Ld) (l : Ld) : Option Nat := lev (ls.map ldR) (ls.map ldR).length l.n
noncomputable def Kw (ls : List Ld) (l : Ld) : Bool := (lvl ls l).isSome
noncomputable def lvN (ls : List Ld) (l : Ld) : Int := ((lvl ls l).getD 0 : Nat)
noncomputable def leL (ls : List Ld) (a b : Ld) : Prop := ¬ (lvN ls b < lvN ls a ∨ lvN ls b = lvN ls a ∧ b.n.cps.toList < a.n.cps.toList)
noncomputable def Xa (ls ls' : List Ld) : Prop := ls'.Perm (ls.filter (Kw ls)) ∧ ls'.Pairwise (leL ls)
theorem Jn {s : Str} {ss : List Str} (h : ∀ t ∈ s :: ss, (PyData.str t).canLay0 = true) : okIn (.str s) (ss.map PyData.str) = true ∧ ((ss.map PyData.str).any fun e => PyData.eqv e (.str s)) = decide (s ∈ ss) := by
 have lay : ∀ l : List Str, (∀ t ∈ l, (PyData.str t).canLay0 = true) → PyData.canLayAll0 (l.map PyData.str) = true := fun l => by
  induction l with
  | nil => intro _; simp [PyData.canLayAll0]
  | cons x l ih => intro h; rw [List.map_cons, PyData.canLayAll0, ih fun t ht => h t (.tail _ ht), h x (.head _)]; rfl
 constructor
 ·unfold okIn
  rw [lay ss fun t ht => h t (.tail _ ht), h s (.head _)]
  simp [PyData.depth]
 ·rw [Bool.eq_iff_iff, List.any_map, List.any_eq_true, decide_eq_true_eq]
  constructor
  ·rintro ⟨t, ht, e⟩
   have e : PyData.eqv (.str t) (.str s) = true := e
   rw [PB, decide_eq_true_eq] at e
   rw [← e]
   exact ht
  ·intro ht
   exact ⟨s, ht, by show PyData.eqv (.str s) (.str s) = true; rw [PB]; exact decide_eq_true rfl⟩
theorem VX : ∀ {l : List Str}, sortedS l = true → l.Pairwise fun a b => ¬ b.cps.toList < a.cps.toList
 | [], _ => .nil
 | [a], _ => List.pairwise_singleton ..
 | a :: b :: l, h => by
  have h : (!ltCps b.cps.toList a.cps.toList && risingS b l) = true := h
  rw [Bool.and_eq_true, ltCps_eq, Bool.not_eq_true'] at h
  have ih := VX (l := b :: l) h.2
  refine .cons (fun c hc => ?_) ih
  have h1 := of_decide_eq_false h.1
  rcases List.mem_cons.mp hc with rfl | hc
  ·exact h1
  ·exact List.le_trans h1 (List.rel_of_pairwise_cons ih hc)
theorem WZ {a b : Str} (h : a.cps.toList = b.cps.toList) : a = b := by
 cases a; cases b
 exact congrArg _ (Array.ext' h)
theorem Xa.mem {ls ls' : List Ld} (h : Xa ls ls') {l : Ld} (hl : l ∈ ls') : l ∈ ls := (List.mem_filter.mp (h.1.mem_iff.mp hl)).1
theorem Xa.len {ls ls' : List Ld} (h : Xa ls ls') : ls'.length ≤ ls.length := by
 rw [h.1.length_eq]
 exact List.length_filter_le _ _
theorem Xa.uniq {ls a b : List Ld} (ho : Vr ls) (ha : Xa ls a) (hb : Xa ls b) : a = b := by
 refine List.Perm.eq_of_pairwise (le := leL ls) (fun x y hx hy h1 h2 => ?_) ha.2 hb.2 (ha.1.trans hb.1.symm)
 have e1 : ¬ lvN ls y < lvN ls x := fun z => h1 (.inl z)
 have e2 : ¬ lvN ls x < lvN ls y := fun z => h2 (.inl z)
 have e3 : lvN ls x = lvN ls y := by omega
 exact ho.inj (ha.mem hx) (hb.mem hy) (WZ (List.le_antisymm (fun z => h1 (.inr ⟨e3.symm, z⟩)) fun z => h2 (.inr ⟨e3, z⟩)))
theorem Ju {a b : List Str} (h : a.Perm b) (ha : sortedS a = true) (hb : sortedS b = true) : a = b :=
 List.Perm.eq_of_pairwise (le := fun a b : Str => ¬ b.cps.toList < a.cps.toList) (fun _ _ _ _ h1 h2 => WZ (List.le_antisymm h1 h2)) (VX ha) (VX hb) h
noncomputable def ZV (ss : List Str) (u v : Int) (told : List Str) (l : Ld) : List Str := if ((decide (l.o = Str.ofString "") || decide (l.o ∈ told)) && Z8 ss u v l) = true then told ++ [l.n] else told
noncomputable def ZZ (ss : List Str) (u v : Int) (ls : List Ld) : List Str := ls.foldl (ZV ss u v) []
theorem E9 (ss : List Str) (u v : Int) (told : List Str) (l : Ld) : (ZV ss u v told l).length ≤ told.length + 1 := by
 unfold ZV
 split
 ·rw [List.length_append, List.length_singleton]
  exact Nat.le_refl _
 ·omega
theorem Wq (ss : List Str) (u v : Int) : ∀ (ls : List Ld) (told : List Str), (ls.foldl (ZV ss u v) told).length ≤ told.length + ls.length
 | [], told => Nat.le_refl _
 | l :: ls, told => by
  have := Wq ss u v ls (ZV ss u v told l)
  have := E9 ss u v told l
  rw [List.foldl_cons, List.length_cons]
  omega
theorem Yu (ss : List Str) (u v : Int) (ls : List Ld) : (ZZ ss u v ls).length ≤ ls.length := by
 have := Wq ss u v ls []
 simpa [ZZ] using this
theorem Wm (ss : List Str) (u v : Int) {P : Str → Prop} : ∀ (ls : List Ld) (told : List Str), (∀ s ∈ told, P s) → (∀ l ∈ ls, P l.n) → ∀ s ∈ ls.foldl (ZV ss u v) told, P s
 | [], _, h, _ => h
 | l :: ls, told, h, k => by
  rw [List.foldl_cons]
  refine Wm ss u v ls _ (fun s hs => ?_) fun l' hl => k l' (.tail _ hl)
  unfold ZV at hs
  split at hs
  ·rcases List.mem_append.mp hs with hs | hs
   ·exact h s hs
   ·rw [List.mem_singleton.mp hs]
    exact k l (.head _)
  ·exact h s hs
theorem KP {ss : List Str} {u v : Int} {P : Str → Prop} {ls : List Ld} (k : ∀ l ∈ ls, P l.n) : ∀ s ∈ ZZ ss u v ls, P s := Wm ss u v ls [] (fun s hs => (nomatch hs)) k
theorem Xe (ss : List Str) (u v : Int) {ls : List Ld} {i : Nat} {l : Ld} (h : ls[i]? = some l) : ZZ ss u v (ls.take (i + 1)) = ZV ss u v (ZZ ss u v (ls.take i)) l := by
 have e : ls.take (i + 1) = ls.take i ++ [l] := by rw [List.take_succ, h]; rfl
 unfold ZZ
 rw [e, List.foldl_append]
 rfl
noncomputable def JH (s : Str) : Prop := (PyData.str s).canLay0 = true
noncomputable def B2 (ls : List Ld) : Prop := ∀ l ∈ ls, JH l.n ∧ JH l.o
noncomputable def Gb : DSp := fun xs M Φ => on3 xs fun x y z => Zd4 x fun l => WI y fun ss => onP z fun u v => (Zbl l ∧ JH l.n ∧ ∀ s ∈ ss, JH s) ∧ Φ (.dat (.bool (Z8 ss u v l))) M
theorem FH (xs : List DV) (M : Mp) (Φ : DK) : Gb xs M Φ = (on3 xs fun x y z => Zd4 x fun l => WI y fun ss => onP z fun u v => (Zbl l ∧ JH l.n ∧ ∀ s ∈ ss, JH s) ∧ Φ (.dat (.bool (Z8 ss u v l))) M) := propext Iff.rfl
noncomputable def U8 : DSp := fun xs M Φ => on1 xs fun x => VN x fun ls => Vr ls ∧ ∀ ls', Xa ls ls' → Φ (.dat (.list (ls'.map ldD))) M
theorem Dg (xs : List DV) (M : Mp) (Φ : DK) : U8 xs M Φ = (on1 xs fun x => VN x fun ls => Vr ls ∧ ∀ ls', Xa ls ls' → Φ (.dat (.list (ls'.map ldD))) M) := propext Iff.rfl
noncomputable def VY : DSp := fun xs M Φ => on3 xs fun x y z => VN x fun ls => WI y fun ss => onP z fun u v => (Vr ls ∧ B2 ls ∧ ∀ s ∈ ss, JH s) ∧ ∀ ls' ns, Xa ls ls' → ns.Perm (ZZ ss u v ls') → sortedS ns = true → Φ (.dat (.list (ns.map PyData.str))) M
theorem BW (xs : List DV) (M : Mp) (Φ : DK) : VY xs M Φ = (on3 xs fun x y z => VN x fun ls => WI y fun ss => onP z fun u v => (Vr ls ∧ B2 ls ∧ ∀ s ∈ ss, JH s) ∧ ∀ ls' ns, Xa ls ls' → ns.Perm (ZZ ss u v ls') → sortedS ns = true → Φ (.dat (.list (ns.map PyData.str))) M) := propext Iff.rfl
noncomputable def pr1 (ls : List Ld) (l : Ld) : PyData := .tuple [.int (lvN ls l), ldD l]
theorem R9 {ls : List Ld} {ds : List PyData} (hp : ds.Perm ((ls.filter (Kw ls)).map (pr1 ls))) (hs : ds.Pairwise Zcb) : ∃ ls', ds = ls'.map (pr1 ls) ∧ Xa ls ls' := by
 obtain ⟨ls', rfl, p⟩ := GU hp _ rfl
 refine ⟨ls', rfl, p, ?_⟩
 rw [List.pairwise_map] at hs
 exact hs.imp fun {a b} hab => hab (lvN ls a, a.n) (lvN ls b, b.n) rfl rfl
theorem Wz (ls : List Ld) (l : Ld) : (Kw ls l = true ∧ XT (ls.map ldR) l.n = .int (lvN ls l)) ∨ (Kw ls l = false ∧ XT (ls.map ldR) l.n = .none) := by
 unfold Kw lvN lvl XT
 cases lev (ls.map ldR) (ls.map ldR).length l.n with
 | none => exact .inr ⟨rfl, rfl⟩
 | some m => exact .inl ⟨rfl, rfl⟩
theorem Zd6 {ls : List Ld} {l : Ld} (h : Kw ls l = true) : XT (ls.map ldR) l.n = .int (lvN ls l) := by
 rcases Wz ls l with ⟨_, e⟩ | ⟨e, _⟩
 ·exact e
 ·rw [h] at e
  cases e
theorem ZcZ {a b o : Bool} {A B : Prop} (ho : o = true) (hA : (a || b) = true → A) (hB : (a || b) = false → B) : if a = true then A else o = true ∧ if b = true then A else B := by
 subst ho
 cases a <;> cases b <;> simp only [Bool.false_eq_true, if_true, if_false, true_and] <;> first | exact hA rfl | exact hB rfl
theorem Jx {a : Bool} {A B : Prop} (hA : a = true → A) (hB : a = false → B) : if a = true then A else B := by
 cases a
 ·rw [if_neg Bool.false_ne_true]
  exact hB rfl
 ·rw [if_pos rfl]
  exact hA rfl
theorem BQ {a b : List Str} {u v : Int} {l : Ld} (h : l.n ∈ a ↔ l.n ∈ b) : Z8 a u v l = Z8 b u v l := by
 unfold Z8
 rw [decide_eq_decide.mpr h]
theorem JN {a b : List Str} {u v : Int} : ∀ (ls : List Ld) (told : List Str), (∀ l ∈ ls, Z8 a u v l = Z8 b u v l) → ls.foldl (ZV a u v) told = ls.foldl (ZV b u v) told
 | [], _, _ => rfl
 | l :: ls, told, h => by
  have e : ZV a u v told l = ZV b u v told l := by
   unfold ZV
   rw [h l (.head _)]
  rw [List.foldl_cons, List.foldl_cons, e, JN ls _ fun l hl => h l (.tail _ hl)]
theorem B1 {a b : List Str} {u v : Int} {ls : List Ld} (h : ∀ l ∈ ls, l.n ∈ a ↔ l.n ∈ b) : ZZ a u v ls = ZZ b u v ls := JN ls [] fun l hl => BQ (h l hl)
theorem Yv {a : List Str} {u v : Int} {told : List Str} {l : Ld} : ∀ s ∈ told, s ∈ ZV a u v told l := fun s hs => by
 unfold ZV
 split
 ·exact List.mem_append_left _ hs
 ·exact hs
theorem Yd {a : List Str} {u v : Int} : ∀ (ls : List Ld) (told : List Str), ∀ s ∈ told, s ∈ ls.foldl (ZV a u v) told
 | [], _, _, hs => hs
 | l :: ls, told, s, hs => by
  rw [List.foldl_cons]
  exact Yd ls _ s (Yv s hs)
theorem Bc {a : List Str} {u v : Int} : ∀ (ls : List Ld) (told : List Str), ∀ s ∈ ls.foldl (ZV a u v) told, s ∈ told ∨ ∃ l ∈ ls, l.n = s ∧ Z8 a u v l = true ∧ (l.o = Str.ofString "" ∨ l.o ∈ ls.foldl (ZV a u v) told)
 | [], _, _, hs => .inl hs
 | l :: ls, told, s, hs => by
  rw [List.foldl_cons] at hs ⊢
  rcases Bc ls _ s hs with h | ⟨l', m, e, k, q⟩
  ·by_cases z : ((decide (l.o = Str.ofString "") || decide (l.o ∈ told)) && Z8 a u v l) = true
   ·have es : ZV a u v told l = told ++ [l.n] := by
     unfold ZV
     rw [if_pos z]
    rw [es] at h
    rcases List.mem_append.mp h with h | h
    ·exact .inl h
    ·have z' := Bool.and_eq_true_iff.mp z
     refine .inr ⟨l, .head _, (List.mem_singleton.mp h).symm, z'.2, ?_⟩
     rcases Bool.or_eq_true_iff.mp z'.1 with y | y
     ·exact .inl (of_decide_eq_true y)
     ·exact .inr (Yd ls _ _ (Yv _ (of_decide_eq_true y)))
   ·have es : ZV a u v told l = told := by
     unfold ZV
     rw [if_neg z]
    rw [es] at h
    exact .inl h
  ·exact .inr ⟨l', .tail _ m, e, k, q⟩
theorem Fv {a : List Str} {u v : Int} {ls : List Ld} {s : Str} (h : s ∈ ZZ a u v ls) : ∃ l ∈ ls, l.n = s ∧ Z8 a u v l = true ∧ (l.o = Str.ofString "" ∨ l.o ∈ ZZ a u v ls) := by
 rcases Bc ls [] s h with h | h
 ·cases h
 ·exact h
theorem Rl {ls : List Ld} (hn : (ls.map (·.n)).Nodup) {a b : Ld} (ha : a ∈ ls) (hb : b ∈ ls) (e : a.n = b.n) : a = b := by
 induction ls with
 | nil => cases ha
 | cons c ls ih =>
  rw [List.map_cons, List.nodup_cons] at hn
  rcases List.mem_cons.mp ha with ea | ha
  ·rcases List.mem_cons.mp hb with eb | hb
   ·rw [ea, eb]
   ·exact absurd (by rw [← ea, e]; exact List.mem_map_of_mem hb) hn.1
  ·rcases List.mem_cons.mp hb with eb | hb
   ·exact absurd (by rw [← eb, ← e]; exact List.mem_map_of_mem ha) hn.1
   ·exact ih hn.2 ha hb
theorem Bn {ss ns : List Str} {u v : Int} {ls : List Ld} (hn : (ls.map (·.n)).Nodup) (hp : ∀ s, s ∈ ns ↔ s ∈ ZZ ss u v ls) : ZZ ns u v ls = ZZ ss u v ls := by
 have go : ∀ (k : List Ld) (told : List Str), (∀ l ∈ k, l ∈ ls) → k.foldl (ZV ss u v) told = ZZ ss u v ls → k.foldl (ZV ns u v) told = k.foldl (ZV ss u v) told := fun k => by
  induction k with
  | nil => intro _ _ _; rfl
  | cons l k ih =>
   intro told hk he
   rw [List.foldl_cons] at he ⊢
   rw [List.foldl_cons]
   have e : ZV ns u v told l = ZV ss u v told l := by
    have hl := hk l (.head _)
    unfold ZV
    cases z : (decide (l.o = Str.ofString "") || decide (l.o ∈ told)) with
    | false => rw [Bool.false_and, Bool.false_and]
    | true =>
     rw [Bool.true_and, Bool.true_and]
     have : Z8 ns u v l = Z8 ss u v l := by
      cases y : Z8 ss u v l with
      | true =>
       have m : l.n ∈ ns := by
        rw [hp, ← he]
        refine Yd k _ _ ?_
        unfold ZV
        rw [z, y, Bool.and_self, if_pos rfl]
        exact List.mem_append_right _ (List.mem_singleton.mpr rfl)
       unfold Z8 at y ⊢
       rw [decide_eq_true m, Bool.and_true]
       cases q : decide (JE l.bs l.wb u v = Str.ofString "in") with
       | true => rfl
       | false =>
        rw [q, Bool.false_or] at y
        rw [Bool.false_or]
        exact (Bool.and_eq_true_iff.mp y).1
      | false =>
       have m : l.n ∉ ns := fun m => by
        obtain ⟨l', m', e', k', _⟩ := Fv ((hp _).mp m)
        rw [Rl hn m' hl e', y] at k'
        cases k'
       unfold Z8 at y ⊢
       rw [decide_eq_false m, Bool.and_false, Bool.or_false]
       exact (Bool.or_eq_false_iff.mp y).1
     rw [this]
   rw [e]
   exact ih _ (fun l hl => hk l (.tail _ hl)) he
 exact go ls [] (fun _ h => h) rfl
theorem Va {a b : List Str} {u v : Int} {f : Ld → Ld} (hf : ∀ l, (f l).n = l.n ∧ (f l).o = l.o) : ∀ (ls : List Ld) (t t' : List Str), (∀ l ∈ ls, Z8 a u v l = true → Z8 b u v (f l) = true) → (∀ s ∈ t, s ∈ t') → ∀ s ∈ ls.foldl (ZV a u v) t, s ∈ (ls.map f).foldl (ZV b u v) t'
 | [], _, _, _, ht => ht
 | l :: ls, t, t', hk, ht => by
  rw [List.map_cons, List.foldl_cons, List.foldl_cons]
  refine Va hf ls _ _ (fun l hl => hk l (.tail _ hl)) fun s hs => ?_
  by_cases z : ((decide (l.o = Str.ofString "") || decide (l.o ∈ t)) && Z8 a u v l) = true
  ·have z' := Bool.and_eq_true_iff.mp z
   have y : ((decide ((f l).o = Str.ofString "") || decide ((f l).o ∈ t')) && Z8 b u v (f l)) = true := by
    rw [hk l (.head _) z'.2, Bool.and_true, (hf l).2]
    rcases Bool.or_eq_true_iff.mp z'.1 with q | q
    ·rw [q, Bool.true_or]
    ·rw [decide_eq_true (ht _ (of_decide_eq_true q)), Bool.or_true]
   unfold ZV at hs ⊢
   rw [if_pos z] at hs
   rw [if_pos y, (hf l).1]
   rcases List.mem_append.mp hs with hs | hs
   ·exact List.mem_append_left _ (ht s hs)
   ·exact List.mem_append_right _ hs
  ·unfold ZV at hs
   rw [if_neg z] at hs
   exact Yv s (ht s hs)
theorem ZbJ : (Str.ofString "in" ≠ Str.ofString "out" ∧ Str.ofString "in" ≠ Str.ofString "between") ∧ Str.ofString "between" ≠ Str.ofString "out" := by
 have h : ∀ a b : Str, a.cps.toList ≠ b.cps.toList → a ≠ b := fun a b h e => h (by rw [e])
 exact ⟨⟨h _ _ (by decide +kernel), h _ _ (by decide +kernel)⟩, h _ _ (by decide +kernel)⟩
theorem Fw {bs : List B4} {u v : Int} : JE bs 0 u v ≠ Str.ofString "between" := by
 have one : ∀ x y, Qj u v x y ≤ 0 → x = u ∧ y = v := fun x y h => by
  have := Z1.mp h
  omega
 unfold JE
 cases q : anyB bs u v with
 | true =>
  rw [if_pos fun x y h => by obtain ⟨rfl, rfl⟩ := one x y h; exact q]
  exact ZbJ.1.2
 | false =>
  have self : Qj u v u v ≤ 0 := Z1.mpr (by omega)
  rw [if_neg (fun k => by rw [k u v self] at q; cases q), if_pos (fun x y h => by obtain ⟨rfl, rfl⟩ := one x y h; exact q)]
  exact ZbJ.2.symm
theorem Yz {bs : List B4} {wb u v : Int} : JE bs wb u v = Str.ofString "in" ↔ ∀ x y, Qj u v x y ≤ wb → anyB bs x y = true := by
 unfold JE
 split
 ·rename_i h
  exact ⟨fun _ => h, fun _ => rfl⟩
 ·rename_i h
  refine ⟨fun e => ?_, fun k => absurd k h⟩
  split at e
  ·exact absurd e.symm ZbJ.1.1
  ·exact absurd e.symm ZbJ.1.2
theorem Ws {bs : List B4} {wb u v : Int} (hw : 0 ≤ wb) : (JE bs wb u v = Str.ofString "in" ∨ JE bs wb u v = Str.ofString "between") ↔ ∃ x y, Qj u v x y ≤ wb ∧ anyB bs x y = true := by
 have self : Qj u v u v ≤ wb := Z1.mpr (by omega)
 constructor
 ·rintro (h | h)
  ·exact ⟨u, v, self, Yz.mp h u v self⟩
  ·apply Classical.byContradiction
   intro n
   unfold JE at h
   have all : ∀ x y, Qj u v x y ≤ wb → anyB bs x y = false := fun x y hc => by
    cases q : anyB bs x y with
    | false => rfl
    | true => exact absurd ⟨x, y, hc, q⟩ n
   rw [if_neg (fun k => by have := k u v self; rw [all u v self] at this; cases this), if_pos all] at h
   exact ZbJ.2 h.symm
 ·rintro ⟨x, y, hc, e⟩
  unfold JE
  split
  ·exact .inl rfl
  ·rw [if_neg fun k => by rw [k x y hc] at e; cases e]
   exact .inr rfl
theorem DR {u v : Int} {l : Ld} : Z8 [] u v l = true ↔ JE l.bs l.wb u v = Str.ofString "in" := by
 unfold Z8
 rw [decide_eq_false (show l.n ∉ ([] : List Str) from fun h => nomatch h), Bool.and_false, Bool.or_false, decide_eq_true_eq]
theorem GR {ss : List Str} {u v : Int} {l : Ld} (h : l.n ∈ ss) : Z8 ss u v l = true ↔ (JE l.bs l.wb u v = Str.ofString "in" ∨ JE l.bs l.wb u v = Str.ofString "between") := by
 unfold Z8
 rw [decide_eq_true h, Bool.and_true, Bool.or_eq_true, decide_eq_true_eq, decide_eq_true_eq]
theorem FQ {a b : List Str} {u v : Int} {l : Ld} (h : l.n ∈ a → l.n ∈ b) (k : Z8 a u v l = true) : Z8 b u v l = true := by
 unfold Z8 at k ⊢
 rcases Bool.or_eq_true_iff.mp k with k | k
 ·rw [k, Bool.true_or]
 ·obtain ⟨k1, k2⟩ := Bool.and_eq_true_iff.mp k
  rw [k1, decide_eq_true (h (of_decide_eq_true k2)), Bool.and_self, Bool.or_true]
theorem Be {rs rs' : List Row} (h : ∀ s, J0 rs s = J0 rs' s) : ∀ (k : Nat) (s : Str), lev rs k s = lev rs' k s
 | 0, _ => rfl
 | k + 1, s => by
  unfold lev
  rw [h s]
  cases J0 rs' s with
  | none => rfl
  | some o =>
   dsimp only
   rw [Be h k o]
theorem Gg {f : Ld → Ld} (hf : ∀ l, (f l).n = l.n ∧ (f l).o = l.o) (s : Str) : ∀ ls : List Ld, J0 ((ls.map f).map ldR) s = J0 (ls.map ldR) s
 | [] => rfl
 | l :: ls => by
  have ih := Gg hf s ls
  unfold J0 at ih ⊢
  rw [List.map_cons, List.map_cons, List.map_cons]
  by_cases e : l.n = s
  ·rw [List.find?_cons_of_pos (by show decide ((f l).n = s) = true; rw [(hf l).1]; exact decide_eq_true e), List.find?_cons_of_pos (by exact decide_eq_true e)]
   show some (f l).o = some l.o
   rw [(hf l).2]
  ·rw [List.find?_cons_of_neg (by show ¬ decide ((f l).n = s) = true; rw [(hf l).1]; simpa using e), List.find?_cons_of_neg (by show ¬ decide (l.n = s) = true; simpa using e)]
   exact ih
theorem Dy {f : Ld → Ld} (hf : ∀ l, (f l).n = l.n ∧ (f l).o = l.o) (ls : List Ld) (l : Ld) : lvl (ls.map f) (f l) = lvl ls l := by
 unfold lvl
 rw [(hf l).1, List.length_map, List.length_map, List.length_map]
 exact Be (fun s => Gg hf s ls) _ _
theorem Xa.map {f : Ld → Ld} (hf : ∀ l, (f l).n = l.n ∧ (f l).o = l.o) {ls ls' : List Ld} (h : Xa ls ls') : Xa (ls.map f) (ls'.map f) := by
 have e : ∀ l, Kw (ls.map f) (f l) = Kw ls l := fun l => by
  unfold Kw
  rw [Dy hf]
 have n : ∀ l, lvN (ls.map f) (f l) = lvN ls l := fun l => by
  unfold lvN
  rw [Dy hf]
 refine ⟨?_, ?_⟩
 ·have : (ls.map f).filter (Kw (ls.map f)) = (ls.filter (Kw ls)).map f := by
   rw [List.filter_map]
   congr 1
   exact List.filter_congr fun l _ => e l
  rw [this]
  exact h.1.map f
 ·rw [List.pairwise_map]
  refine h.2.imp fun {a b} hab => ?_
  unfold leL at hab ⊢
  rw [n, n, (hf a).1, (hf b).1]
  exact hab
theorem Vr.map {f : Ld → Ld} (hf : ∀ l, (f l).n = l.n ∧ (f l).o = l.o) {ls : List Ld} (h : Vr ls) (ok : ∀ l ∈ ls, Zbl (f l)) : Vr (ls.map f) := by
 refine ⟨by rw [List.length_map]; exact h.1, fun l hl => ?_, ?_⟩
 ·obtain ⟨l', m, rfl⟩ := List.mem_map.mp hl
  exact ok l' m
 ·rw [List.pairwise_map]
  refine h.2.2.imp fun {a b} hab => ?_
  rw [(hf a).1, (hf b).1]
  exact hab
theorem Lv.few {rs : List Row} {s : Str} {m : Nat} (h : Lv rs s m) : ∃ l : List Str, l.length = m ∧ l.Nodup ∧ ∀ t ∈ l, t ∈ rs.map (·.n) ∧ ∃ j, j ≤ m ∧ Lv rs t j := by
 induction h with
 | one e =>
  rename_i s
  refine ⟨[s], rfl, by simp, fun t ht => ?_⟩
  rw [List.mem_singleton.mp ht]
  obtain ⟨r, hr, e2⟩ := (Lv.one e).mem
  exact ⟨List.mem_map.mpr ⟨r, hr, e2⟩, 1, Nat.le_refl _, .one e⟩
 | up e ne h ih =>
  rename_i s o m
  obtain ⟨l, h1, h2, h3⟩ := ih
  refine ⟨s :: l, by rw [List.length_cons, h1], List.nodup_cons.mpr ⟨fun ms => ?_, h2⟩, fun t ht => ?_⟩
  ·obtain ⟨_, j, hj, hl⟩ := h3 s ms
   have := (Lv.up e ne h).uniq hl
   omega
  ·rcases List.mem_cons.mp ht with rfl | ht
   ·obtain ⟨r, hr, e2⟩ := (Lv.up e ne h).mem
    exact ⟨List.mem_map.mpr ⟨r, hr, e2⟩, m + 1, Nat.le_refl _, .up e ne h⟩
   ·obtain ⟨a, j, hj, hl⟩ := h3 t ht
    exact ⟨a, j, by omega, hl⟩
theorem Ke {ls : List Ld} {l : Ld} {m : Nat} : lvl ls l = some m ↔ Lv (ls.map ldR) l.n m := by
 constructor
 ·exact fun h => (Cw h).1
 ·intro h
  obtain ⟨k, h1, h2, h3⟩ := h.few
  have := Yo (l := k) (l' := (ls.map ldR).map (·.n)) h2 fun t ht => (h3 t ht).1
  rw [h1, List.length_map] at this
  exact NU h this
noncomputable def Cl (ls : List Ld) (G : List Str) : Prop := ∀ l ∈ ls, l.o ∈ G → l.n ∈ G
noncomputable def V3 (G : List Str) (l : Ld) : Bool := !decide (l.n ∈ G)
noncomputable def NG (G : List Str) (s : Str) : Bool := !decide (s ∈ G)
theorem V1 {ls : List Ld} {G : List Str} {s : Str} (hs : s ∉ G) : J0 ((ls.filter (V3 G)).map ldR) s = J0 (ls.map ldR) s := by
 induction ls with
 | nil => rfl
 | cons l ls ih =>
  by_cases z : V3 G l = true
  ·rw [List.filter_cons_of_pos z]
   unfold J0 at ih ⊢
   rw [List.map_cons, List.map_cons]
   by_cases e : l.n = s
   ·rw [List.find?_cons_of_pos (by exact decide_eq_true e), List.find?_cons_of_pos (by exact decide_eq_true e)]
   ·rw [List.find?_cons_of_neg (by show ¬ decide (l.n = s) = true; simpa using e), List.find?_cons_of_neg (by show ¬ decide (l.n = s) = true; simpa using e)]
    exact ih
  ·rw [List.filter_cons_of_neg z, ih]
   have e : l.n ≠ s := fun e => z (by unfold V3; rw [e, decide_eq_false hs]; rfl)
   unfold J0
   rw [List.map_cons, List.find?_cons_of_neg (by show ¬ decide (l.n = s) = true; simpa using e)]
theorem Gn {ls : List Ld} {G : List Str} {s o : Str} (h : J0 ((ls.filter (V3 G)).map ldR) s = some o) : s ∉ G := by
 obtain ⟨r, hr, e, _⟩ := Q2 h
 obtain ⟨l, hl, rfl⟩ := List.mem_map.mp hr
 have := (List.mem_filter.mp hl).2
 unfold V3 at this
 intro hs
 have e : l.n = s := e
 rw [e, decide_eq_true hs] at this
 cases this
theorem Fm {ls : List Ld} {G : List Str} (hc : Cl ls G) {s : Str} (hs : s ∉ G) {m : Nat} : Lv ((ls.filter (V3 G)).map ldR) s m ↔ Lv (ls.map ldR) s m := by
 constructor
 ·intro h
  clear hs
  induction h with
  | one e => exact .one (by rw [← V1 (Gn e)]; exact e)
  | up e ne _ ih => exact .up (by rw [← V1 (Gn e)]; exact e) ne ih
 ·intro h
  induction h with
  | one e => exact .one (by rw [V1 hs]; exact e)
  | up e ne _ ih =>
   refine .up (by rw [V1 hs]; exact e) ne (ih fun ho => ?_)
   obtain ⟨r, hr, e1, e2⟩ := Q2 e
   obtain ⟨l, hl, rfl⟩ := List.mem_map.mp hr
   have e1 : l.n = _ := e1
   have e2 : l.o = _ := e2
   exact hs (by rw [← e1]; exact hc l hl (by rw [e2]; exact ho))
theorem Xx {ls : List Ld} {G : List Str} (hc : Cl ls G) {l : Ld} (hl : V3 G l = true) : lvl (ls.filter (V3 G)) l = lvl ls l := by
 have hs : l.n ∉ G := fun h => by unfold V3 at hl; rw [decide_eq_true h] at hl; cases hl
 cases q : lvl ls l with
 | some m => exact Ke.mpr ((Fm hc hs).mpr (Ke.mp q))
 | none =>
  cases q' : lvl (ls.filter (V3 G)) l with
  | none => rfl
  | some m => rw [Ke.mpr ((Fm hc hs).mp (Ke.mp q'))] at q; cases q
theorem Xa.rest {ls ls' : List Ld} {G : List Str} (hc : Cl ls G) (h : Xa ls ls') : Xa (ls.filter (V3 G)) (ls'.filter (V3 G)) := by
 refine ⟨?_, ?_⟩
 ·have e : (ls.filter (V3 G)).filter (Kw (ls.filter (V3 G))) = (ls.filter (Kw ls)).filter (V3 G) := by
   rw [List.filter_filter, List.filter_filter]
   refine List.filter_congr fun l _ => ?_
   cases z : V3 G l with
   | false => rw [Bool.and_false, Bool.false_and]
   | true =>
    rw [Bool.and_true, Bool.true_and]
    unfold Kw
    rw [Xx hc z]
  rw [e]
  exact h.1.filter _
 ·refine List.Pairwise.imp_of_mem (fun {a b} ha hb hab => ?_) (h.2.filter _)
  unfold leL lvN at hab ⊢
  rw [Xx hc (List.mem_filter.mp ha).2, Xx hc (List.mem_filter.mp hb).2]
  exact hab
theorem Vr.rest {ls : List Ld} {G : List Str} (h : Vr ls) : Vr (ls.filter (V3 G)) :=
 ⟨Nat.le_trans (List.length_filter_le _ _) h.1, fun l hl => h.2.1 l (List.mem_filter.mp hl).1, h.2.2.filter _⟩
theorem KQ {ss G : List Str} {u v : Int} : ∀ (ls : List Ld) (t : List Str), Cl ls G → (ls.filter (V3 G)).foldl (ZV ss u v) (t.filter (NG G)) = (ls.foldl (ZV ss u v) t).filter (NG G)
 | [], _, _ => rfl
 | l :: ls, t, hc => by
  have hc' : Cl ls G := fun l hl => hc l (.tail _ hl)
  rw [List.foldl_cons, ← KQ ls _ hc']
  by_cases z : V3 G l = true
  ·have hn : l.n ∉ G := fun h => by unfold V3 at z; rw [decide_eq_true h] at z; cases z
   have ho : l.o ∉ G := fun h => hn (hc l (.head _) h)
   rw [List.filter_cons_of_pos z, List.foldl_cons]
   congr 1
   have e : decide (l.o ∈ t.filter (NG G)) = decide (l.o ∈ t) := by
    rw [decide_eq_decide, List.mem_filter]
    unfold NG
    rw [decide_eq_false ho]
    simp
   unfold ZV
   rw [e]
   by_cases y : ((decide (l.o = Str.ofString "") || decide (l.o ∈ t)) && Z8 ss u v l) = true
   ·rw [if_pos y, if_pos y, List.filter_append, List.filter_cons_of_pos (by exact z), List.filter_nil]
   ·rw [if_neg y, if_neg y]
  ·rw [List.filter_cons_of_neg z]
   congr 1
   unfold ZV
   split
   ·rw [List.filter_append, List.filter_cons_of_neg (by exact z), List.filter_nil, List.append_nil]
   ·rfl
theorem Cn {ss G : List Str} {u v : Int} {ls : List Ld} (hc : Cl ls G) : ZZ ss u v (ls.filter (V3 G)) = (ZZ ss u v ls).filter (NG G) := KQ ls [] hc
theorem Xy {l : List Str} (h : sortedS l = true) (f : Str → Bool) : sortedS (l.filter f) = true := by
 refine sortedS_of_pairwise _ (((VX h).filter f).imp fun hab => ?_)
 rw [ltCps_eq]
 exact decide_eq_false hab
noncomputable def Bz (ls : List Ld) (G : List Str) : List Str := G ++ (ls.filter fun l => decide (l.o ∈ G) && !decide (l.n ∈ G)).map (·.n)
theorem NJ {p q : Ld → Bool} : ∀ {ls : List Ld}, (∀ l ∈ ls, p l = true → q l = true) → (∃ l ∈ ls, q l = true ∧ p l = false) → ls.countP p + 1 ≤ ls.countP q
 | [], _, h => by obtain ⟨l, hl, _⟩ := h; cases hl
 | l :: ls, hp, h => by
  have le : ls.countP p ≤ ls.countP q := List.countP_mono_left fun x hx => hp x (.tail _ hx)
  rw [List.countP_cons, List.countP_cons]
  obtain ⟨x, hx, q1, p1⟩ := h
  rcases List.mem_cons.mp hx with rfl | hx
  ·rw [q1, p1, if_pos rfl, if_neg Bool.false_ne_true]
   omega
  ·have := NJ (fun x hx => hp x (.tail _ hx)) ⟨x, hx, q1, p1⟩
   have a := hp l (.head _)
   cases z : p l with
   | true => rw [a z, if_pos rfl]; omega
   | false => rw [if_neg Bool.false_ne_true]; split <;> omega
noncomputable def inG (G : List Str) (l : Ld) : Bool := decide (l.n ∈ G)
theorem ES {ls : List Ld} {G : List Str} (h : Cl ls G) : Bz ls G = G := by
 unfold Bz
 rw [List.filter_eq_nil_iff.mpr fun l hl => ?_, List.map_nil, List.append_nil]
 intro z
 obtain ⟨a, b⟩ := Bool.and_eq_true_iff.mp z
 rw [decide_eq_true (h l hl (of_decide_eq_true a))] at b
 cases b
theorem E7 {ls : List Ld} {G : List Str} (h : ¬ Cl ls G) : ls.countP (inG G) + 1 ≤ ls.countP (inG (Bz ls G)) := by
 refine NJ (fun l _ z => decide_eq_true (List.mem_append_left _ (of_decide_eq_true z))) ?_
 apply Classical.byContradiction
 intro n
 refine h fun l hl ho => ?_
 apply Classical.byContradiction
 intro hn
 refine n ⟨l, hl, decide_eq_true (List.mem_append_right _ (List.mem_map.mpr ⟨l, List.mem_filter.mpr ⟨hl, ?_⟩, rfl⟩)), decide_eq_false hn⟩
 rw [decide_eq_true ho, decide_eq_false hn]
 rfl
noncomputable def Qq (ls : List Ld) (g : Str) : Nat → List Str
 | 0 => [g]
 | n + 1 => Bz ls (Qq ls g n)
theorem Gk {ls : List Ld} {g : Str} (hg : ∃ l ∈ ls, l.n = g) : ∀ n, Cl ls (Qq ls g n) ∨ n + 1 ≤ ls.countP (inG (Qq ls g n))
 | 0 => by
  obtain ⟨l, hl, e⟩ := hg
  refine .inr (List.countP_pos_iff.mpr ⟨l, hl, decide_eq_true ?_⟩)
  rw [e]
  exact List.mem_singleton.mpr rfl
 | n + 1 => by
  show Cl ls (Bz ls (Qq ls g n)) ∨ n + 1 + 1 ≤ ls.countP (inG (Bz ls (Qq ls g n)))
  rcases Gk hg n with h | h
  ·rw [ES h]
   exact .inl h
  ·by_cases c : Cl ls (Qq ls g n)
   ·rw [ES c]
    exact .inl c
   ·have := E7 c
    exact .inr (by omega)
theorem Mi {ls : List Ld} {g : Str} (hg : ∃ l ∈ ls, l.n = g) : Cl ls (Qq ls g ls.length) := by
 rcases Gk hg ls.length with h | h
 ·exact h
 ·have := List.countP_le_length (p := inG (Qq ls g ls.length)) (l := ls)
  omega
theorem Kc {ls : List Ld} {g : Str} {P : Str → Prop} (hg : P g) (hl : ∀ l ∈ ls, P l.n) : ∀ n, ∀ s ∈ Qq ls g n, P s
 | 0, s, hs => by rw [List.mem_singleton.mp hs]; exact hg
 | n + 1, s, hs => by
  rcases List.mem_append.mp hs with hs | hs
  ·exact Kc hg hl n s hs
  ·obtain ⟨l, m, rfl⟩ := List.mem_map.mp hs
   exact hl l (List.mem_filter.mp m).1
theorem Bl {ls : List Ld} {g : Str} : ∀ n, (Qq ls g n).length ≤ 1 + n * ls.length
 | 0 => by
  show 1 ≤ 1 + 0 * ls.length
  omega
 | n + 1 => by
  have := Bl (ls := ls) (g := g) n
  have := List.length_filter_le (fun l : Ld => decide (l.o ∈ Qq ls g n) && !decide (l.n ∈ Qq ls g n)) ls
  show (Qq ls g n ++ _).length ≤ _
  rw [List.length_append, List.length_map, Nat.succ_mul]
  omega
noncomputable def Zbi (o : OO) : Prop := ∃ a b c : Int, o = .lst [.int a, .int b, .int c]
noncomputable def Pen (M : Mp) (p : Addr) : Prop := ∃ o, Zbi o ∧ M p = some o
theorem Pen.Zx {M : Mp} {p : Addr} {o : OO} (h : Zbi o) : Pen (Zx M p o) p := ⟨o, h, ZI⟩
theorem Pen.ne {M : Mp} {p q : Addr} (h : Pen M p) (hq : M q = none) : p ≠ q := fun e => by
 obtain ⟨o, _, ho⟩ := h
 rw [e, hq] at ho
 cases ho
theorem Pen.put {M : Mp} {p q : Addr} {o : OO} (h : Pen M p) (hq : p ≠ q) : Pen (DL.Zx M q o) p := by
 obtain ⟨o', h1, h2⟩ := h
 exact ⟨o', h1, by rw [Zz hq]; exact h2⟩
theorem Pen.del {M : Mp} {p q : Addr} (h : Pen M p) (hq : p ≠ q) : Pen (DL.VD M q) p := by
 obtain ⟨o', h1, h2⟩ := h
 exact ⟨o', h1, by rw [VA hq]; exact h2⟩
noncomputable def ZbN (x : DV) (P : List Int → Prop) : Prop := ∃ ns, x = .dat (.list (ns.map PyData.int)) ∧ P ns
theorem OQ {x : DV} {P : List Int → Prop} (h : ZbN x P) : ∃ ns, x = .dat (.list (ns.map PyData.int)) ∧ P ns := h
theorem Yn : ∀ {as bs : List Int}, as.map PyData.int = bs.map PyData.int → as = bs
 | [], [], _ => rfl
 | [], _ :: _, h => by simp at h
 | _ :: _, [], h => by simp at h
 | a :: as, b :: bs, h => by
  rw [List.map_cons, List.map_cons, List.cons.injEq, PyData.int.injEq] at h
  rw [h.1, Yn h.2]
theorem RP (bs : List Int) (P : List Int → Prop) : ZbN (.dat (.list (bs.map PyData.int))) P = P bs := propext ⟨fun ⟨cs, e, h⟩ => by
 rw [DV.dat.injEq, PyData.list.injEq] at e
 rw [Yn e]
 exact h, fun h => ⟨bs, rfl, h⟩⟩
theorem tab {l : List Int} {r : Int} (P : Int → Prop) (h0 : 0 ≤ r) (h1 : r < l.length) (hl : ∀ w ∈ l, P w) {Q : PyData → Prop} (k : ∀ w, P w → Q (.int w)) : YY (l.map PyData.int) r Q := by
 obtain ⟨w, hw, e⟩ := Oh h0 h1
 exact Vu e (k w (hl w hw))
noncomputable def CF : DSp := fun xs M Φ => on2 xs fun x y => ZbN x fun ns => onI y fun k => 0 ≤ k ∧ ∀ p o, M p = none → Zbi o → Φ (.own p) (Zx M p o)
theorem HY (xs : List DV) (M : Mp) (Φ : DK) : CF xs M Φ = (on2 xs fun x y => ZbN x fun ns => onI y fun k => 0 ≤ k ∧ ∀ p o, M p = none → Zbi o → Φ (.own p) (Zx M p o)) := propext Iff.rfl
noncomputable def Fr (p : Addr) (M M' : Mp) : Prop := Pen M' p ∧ ∀ a, a ≠ p → M a ≠ none → M' a = M a
theorem Fr.refl {p : Addr} {M : Mp} (h : Pen M p) : Fr p M M := ⟨h, fun _ _ _ => rfl⟩
theorem Fr.trans {p : Addr} {M M1 M2 : Mp} (h : Fr p M M1) (k : Fr p M1 M2) : Fr p M M2 := ⟨k.1, fun a ha hn => by
 have e := h.2 a ha hn
 rw [← e]
 exact k.2 a ha (by rw [e]; exact hn)⟩
theorem Fr.Zx {p : Addr} {M : Mp} {o : OO} (h : Zbi o) : Fr p M (Zx M p o) := ⟨Pen.Zx h, fun a ha _ => Zz ha⟩
theorem Fr.own {p q : Addr} {M M' : Mp} {o : OO} (h : Fr p M M') (hq : M q = some o) (hne : q ≠ p) : M' q = some o := by
 rw [h.2 q hne (by rw [hq]; exact Option.some_ne_none _)]
 exact hq
theorem Fr.new {p q : Addr} {M M' : Mp} {o : OO} (h : Fr p M M') (hq : M q = none) (hne : q ≠ p) : Fr p M (DL.Zx M' q o) := ⟨h.1.put (Ne.symm hne), fun a ha hn => by
 rw [Zz (fun e => hn (by rw [e]; exact hq))]
 exact h.2 a ha hn⟩
noncomputable def Vd : DSp := fun xs M Φ => on2 xs fun x y => onO x fun p => onI y fun m => (0 < m ∧ m < 10 ^ 20) ∧ Pen M p ∧ ∀ r M', 0 ≤ r → r < m → Fr p M M' → Φ (.dat (.int r)) M'
theorem ML (xs : List DV) (M : Mp) (Φ : DK) : Vd xs M Φ = (on2 xs fun x y => onO x fun p => onI y fun m => (0 < m ∧ m < 10 ^ 20) ∧ Pen M p ∧ ∀ r M', 0 ≤ r → r < m → Fr p M M' → Φ (.dat (.int r)) M') := propext Iff.rfl
theorem Pen.get {M : Mp} {p : Addr} (h : Pen M p) : ∃ a b c : Int, M p = some (.lst [.int a, .int b, .int c]) := by
 obtain ⟨o, ⟨a, b, c, eo⟩, hp⟩ := h
 exact ⟨a, b, c, by rw [hp, eo]⟩
noncomputable def KY (s : Str) : Prop := (1 ≤ s.length ∧ s.length ≤ 8) ∧ ∀ c ∈ s.cps.toList, 97 ≤ c ∧ c ≤ 122
noncomputable def UW : DSp := fun xs M Φ => on2 xs fun x y => onO x fun p => onI y fun m => m = 6 ∧ Pen M p ∧ ∀ (ss : List Str) (M' : Mp), ss.length = 6 → ss.Nodup → (∀ s ∈ ss, KY s) → Fr p M M' → Φ (.dat (.list (ss.map PyData.str))) M'
theorem Ek (xs : List DV) (M : Mp) (Φ : DK) : UW xs M Φ = (on2 xs fun x y => onO x fun p => onI y fun m => m = 6 ∧ Pen M p ∧ ∀ (ss : List Str) (M' : Mp), ss.length = 6 → ss.Nodup → (∀ s ∈ ss, KY s) → Fr p M M' → Φ (.dat (.list (ss.map PyData.str))) M') := propext Iff.rfl
theorem abc : (Str.ofString "abcdefghijklmnopqrstuvwxyz").cps.toList = (List.range 26).map fun k => 97 + k := by decide +kernel
theorem UY : (Str.ofString "abcdefghijklmnopqrstuvwxyz").length = 26 := by decide +kernel
theorem EF {i : Int} (h0 : 0 ≤ i) (h1 : i < 26) : L2.atI (Str.ofString "abcdefghijklmnopqrstuvwxyz").cps.toList i = some (97 + i.toNat) := by
 obtain ⟨k, rfl⟩ := Int.eq_ofNat_of_zero_le h0
 rw [abc]
 refine Vs ?_
 rw [List.getElem?_map, List.getElem?_range (by omega)]
 rfl
noncomputable def Ls (b : Int) : Str := ⟨#[97 + b.toNat]⟩
theorem Gp {bs : List Int} {j : Int} (h0 : 0 ≤ j) (h1 : j ≤ bs.length) : DL.cutD (bs.map PyData.int) none (some j) = (bs.take j.toNat).map PyData.int := by
 unfold DL.cutD
 rw [NH h0, HT.VQ, List.drop_zero, List.length_map, Nat.sub_zero, ← List.map_take]
 congr 2
 omega
theorem Wa : ∀ bs : List Int, ((bs.map Ls).map (·.cps.toList)).flatten = bs.map fun b => 97 + b.toNat
 | [] => rfl
 | b :: bs => by
  rw [List.map_cons, List.map_cons, List.flatten_cons, Wa bs]
  rfl
noncomputable def nmS (bs : List Int) : Str := Txt.join (Str.ofString "") (bs.map Ls)
theorem WO (bs : List Int) : (nmS bs).cps.toList = bs.map fun b => 97 + b.toNat := by
 unfold nmS
 rw [DL.join_list, Wa]
theorem Nj (bs : List Int) : (nmS bs).length = bs.length := by rw [← str_len, WO, List.length_map]
theorem ZbA {bs : List Int} (h : bs.length ≤ 8) : JoinOk (Str.ofString "") (bs.map Ls) = true := by
 have e : (Str.ofString "").length = 0 := by decide +kernel
 refine Oo (B := 1) (fun y hy => ?_) (by rw [List.length_map, e]; omega)
 obtain ⟨c, _, rfl⟩ := List.mem_map.mp hy
 exact Nat.le_refl 1
theorem D5 {bs : List Int} (h : 1 ≤ bs.length ∧ bs.length ≤ 8) (hb : ∀ b ∈ bs, 0 ≤ b ∧ b < 26) : KY (nmS bs) := by
 refine ⟨by rw [Nj]; exact h, fun c hc => ?_⟩
 rw [WO] at hc
 obtain ⟨b, hm, rfl⟩ := List.mem_map.mp hc
 have := hb b hm
 omega
theorem Zbx {α : Type} (f : Nat → α) (i : Nat) : (List.range i).map f ++ [f i] = (List.range (i + 1)).map f := by rw [List.range_succ, List.map_append]; rfl
theorem Sa {bs : List Int} (a : Nat) (b : Int) : ((bs.map Ls).map PyData.str).set a (.str ⟨#[97 + b.toNat]⟩) = ((bs.set a b).map Ls).map PyData.str := by
 show ((bs.map Ls).map PyData.str).set a (.str (Ls b)) = _
 rw [List.map_set, List.map_set]
theorem Gr {ss : List Str} {α : Type} (f : Str → α) (g : Nat → α) (h : ∀ (j : Nat) (s : Str), ss[j]? = some s → f s = g j) (hg : ∀ i j, i < ss.length → j < ss.length → i ≠ j → g i ≠ g j) : ss.Nodup := by
 rw [List.nodup_iff_pairwise_ne, List.pairwise_iff_getElem]
 intro i j hi hj hij e
 have a := h i _ (List.getElem?_eq_getElem hi)
 have b := h j _ (List.getElem?_eq_getElem hj)
 rw [e] at a
 exact hg i j hi hj (by omega) (a.symm.trans b)
noncomputable def Sh (x : DV) (P : Int → Int → Int → Prop) : Prop := match x with | .dat (.tuple [.int i, .int j, .int k]) => P i j k | _ => False
theorem Zc9 (i j k : Int) (P : Int → Int → Int → Prop) : Sh (.dat (.tuple [.int i, .int j, .int k])) P = P i j k := rfl
theorem DB (i j k : Int) (P : Int → Int → Int → Prop) : Sh (.dat (.tuple [.int i, .int j, .int k])) P = P i j k := propext Iff.rfl
theorem PL {x : DV} {P : Int → Int → Int → Prop} (h : Sh x P) : ∃ i j k, x = .dat (.tuple [.int i, .int j, .int k]) ∧ P i j k := by
 unfold Sh at h
 split at h
 ·exact ⟨_, _, _, rfl, h⟩
 ·exact h.elim
noncomputable def Frm (f ox oy : Int) : Prop := (1 ≤ f ∧ f ≤ 1000000000) ∧ (-100000000000 ≤ ox ∧ ox ≤ 100000000000) ∧ (-100000000000 ≤ oy ∧ oy ≤ 100000000000)
noncomputable def Lim (b : B4) : Prop := ((-1000000000000 ≤ b.x ∧ b.x ≤ 1000000000000) ∧ (-1000000000000 ≤ b.y ∧ b.y ≤ 1000000000000)) ∧ (-1000000000000 ≤ b.X ∧ b.X ≤ 1000000000000) ∧ (-1000000000000 ≤ b.Y ∧ b.Y ≤ 1000000000000)
noncomputable def Bx (n : Int) (b : B4) : Prop := (b.x ≤ b.X ∧ b.y ≤ b.Y) ∧ (b.X - b.x ≤ 11 ∧ b.Y - b.y ≤ 11) ∧ (-(12 * n) ≤ b.x ∧ b.X ≤ 22 + 12 * n) ∧ (-(12 * n) ≤ b.y ∧ b.Y ≤ 22 + 12 * n)
noncomputable def Sm (c : Int × Int) : Prop := (-99 ≤ c.1 ∧ c.1 ≤ 99) ∧ (-99 ≤ c.2 ∧ c.2 ≤ 99)
noncomputable def cD (c : Int × Int) : PyData := .tuple [.int c.1, .int c.2]
noncomputable def Xv : DSp := fun xs M Φ => on1 xs fun x => onO x fun p => Pen M p ∧ ∀ f ox oy M', Frm f ox oy → Fr p M M' → Φ (.dat (.tuple [.int f, .int ox, .int oy])) M'
theorem BY (xs : List DV) (M : Mp) (Φ : DK) : Xv xs M Φ = (on1 xs fun x => onO x fun p => Pen M p ∧ ∀ f ox oy M', Frm f ox oy → Fr p M M' → Φ (.dat (.tuple [.int f, .int ox, .int oy])) M') := propext Iff.rfl
noncomputable def Xp : DSp := fun xs M Φ => on1 xs fun x => onO x fun p => Pen M p ∧ ∀ (bs : List B4) M', (1 ≤ bs.length ∧ bs.length ≤ 6) → (∀ b ∈ bs, Bx 6 b) → Fr p M M' → Φ (.dat (.list (bs.map bD))) M'
theorem BD (xs : List DV) (M : Mp) (Φ : DK) : Xp xs M Φ = (on1 xs fun x => onO x fun p => Pen M p ∧ ∀ (bs : List B4) M', (1 ≤ bs.length ∧ bs.length ≤ 6) → (∀ b ∈ bs, Bx 6 b) → Fr p M M' → Φ (.dat (.list (bs.map bD))) M') := propext Iff.rfl
noncomputable def Xo : DSp := fun xs M Φ => on3 xs fun x y z => Sh x fun f ox oy => onP y fun a b => onI z fun m => ((-200 ≤ a ∧ a ≤ 200) ∧ -200 ≤ b ∧ b ≤ 200) ∧ Φ (.dat (.tuple [.int (a * f + m + ox), .int (b * f + m + oy)])) M
theorem Fj (xs : List DV) (M : Mp) (Φ : DK) : Xo xs M Φ = (on3 xs fun x y z => Sh x fun f ox oy => onP y fun a b => onI z fun m => ((-200 ≤ a ∧ a ≤ 200) ∧ -200 ≤ b ∧ b ≤ 200) ∧ Φ (.dat (.tuple [.int (a * f + m + ox), .int (b * f + m + oy)])) M) := propext Iff.rfl
noncomputable def hsL (ls : List Str) (c : Addr) (f ox oy : Int) : List (Key × DV) := [(.inr (Str.ofString "lands"), .dat (.list (ls.map PyData.str))), (.inr (Str.ofString "corners"), .own c), (.inr (Str.ofString "frame"), .dat (.tuple [.int f, .int ox, .int oy]))]
noncomputable def hsO (ls : List Str) (c : Addr) (f ox oy : Int) : OO := .dko (hsL ls c f ox oy)
theorem ZdF (ls : List Str) (c : Addr) (f ox oy : Int) (P : List (Key × DV) → Prop) : N6 (some (hsO ls c f ox oy)) P = P (hsL ls c f ox oy) := rfl
theorem YE {a b : Str} (h : a.cps.toList ≠ b.cps.toList) {x : DV} {r : List (Key × DV)} : VP ((.inr a, x) :: r) (.inr b) = VP r (.inr b) := by
 unfold VP
 have n : ¬ decide ((.inr a : Key) = .inr b) = true := fun e => h (by rw [Sum.inr.inj (of_decide_eq_true e)])
 exact congrArg _ (List.find?_cons_of_neg (a := ((.inr a : Key), x)) (p := fun p => decide (p.1 = .inr b)) n)
theorem Kg {a : Str} {x : DV} {r : List (Key × DV)} : VP ((.inr a, x) :: r) (.inr a) = some x := by
 unfold VP
 rw [List.find?_cons_of_pos (a := ((.inr a : Key), x)) (p := fun p => decide (p.1 = .inr a)) (decide_eq_true rfl)]
 rfl
theorem ZfB (ls : List Str) (c : Addr) (f ox oy : Int) : VP (hsL ls c f ox oy) (.inr (Str.ofString "lands")) = some (.dat (.list (ls.map PyData.str))) := Kg
theorem ZeS (ls : List Str) (c : Addr) (f ox oy : Int) : VP (hsL ls c f ox oy) (.inr (Str.ofString "corners")) = some (.own c) := (YE (by decide +kernel)).trans Kg
theorem Zfa (ls : List Str) (c : Addr) (f ox oy : Int) : VP (hsL ls c f ox oy) (.inr (Str.ofString "frame")) = some (.dat (.tuple [.int f, .int ox, .int oy])) := (YE (by decide +kernel)).trans ((YE (by decide +kernel)).trans Kg)
structure Hs (M : Mp) (p q c : Addr) (ls : List Str) (n : Nat) : Prop where
 h1 : ∃ f ox oy, M q = some (hsO ls c f ox oy) ∧ Frm f ox oy
 h2 : ∃ cs : List (Int × Int), M c = some (.lst (cs.map cD)) ∧ (∀ k ∈ cs, Sm k) ∧ 1 ≤ cs.length ∧ cs.length ≤ n
 qp : q ≠ p
 cp : c ≠ p
 cq : c ≠ q
 nm : ls.length = 6 ∧ ls.Nodup ∧ ∀ s ∈ ls, KY s
noncomputable def Fh (p c : Addr) (M M' : Mp) : Prop := Pen M' p ∧ ∀ a, a ≠ p → a ≠ c → M a ≠ none → M' a = M a
theorem Fr.fh {p c : Addr} {M M' : Mp} (h : Fr p M M') : Fh p c M M' := ⟨h.1, fun a ha _ hn => h.2 a ha hn⟩
theorem Fh.trans {p c : Addr} {M M1 M2 : Mp} (h : Fh p c M M1) (k : Fh p c M1 M2) : Fh p c M M2 := ⟨k.1, fun a ha hc hn => by
 have e := h.2 a ha hc hn
 rw [← e]
 exact k.2 a ha hc (by rw [e]; exact hn)⟩
theorem Hs.fr {M M' : Mp} {p q c : Addr} {ls : List Str} {n : Nat} (h : Hs M p q c ls n) (k : Fr p M M') : Hs M' p q c ls n := by
 obtain ⟨f, ox, oy, e1, hf⟩ := h.h1
 obtain ⟨cs, e2, hc⟩ := h.h2
 exact ⟨⟨f, ox, oy, k.own e1 h.qp, hf⟩, ⟨cs, k.own e2 h.cp, hc⟩, h.qp, h.cp, h.cq, h.nm⟩
noncomputable def UE : DSp := fun xs M Φ => on1 xs fun x => onO x fun p => Pen M p ∧ ∀ q c ls M', M q = none → M c = none → Hs M' p q c ls 1 → Fr p M M' → Φ (.own q) M'
theorem CK (xs : List DV) (M : Mp) (Φ : DK) : UE xs M Φ = (on1 xs fun x => onO x fun p => Pen M p ∧ ∀ q c ls M', M q = none → M c = none → Hs M' p q c ls 1 → Fr p M M' → Φ (.own q) M') := propext Iff.rfl
noncomputable def Us : DSp := fun xs M Φ => on2 xs fun x y => onO x fun p => onO y fun q => ∃ c ls n, (Pen M p ∧ Hs M p q c ls n ∧ n ≤ 1000) ∧ ∀ (ou : Str) (bs : List B4) (wb : Int) M', (ou = Str.ofString "" ∨ ou ∈ ls) → Shp bs → (∀ b ∈ bs, Lim b) → (0 ≤ wb ∧ wb ≤ 10000000000) → Hs M' p q c ls (n + 12) → Fh p c M M' → Φ (.dat (.tuple [.str ou, .tuple (bs.map bD), .int wb])) M'
theorem CM (xs : List DV) (M : Mp) (Φ : DK) : Us xs M Φ = (on2 xs fun x y => onO x fun p => onO y fun q => ∃ c ls n, (Pen M p ∧ Hs M p q c ls n ∧ n ≤ 1000) ∧ ∀ (ou : Str) (bs : List B4) (wb : Int) M', (ou = Str.ofString "" ∨ ou ∈ ls) → Shp bs → (∀ b ∈ bs, Lim b) → (0 ≤ wb ∧ wb ≤ 10000000000) → Hs M' p q c ls (n + 12) → Fh p c M M' → Φ (.dat (.tuple [.str ou, .tuple (bs.map bD), .int wb])) M') := propext Iff.rfl
noncomputable def Ug : DSp := fun xs M Φ => on2 xs fun x y => onO x fun p => onO y fun q => ∃ c ls n, (Pen M p ∧ Hs M p q c ls n ∧ n ≤ 1000) ∧ ∀ u v M', Fr p M M' → Φ (.dat (.tuple [.int u, .int v])) M'
theorem C5 (xs : List DV) (M : Mp) (Φ : DK) : Ug xs M Φ = (on2 xs fun x y => onO x fun p => onO y fun q => ∃ c ls n, (Pen M p ∧ Hs M p q c ls n ∧ n ≤ 1000) ∧ ∀ u v M', Fr p M M' → Φ (.dat (.tuple [.int u, .int v])) M') := propext Iff.rfl
theorem Fr.fresh {p q : Addr} {M M' : Mp} (h : Fr p M M') (hq : M' q = none) : M q = none := by
 cases e : M q with
 | none => rfl
 | some o =>
  have hn : q ≠ p := Ne.symm (h.1.ne hq)
  rw [h.own e hn] at hq
  cases hq
theorem Fr.gone {p q : Addr} {M M' : Mp} (h : Fr p M M') (hq : M q = none) (hne : q ≠ p) : Fr p M (DL.VD M' q) := ⟨h.1.del (Ne.symm hne), fun a ha hn => by
 rw [VA (fun e => hn (by rw [e]; exact hq))]
 exact h.2 a ha hn⟩
theorem Fr.put {p q : Addr} {M M' : Mp} {o : OO} (h : Fr p M M') (hq : M q = none) (hne : q ≠ p) : Fr p M (DL.Zx M' q o) := ⟨h.1.put (Ne.symm hne), fun a ha hn => by
 rw [Zz (fun e => hn (by rw [e]; exact hq))]
 exact h.2 a ha hn⟩
theorem T4 (ls : List Str) (c : Addr) (f ox oy : Int) : Ge [(.inr (Str.ofString "lands"), .dat (.list (ls.map PyData.str))), (.inr (Str.ofString "corners"), .own c)] (.inr (Str.ofString "frame")) (.dat (.tuple [.int f, .int ox, .int oy])) = hsL ls c f ox oy := by
 have n : ¬ ([((.inr (Str.ofString "lands") : Key), DV.dat (.list (ls.map PyData.str))), (.inr (Str.ofString "corners"), .own c)].any fun p => decide (p.1 = .inr (Str.ofString "frame"))) = true := fun e => by
  obtain ⟨x, hx, e⟩ := List.any_eq_true.mp e
  have e := congrArg (fun k : Key => (k.elim (fun _ => []) fun s => s.cps.toList : List Nat)) (of_decide_eq_true e)
  rcases List.mem_cons.mp hx with rfl | hx
  ·exact absurd (show (Str.ofString "lands").cps.toList = (Str.ofString "frame").cps.toList from e) (by decide +kernel)
  ·rw [List.mem_singleton.mp hx] at e
   exact absurd (show (Str.ofString "corners").cps.toList = (Str.ofString "frame").cps.toList from e) (by decide +kernel)
 unfold Ge
 rw [if_neg n]
 rfl
theorem Zb9 {α : Type} {g : α → PyData} {l : List α} {r : Int} (h0 : 0 ≤ r) (h1 : r < l.length) {Q : PyData → Prop} (k : ∀ a ∈ l, Q (g a)) : YY (l.map g) r Q := by
 obtain ⟨j, rfl⟩ := Int.eq_ofNat_of_zero_le h0
 have hj : j < l.length := by omega
 refine Vu (d := g l[j]) (Vs ?_) (k _ (List.getElem_mem hj))
 rw [List.getElem?_map, List.getElem?_eq_getElem hj]
 rfl
theorem Fh.ext {p c b : Addr} {M M' : Mp} {o o' : OO} (h : Fh p c M M') (hp : p ≠ c) (hb : M' b = none) : Fh p c M (VD (Zx (Zx M' b o) c o') b) := ⟨((h.1.put (h.1.ne hb)).put hp).del (h.1.ne hb), fun a ha hc hn => by
 have e := h.2 a ha hc hn
 have nb : a ≠ b := fun z => hn (by rw [← e, z]; exact hb)
 rw [VA nb, Zz hc, Zz nb]
 exact e⟩
noncomputable def layB (f ox oy : Int) (b : B4) : B4 := ⟨b.x * f + 0 + ox, b.y * f + 0 + oy, b.X * f + (f - 1) + ox, b.Y * f + (f - 1) + oy⟩
theorem YA {x f : Int} (hx : -94 ≤ x ∧ x ≤ 94) (hf : 1 ≤ f ∧ f ≤ 1000000000) : -94000000000 ≤ x * f ∧ x * f ≤ 94000000000 := by
 have := Int.mul_le_mul_of_nonneg_right hx.1 (show 0 ≤ f by omega)
 have := Int.mul_le_mul_of_nonneg_right hx.2 (show 0 ≤ f by omega)
 omega
theorem EI {f x X : Int} (o : Int) (h : x ≤ X) (hf : 1 ≤ f) : x * f + 0 + o ≤ X * f + (f - 1) + o := by
 have := Int.mul_le_mul_of_nonneg_right h (show 0 ≤ f by omega)
 omega
noncomputable def YM (a m : Int) (l : Ld) : Ld := ⟨l.n, l.o, l.bs, l.wb * a + m⟩
theorem Wb (a m : Int) : ∀ l, (YM a m l).n = l.n ∧ (YM a m l).o = l.o := fun _ => ⟨rfl, rfl⟩
noncomputable def Xs : DSp := fun xs M Φ => on2 xs fun x y => WI x fun as => WI y fun bs => (as.length ≤ 100 ∧ (∀ s ∈ as, JH s) ∧ ∀ s ∈ bs, JH s) ∧ Φ (.dat (.bool (as.all fun s => decide (s ∈ bs)))) M
theorem BH (xs : List DV) (M : Mp) (Φ : DK) : Xs xs M Φ = (on2 xs fun x y => WI x fun as => WI y fun bs => (as.length ≤ 100 ∧ (∀ s ∈ as, JH s) ∧ ∀ s ∈ bs, JH s) ∧ Φ (.dat (.bool (as.all fun s => decide (s ∈ bs)))) M) := propext Iff.rfl
noncomputable def O7 : DSp := fun xs M Φ => on3 xs fun x y z => VN x fun ls => onI y fun a => onI z fun m => (ls.length ≤ 24 ∧ 0 ≤ a ∧ a ≤ 1) ∧ Φ (.dat (.tuple ((ls.map (YM a m)).map ldD))) M
theorem Rm (xs : List DV) (M : Mp) (Φ : DK) : O7 xs M Φ = (on3 xs fun x y z => VN x fun ls => onI y fun a => onI z fun m => (ls.length ≤ 24 ∧ 0 ≤ a ∧ a ≤ 1) ∧ Φ (.dat (.tuple ((ls.map (YM a m)).map ldD))) M) := propext Iff.rfl
noncomputable def Nms (ls : List Ld) (ns : List Str) : Prop := ∃ ini z, ns = ini ++ [z] ∧ (∀ l ∈ ls, l.n ∈ ini ∧ l.n ≠ z) ∧ ns.length ≤ 20 ∧ ∀ s ∈ ns, JH s
noncomputable def EW : DSp := fun xs M Φ => on4 xs fun x n y z => VN x fun ls => WI n fun ns => WI y fun ss => onP z fun u v => (Vr ls ∧ B2 ls ∧ Nms ls ns ∧ ss.length ≤ 20 ∧ ∀ s ∈ ss, s ∈ ns) ∧ Φ (.dat (.bool true)) M
theorem Lc (xs : List DV) (M : Mp) (Φ : DK) : EW xs M Φ = (on4 xs fun x n y z => VN x fun ls => WI n fun ns => WI y fun ss => onP z fun u v => (Vr ls ∧ B2 ls ∧ Nms ls ns ∧ ss.length ≤ 20 ∧ ∀ s ∈ ss, s ∈ ns) ∧ Φ (.dat (.bool true)) M) := propext Iff.rfl
noncomputable def Ut : DSp := fun xs M Φ => on2 xs fun x y => VN x fun ls => onS y fun g => (ls.length ≤ 24 ∧ B2 ls ∧ JH g) ∧ Φ (.dat (.list ((Qq ls g ls.length).map PyData.str))) M
theorem Cg (xs : List DV) (M : Mp) (Φ : DK) : Ut xs M Φ = (on2 xs fun x y => VN x fun ls => onS y fun g => (ls.length ≤ 24 ∧ B2 ls ∧ JH g) ∧ Φ (.dat (.list ((Qq ls g ls.length).map PyData.str))) M) := propext Iff.rfl
noncomputable def W2 : DSp := fun xs M Φ => on3 xs fun x y z => VN x fun ls => WI y fun ss => onP z fun u v => (Vr ls ∧ B2 ls ∧ ∀ s ∈ ss, JH s) ∧ ∀ M', (∀ a, M a ≠ none → M' a = M a) → Φ (.dat (.bool true)) M'
theorem E1 (xs : List DV) (M : Mp) (Φ : DK) : W2 xs M Φ = (on3 xs fun x y z => VN x fun ls => WI y fun ss => onP z fun u v => (Vr ls ∧ B2 ls ∧ ∀ s ∈ ss, JH s) ∧ ∀ M', (∀ a, M a ≠ none → M' a = M a) → Φ (.dat (.bool true)) M') := propext Iff.rfl
theorem OZ (ss : List Str) (h : ∀ s ∈ ss, JH s) : CP (.list (ss.map PyData.str)) (.list (ss.map PyData.str)) = true ∧ PyData.eqv (.list (ss.map PyData.str)) (.list (ss.map PyData.str)) = true := by
 have lay : PyData.canLayAll0 (ss.map PyData.str) = true ∧ PyData.depthAll (ss.map PyData.str) = 0 := by
  induction ss with
  | nil => simp [PyData.canLayAll0, PyData.depthAll]
  | cons x l ih =>
   have := ih fun t ht => h t (.tail _ ht)
   rw [List.map_cons, PyData.canLayAll0, PyData.depthAll, this.1, this.2, h x (.head _)]
   simp [PyData.depth]
 have c : (PyData.list (ss.map PyData.str)).canLay0 = true := lay.1
 refine ⟨?_, PySem.SeqAt.eqv_refl _ c⟩
 unfold CP
 rw [c, PyData.depth, lay.2]
 rfl
theorem PR (ss : List Str) (h : ∀ s ∈ ss, JH s) {P : Bool → Prop} (k : P (decide (ss = []))) : eqD (.list (ss.map PyData.str)) (.list []) P := by
 refine Dp ?_ ?_
 ·have lay : PyData.canLayAll0 (ss.map PyData.str) = true ∧ PyData.depthAll (ss.map PyData.str) = 0 := by
   clear k
   induction ss with
   | nil => simp [PyData.canLayAll0, PyData.depthAll]
   | cons x l ih =>
    have := ih fun t ht => h t (.tail _ ht)
    rw [List.map_cons, PyData.canLayAll0, PyData.depthAll, this.1, this.2, h x (.head _)]
    simp [PyData.depth]
  unfold CP
  simp only [PyData.canLay0, lay.1, Bool.true_and]
  simp [PyData.canLayAll0, PyData.depth, PyData.depthAll, lay.2]
 ·cases ss with
  | nil => simpa [Dq, W7] using k
  | cons p ps => simpa [Dq, E4] using k
theorem XM {as bs : List Str} (h : ∀ s ∈ as, s ∈ bs) : (as.all fun s => decide (s ∈ bs)) = true := List.all_eq_true.mpr fun s hs => decide_eq_true (h s hs)
theorem Km {ss : List Str} (h : ∀ s ∈ ss, JH s) {P : Bool → Prop} (k : P true) : eqD (.list (ss.map PyData.str)) (.list (ss.map PyData.str)) P := by
 obtain ⟨e1, e2⟩ := OZ ss h
 refine Dp e1 ?_
 rw [e2]
 exact k
theorem MB {ini : List Str} {z : Str} : DL.cutD ((ini ++ [z]).map PyData.str) (some (-1)) none = [.str z] := by
 unfold DL.cutD
 rw [List.map_append, List.map_cons, List.map_nil]
 have e : HT.sIx (ini.map PyData.str ++ [PyData.str z]).length 0 (some (-1)) = (ini.map PyData.str).length := by
  rw [List.length_append]
  unfold HT.sIx
  dsimp only
  rw [if_pos (by decide), List.length_singleton]
  omega
 rw [e, List.drop_left, HT.VQ]
 simp
theorem looks {ls ls' : List Ld} (hO : Xa ls ls') (hL : B2 ls) {ss ns : List Str} {u v : Int} (hp : ns.Perm (ZZ ss u v ls')) : (∀ s ∈ ns, JH s) ∧ ns.length ≤ ls.length := by
 refine ⟨fun s hs => ?_, ?_⟩
 ·exact KP (P := JH) (fun l hl => (hL l (hO.mem hl)).1) s (hp.mem_iff.mp hs)
 ·have := Yu ss u v ls'
  have := hO.len
  rw [hp.length_eq]
  omega
theorem B2.map {ls : List Ld} (h : B2 ls) (a m : Int) : B2 (ls.map (YM a m)) := fun l hl => by
 obtain ⟨l', q, rfl⟩ := List.mem_map.mp hl
 exact h l' q
theorem B5 {ss : List Str} {u v : Int} {ls ls' : List Ld} (ho : Vr ls) (hO : Xa ls ls') {s : Str} (h : s ∈ ZZ ss u v ls') : ∃ l ∈ ls, l.n = s ∧ J0 (ls.map ldR) s = some l.o ∧ (l.o = Str.ofString "" ∨ l.o ∈ ZZ ss u v ls') := by
 obtain ⟨l, m, e, _, q⟩ := Fv h
 refine ⟨l, hO.mem m, e, ?_, q⟩
 rw [← e]
 exact Gf (r := ldR l) ho.CI (List.mem_map_of_mem (hO.mem m))
theorem RY {x : PyData} {c : Prop} [Decidable c] {o b : Bool} {F F2 A : Prop} (ho : o = true) (h : c ∨ b = true) (k : A) : if (!(some x).isSome) = true then F else if (!decide c) = true then o = true ∧ (if (!b) = true then F2 else A) else A := by
 rw [if_neg (by simp)]
 rcases h with h | h
 ·rw [decide_eq_true h, if_neg (by decide)]
  exact k
 ·rw [h, if_neg (show ¬ (!true) = true by decide)]
  split
  ·exact ⟨ho, k⟩
  ·exact k
noncomputable def Ou (ls : List Str) (s : Str) : Prop := s = Str.ofString "" ∨ s ∈ ls
noncomputable def Gd (ls : List Str) (l : Ld) : Prop := l.n ∈ ls.take 5 ∧ Ou ls l.o ∧ Shp l.bs ∧ (∀ b ∈ l.bs, Lim b) ∧ 0 ≤ l.wb ∧ l.wb ≤ 10000000000
noncomputable def U5 : DSp := fun xs M Φ => on2 xs fun x y => onO x fun p => onO y fun q => ∃ c ls n, (Pen M p ∧ Hs M p q c ls n ∧ n ≤ 500) ∧ ∀ lds M', lds.length ≤ 5 → Vr lds → (∀ l ∈ lds, Gd ls l) → Hs M' p q c ls (n + 60) → Fh p c M M' → Φ (.dat (.tuple (lds.map ldD))) M'
theorem Fq (xs : List DV) (M : Mp) (Φ : DK) : U5 xs M Φ = (on2 xs fun x y => onO x fun p => onO y fun q => ∃ c ls n, (Pen M p ∧ Hs M p q c ls n ∧ n ≤ 500) ∧ ∀ lds M', lds.length ≤ 5 → Vr lds → (∀ l ∈ lds, Gd ls l) → Hs M' p q c ls (n + 60) → Fh p c M M' → Φ (.dat (.tuple (lds.map ldD))) M') := propext Iff.rfl
theorem KY.lay {s : Str} (h : KY s) : JH s := by
 show s.cps.all (fun c => decide (c < 0x110000)) = true
 rw [← Array.all_toList]
 exact List.all_eq_true.mpr fun c hc => decide_eq_true (by have := h.2 c hc; omega)
theorem ZbH : JH (Str.ofString "") := by
 unfold JH
 decide +kernel
theorem Ou.lay {ls : List Str} {s : Str} (h : Ou ls s) (k : ∀ s ∈ ls, KY s) : JH s := by
 rcases h with rfl | h
 ·exact ZbH
 ·exact (k s h).lay
theorem Rp {ls : List Ld} (hn : (ls.map (·.n)).Nodup) (hl : ls.length ≤ 24) (ok : ∀ l ∈ ls, Zbl l) {ls' : List Ld} (hp : ls'.Perm ls) (hs : (ls'.map ldD).Pairwise leK) : Vr ls' := by
 refine ⟨by rw [hp.length_eq]; exact hl, fun l hl => ok l (hp.mem_iff.mp hl), ?_⟩
 have nd : (ls'.map (·.n)).Nodup := (List.Perm.nodup_iff (hp.map _)).mpr hn
 rw [List.nodup_iff_pairwise_ne, List.pairwise_map] at nd
 rw [List.pairwise_map] at hs
 refine (nd.and hs).imp fun {a b} h => ?_
 have h2 := h.2 a.n b.n rfl rfl
 rcases (List.le_iff_lt_or_eq (l₁ := a.n.cps.toList) (l₂ := b.n.cps.toList)).mp h2 with z | z
 ·exact z
 ·exact absurd (WZ z) h.1
theorem Ft {α : Type} {g : α → PyData} {l : List α} (h : l ≠ []) {Q : PyData → Prop} (k : ∀ a ∈ l, Q (g a)) : YY (l.map g) (-1) Q := by
 show WY (l.map g).reverse 0 Q
 rw [← List.map_reverse]
 cases e : l.reverse with
 | nil => exact absurd (List.reverse_eq_nil_iff.mp e) h
 | cons a r =>
  rw [List.map_cons]
  exact k a (List.mem_reverse.mp (by rw [e]; exact List.mem_cons_self))
theorem Hs.keep {M M' : Mp} {p q c : Addr} {ls : List Str} {n : Nat} (h : Hs M p q c ls n) (k : ∀ a, M a ≠ none → M' a = M a) : Hs M' p q c ls n := by
 obtain ⟨f, ox, oy, e1, hf⟩ := h.h1
 obtain ⟨cs, e2, hc⟩ := h.h2
 exact ⟨⟨f, ox, oy, (k q (by rw [e1]; exact Option.some_ne_none _)).trans e1, hf⟩, ⟨cs, (k c (by rw [e2]; exact Option.some_ne_none _)).trans e2, hc⟩, h.qp, h.cp, h.cq, h.nm⟩
theorem Pen.keep {M M' : Mp} {p : Addr} (h : Pen M p) (k : ∀ a, M a ≠ none → M' a = M a) : Pen M' p := by
 obtain ⟨o, h1, h2⟩ := h
 exact ⟨o, h1, (k p (by rw [h2]; exact Option.some_ne_none _)).trans h2⟩
theorem Hs.put {M : Mp} {p q c r : Addr} {ls : List Str} {n : Nat} {o : OO} (h : Hs M p q c ls n) (h1 : q ≠ r) (h2 : c ≠ r) : Hs (Zx M r o) p q c ls n := by
 obtain ⟨f, ox, oy, e1, hf⟩ := h.h1
 obtain ⟨cs, e2, hc⟩ := h.h2
 exact ⟨⟨f, ox, oy, (Zz h1).trans e1, hf⟩, ⟨cs, (Zz h2).trans e2, hc⟩, h.qp, h.cp, h.cq, h.nm⟩
theorem Hs.le {M : Mp} {p q c : Addr} {ls : List Str} {n m : Nat} (h : Hs M p q c ls n) (hm : n ≤ m) : Hs M p q c ls m := by
 obtain ⟨cs, e2, hc, h1, h2⟩ := h.h2
 exact ⟨h.h1, ⟨cs, e2, hc, h1, Nat.le_trans h2 hm⟩, h.qp, h.cp, h.cq, h.nm⟩
theorem Na {bs : List Str} {j : Int} (h0 : 0 ≤ j) (h1 : j ≤ bs.length) : DL.cutD (bs.map PyData.str) none (some j) = (bs.take j.toNat).map PyData.str := by
 unfold DL.cutD
 rw [NH h0, HT.VQ, List.drop_zero, List.length_map, Nat.sub_zero, ← List.map_take]
 congr 2
 omega
theorem ZaR {M : Mp} {wy : Int} {ls : List Str} {rows : List Ld} {ou : Str} {F : PyData → Prop} (hrg : ∀ l ∈ rows, Gd ls l) (hou : Ou ls ou) (k : ∀ ou, Ou ls ou → F (.str ou)) :
  if (!(rows.map ldD).isEmpty) = true then (if decide (wy < 2) = true then YY (rows.map ldD) (-1) fun d => onQ (.dat d) M fun ds => YY ds 0 fun d => F d else if decide (wy < 2) = true then F (.str (Str.ofString "")) else F (.str ou)) else if decide (wy < 2) = true then F (.str (Str.ofString "")) else F (.str ou) := by
 have tail : if decide (wy < 2) = true then F (.str (Str.ofString "")) else F (.str ou) := by
  split
  ·exact k _ (.inl rfl)
  ·exact k _ hou
 cases rows with
 | nil => exact tail
 | cons a r =>
  rw [if_pos (by rfl)]
  by_cases z : decide (wy < 2) = true
  ·rw [if_pos z]
   refine Ft (List.cons_ne_nil _ _) fun l hl => ?_
   exact k l.n (.inr (List.mem_of_mem_take (hrg l hl).1))
  ·rw [if_neg z]
   exact tail
noncomputable def Bq (bs : List B4) : Prop := Shp bs ∧ ∀ b ∈ bs, Lim b
theorem SN {M : Mp} {w : Int} {ls : List Str} {rows : List Ld} {bs : List B4} {F : PyData → Prop} (hrg : ∀ l ∈ rows, Gd ls l) (hb : Bq bs) (k : ∀ bs, Bq bs → F (.tuple (bs.map bD))) :
  if (!(rows.map ldD).isEmpty) = true then (if decide (w = 0) = true then YY (rows.map ldD) (-1) fun d => onQ (.dat d) M fun ds => YY ds 2 fun d => F d else F (.tuple (bs.map bD))) else F (.tuple (bs.map bD)) := by
 cases rows with
 | nil => exact k bs hb
 | cons a r =>
  rw [if_pos (by rfl)]
  split
  ·refine Ft (List.cons_ne_nil _ _) fun l hl => ?_
   exact k l.bs ⟨(hrg l hl).2.2.1, (hrg l hl).2.2.2.1⟩
  ·exact k bs hb
theorem Za5 {ls : List Ld} {ns : List Str} (hg : ∀ l ∈ ls, l.n ∈ ns.take 5) (hl : ns.length = 6) (hd : ns.Nodup) (hN : ∀ s ∈ ns, KY s) : Nms ls ns := by
 obtain ⟨z, ez⟩ : ∃ z, ns[5]? = some z := ⟨_, List.getElem?_eq_getElem (by omega)⟩
 have e : ns = ns.take 5 ++ [z] := by
  have := take_snoc (fun s : Str => s) ez
  rw [List.map_id', List.map_id'] at this
  rw [this]
  exact (List.take_of_length_le (by omega)).symm
 refine ⟨ns.take 5, z, e, fun l hl => ⟨hg l hl, fun q => ?_⟩, by omega, fun s hs => (hN s hs).lay⟩
 rw [e, List.nodup_append] at hd
 exact hd.2.2 _ (hg l hl) z (List.mem_singleton.mpr rfl) q
local macro_rules | `(tactic| walk_at "rk") => `(tactic| try simp (config := { maxSteps := 10000000 }) only [↓LQ, ↓HX, ↓Mc, ↓MO, ↓MC, ↓MP, ↓He, ↓H0, ↓CQ, ↓C9, ↓OV, ↓PF, ↓P5, ↓O3, ↓RI, ↓Hu, ↓L3, ↓LR, ↓Mv, ↓LP, ↓L0, ↓Mx, ↓Hg, ↓HS, ↓Hw, ↓Lz, ↓Mr, ↓MS, ↓LF, ↓Mq, ↓HF, ↓FX, ↓Ea, ↓Fs, ↓ZaA, ↓Ze1, ↓ZcA, ↓ZdE, ↓Zfc, ↓LC, ↓Zbu, ↓Zdp, ↓SJ, ↓PH, ↓Zbc, ↓P4, ↓Zdm, ↓Sr, ↓ZdC, ↓S1, ↓Zch, ↓LA, ↓Mg, ↓Cd, ↓Te, ↓Rn, ↓SU, ↓Zac, ↓Pb, ↓ZbE, ↓LD, ↓La, ↓HA, ↓Lp, ↓LB, ↓Hx, ↓HV, ↓MT, ↓SO, ↓ZdG, ↓PD, ↓Hj, ↓MW, ↓O8, ↓Zbd, ↓BG, ↓Lk, ↓B9, ↓LG, ↓HR, ↓Lm, ↓Za6, ↓Zad, ↓Rg, ↓R3, ↓Fi, ↓PX, ↓Zah, ↓Ox, ↓ZaW, ↓LW, ↓Of, ↓Sb, ↓SW, ↓Pz, ↓S8, ↓Qn, ↓BX, ↓WW, ↓L7, ↓Nd, ↓O4, ↓RD, ↓SA, ↓E8, ↓Rw, ↓ON, ↓Nf, ↓Hi, ↓Rt, ↓Mu, ↓Cp, ↓Fd, ↓MH, ↓MU, ↓Em, ↓ZcV, ↓SH, ↓To, ↓P1, ↓O2, ↓Ma, ↓MQ, ↓OU, ↓Tn, ↓C8, ↓Lo, ↓LZ, ↓SX, ↓EJ, ↓OD, ↓OH, ↓So, ↓FF, ↓Tc, ↓Lj, ↓MY, ↓Lg, ↓Ll, ↓Tp, ↓Lw, ↓ZbD, ↓FY, ↓ZaQ, ↓Mw, ↓FO, ↓Pn, ↓Lx, ↓RH, ↓RG, ↓PJ, ↓Ht, ↓MZ, ↓RK, ↓TY, ↓LJ, ↓Zaf, ↓Nc, ↓Po, ↓CB, ↓Br, Ep, DC, MM, HB, HJ, Bf, VG, C0, ZcQ, HC, Zab, NQ, Nq, NY, ZaD, isNone_none, UJ, B7, Ca, UI, WC, Uq,
 Option.bind_some, Option.bind_none, Option.join_some, Option.join_none, Option.getD_some, Option.map_some, Option.map_none, List.getElem?_cons_zero, List.getElem?_cons_succ, List.set_cons_zero, List.set_cons_succ, List.map_cons, List.map_nil, List.length_cons, List.length_nil, List.replicate, List.cons_append, List.nil_append, List.any_cons, List.any_nil,
 ZI, CL, ↓reduceIte, Bool.not_true, Bool.not_false, Bool.or_false, Bool.or_true, Bool.true_or, Bool.false_or, Bool.and_true, Bool.and_false, Bool.true_and, Bool.false_and, Bool.bne_true, Bool.bne_false, Bool.false_eq_true, eq_self, true_and, and_true, ZbI, ZaN, TN, exists_eq_left', exists_eq_left, Option.some.injEq, Nat.reduceAdd, Nat.reduceSub, Nat.zero_add, Nat.reduceLT, Nat.reduceLeDiff, Int.reduceToNat, Int.reducePow, Int.reduceSub, Int.reduceMul, Int.reduceAdd, Int.reduceNeg,
 Int.reduceLT, Int.reduceLE, Int.reduceEq, Int.zero_add, Int.cast_ofNat_Int, decide_true, decide_false, sizeLine_eq, W7, Lb, E4, ZaU, Zcy, Dq, ZcH, Zc4, PB, Zda, W9, UG, BU, B6, Uu, Kq, WS, Wl, We, W3, UH, Kz, Kf, K3, XC, Kb, WE, K8, XH, YQ, Xi, Kr, Ky, UC, WK, K2, X0, Wu, WT, UU, Bo, BR, W6, Wd, Uy, Wk, K0, U9, Ud, Ks, X4, K4, ↓HG, ↓HD, ↓Nh, ↓HK, O1, PV, ↓OA, ↓PZ, ↓WQ, ↓ZaP, ↓Hm, ↓EC, ↓BJ, ↓Bm, ↓Ph, ↓Mo, ↓Lf, ↓Eh, ↓Mf, ↓TK, ↓OG, ↓Mb, ↓HU, ↓Og, ↓Tf, ↓Rk, ↓Dx, ↓D7, ↓Oq, ↓PQ, ↓O5, ↓Pu, ↓MJ, ↓En, ↓Fl, ↓Py, ↓DX, ↓BF, ↓Hf, ↓Ot, ↓R4, ↓Um, ↓KZ, ↓LL, ↓MG, ↓Fn, ↓LV, ↓L6, ↓OW, ↓P2, ↓CU, ↓UP, ↓Ob, ↓LY, ↓OT, ↓Ms, ↓LK, ↓OB, ↓BL, ↓OL, ↓Fp, ↓Cs, ↓FH, ↓Dg, ↓BW, ↓HY, ↓ML, RP, ↓Ek, ↓LH, ↓RM, ↓DB, ZdF, ZfB, ZeS, Zfa, ↓BY, ↓BD, ↓Fj, ↓CK, ↓CM, ↓C5, ↓D6, ↓ZaG, ↓BH, ↓Rm, ↓Lc, ↓Cg, ↓E1, ↓Fq])
theorem KH (T : Tx K mg) : ZU P w K mg base CX0 1 T.JS T.JP ["box"] (lift K PN) := by
 refine okD T.Q7.F K6 (fun xs M Φ h => by obtain ⟨_, rfl, _⟩ := Z9 h; rfl) fun cdv A outer s H E hr => ⟨_, (Zh (Zr (NZ (Xd ZbC (Zi (Zi (Zb 0) Zc) Zc) (Zi (Zi (Zb 0) Zc) Zc)) (E3 (Xd ZbC (Zi (Zi (Zb 0) Zc) Zc) (Zi (Zi (Zb 0) Zc) Zc)))))), fun xs M Φ h => ?_⟩
 replace h := Z9 h
 obtain ⟨x1, rfl, h⟩ := h
 replace h := Jo h
 obtain ⟨b, rfl, h⟩ := h
 walk_at "rk"
 refine Zw (fun h1 => ?_) (fun h1 => ?_)
 ·unfold okB at h
  simpa [h1] using h
 ·unfold okB at h
  simpa [h1] using h
theorem Zas (T : Tx K mg) : ZU P w K mg base CX0 1 T.R0 T.PU ["one", "other", "way"] (lift K Rx) := by
 refine okD T.WV.F S9 (fun xs M Φ h => by obtain ⟨_, _, _, rfl, _⟩ := QI h; rfl) fun cdv A outer s H E hr => ⟨_, (Zh (Zr (Zu (O6 rfl) rfl T.Hh G9 (Za Zc (Za (Zm Qe (Zi (Zi (Zb 1) Zc) (Zb 2)) (Zi (Zi (Zb 0) Zc) (Zb 2))) (Za (Zm Qe (Zi (Zi (Zb 0) Zc) (Zb 2)) (Zi (Zi (Zb 1) Zc) (Zb 2))) Zd)))))), fun xs M Φ h => ?_⟩
 replace h := QI h
 obtain ⟨x1, x2, x3, rfl, h⟩ := h
 replace h := Jo h
 obtain ⟨a, rfl, h⟩ := h
 replace h := Jo h
 obtain ⟨b, rfl, h⟩ := h
 replace h := ZG h
 obtain ⟨i, rfl, hi, h⟩ := h
 rcases hi with rfl | rfl
 ·walk_at "rk"
  exact h
 ·walk_at "rk"
  exact h
theorem Q9 (T : Tx K mg) : ZU P w K mg base CX0 2 T.Qh T.Qf ["one", "other"] (lift K Vf) := by
 have G_gap : ZU P w K mg base CX0 1 T.R0 T.PU ["one", "other", "way"] (lift K Rx) := Zas T
 refine okD T.ZK.F VO (fun xs M Φ h => by obtain ⟨_, _, rfl, _⟩ := Zy h; rfl) fun cdv A outer s H E hr => ⟨_, (Zh (Zr (Zu (UM rfl) rfl T.Hh G9 (Za (Zg G_gap (hr.mono (by first | decide | omega)) rfl T.WV.m T.WV.F.kp T.WV.b Zp (Za (Zb 0) (Za (Zb 1) (Za Zc Zd)))) (Za (Zg G_gap (hr.mono (by first | decide | omega)) rfl T.WV.m T.WV.F.kp T.WV.b Zp (Za (Zb 0) (Za (Zb 1) (Za Zc Zd)))) Zd))))), fun xs M Φ h => ?_⟩
 replace h := Zy h
 obtain ⟨x1, x2, rfl, h⟩ := h
 replace h := Jo h
 obtain ⟨a, rfl, h⟩ := h
 replace h := Jo h
 obtain ⟨b, rfl, h⟩ := h
 walk_at "rk"
 exact ⟨.inl trivial, .inr trivial, h⟩
theorem Ue (T : Tx K mg) : ZU P w K mg base CX0 3 T.Vw T.Vo ["box", "spot"] (lift K ZdD) := by
 have G_steps_between : ZU P w K mg base CX0 2 T.Qh T.Qf ["one", "other"] (lift K Vf) := Q9 T
 refine okD T.Jy.F U3 (fun xs M Φ h => by obtain ⟨_, _, rfl, _⟩ := Zy h; rfl) fun cdv A outer s H E hr => ⟨_, (Zh (Zr (Zg G_steps_between (hr.mono (by first | decide | omega)) rfl T.ZK.m T.ZK.F.kp T.ZK.b Zp (Za (Zb 0) (Za (ZJ (Za (Zb 1) (Za (Zb 1) Zd))) Zd))))), fun xs M Φ h => ?_⟩
 replace h := Zy h
 obtain ⟨x1, x2, rfl, h⟩ := h
 replace h := Jo h
 obtain ⟨a, rfl, h⟩ := h
 replace h := J5 h
 obtain ⟨u, v, rfl, h⟩ := h
 walk_at "rk"
 exact h
theorem Fc (T : Tx K mg) : ZU P w K mg base CX0 1 T.XE T.Xg ["one", "other"] (lift K XZ) := by
 refine okD T.V5.F Ya (fun xs M Φ h => by obtain ⟨_, _, rfl, _⟩ := Zy h; rfl) fun cdv A outer s H E hr => ⟨_, (Ze (Zk 2 Ya.nd (ZJ (Za (Zu (UM rfl) rfl T.Hh G9 (Za (Zi (Zi (Zb 0) Zc) Zc) (Za (Zi (Zi (Zb 1) Zc) Zc) Zd))) (Za (Zu (UM rfl) rfl T.Hh G9 (Za (Zi (Zi (Zb 0) Zc) Zc) (Za (Zi (Zi (Zb 1) Zc) Zc) Zd))) Zd))))
 (Ze (Zk 3 Ya.nd (ZJ (Za (Zu (FJ rfl) rfl T.OX Fb (Za (Zi (Zi (Zb 0) Zc) Zc) (Za (Zi (Zi (Zb 1) Zc) Zc) Zd))) (Za (Zu (FJ rfl) rfl T.OX Fb (Za (Zi (Zi (Zb 0) Zc) Zc) (Za (Zi (Zi (Zb 1) Zc) Zc) Zd))) Zd))))
 (Zh (Zr (ZJ (Za (Zb 2) (Za (Zb 3) Zd))))))), fun xs M Φ h => ?_⟩
 replace h := Zy h
 obtain ⟨x1, x2, rfl, h⟩ := h
 replace h := Jo h
 obtain ⟨a, rfl, h⟩ := h
 replace h := Jo h
 obtain ⟨b, rfl, h⟩ := h
 walk_at "hd"
 walk_at "rk"
 walk_at "hd"
 walk_at "rk"
 subst_vars
 walk_at "rk"
 exact h
theorem BC (T : Tx K mg) : ZU P w K mg base CX0 3 T.Yw T.YH ["one", "other"] (lift K RB) := by
 have G_common : ZU P w K mg base CX0 1 T.XE T.Xg ["one", "other"] (lift K XZ) := Fc T
 have G_steps_between : ZU P w K mg base CX0 2 T.Qh T.Qf ["one", "other"] (lift K Vf) := Q9 T
 have G_has_spots : ZU P w K mg base CX0 1 T.JS T.JP ["box"] (lift K PN) := KH T
 refine okD T.Vh.F Qy (fun xs M Φ h => by obtain ⟨_, _, rfl, _⟩ := Zy h; rfl) fun cdv A outer s H E hr => ⟨_, (Ze (Qv (ZA Mt (Zg G_steps_between (hr.mono (by first | decide | omega)) rfl T.ZK.m T.ZK.F.kp T.ZK.b Zp (Za (Zb 0) (Za (Zb 1) Zd))) Zc) (Zh (Zr (QD (Za (Zb 0) Zd)))) ZP)
 (Ze (Zk 2 Qy.nd (Zg G_common (hr.mono (by first | decide | omega)) rfl T.V5.m T.V5.F.kp T.V5.b Zp (Za (Zb 0) (Za (Zb 1) Zd))))
 (Ze (Zk 3 Qy.nd (ZJ (Za (Zi (Zb 0) Zc) (Za (ZJ (Za (Zm Qe (Zi (Zi (Zb 2) Zc) Zc) Zc) (Za (Zi (Zi (Zb 0) Zc) Zc) Zd))) Zd))))
 (Ze (Zk 4 Qy.nd (ZJ (Za (ZJ (Za (Zm ZL (Zi (Zi (Zb 2) Zc) Zc) Zc) (Za (Zi (Zi (Zb 0) Zc) Zc) Zd))) (Za (Zi (Zb 0) Zc) Zd))))
 (Ze (Zk 5 Qy.nd (ZJ (Za (ZJ (Za (Zi (Zi (Zb 2) Zc) Zc) (Za (Zi (Zi (Zb 0) Zc) Zc) Zd))) (Za (ZJ (Za (Zi (Zi (Zb 2) Zc) Zc) (Za (Zm Qe (Zi (Zi (Zb 2) Zc) Zc) Zc) Zd))) Zd))))
 (Ze (Zk 6 Qy.nd (ZJ (Za (ZJ (Za (Zi (Zi (Zb 2) Zc) Zc) (Za (Zm ZL (Zi (Zi (Zb 2) Zc) Zc) Zc) Zd))) (Za (ZJ (Za (Zi (Zi (Zb 2) Zc) Zc) (Za (Zi (Zi (Zb 0) Zc) Zc) Zd))) Zd))))
 (Zh (Zr (Z5 true (Zv (sc := Zf QG) (XN := ["one", "other", "middle", "left", "right", "below", "above"]) (N := ["piece"]) (ix := [none]) rfl rfl (by decide +kernel)) (Q4 (Qc (Za (Zb 3) (Za (Zb 4) (Za (Zb 5) (Za (Zb 6) Zd)))))) (fun C ex s H => (Zn 0 (show List.Nodup (["piece"] : List Str) by decide +kernel))) (fun C ex s H => (JQ (V8 (Zg G_has_spots (hr.mono (by first | decide | omega)) rfl T.Q7.m T.Q7.F.kp T.Q7.b Zp (Za (Zb 0) Zd))))) (fun C ex s H => (Zb 0)) rfl))))))))), fun xs M Φ h => ?_⟩
 replace h := Zy h
 obtain ⟨x1, x2, rfl, h⟩ := h
 replace h := Jo h
 obtain ⟨a, rfl, h⟩ := h
 replace h := Jo h
 obtain ⟨b, rfl, h⟩ := h
 walk_at "hd"
 walk_at "rk"
 refine Zw (fun hk => ?_) (fun hk => ?_)
 ·intro p hp
  have h' := h p hp
  rw [show YN a b = [a] from if_pos hk] at h'
  exact h'
 ·have ec : YN a b = (Cc a b).filter okB := if_neg hk
  walk_at "hd"
  walk_at "rk"
  walk_at "hd"
  walk_at "rk"
  walk_at "hd"
  walk_at "rk"
  walk_at "hd"
  walk_at "rk"
  walk_at "hd"
  walk_at "rk"
  subst_vars
  walk_at "rk"
  refine ⟨fun i acc M' => acc = (((Cc a b).take i).filter okB).map bD ∧ M' = M, ⟨rfl, rfl⟩, ?_, ?_⟩
  ·rintro i d acc M' hd ⟨rfl, rfl⟩
   have hd' : ((Cc a b).map bD)[i]? = some d := hd
   obtain ⟨q, eq, rfl⟩ := ZE hd'
   walk_at "rk"
   rw [WM okB eq, List.map_append]
   cases okB q with
   | true => rfl
   | false => simp
  ·rintro acc M' ⟨rfl, rfl⟩
   rw [ec] at h
   exact h
theorem KJ (T : Tx K mg) : ZU P w K mg base CX0 4 T.JX T.JZ ["box", "others"] (lift K CW) := by
 have G_cut_out : ZU P w K mg base CX0 3 T.Yw T.YH ["one", "other"] (lift K RB) := BC T
 refine okD T.Q1.F Qb (fun xs M Φ h => by obtain ⟨_, _, rfl, _⟩ := Zy h; rfl) fun cdv A outer s H E hr => ⟨_, (Ze (Zk 2 Qb.nd (Qc (Za (Zb 0) Zd)))
 (Ze (PY (Zb 1) (Zn 3 Qb.nd) (Ze (Zk 4 Qb.nd (QD Zd))
 (Ze (YL (Zb 2) (Zn 5 Qb.nd) (Zh (JO (Yj (Zb 4) (Zg G_cut_out (hr.mono (by first | decide | omega)) rfl T.Vh.m T.Vh.F.kp T.Vh.b Zp (Za (Zb 5) (Za (Zb 3) Zd)))))) PassesOwn.never rfl)
 (Zh (Zk 2 Qb.nd (Ku (Zb 4)))))) PassesOwn.never rfl)
 (Zh (Zr (Zb 2))))), fun xs M Φ h => ?_⟩
 replace h := Zy h
 obtain ⟨x1, x2, rfl, h⟩ := h
 replace h := Jo h
 obtain ⟨a, rfl, h⟩ := h
 replace h := WJ h
 obtain ⟨bs, rfl, hl, h⟩ := h
 walk_at "hd"
 walk_at "rk"
 walk_at "hd"
 walk_at "rk"
 refine ⟨fun i Δ M' => ∃ k3 k4 k5, Δ = [some (.dat (bD a)), some (.dat (.tuple (bs.map bD))), some (.dat (.list ((QX a (bs.take i)).map bD))), k3, k4, k5] ∧ M' = M, ⟨none, none, none, rfl, rfl⟩, ?_, ?_⟩
 ·rintro i d Δ M' hd ⟨k3, k4, k5, rfl, rfl⟩
  obtain ⟨b, eb, rfl⟩ := ZE hd
  have len := EB a (bs.take i) (by rw [List.length_take]; omega)
  walk_at "rk"
  intro q hq
  refine ⟨fun j Δ M2 => ∃ k5, Δ = [some (.dat (bD a)), some (.dat (.tuple (bs.map bD))), some (.dat (.list ((QX a (bs.take i)).map bD))), some (.dat (bD b)), some (.own q), k5] ∧ M2 = Zx M' q (.lst ((((QX a (bs.take i)).take j).flatMap fun p => YN p b).map bD)), ⟨k5, rfl, rfl⟩, ?_, ?_⟩
  ·rintro j d Δ M2 hd2 ⟨k5, rfl, rfl⟩
   obtain ⟨p, ep, rfl⟩ := ZE hd2
   walk_at "rk"
   intro c hc
   have hne := fresh_ne hc
   simp only [Zz (Ne.symm hne)]
   walk_at "rk"
   refine ⟨hne, ?_, _, rfl, ?_⟩
   ·have h1 := Xq (fun p => YN p b) 4 ((QX a (bs.take i)).take j) fun p _ => Xz p b
    have h2 := Xz p b
    rw [List.length_take] at h1
    rw [List.length_map, List.length_map]
    omega
   ·rw [Cm hc, ← List.map_append, Ef (fun p => YN p b) ep]
  ·rintro Δ M2 ⟨k5, rfl, rfl⟩
   rw [List.length_map, List.take_length]
   walk_at "rk"
   exact ⟨_, _, _, by rw [BE eb], Ja hq⟩
 ·rintro Δ M' ⟨k3, k4, k5, rfl, rfl⟩
  rw [List.length_map, List.take_length]
  subst_vars
  walk_at "rk"
  exact h
theorem Df (T : Tx K mg) : ZU P w K mg base CX0 1 T.Ki T.Xt ["spot", "r"] (lift K Kl) := by
 refine okD T.VS.F Ex (fun xs M Φ h => by obtain ⟨_, _, rfl, _⟩ := Zy h; rfl) fun cdv A outer s H E hr => ⟨_, (Zh (Zr (ZJ (Za (ZJ (Za (Zm Qe (Zi (Zb 0) Zc) (Zb 1)) (Za (Zm Qe (Zi (Zb 0) Zc) (Zb 1)) Zd))) (Za (ZJ (Za (Zm ZL (Zi (Zb 0) Zc) (Zb 1)) (Za (Zm ZL (Zi (Zb 0) Zc) (Zb 1)) Zd))) Zd))))), fun xs M Φ h => ?_⟩
 replace h := Zy h
 obtain ⟨x1, x2, rfl, h⟩ := h
 replace h := J5 h
 obtain ⟨u, v, rfl, h⟩ := h
 replace h := ZG h
 obtain ⟨r, rfl, h⟩ := h
 walk_at "rk"
 exact h
theorem Xj (T : Tx K mg) : ZU P w K mg base CX0 4 T.Jc T.Jm ["pieces", "spot"] (lift K Ga) := by
 have G_steps_to : ZU P w K mg base CX0 3 T.Vw T.Vo ["box", "spot"] (lift K ZdD) := Ue T
 refine okD T.QM.F Xf (fun xs M Φ h => by obtain ⟨_, _, rfl, _⟩ := Zy h; rfl) fun cdv A outer s H E hr => ⟨_, (Zh (Zr (Zu (OM rfl) rfl T.OX Fb (Za (Z5 false (Zv (sc := Zf Z0) (XN := ["pieces", "spot"]) (N := ["piece", "spot"]) (ix := [none, some 1]) rfl rfl (by decide +kernel)) (V7 (Zb 0)) (fun C ex s H => (Zn 0 (show List.Nodup (["piece", "spot"] : List Str) by decide +kernel))) (fun C ex s H => QJ) (fun C ex s H => (Zg G_steps_to (hr.mono (by first | decide | omega)) rfl T.Jy.m T.Jy.F.kp T.Jy.b Zp (Za (Zb 0) (Za (Zb 1) Zd)))) rfl) Zd)))), fun xs M Φ h => ?_⟩
 replace h := Zy h
 obtain ⟨x1, x2, rfl, h⟩ := h
 replace h := WJ h
 obtain ⟨ps, rfl, h⟩ := h
 replace h := J5 h
 obtain ⟨u, v, rfl, ⟨h1, h2⟩, h⟩ := h
 walk_at "rk"
 refine ⟨by rw [List.length_map]; omega, fun i acc M' => acc = ((ps.take i).map fun p => Qp p u v).map PyData.int ∧ M' = M, ⟨rfl, rfl⟩, ?_, ?_⟩
 ·rintro i d acc M' hd ⟨rfl, rfl⟩
  obtain ⟨b, eb, rfl⟩ := ZE hd
  walk_at "rk"
  rw [← take_snoc _ eb, List.map_append]
  rfl
 ·rintro acc M1 ⟨rfl, rfl⟩
  rw [List.length_map, List.take_length]
  have hl : 0 < ps.length := List.length_pos_iff.mpr h1
  refine ⟨_, .inl rfl, by rw [List.length_map]; exact hl, fun m hm hn => h m ?_ fun p hp => hn _ (List.mem_map.mpr ⟨p, hp, rfl⟩)⟩
  obtain ⟨p, mp, e⟩ := List.mem_map.mp hm
  exact ⟨p, mp, e⟩
theorem OI (T : Tx K mg) : ZU P w K mg base CX0 5 T.FG T.Cz ["shape", "wobble", "spot"] (lift K Es) := by
 have G_left_over : ZU P w K mg base CX0 4 T.JX T.JZ ["box", "others"] (lift K CW) := KJ T
 have G_steps_away : ZU P w K mg base CX0 4 T.Jc T.Jm ["pieces", "spot"] (lift K Ga) := Xj T
 have G_square : ZU P w K mg base CX0 1 T.Ki T.Xt ["spot", "r"] (lift K Kl) := Df T
 refine okD T.Gy.F Rr (fun xs M Φ h => by obtain ⟨_, _, _, rfl, _⟩ := QI h; rfl) fun cdv A outer s H E hr => ⟨_, (Ze (Qv (ZA (YR hr) (Zg G_left_over (hr.mono (by first | decide | omega)) rfl T.Q1.m T.Q1.F.kp T.Q1.b Zp (Za (Zg G_square (hr.mono (by first | decide | omega)) rfl T.VS.m T.VS.F.kp T.VS.b Zp (Za (Zb 2) (Za (Zb 1) Zd))) (Za (Zb 0) Zd))) (Qc Zd)) (Zh (Zr ZQ)) ZP)
 (Ze (Qv (ZA Mt (Zg G_steps_away (hr.mono (by first | decide | omega)) rfl T.QM.m T.QM.F.kp T.QM.b Zp (Za (Zb 0) (Za (Zb 2) Zd))) (Zb 1)) (Zh (Zr ZQ)) ZP)
 (Zh (Zr ZQ)))), fun xs M Φ h => ?_⟩
 replace h := QI h
 obtain ⟨x1, x2, x3, rfl, h⟩ := h
 replace h := WJ h
 obtain ⟨bs, rfl, h⟩ := h
 replace h := ZG h
 obtain ⟨wb, rfl, h⟩ := h
 replace h := J5 h
 obtain ⟨u, v, rfl, ⟨hs, hw⟩, h⟩ := h
 have n1 : bs ≠ [] := fun z => by have := hs.1; rw [z] at this; exact absurd this (by decide)
 obtain ⟨d, hd⟩ := Ss hs.2.2 n1 u v
 have h := h d hd
 unfold UR at h
 walk_at "hd"
 walk_at "rk"
 refine ⟨hs.2.1, Pd _ ?_⟩
 refine Zw (fun q => ?_) fun q => ?_
 ·rw [if_pos ((El hs.2.2 hw hd).mp q)] at h
  exact h
 ·rw [if_neg (fun z => q ((El hs.2.2 hw hd).mpr z))] at h
  subst_vars
  walk_at "rk"
  refine ⟨⟨n1, by have := hs.2.1; omega⟩, fun m m1 m2 => ?_⟩
  have k := HI hs.2.2 n1 hw hd m1 m2
  refine Zw (fun z => ?_) fun z => ?_
  ·rw [if_pos (k.mp z)] at h
   exact h
  ·rw [if_neg (fun y => z (k.mpr y))] at h
   exact h
theorem Ho (T : Tx K mg) : ZU P w K mg base CX0 1 T.U2 T.UX ["lands", "land"] (lift K Uw) := by
 refine okG T.XR.F J9 (fun xs M Φ h => by obtain ⟨_, _, rfl, _⟩ := Zy h; rfl) fun cdv A outer s H E hr => ⟨_, (Ze (Zk 2 J9.nd (QV (Gm rfl) rfl T.NM FD (Za (Z5 false (Zv (sc := Zf JY) (XN := ["lands", "land", "outers", "at", "many"]) (N := ["row"]) (ix := [none]) rfl rfl (by decide +kernel)) (V7 (Zb 0)) (fun C ex s H => (Zn 0 (show List.Nodup (["row"] : List Str) by decide +kernel))) (fun C ex s H => QJ) (fun C ex s H => (ZJ (Za (Zi (Zb 0) Zc) (Za (Zi (Zb 0) Zc) Zd)))) rfl) Zd)))
 (Ze (Zk 3 J9.nd (Zb 1))
 (Ze (HN rfl T.Jb (Za Zc (Za (Zm ZL (Zu P8 rfl T.KA VI (Za (Zb 2) Zd)) Zc) Zd)) (Zn 4 J9.nd) (Ze (Qv (ZA (Wr hr) (Zb 3) (Zb 2)) (Zh (Zr Cu)) ZP)
 (Ze (Zk 3 J9.nd ((Uc hr) (Zb 2) (Zb 3)))
 (Zh (Qv (ZA (YR hr) (Zb 3) ZQ) (Zh (Zr (Zb 4))) ZP)))) PassesOwn.never rfl)
 (Zh (Zr Cu))))), fun xs M Φ h => ?_⟩
 replace h := Zy h
 obtain ⟨x1, x2, rfl, h⟩ := h
 obtain ⟨rs, rfl, h⟩ := h
 replace h := VC h
 obtain ⟨s, rfl, ⟨hl, hn⟩, h⟩ := h
 walk_at "hd"
 walk_at "rk"
 refine ⟨by rw [List.length_map]; omega, fun i acc M' => acc = ((prs rs).take i).map DL.pairD ∧ M' = M, ⟨rfl, rfl⟩, ?_, ?_⟩
 ·rintro i d acc M' hd ⟨rfl, rfl⟩
  obtain ⟨r, er, rfl⟩ := ZE hd
  unfold ZbM
  walk_at "rk"
  have er' : (prs rs)[i]? = some (r.n, .str r.o) := by unfold prs; rw [List.getElem?_map, er]; rfl
  rw [← take_snoc _ er']
  rfl
 ·rintro acc M' ⟨rfl, rfl⟩
  have e1 : (rs.map ZbM).length = (prs rs).length := by unfold prs; rw [List.length_map, List.length_map]
  rw [e1, List.take_length]
  refine ⟨prs rs, rfl, fun p hp => ?_⟩
  rw [GL hn]
  walk_at "hd"
  walk_at "rk"
  walk_at "hd"
  walk_at "rk"
  have dl : (rs.map fun r => ((Sum.inr r.n : Key), PyData.str r.o)).length = rs.length := List.length_map ..
  rw [dl]
  refine ⟨⟨⟨by decide, by decide⟩, by omega, by omega⟩, fun i Δ M2 => ∃ (t : Str) (k4 : Option DV), Δ = [some (.dat (.tuple (rs.map ZbM))), some (.dat (.str s)), some (.own p), some (.dat (.str t)), k4] ∧ M2 = Zx M' p (.dkv (rs.map fun r => ((Sum.inr r.n : Key), PyData.str r.o))) ∧ lev rs rs.length s = (lev rs (rs.length - i) t).map (· + i),
   ⟨s, none, rfl, rfl, by simp⟩, ?_, ?_⟩
  ·rintro i Δ M2 hi ⟨t, k4, rfl, rfl, he⟩
   have hi' : i < rs.length := by omega
   obtain ⟨m, em⟩ : ∃ m, rs.length - i = m + 1 := ⟨rs.length - i - 1, by omega⟩
   rw [em] at he
   rw [Qn]
   walk_at "hd"
   walk_at "rk"
   rw [XA]
   cases q : J0 rs t with
   | none =>
    have e0 : XT rs s = .none := by
     unfold XT
     rw [he]
     unfold lev
     rw [q]
     rfl
    rw [e0] at h
    exact GN hp h
   | some o =>
    rw [if_neg (show ¬ (!(Option.map PyData.str (some o)).isSome) = true by simp)]
    walk_at "hd"
    walk_at "rk"
    rw [XA, q]
    refine ⟨_, rfl, ?_⟩
    subst_vars
    walk_at "rk"
    refine Zw (fun z => ?_) fun z => ?_
    ·have e0 : XT rs s = .int (1 + (i : Int)) := by
      unfold XT
      rw [he]
      unfold lev
      rw [q]
      dsimp only
      rw [if_pos z]
      show PyData.int ((1 + i : Nat) : Int) = _
      rw [Int.natCast_add]
      rfl
     rw [e0] at h
     exact GN hp h
    ·refine ⟨o, _, rfl, ?_⟩
     rw [he, show rs.length - (i + 1) = m by omega]
     conv => lhs; unfold lev
     rw [q]
     dsimp only
     rw [if_neg z, Option.map_map]
     congr 1
     funext x
     show x + 1 + i = x + (i + 1)
     omega
  ·rintro Δ M2 ⟨t, k4, rfl, rfl, he⟩
   have he' : lev rs rs.length s = none := by
    rw [he, show rs.length - (↑rs.length + 1 - 1 : Int).toNat = 0 by omega]
    rfl
   subst_vars
   walk_at "rk"
   have e0 : XT rs s = .none := by
    unfold XT
    rw [he']
   rw [e0] at h
   exact GN hp h
theorem LM (T : Tx K mg) : ZU P w K mg base CX0 6 T.US T.Ur ["row", "held", "spot"] (lift K Gb) := by
 have G_side : ZU P w K mg base CX0 5 T.FG T.Cz ["shape", "wobble", "spot"] (lift K Es) := OI T
 refine okD T.XQ.F GH (fun xs M Φ h => by obtain ⟨_, _, _, rfl, _⟩ := QI h; rfl) fun cdv A outer s H E hr => ⟨_, (Ze (Zk 3 GH.nd (Zg G_side (hr.mono (by first | decide | omega)) rfl T.Gy.m T.Gy.F.kp T.Gy.b Zp (Za (Zi (Zb 0) Zc) (Za (Zi (Zb 0) Zc) (Za (Zb 2) Zd)))))
 (Zh (Zr (Zdy (Xd (YR hr) (Zb 3) ZQ) (E3 (NZ (Xd (YR hr) (Zb 3) ZQ) (E3 (Xd (ZcM hr) (Zi (Zb 0) Zc) (Zb 1))))))))), fun xs M Φ h => ?_⟩
 replace h := QI h
 obtain ⟨x1, x2, x3, rfl, h⟩ := h
 obtain ⟨l, rfl, ss, rfl, h⟩ := h
 replace h := J5 h
 obtain ⟨u, v, rfl, ⟨ok, h1, h2⟩, h⟩ := h
 unfold ldD
 walk_at "hd"
 walk_at "rk"
 refine ⟨ok, fun d hd => ?_⟩
 have e := Sf ok.2 hd
 unfold Z8 at h
 rw [← e] at h
 subst_vars
 walk_at "rk"
 obtain ⟨a, b⟩ := Jn (s := l.n) (ss := ss) fun t ht => by
  rcases List.mem_cons.mp ht with rfl | ht
  ·exact h1
  ·exact h2 t ht
 rw [a, b]
 by_cases z : UR d l.wb = Str.ofString "in"
 ·rw [decide_eq_true z, Bool.true_or] at h
  rw [decide_eq_true z, if_pos rfl]
  exact h
 ·rw [decide_eq_false z, Bool.false_or] at h
  rw [decide_eq_false z, if_neg Bool.false_ne_true]
  by_cases z' : UR d l.wb = Str.ofString "between"
  ·rw [decide_eq_true z', Bool.true_and] at h
   rw [decide_eq_true z', if_pos rfl]
   exact ⟨rfl, h⟩
  ·rw [decide_eq_false z', Bool.false_and] at h
   rw [decide_eq_false z', if_neg Bool.false_ne_true]
   exact h
theorem YT (T : Tx K mg) : ZU P w K mg base CX0 2 T.Q5 T.Q0 ["lands"] (lift K U8) := by
 have G_level : ZU P w K mg base CX0 1 T.U2 T.UX ["lands", "land"] (lift K Uw) := Ho T
 refine okD T.Qu.F JL (fun xs M Φ h => by obtain ⟨_, rfl, _⟩ := Z9 h; rfl) fun cdv A outer s H E hr => ⟨_, (Ze (Dl 1 false JL.nd (Zv (sc := Zf ZF) (XN := ["lands", "ranked"]) (N := ["row", "lands"]) (ix := [none, some 0]) rfl rfl (by decide +kernel)) (V7 (Zb 0)) (fun C ex s H => (Zn 0 (show List.Nodup (["row", "lands"] : List Str) by decide +kernel))) (fun C ex s H => QJ) (fun C ex s H => (ZJ (Za (Zg G_level (hr.mono (by first | decide | omega)) rfl T.XR.m T.XR.F.kp T.XR.b Zp (Za (Zb 1) (Za (Zi (Zb 0) Zc) Zd))) (Za (Zb 0) Zd)))) rfl)
 (Zh (Zr (Z5 false (Zv (sc := Zf ZF) (XN := ["lands", "ranked"]) (N := ["pair"]) (ix := [none]) rfl rfl (by decide +kernel)) (Q4 (Zu (BN hr) rfl T.Jw Jr (Za (Z5 false (Zv (sc := Zf ZF) (XN := ["lands", "ranked"]) (N := ["pair"]) (ix := [none]) rfl rfl (by decide +kernel)) (Q4 (Zb 1)) (fun C ex s H => (Zn 0 (show List.Nodup (["pair"] : List Str) by decide +kernel))) (fun C ex s H => (JQ (ZA Pp (Zi (Zb 0) Zc) Cu))) (fun C ex s H => (Zb 0)) rfl) Zd))) (fun C ex s H => (Zn 0 (show List.Nodup (["pair"] : List Str) by decide +kernel))) (fun C ex s H => QJ) (fun C ex s H => (Zi (Zb 0) Zc)) rfl)))), fun xs M Φ h => ?_⟩
 replace h := Z9 h
 obtain ⟨x1, rfl, h⟩ := h
 obtain ⟨ls, rfl, ho, h⟩ := h
 have len := List.length_map (as := ls) ldD
 have l8 := ho.1
 walk_at "hd"
 walk_at "rk"
 refine ⟨by omega, fun i acc M' => acc = (ls.take i).map (fun l => .tuple [XT (ls.map ldR) l.n, ldD l]) ∧ M' = M, ⟨rfl, rfl⟩, ?_, ?_⟩
 ·rintro i d acc M' hd ⟨rfl, rfl⟩
  obtain ⟨l, el, rfl⟩ := ZE hd
  unfold ldD
  walk_at "rk"
  refine ⟨ls.map ldR, by rw [List.map_map]; rfl, ?_⟩
  walk_at "rk"
  refine ⟨⟨by rw [List.length_map]; omega, ho.CI⟩, ?_⟩
  rw [← take_snoc _ el]
 ·rintro acc M' ⟨rfl, rfl⟩
  rw [len, List.take_length]
  have len2 := List.length_map (as := ls) (fun l => PyData.tuple [XT (ls.map ldR) l.n, ldD l])
  subst_vars
  walk_at "rk"
  refine ⟨by omega, fun i acc M2 => acc = ((ls.take i).filter (Kw ls)).map (pr1 ls) ∧ M2 = M', ⟨rfl, rfl⟩, ?_, ?_⟩
  ·rintro i d acc M2 hd ⟨rfl, rfl⟩
   obtain ⟨l, el, rfl⟩ := ZE hd
   have e : ls.take (i + 1) = ls.take i ++ [l] := by rw [List.take_succ, el]; rfl
   rcases Wz ls l with ⟨z, e2⟩ | ⟨z, e2⟩
   ·rw [e2]
    walk_at "rk"
    rw [e, List.filter_append, List.filter_cons_of_pos z, List.filter_nil, List.map_append]
    rfl
   ·rw [e2]
    walk_at "rk"
    rw [e, List.filter_append, List.filter_cons_of_neg (by rw [z]; exact Bool.false_ne_true), List.filter_nil, List.append_nil]
  ·rintro acc M2 ⟨rfl, rfl⟩
   rw [len2, List.take_length]
   have fl := List.length_filter_le (Kw ls) ls
   walk_at "rk"
   refine ⟨(ls.filter (Kw ls)).map fun l => (lvN ls l, l.n), by rw [List.map_map, List.map_map]; rfl, ?_, by rw [List.length_map]; omega, fun ds' hp hs => ?_⟩
   ·rw [List.nodup_iff_pairwise_ne, List.pairwise_map]
    exact (ho.2.2.filter _).imp fun {a b} hab e => absurd hab (by rw [show a.n = b.n from (Prod.ext_iff.mp e).2]; exact List.lt_irrefl _)
   ·obtain ⟨ls', rfl, hO⟩ := R9 hp hs
    have len3 := List.length_map (as := ls') (pr1 ls)
    have := hO.len
    refine ⟨by omega, fun i acc M3 => acc = (ls'.take i).map ldD ∧ M3 = M2, ⟨rfl, rfl⟩, ?_, ?_⟩
    ·rintro i d acc M2 hd ⟨rfl, rfl⟩
     obtain ⟨l, el, rfl⟩ := ZE hd
     unfold pr1
     walk_at "rk"
     rw [← take_snoc _ el]
    ·rintro acc M3 ⟨rfl, rfl⟩
     rw [len3, List.take_length]
     exact h ls' hO
theorem Wt (T : Tx K mg) : ZU P w K mg base CX0 7 T.V6 T.V4 ["lands", "held", "spot"] (lift K VY) := by
 have G_outer_first : ZU P w K mg base CX0 2 T.Q5 T.Q0 ["lands"] (lift K U8) := YT T
 have G_keeps : ZU P w K mg base CX0 6 T.US T.Ur ["row", "held", "spot"] (lift K Gb) := LM T
 refine okG T.Zl.F Yb (fun xs M Φ h => by obtain ⟨_, _, _, rfl, _⟩ := QI h; rfl) fun cdv A outer s H E hr => ⟨_, (Ze (Zk 3 Yb.nd (QD Zd))
 (Ze (YL (Zg G_outer_first (hr.mono (by first | decide | omega)) rfl T.Qu.m T.Qu.F.kp T.Qu.b Zp (Za (Zb 0) Zd)) (Zn 4 Yb.nd) (Zh (Qv (DW.dt (Wy (DW.dt (LS (ZA (YR hr) (Zi (Zb 4) Zc) ZQ) (GK (ZA (NI hr) (Zi (Zb 4) Zc) (Zb 3))))) (Yr (V8 (Zg G_keeps (hr.mono (by first | decide | omega)) rfl T.XQ.m T.XQ.F.kp T.XQ.b Zp (Za (Zb 4) (Za (Zb 1) (Za (Zb 2) Zd)))))))) (Zh (JO (J4 (Zb 3) (Zi (Zb 4) Zc)))) ZP)) PassesOwn.never rfl)
 (Zh (Zr (Zu Vm rfl T.Jw Jr (Za (Zb 3) Zd)))))), fun xs M Φ h => ?_⟩
 replace h := QI h
 obtain ⟨x1, x2, x3, rfl, h⟩ := h
 obtain ⟨ls, rfl, ss, rfl, h⟩ := h
 replace h := J5 h
 obtain ⟨u, v, rfl, ⟨ho, h1, h2⟩, h⟩ := h
 have l8 := ho.1
 walk_at "hd"
 walk_at "rk"
 intro p hp
 walk_at "hd"
 walk_at "rk"
 refine ⟨ls, rfl, ho, fun ls' hO => ?_⟩
 have len := List.length_map (as := ls') ldD
 have l9 := hO.len
 walk_at "rk"
 refine ⟨fun i Δ M' => ∃ k4, Δ = [some (.dat (.tuple (ls.map ldD))), some (.dat (.list (ss.map PyData.str))), some (.dat (.tuple [.int u, .int v])), some (.own p), k4] ∧ M' = Zx M p (.lst ((ZZ ss u v (ls'.take i)).map PyData.str)), ⟨none, rfl, rfl⟩, ?_, ?_⟩
 ·rintro i d Δ M' hd ⟨k4, rfl, rfl⟩
  obtain ⟨l, el, rfl⟩ := ZE hd
  have ml := hO.mem (List.mem_of_getElem? el)
  have hll := h1 l ml
  have hin := Jn (s := l.o) (ss := ZZ ss u v (ls'.take i)) fun t ht => by
   rcases List.mem_cons.mp ht with rfl | ht
   ·exact hll.2
   ·exact KP (P := JH) (fun l hl => (h1 l (hO.mem (List.mem_of_mem_take hl))).1) t ht
  have ln : (ZZ ss u v (ls'.take i)).length ≤ 24 := by
   have := Yu ss u v (ls'.take i)
   rw [List.length_take] at this
   omega
  have fin : Z8 ss u v l = true → (decide (l.o = Str.ofString "") || decide (l.o ∈ ZZ ss u v (ls'.take i))) = true → (ZZ ss u v (ls'.take i)).map PyData.str ++ [.str l.n] = (ZZ ss u v (ls'.take (i + 1))).map PyData.str := fun a b => by
   rw [Xe ss u v el]
   unfold ZV
   rw [a, b, Bool.and_self, if_pos rfl, List.map_append]
   rfl
  have fin2 : ((decide (l.o = Str.ofString "") || decide (l.o ∈ ZZ ss u v (ls'.take i))) && Z8 ss u v l) = false → ZZ ss u v (ls'.take i) = ZZ ss u v (ls'.take (i + 1)) := fun a => by
   rw [Xe ss u v el]
   unfold ZV
   rw [a, if_neg Bool.false_ne_true]
  rw [Qn, WD l]
  walk_at "rk"
  rw [hin.2]
  refine ZcZ hin.1 (fun z => ⟨l, rfl, ss, rfl, ⟨ho.2.1 l ml, hll.1, h2⟩, ?_⟩) fun z => ⟨_, rfl, by rw [fin2 (by rw [z]; rfl)]⟩
  refine Jx (fun y => ⟨by rw [List.length_map]; omega, _, rfl, by rw [fin y z]⟩) fun y => ⟨_, rfl, by rw [fin2 (by rw [y, Bool.and_false])]⟩
 ·rintro Δ M' ⟨k4, rfl, rfl⟩
  rw [len, List.take_length]
  subst_vars
  walk_at "rk"
  have fl := Yu ss u v ls'
  exact ⟨_, rfl, by omega, fun ss' hp' hs => GN hp (h ls' ss' hO hp' hs)⟩
theorem T7 (T : Tx K mg) : ZU P w K mg base CX0 1 T.RV T.RN ["_law_script", "_law_k"] (lift K CF) := by
 refine okD T.MF.F Bh (fun xs M Φ h => by obtain ⟨_, _, rfl, _⟩ := Zy h; rfl) fun cdv A outer s H E hr => ⟨_, (Ze (Zk 2 Bh.nd (Zm ZL (Zm Jg Zc (Zb 1)) Zc))
 (Ze (Qv (ZA MR (Zb 1) (Zu Ye rfl T.KA VI (Za (Zb 0) Zd))) (Zh (Zk 2 Bh.nd (Zi (Zb 0) (Zb 1)))) (Zh (Qv (ZA Mt (Zu Ye rfl T.KA VI (Za (Zb 0) Zd)) Zc) (Zh (Zk 2 Bh.nd (Zm ZL (Zm JM (Zi (Zb 0) (Zm JM (Zb 1) (Zu Ye rfl T.KA VI (Za (Zb 0) Zd)))) (Zm Wh Zc Zc)) (Zm Jg Zc (Zb 1))))) ZP)))
 (Ze (Qv (ZA Zcm (Zu NX rfl T.Zbg NP (Za (Zb 2) Zd)) (Zm Wh Zc Zc)) (Zh (Zr (QD (Za (Zu NX rfl T.Zbg NP (Za (Zb 2) Zd)) (Za Zc (Za Zc Zd)))))) ZP)
 (Zh (Zr (QD (Za (Zm JM (Zb 2) Zc) (Za (Zm ZL (Zm Jg Zc (Zb 1)) Zc) (Za Zc Zd))))))))), fun xs M Φ h => ?_⟩
 replace h := Zy h
 obtain ⟨x1, x2, rfl, h⟩ := h
 replace h := OQ h
 obtain ⟨ns, rfl, h⟩ := h
 replace h := ZG h
 obtain ⟨k, rfl, h0, h⟩ := h
 walk_at "hd"
 walk_at "rk"
 refine ⟨.inl (by decide), ?_⟩
 walk_at "hd"
 walk_at "rk"
 rw [List.length_map]
 refine Zw (fun h1 => ?_) fun h1 => Zw (fun h2 => ?_) fun h2 => ?_
 ·obtain ⟨c, hc⟩ := Ci (ns := ns) h0 h1
  refine Vu hc ?_
  walk_at "hd"
  walk_at "rk"
  refine ⟨RT _ (by decide), Zw (fun _ p hp => h p _ hp ⟨_, _, _, rfl⟩) fun _ => ?_⟩
  subst_vars
  walk_at "rk"
  exact ⟨.inl (by decide), fun p hp => h p _ hp ⟨_, _, _, rfl⟩⟩
 ·have hm := DU k h2
  obtain ⟨c, hc⟩ := Ci (ns := ns) hm.1 hm.2
  refine ⟨h2, Vu hc ⟨RT _ (by decide), ?_⟩⟩
  walk_at "rk"
  refine ⟨.inl (by decide), ?_⟩
  walk_at "hd"
  walk_at "rk"
  refine ⟨RT _ (by decide), Zw (fun _ p hp => h p _ hp ⟨_, _, _, rfl⟩) fun _ => ?_⟩
  subst_vars
  walk_at "rk"
  exact ⟨.inl (by decide), fun p hp => h p _ hp ⟨_, _, _, rfl⟩⟩
 ·walk_at "hd"
  walk_at "rk"
  refine ⟨RT _ (by decide), Zw (fun _ p hp => h p _ hp ⟨_, _, _, rfl⟩) fun _ => ?_⟩
  subst_vars
  walk_at "rk"
  exact ⟨.inl (by decide), fun p hp => h p _ hp ⟨_, _, _, rfl⟩⟩
theorem JW (T : Tx K mg) : ZU P w K mg base CX0 1 T.Vb T.J6 ["_law_pen_here", "_law_many"] (lift K Vd) := by
 refine okD T.Zj.F XB (fun xs M Φ h => by obtain ⟨_, _, rfl, _⟩ := Zy h; rfl) fun cdv A outer s H E hr => ⟨_, (Ze (Qv (ZA (YR hr) (Zi (Zb 0) Zc) Zc) (Ze (Zk 3 XB.nd (Zm JM (Zi (Zb 0) Zc) (Zb 1)))
 (Ze (Y7 (Zm Hy (Zi (Zb 0) Zc) (Zb 1)) (G1 (Zb 0) Zc))
 (Zh (Zr (Zb 3))))) ZP)
 (Ze (Y7 (Zm ZL (Zi (Zb 0) Zc) Zc) (G1 (Zb 0) Zc))
 (Ze (Zk 2 XB.nd (Zm JM (Zm Jg (Zm ZL (Zm ZL (Zi (Zb 0) Zc) (Zm Jg Zc (Zi (Zb 0) Zc))) Zc) Zc) Zc))
 (Ze (Zk 2 XB.nd (Zm JM (Zm Jg (Zb 2) (Zm ZL (Zm ZL (Zm JM (Zb 2) Zc) Zc) (Zi (Zb 0) Zc))) Zc))
 (Ze (Y7 (Zb 2) (G1 (Zb 0) Zc))
 (Zh (Zr (Zm JM (Zm Dd (Zb 2) Zc) (Zb 1))))))))), fun xs M Φ h => ?_⟩
 replace h := Zy h
 obtain ⟨x1, x2, rfl, h⟩ := h
 replace h := Z6 h
 obtain ⟨p, rfl, h⟩ := h
 replace h := ZG h
 obtain ⟨m, rfl, ⟨h0, h1⟩, hp, h⟩ := h
 obtain ⟨a, b, c, hp⟩ := hp.get
 have lg : m.natAbs.log2 < 9000 := Nat.lt_of_lt_of_le (GW (k := 70) (by omega) (by decide)) (by decide)
 have fin : ∀ (x a b c : Int), Φ (.dat (.int (x % m))) (Zx M p (.lst [.int a, .int b, .int c])) := fun x a b c => h _ _ (DU x h0).1 (DU x h0).2 (Fr.Zx ⟨a, b, c, rfl⟩)
 walk_at "hd"
 walk_at "rk"
 simp only [hp]
 walk_at "rk"
 refine Zw (fun h2 => ⟨h0, ⟨h0, lg⟩, fin _ _ _ _⟩) fun h2 => ?_
 walk_at "hd"
 walk_at "rk"
 simp only [hp]
 walk_at "rk"
 walk_at "hd"
 walk_at "rk"
 refine ⟨.inl (by decide), .inr (by decide), ?_⟩
 walk_at "hd"
 walk_at "rk"
 refine ⟨.inl (by omega), ?_⟩
 walk_at "hd"
 walk_at "rk"
 subst_vars
 walk_at "rk"
 exact ⟨⟨by decide, by decide⟩, h0, fin _ _ _ _⟩
theorem Lq (T : Tx K mg) : ZU P w K mg base CX0 2 T.U7 T.Uk ["_law_pen_here", "_law_many"] (lift K UW) := by
 have G_draw : ZU P w K mg base CX0 1 T.Vb T.J6 ["_law_pen_here", "_law_many"] (lift K Vd) := JW T
 refine okD T.Xr.F QN (fun xs M Φ h => by obtain ⟨_, _, rfl, _⟩ := Zy h; rfl) fun cdv A outer s H E hr => ⟨_, (Ze (Zk 2 QN.nd ZQ)
 (Ze (Zk 3 QN.nd (Z5 false (Zv (sc := Zf QS) (XN := ["_law_pen_here", "_law_many", "_law_letters", "_law_base", "_law_long", "_law_at", "_law_found", "_law_k", "_law_signs"]) (N := ["_law_k", "_law_pen_here"]) (ix := [none, some 0]) rfl rfl (by decide +kernel)) (K7 rfl T.Jb (Za Zc Zd)) (fun C ex s H => (Zn 0 (show List.Nodup (["_law_k", "_law_pen_here"] : List Str) by decide +kernel))) (fun C ex s H => QJ) (fun C ex s H => (Zg G_draw (hr.mono (by first | decide | omega)) rfl T.Zj.m T.Zj.F.kp T.Zj.b Zp (Za (Zb 1) (Za Zc Zd)))) rfl))
 (Ze (Qv (ZA (YR hr) (Zg G_draw (hr.mono (by first | decide | omega)) rfl T.Zj.m T.Zj.F.kp T.Zj.b Zp (Za (Zb 0) (Za Zc Zd))) Zc) (Zh (Zr (Z5 false (Zv (sc := Zf QS) (XN := ["_law_pen_here", "_law_many", "_law_letters", "_law_base", "_law_long", "_law_at", "_law_found", "_law_k", "_law_signs"]) (N := ["_law_k", "_law_letters", "_law_base"]) (ix := [none, some 2, some 3]) rfl rfl (by decide +kernel)) (K7 rfl T.Jb (Za (Zb 1) Zd)) (fun C ex s H => (Zn 0 (show List.Nodup (["_law_k", "_law_letters", "_law_base"] : List Str) by decide +kernel))) (fun C ex s H => QJ) (fun C ex s H => (EL ZQ (Z5 false (C2 (sc := Zf QS) (N := ["_law_sign", "_law_letters"]) (ix := [none, some 1]) rfl (by decide +kernel)) (Q4 (J2 (Zb 2) Xu (Xl (Zm Qe Zc (Zb 0))))) (fun C ex s H => (Zn 0 (show List.Nodup (["_law_sign", "_law_letters"] : List Str) by decide +kernel))) (fun C ex s H => QJ) (fun C ex s H => (Ee (Zb 1) (Zb 0))) rfl))) rfl))) ZP)
 (Ze (Zk 4 QN.nd (Zm ZL Zc (Zg G_draw (hr.mono (by first | decide | omega)) rfl T.Zj.m T.Zj.F.kp T.Zj.b Zp (Za (Zb 0) (Za Zc Zd)))))
 (Ze (Zk 5 QN.nd (Zg G_draw (hr.mono (by first | decide | omega)) rfl T.Zj.m T.Zj.F.kp T.Zj.b Zp (Za (Zb 0) (Za (Zb 4) Zd))))
 (Ze (Zk 6 QN.nd (QD Zd))
 (Ze (Vk rfl T.Jb (Za (Zb 1) Zd) (Zn 7 QN.nd) (Ze (Dl 8 true QN.nd (Zv (sc := Zf QS) (XN := ["_law_pen_here", "_law_many", "_law_letters", "_law_base", "_law_long", "_law_at", "_law_found", "_law_k", "_law_signs"]) (N := ["_law_sign", "_law_letters"]) (ix := [none, some 2]) rfl rfl (by decide +kernel)) (Q4 (J2 (Zb 3) Xu (Xl (Zb 4)))) (fun C ex s H => (Zn 0 (show List.Nodup (["_law_sign", "_law_letters"] : List Str) by decide +kernel))) (fun C ex s H => QJ) (fun C ex s H => (Ee (Zb 1) (Zb 0))) rfl)
 (Ze (Y7 (Ee (Zb 2) (Zm JM (Zm ZL (Zi (Zb 3) (Zb 5)) (Zm Jg Zc (Zb 7))) Zc)) (G1 (Zb 8) (Zb 5)))
 (Zh (JO (J4 (Zb 6) (EL ZQ (Ku (Zb 8)))))))) PassesOwn.never rfl)
 (Zh (Zr (Ku (Zb 6))))))))))), fun xs M Φ h => ?_⟩
 replace h := Zy h
 obtain ⟨x1, x2, rfl, h⟩ := h
 replace h := Z6 h
 obtain ⟨p, rfl, h⟩ := h
 replace h := ZG h
 obtain ⟨m, rfl, rfl, hp, h⟩ := h
 walk_at "hd"
 walk_at "rk"
 walk_at "hd"
 walk_at "rk"
 refine ⟨⟨by decide, by decide⟩, by rw [JA]; decide, fun i acc M' => ∃ bs : List Int, acc = bs.map PyData.int ∧ bs.length = i ∧ (∀ b ∈ bs, 0 ≤ b ∧ b < 26) ∧ Fr p M M', ⟨[], rfl, rfl, fun s hs => (nomatch hs), Fr.refl hp⟩, ?_, ?_⟩
 ·rintro i d acc M' hd ⟨bs, rfl, hl, ha, hf⟩
  refine ⟨hf.1, fun r M2 h0 h1 f2 => ⟨bs ++ [r], by rw [List.map_append]; rfl, by rw [List.length_append, hl]; rfl, fun b hb => ?_, hf.trans f2⟩⟩
  rcases List.mem_append.mp hb with hb | hb
  ·exact ha b hb
  ·rw [List.mem_singleton.mp hb]
   exact ⟨h0, h1⟩
 ·rintro acc M1 ⟨bs, rfl, h8, ha, hf⟩
  rw [JA] at h8
  walk_at "hd"
  walk_at "rk"
  refine ⟨hf.1, fun r M2 r0 r1 f2 => Zw (fun z => ?_) fun z => ?_⟩
  ·refine ⟨⟨by decide, by decide⟩, by rw [JA]; decide, fun i acc M' => acc = (List.range i).map (fun k => PyData.str (nmS (bs.take (8 - k)))) ∧ M' = M2, ⟨rfl, rfl⟩, ?_, ?_⟩
   ·rintro i d acc M' hd ⟨rfl, rfl⟩
    have hi : i < 6 := by have := (List.getElem?_eq_some_iff.mp hd).1; rw [JA] at this; exact this
    rw [Bb hi] at hd
    cases hd
    walk_at "rk"
    rw [Gp (by omega) (by omega), show (8 - (i : Int)).toNat = 8 - i by omega]
    refine ⟨by rw [List.length_map, List.length_take]; omega, fun j acc M2 => acc = ((bs.take (8 - i)).take j |>.map Ls).map PyData.str ∧ M2 = M', ⟨rfl, rfl⟩, ?_, ?_⟩
    ·rintro j d acc M' hd ⟨rfl, rfl⟩
     obtain ⟨b, eb, rfl⟩ := ZE hd
     have hb := ha b (List.mem_of_mem_take (List.mem_of_getElem? eb))
     walk_at "rk"
     refine ⟨by rw [UY]; decide, _, EF hb.1 hb.2, ?_⟩
     rw [List.map_map, List.map_map, ← take_snoc _ eb]
     first | exact ⟨rfl, rfl⟩ | rfl
    ·rintro acc M' ⟨rfl, rfl⟩
     rw [List.length_map, List.take_length]
     refine ⟨_, rfl, ZbA (by rw [List.length_take]; omega), ?_⟩
     exact ⟨Zbx (fun k => PyData.str (nmS (bs.take (8 - k)))) i, rfl⟩
   ·rintro acc M' ⟨rfl, rfl⟩
    rw [JA]
    have e0 : (List.range 6).map (fun k => PyData.str (nmS (bs.take (8 - k)))) = ((List.range 6).map fun k => nmS (bs.take (8 - k))).map PyData.str := by rw [List.map_map]; rfl
    rw [e0]
    refine h _ _ (by rw [List.length_map, List.length_range]) ?_ (fun s hs => ?_) (hf.trans f2)
    ·refine Gr (fun s => s.length) (fun j => 8 - j) (fun j s hj => ?_) fun i j hi hj hij => ?_
     ·obtain ⟨k, ek, rfl⟩ := ZE hj
      have hk : j < 6 := by have := (List.getElem?_eq_some_iff.mp ek).1; rwa [List.length_range] at this
      rw [List.getElem?_range hk] at ek
      cases ek
      show (nmS (bs.take (8 - j))).length = _
      rw [Nj, List.length_take]
      omega
     ·rw [List.length_map, List.length_range] at hi hj
      omega
    ·obtain ⟨k, hk, rfl⟩ := List.mem_map.mp hs
     have hk := List.mem_range.mp hk
     exact D5 (by rw [List.length_take]; omega) fun b hb => ha b (List.mem_of_mem_take hb)
  ·walk_at "hd"
   walk_at "rk"
   refine ⟨f2.1, fun lg M3 l0 l1 f3 => ?_⟩
   walk_at "hd"
   walk_at "rk"
   refine ⟨⟨by omega, by omega⟩, f3.1, fun at1 M4 t0 t1 f4 => ?_⟩
   walk_at "hd"
   walk_at "rk"
   intro q hq
   walk_at "hd"
   walk_at "rk"
   obtain ⟨a, rfl⟩ := Int.eq_ofNat_of_zero_le t0
   obtain ⟨b, eb⟩ : ∃ b, bs[a]? = some b := ⟨_, List.getElem?_eq_getElem (by omega)⟩
   have hL : (1 + lg).toNat ≤ 8 := by omega
   have haL : a < (1 + lg).toNat := by omega
   refine ⟨⟨by decide, by decide⟩, fun i Δ M' => ∃ k7 k8 : Option DV, Δ = [some (.own p), some (.dat (.int 6)), some (.dat (.str (Str.ofString "abcdefghijklmnopqrstuvwxyz"))), some (.dat (.list (bs.map PyData.int))), some (.dat (.int (1 + lg))), some (.dat (.int (a : Int))), some (.own q), k7, k8] ∧
    M' = Zx M4 q (.lst ((List.range i).map fun (k : Nat) => PyData.str (nmS ((bs.take (1 + lg).toNat).set a ((b + 9 * (k : Int)) % 26))))), ⟨none, none, rfl, rfl⟩, ?_, ?_⟩
   ·rintro i Δ M' hi ⟨k7, k8, rfl, rfl⟩
    rw [Qn]
    walk_at "hd"
    walk_at "rk"
    rw [Gp (by omega) (by omega)]
    refine ⟨by rw [List.length_map, List.length_take]; omega, fun j acc M2 => acc = ((bs.take (1 + lg).toNat).take j |>.map Ls).map PyData.str ∧ M2 = _, ⟨rfl, rfl⟩, ?_, ?_⟩
    ·rintro j d acc M' hd ⟨rfl, rfl⟩
     obtain ⟨c, ec, rfl⟩ := ZE hd
     have hc := ha c (List.mem_of_mem_take (List.mem_of_getElem? ec))
     walk_at "rk"
     refine ⟨by rw [UY]; decide, _, EF hc.1 hc.2, ?_⟩
     rw [List.map_map, List.map_map, ← take_snoc _ ec]
     first | exact ⟨rfl, rfl⟩ | rfl
    ·rintro acc M' ⟨rfl, rfl⟩
     rw [List.length_map, List.take_length]
     intro q2 hq2
     have hne : q2 ≠ q := fun e => by rw [e, ZI] at hq2; cases hq2
     walk_at "hd"
     walk_at "rk"
     refine Vu (d := .int b) (Vs (by rw [List.getElem?_map, eb]; rfl)) ⟨.inl (by decide), ?_⟩
     have hm := DU (b + 9 * (i : Int)) (show (0 : Int) < 26 by decide)
     refine ⟨by rw [UY]; decide, _, EF hm.1 hm.2, a, by unfold ixN; rw [List.length_map, List.length_map, List.length_take, if_pos (by omega), if_pos (by omega)]; rfl, ?_⟩
     have e2 := Sa (bs := bs.take (1 + lg).toNat) a ((b + 9 * (i : Int)) % 26)
     rw [e2]
     subst_vars
     walk_at "rk"
     simp only [Zz (Ne.symm hne), ZI]
     walk_at "rk"
     refine ⟨_, rfl, ZbA (bs := (bs.take (1 + lg).toNat).set a ((b + 9 * (i : Int)) % 26)) (by rw [List.length_set, List.length_take]; omega), ?_⟩
     rw [Ja hq2]
     walk_at "rk"
     refine ⟨by rw [List.length_map, List.length_range]; omega, _, _, rfl, ?_⟩
     rw [← Zbx]
     rfl
   ·rintro Δ M' ⟨k7, k8, rfl, rfl⟩
    subst_vars
    walk_at "rk"
    rw [Ja hq]
    have e0 : ((List.range 6).map fun (k : Nat) => PyData.str (nmS ((bs.take (1 + lg).toNat).set a ((b + 9 * (k : Int)) % 26)))) = ((List.range 6).map fun (k : Nat) => nmS ((bs.take (1 + lg).toNat).set a ((b + 9 * (k : Int)) % 26))).map PyData.str := by rw [List.map_map]; rfl
    rw [e0]
    refine h _ _ (by rw [List.length_map, List.length_range]) ?_ (fun s hs => ?_) (((hf.trans f2).trans f3).trans f4)
    ·refine Gr (fun s => s.cps.toList[a]?) (fun j => some (97 + ((b + 9 * (j : Int)) % 26).toNat)) (fun j s hj => ?_) fun i j hi hj hij => ?_
     ·obtain ⟨k, ek, rfl⟩ := ZE hj
      have hk : j < 6 := by have := (List.getElem?_eq_some_iff.mp ek).1; rwa [List.length_range] at this
      rw [List.getElem?_range hk] at ek
      cases ek
      show (nmS _).cps.toList[a]? = _
      rw [WO, List.getElem?_map, List.getElem?_set_self (by rw [List.length_take]; omega)]
      rfl
     ·rw [List.length_map, List.length_range] at hi hj
      intro e
      have e := Option.some.inj e
      omega
    ·obtain ⟨k, hk, rfl⟩ := List.mem_map.mp hs
     refine D5 (by rw [List.length_set, List.length_take]; omega) fun c hc => ?_
     rcases List.mem_or_eq_of_mem_set hc with hc | rfl
     ·exact ha c (List.mem_of_mem_take hc)
     ·exact DU _ (by decide)
theorem HM (T : Tx K mg) : ZU P w K mg base CX0 2 T.UZ T.U0 ["_law_pen_here"] (lift K Xv) := by
 have G_draw : ZU P w K mg base CX0 1 T.Vb T.J6 ["_law_pen_here", "_law_many"] (lift K Vd) := JW T
 refine okD T.XY.F G8 (fun xs M Φ h => by obtain ⟨_, rfl, _⟩ := Z9 h; rfl) fun cdv A outer s H E hr => ⟨_, (Ze (Zk 1 G8.nd (Qc (Za Zc (Za Zc (Za (Zm Wh Zc Zc) (Za (Zm Qe Zc (Zm Wh Zc Zc)) Zd))))))
 (Zh (Zr (ZJ (Za (Zi (Qc (Za Zc (Za Zc (Za (Zm Wh Zc Zc) (Za Zc (Za Zc Zd)))))) (Zg G_draw (hr.mono (by first | decide | omega)) rfl T.Zj.m T.Zj.F.kp T.Zj.b Zp (Za (Zb 0) (Za Zc Zd)))) (Za (Zi (Zb 1) (Zg G_draw (hr.mono (by first | decide | omega)) rfl T.Zj.m T.Zj.F.kp T.Zj.b Zp (Za (Zb 0) (Za Zc Zd)))) (Za (Zi (Zb 1) (Zg G_draw (hr.mono (by first | decide | omega)) rfl T.Zj.m T.Zj.F.kp T.Zj.b Zp (Za (Zb 0) (Za Zc Zd)))) Zd))))))), fun xs M Φ h => ?_⟩
 replace h := Z9 h
 obtain ⟨x1, rfl, h⟩ := h
 replace h := Z6 h
 obtain ⟨p, rfl, hp, h⟩ := h
 walk_at "hd"
 walk_at "rk"
 refine ⟨RT _ (by decide), RT _ (by decide), ?_⟩
 subst_vars
 walk_at "rk"
 refine ⟨RT _ (by decide), hp, fun r1 M1 a1 b1 f1 => tab (l := [1, 1, 1000000000, 1, 6]) (fun f => 1 ≤ f ∧ f ≤ 1000000000) a1 (by simp only [List.length_cons, List.length_nil]; omega) (by decide) fun f hf => ⟨f1.1, fun r2 M2 a2 b2 f2 => tab (l := [0, 0, 100000000000, -100000000000]) (fun o => -100000000000 ≤ o ∧ o ≤ 100000000000) a2 (by simp only [List.length_cons, List.length_nil]; omega) (by decide) fun ox hx => ⟨f2.1, fun r3 M3 a3 b3 f3 => tab (l := [0, 0, 100000000000, -100000000000]) (fun o => -100000000000 ≤ o ∧ o ≤ 100000000000) a3 (by simp only [List.length_cons, List.length_nil]; omega) (by decide) fun oy hy => h f ox oy M3 ⟨hf, hx, hy⟩ ((f1.trans f2).trans f3)⟩⟩⟩
theorem Lh (T : Tx K mg) : ZU P w K mg base CX0 2 T.UK T.UO ["_law_pen_here"] (lift K Xp) := by
 have G_draw : ZU P w K mg base CX0 1 T.Vb T.J6 ["_law_pen_here", "_law_many"] (lift K Vd) := JW T
 refine okD T.Xn.F Qg (fun xs M Φ h => by obtain ⟨_, rfl, _⟩ := Z9 h; rfl) fun cdv A outer s H E hr => ⟨_, (Ze (Zk 1 Qg.nd (QD Zd))
 (Ze (Vk rfl T.Jb (Za (Zi (Qc (Za Zc (Za Zc (Za Zc (Za Zc (Za Zc (Za Zc (Za Zc (Za Zc Zd))))))))) (Zg G_draw (hr.mono (by first | decide | omega)) rfl T.Zj.m T.Zj.F.kp T.Zj.b Zp (Za (Zb 0) (Za Zc Zd)))) Zd) (Zn 2 Qg.nd) (Ze (Zk 3 Qg.nd (Zi (Qc (Za Zc (Za Zc (Za Zc (Za Zc (Za Zc (Za Zc (Za Zc (Za Zc Zd))))))))) (Zg G_draw (hr.mono (by first | decide | omega)) rfl T.Zj.m T.Zj.F.kp T.Zj.b Zp (Za (Zb 0) (Za Zc Zd)))))
 (Ze (Zk 4 Qg.nd (Zi (Qc (Za Zc (Za Zc (Za Zc (Za Zc (Za Zc (Za Zc (Za Zc (Za Zc Zd))))))))) (Zg G_draw (hr.mono (by first | decide | omega)) rfl T.Zj.m T.Zj.F.kp T.Zj.b Zp (Za (Zb 0) (Za Zc Zd)))))
 (Ze (Zk 5 Qg.nd (Zg G_draw (hr.mono (by first | decide | omega)) rfl T.Zj.m T.Zj.F.kp T.Zj.b Zp (Za (Zb 0) (Za Zc Zd))))
 (Ze (Zk 6 Qg.nd (Zg G_draw (hr.mono (by first | decide | omega)) rfl T.Zj.m T.Zj.F.kp T.Zj.b Zp (Za (Zb 0) (Za Zc Zd))))
 (Ze (Qv (ZA Mt (Zb 2) Zc) (Ze (Y7 (Zi (Zb 1) (Zm Qe (Zb 2) Zc)) (Wc (n := 2) rfl (Z3 (Zn 7 Qg.nd) (Z3 (Zn 8 Qg.nd) YC))))
 (Ze (Zk 5 Qg.nd (Zm ZL (Zm Qe (Zm Qe (Zi (Zb 7) Zc) (Zb 3)) Zc) (Zg G_draw (hr.mono (by first | decide | omega)) rfl T.Zj.m T.Zj.F.kp T.Zj.b Zp (Za (Zb 0) (Za (Zm ZL (Zm ZL (Zm Qe (Zi (Zb 8) Zc) (Zi (Zb 7) Zc)) (Zb 3)) Zc) Zd)))))
 (Zh (Zk 6 Qg.nd (Zm ZL (Zm Qe (Zm Qe (Zi (Zb 7) Zc) (Zb 4)) Zc) (Zg G_draw (hr.mono (by first | decide | omega)) rfl T.Zj.m T.Zj.F.kp T.Zj.b Zp (Za (Zb 0) (Za (Zm ZL (Zm ZL (Zm Qe (Zi (Zb 8) Zc) (Zi (Zb 7) Zc)) (Zb 4)) Zc) Zd)))))))) ZP)
 (Zh (JO (J4 (Zb 1) (ZJ (Za (ZJ (Za (Zb 5) (Za (Zb 6) Zd))) (Za (ZJ (Za (Zm ZL (Zb 5) (Zb 3)) (Za (Zm ZL (Zb 6) (Zb 4)) Zd))) Zd))))))))))) PassesOwn.never rfl)
 (Zh (Zr (Ku (Zb 1)))))), fun xs M Φ h => ?_⟩
 replace h := Z9 h
 obtain ⟨x1, rfl, h⟩ := h
 replace h := Z6 h
 obtain ⟨p, rfl, hp, h⟩ := h
 walk_at "hd"
 walk_at "rk"
 intro q hq
 have n1 : q ≠ p := Ne.symm (hp.ne hq)
 walk_at "hd"
 walk_at "rk"
 refine ⟨hp.put (Ne.symm n1), fun r M1 a1 b1 f1 => tab (l := [1, 2, 1, 3, 2, 6, 1, 2]) (fun m => 1 ≤ m ∧ m ≤ 6) a1 (by simp only [List.length_cons, List.length_nil]; omega) (by decide) fun m hm => ?_⟩
 walk_at "rk"
 refine ⟨⟨by omega, by omega⟩, fun i Δ M' => ∃ (cs : List B4) (k2 k3 k4 k5 k6 k7 k8 : Option DV), Δ = [some (.own p), some (.own q), k2, k3, k4, k5, k6, k7, k8] ∧ cs.length = i ∧ (∀ c ∈ cs, Bx i c) ∧ M' q = some (.lst (cs.map bD)) ∧ Fr p M M',
  ⟨[], _, _, _, _, _, _, _, rfl, rfl, fun c hc => (nomatch hc), f1.own ZI n1, ((Fr.refl hp).put hq n1).trans f1⟩, ?_, ?_⟩
 ·rintro i Δ M' hi ⟨cs, k2, k3, k4, k5, k6, k7, k8, rfl, hl, hcs, hq', hF⟩
  rw [Qn]
  walk_at "hd"
  walk_at "rk"
  refine ⟨hF.1, fun r2 M2 a2 b2 f2 => tab (l := [4, 2, 0, 6, 1, 8, 3, 11]) (fun m => 0 ≤ m ∧ m ≤ 11) a2 (by simp only [List.length_cons, List.length_nil]; omega) (by decide) fun wd hwd => ?_⟩
  walk_at "hd"
  walk_at "rk"
  refine ⟨f2.1, fun r3 M3 a3 b3 f3 => tab (l := [4, 2, 6, 0, 8, 1, 11, 3]) (fun m => 0 ≤ m ∧ m ≤ 11) a3 (by simp only [List.length_cons, List.length_nil]; omega) (by decide) fun hg hhg => ?_⟩
  walk_at "hd"
  walk_at "rk"
  refine ⟨f3.1, fun x4 M4 a4 b4 f4 => ?_⟩
  walk_at "hd"
  walk_at "rk"
  refine ⟨f4.1, fun y5 M5 a5 b5 f5 => ?_⟩
  have F5 := (((hF.trans f2).trans f3).trans f4).trans f5
  have q5 : M5 q = some (.lst (cs.map bD)) := f5.own (f4.own (f3.own (f2.own hq' n1) n1) n1) n1
  have q0 : M q = none := hq
  have fin : ∀ (x y : Int) (M6 : Mp) (k7 k8 : Option DV), (-(12 * ((cs.length : Int) + 1)) ≤ x ∧ x + wd ≤ 22 + 12 * ((cs.length : Int) + 1)) → (-(12 * ((cs.length : Int) + 1)) ≤ y ∧ y + hg ≤ 22 + 12 * ((cs.length : Int) + 1)) → Fr p M M6 → (cs.map bD).length < 16777216 ∧ ∃ (cs1 : List B4) (j2 j3 j4 j5 j6 j7 j8 : Option DV), ([some (.own p), some (.own q), some (.dat (.int (cs.length : Int))), some (.dat (.int wd)), some (.dat (.int hg)), some (.dat (.int x)), some (.dat (.int y)), k7, k8] : DSt) = [some (.own p), some (.own q), j2, j3, j4, j5, j6, j7, j8] ∧ cs1.length = cs.length + 1 ∧ (∀ c ∈ cs1, Bx ((cs.length + 1 : Nat) : Int) c) ∧ OO.lst (cs.map bD ++ [.tuple [.tuple [.int x, .int y], .tuple [.int (x + wd), .int (y + hg)]]]) = .lst (cs1.map bD) ∧ Fr p M (Zx M6 q (.lst (cs.map bD ++ [.tuple [.tuple [.int x, .int y], .tuple [.int (x + wd), .int (y + hg)]]]))) := fun x y M6 k7 k8 hx hy hF6 => by
   refine ⟨by rw [List.length_map]; omega, cs ++ [⟨x, y, x + wd, y + hg⟩], _, _, _, _, _, _, _, rfl, by rw [List.length_append]; rfl, fun c hc => ?_, by rw [List.map_append]; rfl, hF6.put q0 n1⟩
   rcases List.mem_append.mp hc with hc | hc
   ·have := hcs c hc
    unfold Bx at this ⊢
    omega
   ·rw [List.mem_singleton.mp hc]
    unfold Bx
    dsimp only
    omega
  walk_at "hd"
  walk_at "rk"
  refine Zw (fun z => ?_) fun z => ?_
  ·rw [q5]
   obtain ⟨b, eb⟩ : ∃ b, cs[cs.length - 1]? = some b := ⟨cs[cs.length - 1], List.getElem?_eq_getElem (by omega)⟩
   have hb := hcs b (List.mem_of_getElem? eb)
   unfold Bx at hb
   rw [Ct]
   refine Vu (d := bD b) (by
    rw [show ((cs.length : Int) - 1) = ((cs.length - 1 : Nat) : Int) by omega]
    refine Vs ?_
    rw [List.getElem?_map, eb]
    rfl) ?_
   walk_at "rk"
   refine ⟨⟨by omega, by omega⟩, f5.1, fun r6 M6 a6 b6 f6 => ⟨⟨by omega, by omega⟩, f6.1, fun r7 M7 a7 b7 f7 => ?_⟩⟩
   have q7 : M7 q = some (.lst (cs.map bD)) := f7.own (f6.own q5 n1) n1
   subst_vars
   walk_at "rk"
   rw [q7]
   walk_at "rk"
   exact fin (b.x - wd - 1 + r6) (b.y - hg - 1 + r7) M7 _ _ ⟨by omega, by omega⟩ ⟨by omega, by omega⟩ ((F5.trans f6).trans f7)
  ·subst_vars
   walk_at "rk"
   rw [q5]
   walk_at "rk"
   exact fin x4 y5 M5 _ _ ⟨by omega, by omega⟩ ⟨by omega, by omega⟩ F5
 ·rintro Δ M' ⟨cs, k2, k3, k4, k5, k6, k7, k8, rfl, hl, hcs, hq', hF⟩
  subst_vars
  walk_at "rk"
  simp only [hq']
  walk_at "rk"
  refine h cs _ (by omega) (fun b hb => ?_) (hF.gone hq n1)
  have := hcs b hb
  unfold Bx at this ⊢
  omega
theorem EH (T : Tx K mg) : ZU P w K mg base CX0 1 T.Bg T.GB ["_law_frame_here", "_law_spot_here", "_law_more"] (lift K Xo) := by
 refine okD T.JK.F RF (fun xs M Φ h => by obtain ⟨_, _, _, rfl, _⟩ := QI h; rfl) fun cdv A outer s H E hr => ⟨_, (Zh (Zr (ZJ (Za (Zm ZL (Zm ZL (Zm Jg (Zi (Zb 1) Zc) (Zi (Zb 0) Zc)) (Zb 2)) (Zi (Zb 0) Zc)) (Za (Zm ZL (Zm ZL (Zm Jg (Zi (Zb 1) Zc) (Zi (Zb 0) Zc)) (Zb 2)) (Zi (Zb 0) Zc)) Zd))))), fun xs M Φ h => ?_⟩
 replace h := QI h
 obtain ⟨x1, x2, x3, rfl, h⟩ := h
 replace h := PL h
 obtain ⟨f, ox, oy, rfl, h⟩ := h
 replace h := J5 h
 obtain ⟨a, b, rfl, h⟩ := h
 replace h := ZG h
 obtain ⟨m, rfl, hs, h⟩ := h
 walk_at "rk"
 exact ⟨.inl (by omega), .inl (by omega), h⟩
theorem MK (T : Tx K mg) : ZU P w K mg base CX0 3 T.UD T.UA ["_law_pen_here"] (lift K UE) := by
 have G_frame : ZU P w K mg base CX0 2 T.UZ T.U0 ["_law_pen_here"] (lift K Xv) := HM T
 have G_names : ZU P w K mg base CX0 2 T.U7 T.Uk ["_law_pen_here", "_law_many"] (lift K UW) := Lq T
 refine okD T.Kk.F Gq (fun xs M Φ h => by obtain ⟨_, rfl, _⟩ := Z9 h; rfl) fun cdv A outer s H E hr => ⟨_, (Ze (Zk 1 Gq.nd (HW (GO ZQ (Zg G_names (hr.mono (by first | decide | omega)) rfl T.Xr.m T.Xr.F.kp T.Xr.b Zp (Za (Zb 0) (Za Zc Zd))) (GO ZQ (QD (Za (ZJ (Za Zc (Za Zc Zd))) Zd)) OE))))
 (Ze (OS hr (Zb 1) ZQ (Zg G_frame (hr.mono (by first | decide | omega)) rfl T.XY.m T.XY.F.kp T.XY.b Zp (Za (Zb 0) Zd)))
 (Zh (Zr (Zb 1))))), fun xs M Φ h => ?_⟩
 replace h := Z9 h
 obtain ⟨x1, rfl, h⟩ := h
 replace h := Z6 h
 obtain ⟨p, rfl, hp, h⟩ := h
 walk_at "hd"
 walk_at "rk"
 intro q hq
 have n1 : q ≠ p := Ne.symm (hp.ne hq)
 refine ⟨hp.put (Ne.symm n1), fun ss M1 hl hn hN f1 c hc => ?_⟩
 have q1 : M1 q = some (.dko []) := f1.own ZI n1
 have n2 : c ≠ p := Ne.symm (f1.1.ne hc)
 have n3 : c ≠ q := fun e => by
  rw [e, q1] at hc
  cases hc
 have c0 : M c = none := by
  have := f1.fresh hc
  rw [Zz n3] at this
  exact this
 refine ⟨by rw [Zz (Ne.symm n3)]; exact q1, by decide +kernel, ?_⟩
 walk_at "hd"
 walk_at "rk"
 have F1 : Fr p M M1 := ((Fr.refl hp).put hq n1).trans f1
 have F2 := (F1.put (o := .lst [PyData.tuple [PyData.int 0, PyData.int 0]]) c0 n2).put (o := .dko [(.inr (Str.ofString "lands"), .dat (.list (ss.map PyData.str))), (.inr (Str.ofString "corners"), .own c)]) hq n1
 refine ⟨F2.1, fun f ox oy M2 hf f2 => ?_⟩
 have q2 := f2.own ZI n1
 have c2 := f2.own ((Zz n3).trans ZI) n2
 rw [q2]
 walk_at "rk"
 subst_vars
 walk_at "rk"
 rw [T4]
 exact h q c ss _ hq c0 ⟨⟨f, ox, oy, ZI, hf⟩, ⟨[(0, 0)], (Zz n3).trans c2, fun k hk => by rw [List.mem_singleton.mp hk]; unfold Sm; decide, Nat.le_refl _, Nat.le_refl _⟩, n1, n2, n3, hl, hn, hN⟩ ((F2.trans f2).put hq n1)
theorem OR (T : Tx K mg) : ZU P w K mg base CX0 3 T.CV T.EU ["_law_pen_here", "_law_house_here"] (lift K Us) := by
 have G_boxes : ZU P w K mg base CX0 2 T.UK T.UO ["_law_pen_here"] (lift K Xp) := Lh T
 have G_draw : ZU P w K mg base CX0 1 T.Vb T.J6 ["_law_pen_here", "_law_many"] (lift K Vd) := JW T
 have G_laid : ZU P w K mg base CX0 1 T.Bg T.GB ["_law_frame_here", "_law_spot_here", "_law_more"] (lift K Xo) := EH T
 refine okD T.GA.F QU (fun xs M Φ h => by obtain ⟨_, _, rfl, _⟩ := Zy h; rfl) fun cdv A outer s H E hr => ⟨_, (Ze (Zk 2 QU.nd (Zg G_boxes (hr.mono (by first | decide | omega)) rfl T.Xn.m T.Xn.F.kp T.Xn.b Zp (Za (Zb 0) Zd)))
 (Ze (Zk 3 QU.nd ((QE hr) (Zb 1) ZQ))
 (Ze (YL (Zb 2) (Wc (n := 2) rfl (Z3 (Zn 9 QU.nd) (Z3 (Zn 10 QU.nd) YC))) (Zh (JO (Yj ((QE hr) (Zb 1) ZQ) (QD (Za (Zb 9) (Za (Zb 10) Zd)))))) PassesOwn.never rfl)
 (Ze (Zk 4 QU.nd (Zm E6 (Qc (Za ZQ (Za ZQ (Za ZQ Zd)))) ((QE hr) (Zb 1) ZQ)))
 (Ze (Zk 5 QU.nd (Zi (Zb 4) (Zg G_draw (hr.mono (by first | decide | omega)) rfl T.Zj.m T.Zj.F.kp T.Zj.b Zp (Za (Zb 0) (Za (Zu Ye rfl T.KA VI (Za (Zb 4) Zd)) Zd)))))
 (Ze (Zk 6 QU.nd (QV JD rfl T.XD VW (Za (Z5 false (Zv (sc := Zf Yf) (XN := ["_law_pen_here", "_law_house_here", "_law_boxes_here", "_law_frame_here", "_law_outers", "_law_outer", "_law_shape", "_law_wobble", "_law_far", "_law_low", "_law_top"]) (N := ["_law_low", "_law_top", "_law_frame_here"]) (ix := [none, none, some 3]) rfl rfl (by decide +kernel)) (Q4 (Zb 2)) (fun C ex s H => (Wc (n := 2) rfl (Z3 (Zn 0 (show List.Nodup (["_law_low", "_law_top", "_law_frame_here"] : List Str) by decide +kernel)) (Z3 (Zn 1 (show List.Nodup (["_law_low", "_law_top", "_law_frame_here"] : List Str) by decide +kernel)) YC)))) (fun C ex s H => QJ) (fun C ex s H => (ZJ (Za (Zg G_laid (hr.mono (by first | decide | omega)) rfl T.JK.m T.JK.F.kp T.JK.b Zp (Za (Zb 2) (Za (Zb 0) (Za Zc Zd)))) (Za (Zg G_laid (hr.mono (by first | decide | omega)) rfl T.JK.m T.JK.F.kp T.JK.b Zp (Za (Zb 2) (Za (Zb 1) (Za (Zm Qe (Zi (Zb 2) Zc) Zc) Zd)))) Zd)))) rfl) Zd)))
 (Ze (Zk 7 QU.nd (Zi (Qc (Za Zc (Za Zc (Za Zc (Za Zc (Za Zc (Za Zc Zd))))))) (Zg G_draw (hr.mono (by first | decide | omega)) rfl T.Zj.m T.Zj.F.kp T.Zj.b Zp (Za (Zb 0) (Za Zc Zd)))))
 (Ze (Zk 8 QU.nd (Zm Jg (Zb 7) (Zi (Zb 3) Zc)))
 (Zh (Zr (ZJ (Za (Zb 5) (Za (Zb 6) (Za (Zi (Qc (Za (Zb 7) (Za (Zb 8) (Za (Zm Qe (Zm ZL (Zb 8) (Zi (Zb 3) Zc)) Zc) Zd)))) (Zg G_draw (hr.mono (by first | decide | omega)) rfl T.Zj.m T.Zj.F.kp T.Zj.b Zp (Za (Zb 0) (Za Zc Zd)))) Zd)))))))))))))), fun xs M Φ h => ?_⟩
 replace h := Zy h
 obtain ⟨x1, x2, rfl, h⟩ := h
 replace h := Z6 h
 obtain ⟨p, rfl, h⟩ := h
 replace h := Z6 h
 obtain ⟨q, rfl, c, ls, n, ⟨hp, hs, hn⟩, h⟩ := h
 walk_at "hd"
 walk_at "rk"
 refine ⟨hp, fun bs M1 hl hb f1 => ?_⟩
 have hs1 := hs.fr f1
 obtain ⟨f, ox, oy, eq, hf⟩ := hs1.h1
 obtain ⟨cs, ec, hc, l1, l2⟩ := hs1.h2
 walk_at "hd"
 walk_at "rk"
 rw [eq]
 walk_at "rk"
 walk_at "hd"
 walk_at "rk"
 refine ⟨fun i Δ M' => ∃ (k9 k10 : Option DV) (ks : List (Int × Int)), Δ = [some (.own p), some (.own q), some (.dat (.list (bs.map bD))), some (.dat (.tuple [.int f, .int ox, .int oy])), none, none, none, none, none, k9, k10] ∧ M' c = some (.lst (ks.map cD)) ∧ (∀ k ∈ ks, Sm k) ∧ (1 ≤ ks.length ∧ ks.length ≤ n + 2 * i) ∧ M' q = some (hsO ls c f ox oy) ∧ Fh p c M1 M',
  ⟨_, _, cs, rfl, ec, hc, ⟨l1, by omega⟩, eq, (Fr.refl f1.1).fh⟩, ?_, ?_⟩
 ·rintro i d Δ M' hd ⟨k9, k10, ks, rfl, hk, hk1, hk2, hq, hF⟩
  obtain ⟨b, eb, rfl⟩ := ZE hd
  have hi : i < bs.length := (List.getElem?_eq_some_iff.mp eb).1
  have hbx := hb b (List.mem_of_getElem? eb)
  unfold Bx at hbx
  walk_at "rk"
  rw [hq]
  walk_at "rk"
  rw [hk]
  walk_at "rk"
  intro b' hb'
  have n4 : b' ≠ c := fun e => by
   rw [e, hk] at hb'
   cases hb'
  have n5 : q ≠ b' := fun e => by
   rw [← e, hq] at hb'
   cases hb'
  rw [Zz (Ne.symm n4), hk]
  walk_at "rk"
  refine ⟨n4, by rw [List.length_map]; omega, _, _, ks ++ [(b.x, b.y), (b.X, b.Y)], rfl, by rw [VA (Ne.symm n4), ZI, List.map_append]; rfl, fun k hk' => ?_, ?_, by rw [VA n5, Zz (Ne.symm hs.cq), Zz n5]; exact hq, hF.ext (Ne.symm hs.cp) hb'⟩
  ·rcases List.mem_append.mp hk' with hk' | hk'
   ·exact hk1 k hk'
   ·rcases List.mem_cons.mp hk' with rfl | hk'
    ·unfold Sm
     dsimp only
     omega
    ·rw [List.mem_singleton.mp hk']
     unfold Sm
     dsimp only
     omega
  ·rw [List.length_append]
   exact ⟨by omega, Nat.add_le_add_right hk2.2 2⟩
 ·rintro Δ M' ⟨k9, k10, ks, rfl, hk, hk1, hk2, hq, hF⟩
  walk_at "hd"
  walk_at "rk"
  rw [hq]
  walk_at "rk"
  have lb := List.length_map (as := bs) bD
  have ll := List.length_map (as := ls) PyData.str
  have l6 := hs.nm.1
  rw [lb] at hk2
  have hs2 : Hs M' p q c ls (n + 12) := ⟨⟨f, ox, oy, hq, hf⟩, ⟨ks, hk, hk1, hk2.1, by omega⟩, hs.qp, hs.cp, hs.cq, hs.nm⟩
  refine ⟨by omega, ?_⟩
  walk_at "hd"
  walk_at "rk"
  refine ⟨⟨by omega, by omega⟩, hF.1, fun r2 M2 a2 b2 f2 => ?_⟩
  refine Zb9 (l := Str.ofString "" :: Str.ofString "" :: Str.ofString "" :: ls) (g := PyData.str) a2 (by simp only [List.length_cons]; omega) fun ou hou => ?_
  have hou : ou = Str.ofString "" ∨ ou ∈ ls := by
   rcases List.mem_cons.mp hou with e | hou
   ·exact .inl e
   ·rcases List.mem_cons.mp hou with e | hou
    ·exact .inl e
    ·rcases List.mem_cons.mp hou with e | hou
     ·exact .inl e
     ·exact .inr hou
  walk_at "hd"
  walk_at "rk"
  refine ⟨by omega, fun i acc M' => acc = (bs.take i).map (fun b => bD (layB f ox oy b)) ∧ M' = M2, ⟨rfl, rfl⟩, ?_, ?_⟩
  ·rintro i d acc M' hd ⟨rfl, rfl⟩
   obtain ⟨b, eb, rfl⟩ := ZE hd
   have hbx := hb b (List.mem_of_getElem? eb)
   unfold Bx at hbx
   walk_at "rk"
   refine ⟨by omega, by omega, ?_⟩
   rw [← take_snoc _ eb]
   rfl
  ·rintro acc M3 ⟨rfl, rfl⟩
   rw [lb, List.take_length]
   walk_at "hd"
   walk_at "rk"
   refine ⟨f2.1, fun r4 M4 a4 b4 f4 => tab (l := [0, 1, 0, 2, 3, 1]) (fun w => 0 ≤ w ∧ w ≤ 3) a4 (by simp only [List.length_cons, List.length_nil]; omega) (by decide) fun w hw => ?_⟩
   walk_at "hd"
   walk_at "rk"
   unfold Frm at hf
   have wf : 0 ≤ w * f := Int.mul_nonneg hw.1 (by omega)
   have wf2 := YA (x := w) (by omega) hf.1
   have wf3 := Int.mul_le_mul_of_nonneg_right hw.2 (show 0 ≤ f by omega)
   refine ⟨.inl (by omega), ?_⟩
   subst_vars
   walk_at "rk"
   refine ⟨f4.1, fun r5 M5 a5 b5 f5 => tab (l := [w, w * f, w * f + f - 1]) (fun w => 0 ≤ w ∧ w ≤ 10000000000) a5 (by simp only [List.length_cons, List.length_nil]; omega) (fun x hx => ?_) fun wb hwb => ?_⟩
   ·simp only [List.mem_cons, List.not_mem_nil, or_false] at hx
    omega
   ·have F := (f2.trans f4).trans f5
    have e := List.map_map (f := layB f ox oy) (g := bD) (l := bs)
    have h' := h ou (bs.map (layB f ox oy)) wb M5 hou ⟨by rw [List.length_map]; omega, by rw [List.length_map]; omega, fun b hb' => ?_⟩ (fun b hb' => ?_) hwb (hs2.fr F) ((f1.fh.trans hF).trans F.fh)
    ·rw [e] at h'
     exact h'
    ·obtain ⟨b0, hb0, rfl⟩ := List.mem_map.mp hb'
     have hbx := hb b0 hb0
     exact JT.mpr ⟨EI ox hbx.1.1 hf.1.1, EI oy hbx.1.2 hf.1.1⟩
    ·obtain ⟨b0, hb0, rfl⟩ := List.mem_map.mp hb'
     have hbx := hb b0 hb0
     unfold Bx at hbx
     have m1 := YA (x := b0.x) (by omega) hf.1
     have m2 := YA (x := b0.y) (by omega) hf.1
     have m3 := YA (x := b0.X) (by omega) hf.1
     have m4 := YA (x := b0.Y) (by omega) hf.1
     unfold Lim layB
     dsimp only
     omega
theorem Oa (T : Tx K mg) : ZU P w K mg base CX0 2 T.Ff T.DQ ["_law_pen_here", "_law_house_here"] (lift K Ug) := by
 have G_laid : ZU P w K mg base CX0 1 T.Bg T.GB ["_law_frame_here", "_law_spot_here", "_law_more"] (lift K Xo) := EH T
 have G_draw : ZU P w K mg base CX0 1 T.Vb T.J6 ["_law_pen_here", "_law_many"] (lift K Vd) := JW T
 refine okD T.Ba.F Yp (fun xs M Φ h => by obtain ⟨_, _, rfl, _⟩ := Zy h; rfl) fun cdv A outer s H E hr => ⟨_, (Ze (Zk 2 Yp.nd (Zi ((QE hr) (Zb 1) ZQ) (Zg G_draw (hr.mono (by first | decide | omega)) rfl T.Zj.m T.Zj.F.kp T.Zj.b Zp (Za (Zb 0) (Za (Zu Ye rfl T.KA VI (Za ((QE hr) (Zb 1) ZQ) Zd)) Zd)))))
 (Ze (Zk 3 Yp.nd (Zi (Qc (Za (Zb 2) (Za (Zi ((QE hr) (Zb 1) ZQ) (Zg G_draw (hr.mono (by first | decide | omega)) rfl T.Zj.m T.Zj.F.kp T.Zj.b Zp (Za (Zb 0) (Za (Zu Ye rfl T.KA VI (Za ((QE hr) (Zb 1) ZQ) Zd)) Zd)))) Zd))) (Zg G_draw (hr.mono (by first | decide | omega)) rfl T.Zj.m T.Zj.F.kp T.Zj.b Zp (Za (Zb 0) (Za Zc Zd)))))
 (Ze (Zk 4 Yp.nd (ZJ (Za (Zm Qe (Zm ZL (Zi (Zb 2) Zc) (Zg G_draw (hr.mono (by first | decide | omega)) rfl T.Zj.m T.Zj.F.kp T.Zj.b Zp (Za (Zb 0) (Za Zc Zd)))) Zc) (Za (Zm Qe (Zm ZL (Zi (Zb 3) Zc) (Zg G_draw (hr.mono (by first | decide | omega)) rfl T.Zj.m T.Zj.F.kp T.Zj.b Zp (Za (Zb 0) (Za Zc Zd)))) Zc) Zd))))
 (Ze (Zk 5 Yp.nd ((QE hr) (Zb 1) ZQ))
 (Zh (Zr (Zg G_laid (hr.mono (by first | decide | omega)) rfl T.JK.m T.JK.F.kp T.JK.b Zp (Za (Zb 5) (Za (Zb 4) (Za (Zi (Qc (Za Zc (Za (Zm Qe (Zi (Zb 5) Zc) Zc) (Za (Zm Dd (Zi (Zb 5) Zc) Zc) Zd)))) (Zg G_draw (hr.mono (by first | decide | omega)) rfl T.Zj.m T.Zj.F.kp T.Zj.b Zp (Za (Zb 0) (Za Zc Zd)))) Zd)))))))))), fun xs M Φ h => ?_⟩
 replace h := Zy h
 obtain ⟨x1, x2, rfl, h⟩ := h
 replace h := Z6 h
 obtain ⟨p, rfl, h⟩ := h
 replace h := Z6 h
 obtain ⟨q, rfl, c, ls, n, ⟨hp, hs, hn⟩, h⟩ := h
 obtain ⟨f, ox, oy, eq, hf⟩ := hs.h1
 obtain ⟨cs, ec, hc, l1, l2⟩ := hs.h2
 walk_at "hd"
 walk_at "rk"
 rw [eq]
 walk_at "rk"
 rw [ec]
 walk_at "rk"
 have cl := List.length_map (as := cs) cD
 refine ⟨⟨by omega, by omega⟩, hp, fun r1 M1 a1 b1 f1 => ?_⟩
 have e1 := f1.own eq hs.qp
 have c1 := f1.own ec hs.cp
 rw [c1]
 walk_at "rk"
 refine Zb9 a1 (by omega) fun k1 hk1 => ?_
 have s1 := hc k1 hk1
 unfold Sm at s1
 unfold cD
 walk_at "hd"
 walk_at "rk"
 rw [e1]
 walk_at "rk"
 rw [c1]
 walk_at "rk"
 refine ⟨⟨by omega, by omega⟩, f1.1, fun r2 M2 a2 b2 f2 => ?_⟩
 have e2 := f2.own e1 hs.qp
 have c2 := f2.own c1 hs.cp
 rw [c2]
 walk_at "rk"
 refine Zb9 a2 (by omega) fun k2 hk2 => ⟨f2.1, fun r3 M3 a3 b3 f3 => ?_⟩
 have e3 := f3.own e2 hs.qp
 refine Zb9 (l := [k1, k2]) (g := cD) a3 (by simp only [List.length_cons, List.length_nil]; omega) fun k3 hk3 => ?_
 have s3 : Sm k3 := by
  rcases List.mem_cons.mp hk3 with rfl | hk3
  ·exact hc _ hk1
  ·rw [List.mem_singleton.mp hk3]
   exact hc _ hk2
 unfold Sm at s3
 unfold cD
 walk_at "hd"
 walk_at "rk"
 refine ⟨f3.1, fun r4 M4 a4 b4 f4 => ⟨f4.1, fun r5 M5 a5 b5 f5 => ?_⟩⟩
 walk_at "hd"
 walk_at "rk"
 rw [f5.own (f4.own e3 hs.qp) hs.qp]
 walk_at "rk"
 subst_vars
 walk_at "rk"
 refine ⟨⟨by decide, by decide⟩, f5.1, fun r6 M6 a6 b6 f6 => tab (l := [0, f - 1, f / 2]) (fun _ => True) a6 (by simp only [List.length_cons, List.length_nil]; omega) (fun _ _ => trivial) fun m _ => ?_⟩
 walk_at "rk"
 exact ⟨by omega, h _ _ _ (((((f1.trans f2).trans f3).trans f4).trans f5).trans f6)⟩
theorem DY (T : Tx K mg) : ZU P w K mg base CX0 1 T.XO T.XS ["_law_one", "_law_other"] (lift K Xs) := by
 refine okD T.Z2.F EE (fun xs M Φ h => by obtain ⟨_, _, rfl, _⟩ := Zy h; rfl) fun cdv A outer s H E hr => ⟨_, (Zh (Zr (Xd (YR hr) (Z5 false (Zv (sc := Zf QW) (XN := ["_law_one", "_law_other"]) (N := ["_law_land_here", "_law_other"]) (ix := [none, some 1]) rfl rfl (by decide +kernel)) (Q4 (Zb 0)) (fun C ex s H => (Zn 0 (show List.Nodup (["_law_land_here", "_law_other"] : List Str) by decide +kernel))) (fun C ex s H => (JQ (ZA (Jf hr) (Zb 0) (Zb 1)))) (fun C ex s H => (Zb 0)) rfl) (Qc Zd)))), fun xs M Φ h => ?_⟩
 replace h := Zy h
 obtain ⟨x1, x2, rfl, h⟩ := h
 obtain ⟨as, rfl, bs, rfl, ⟨hl, ha, hb⟩, h⟩ := h
 have len := List.length_map (as := as) PyData.str
 walk_at "rk"
 refine ⟨by omega, fun i acc M' => acc = ((as.take i).filter fun s => !decide (s ∈ bs)).map PyData.str ∧ M' = M, ⟨rfl, rfl⟩, ?_, ?_⟩
 ·rintro i d acc M' hd ⟨rfl, rfl⟩
  obtain ⟨s, es, rfl⟩ := ZE hd
  have e : as.take (i + 1) = as.take i ++ [s] := by rw [List.take_succ, es]; rfl
  obtain ⟨a, b⟩ := Jn (s := s) (ss := bs) fun t ht => by
   rcases List.mem_cons.mp ht with rfl | ht
   ·exact ha t (List.mem_of_getElem? es)
   ·exact hb t ht
  walk_at "rk"
  rw [a, b, e, List.filter_append]
  refine ⟨rfl, Jx (fun z => ?_) fun z => ?_⟩
  ·rw [List.filter_cons_of_pos (by exact z), List.filter_nil, List.map_append]
   first | exact ⟨rfl, rfl⟩ | rfl
  ·rw [List.filter_cons_of_neg (by rw [z]; exact Bool.false_ne_true), List.filter_nil, List.append_nil]
 ·rintro acc M' ⟨rfl, rfl⟩
  rw [len, List.take_length]
  refine PR _ (fun s hs => ha s (List.mem_filter.mp hs).1) ?_
  have e : decide ((as.filter fun s => !decide (s ∈ bs)) = []) = as.all fun s => decide (s ∈ bs) := by
   rw [Bool.eq_iff_iff, decide_eq_true_eq, List.filter_eq_nil_iff, List.all_eq_true]
   refine forall_congr' fun s => imp_congr_right fun _ => ?_
   cases decide (s ∈ bs) <;> simp
  rw [e]
  exact h
theorem B3 (T : Tx K mg) : ZU P w K mg base CX0 1 T.Yi T.YJ ["_law_lands_here", "_law_least", "_law_more"] (lift K O7) := by
 refine okD T.QH.F By (fun xs M Φ h => by obtain ⟨_, _, _, rfl, _⟩ := QI h; rfl) fun cdv A outer s H E hr => ⟨_, (Zh (Zr (QV JD rfl T.XD VW (Za (Z5 false (Zv (sc := Zf QF) (XN := ["_law_lands_here", "_law_least", "_law_more"]) (N := ["_law_land_here", "_law_outer", "_law_shape", "_law_wobble", "_law_more", "_law_least"]) (ix := [none, none, none, none, some 2, some 1]) rfl rfl (by decide +kernel)) (V7 (Zb 0)) (fun C ex s H => (Wc (n := 4) rfl (Z3 (Zn 0 (show List.Nodup (["_law_land_here", "_law_outer", "_law_shape", "_law_wobble", "_law_more", "_law_least"] : List Str) by decide +kernel)) (Z3 (Zn 1 (show List.Nodup (["_law_land_here", "_law_outer", "_law_shape", "_law_wobble", "_law_more", "_law_least"] : List Str) by decide +kernel)) (Z3 (Zn 2 (show List.Nodup (["_law_land_here", "_law_outer", "_law_shape", "_law_wobble", "_law_more", "_law_least"] : List Str) by decide +kernel)) (Z3 (Zn 3 (show List.Nodup (["_law_land_here", "_law_outer", "_law_shape", "_law_wobble", "_law_more", "_law_least"] : List Str) by decide +kernel)) YC)))))) (fun C ex s H => QJ) (fun C ex s H => (ZJ (Za (Zb 0) (Za (Zb 1) (Za (Zb 2) (Za (Zm ZL (Zm Jg (Zb 3) (Zb 5)) (Zb 4)) Zd)))))) rfl) Zd)))), fun xs M Φ h => ?_⟩
 replace h := QI h
 obtain ⟨x1, x2, x3, rfl, h⟩ := h
 obtain ⟨ls, rfl, h⟩ := h
 replace h := ZG h
 obtain ⟨a, rfl, h⟩ := h
 replace h := ZG h
 obtain ⟨m, rfl, ⟨hl, h0, h1⟩, h⟩ := h
 have len := List.length_map (as := ls) ldD
 walk_at "rk"
 refine ⟨by omega, fun i acc M' => acc = ((ls.take i).map (YM a m)).map ldD ∧ M' = M, ⟨rfl, rfl⟩, ?_, ?_⟩
 ·rintro i d acc M' hd ⟨rfl, rfl⟩
  obtain ⟨l, el, rfl⟩ := ZE hd
  rw [WD]
  walk_at "rk"
  refine ⟨.inr (by omega), ?_⟩
  rw [List.map_map, List.map_map, ← take_snoc _ el]
  first | exact ⟨rfl, rfl⟩ | rfl
 ·rintro acc M' ⟨rfl, rfl⟩
  rw [len, List.take_length]
  exact h
theorem LX (T : Tx K mg) : ZU P w K mg base CX0 1 T.Ub T.Ui ["_law_lands_here", "_law_land_here"] (lift K Ut) := by
 refine okG T.Kj.F X5 (fun xs M Φ h => by obtain ⟨_, _, rfl, _⟩ := Zy h; rfl) fun cdv A outer s H E hr => ⟨_, (Ze (Zk 2 X5.nd (QD (Za (Zb 1) Zd)))
 (Ze (Vk rfl T.Jb (Za (Zu Ye rfl T.KA VI (Za (Zb 0) Zd)) Zd) (Zn 3 X5.nd) (Zh (JO (Yj (Zb 2) (Z5 true (Zv (sc := Zf JR) (XN := ["_law_lands_here", "_law_land_here", "_law_found", "_law_turn"]) (N := ["_law_row", "_law_found"]) (ix := [none, some 2]) rfl rfl (by decide +kernel)) (V7 (Zb 0)) (fun C ex s H => (Zn 0 (show List.Nodup (["_law_row", "_law_found"] : List Str) by decide +kernel))) (fun C ex s H => (JQ (DW.dt (Wy (ZA (NI hr) (Zi (Zb 0) Zc) (Zb 1)) (Yr (ZA (Jf hr) (Zi (Zb 0) Zc) (Zb 1))))))) (fun C ex s H => (Zi (Zb 0) Zc)) rfl)))) PassesOwn.never rfl)
 (Zh (Zr (Ku (Zb 2)))))), fun xs M Φ h => ?_⟩
 replace h := Zy h
 obtain ⟨x1, x2, rfl, h⟩ := h
 obtain ⟨ls, rfl, h⟩ := h
 replace h := VC h
 obtain ⟨g, rfl, ⟨hl, hL, hg⟩, h⟩ := h
 have len := List.length_map (as := ls) ldD
 walk_at "hd"
 walk_at "rk"
 intro p hp
 walk_at "hd"
 walk_at "rk"
 refine ⟨⟨by omega, by omega⟩, fun i Δ M' => ∃ k3, Δ = [some (.dat (.tuple (ls.map ldD))), some (.dat (.str g)), some (.own p), k3] ∧ M' = Zx M p (.lst ((Qq ls g i).map PyData.str)), ⟨_, rfl, rfl⟩, ?_, ?_⟩
 ·rintro i Δ M' hi ⟨k3, rfl, rfl⟩
  have gl := Bl (ls := ls) (g := g) i
  have gm := Kc (ls := ls) (P := JH) hg (fun l hl => (hL l hl).1) i
  have gl2 : (Qq ls g i).length ≤ 1 + 24 * 24 := Nat.le_trans gl (Nat.add_le_add_left (Nat.mul_le_mul (by omega) hl) 1)
  rw [Qn]
  walk_at "rk"
  refine ⟨by omega, fun j acc M2 => acc = (((ls.take j).filter fun l => decide (l.o ∈ Qq ls g i) && !decide (l.n ∈ Qq ls g i)).map (·.n)).map PyData.str ∧ M2 = Zx M p (.lst ((Qq ls g i).map PyData.str)), ⟨rfl, rfl⟩, ?_, ?_⟩
  ·rintro j d acc M2 hd ⟨rfl, rfl⟩
   obtain ⟨l, el, rfl⟩ := ZE hd
   have hll := hL l (List.mem_of_getElem? el)
   have e : ls.take (j + 1) = ls.take j ++ [l] := by rw [List.take_succ, el]; rfl
   obtain ⟨a1, b1⟩ := Jn (s := l.o) (ss := Qq ls g i) fun t ht => by
    rcases List.mem_cons.mp ht with rfl | ht
    ·exact hll.2
    ·exact gm t ht
   obtain ⟨a2, b2⟩ := Jn (s := l.n) (ss := Qq ls g i) fun t ht => by
    rcases List.mem_cons.mp ht with rfl | ht
    ·exact hll.1
    ·exact gm t ht
   rw [WD]
   walk_at "rk"
   rw [a1, b1, a2, b2, e, List.filter_append]
   refine ⟨rfl, Jx (fun z => ⟨rfl, Jx (fun y => ?_) fun y => ?_⟩) fun z => ?_⟩
   ·rw [List.filter_cons_of_pos (by rw [z, y]; rfl), List.filter_nil, List.map_append, List.map_append]
    first | exact ⟨rfl, rfl⟩ | rfl
   ·rw [List.filter_cons_of_neg (by rw [y, Bool.and_false]; exact Bool.false_ne_true), List.filter_nil, List.append_nil]
   ·rw [List.filter_cons_of_neg (by rw [z, Bool.false_and]; exact Bool.false_ne_true), List.filter_nil, List.append_nil]
  ·rintro acc M2 ⟨rfl, rfl⟩ b hb
   have nb := fresh_ne hb
   have fl := List.length_filter_le (fun l : Ld => decide (l.o ∈ Qq ls g i) && !decide (l.n ∈ Qq ls g i)) ls
   rw [len, List.take_length, Zz (Ne.symm nb), ZI, Ct]
   refine ⟨nb, by rw [List.length_map, List.length_map, List.length_map]; omega, _, rfl, ?_⟩
   rw [Cm hb, ← List.map_append]
   rfl
 ·rintro Δ M' ⟨k3, rfl, rfl⟩
  have e : ((ls.map ldD).length : Int).toNat = ls.length := by rw [len]; rfl
  rw [e]
  subst_vars
  walk_at "rk"
  rw [Ja hp]
  exact Zc2 h
theorem X3 (T : Tx K mg) : ZU P w K mg base CX0 8 T.Jl T.Jp ["_law_lands_here", "_law_names_here", "_law_held", "_law_spot_here"] (lift K EW) := by
 have G_looked : ZU P w K mg base CX0 7 T.V6 T.V4 ["lands", "held", "spot"] (lift K VY) := Wt T
 have G_wobbled : ZU P w K mg base CX0 1 T.Yi T.YJ ["_law_lands_here", "_law_least", "_law_more"] (lift K O7) := B3 T
 have G_within : ZU P w K mg base CX0 1 T.XO T.XS ["_law_one", "_law_other"] (lift K Xs) := DY T
 refine okD T.QO.F Z4 (fun xs M Φ h => by obtain ⟨_, _, _, _, rfl, _⟩ := NC h; rfl) fun cdv A outer s H E hr => ⟨_, (Ze (Zk 4 Z4.nd (Zg G_looked (hr.mono (by first | decide | omega)) rfl T.Zl.m T.Zl.F.kp T.Zl.b Zp (Za (Zb 0) (Za (Zb 2) (Za (Zb 3) Zd)))))
 (Ze (Zk 5 Z4.nd (Zu Vm rfl T.Jw Jr (Za (Zb 1) Zd)))
 (Ze (Zk 6 Z4.nd (Zg G_looked (hr.mono (by first | decide | omega)) rfl T.Zl.m T.Zl.F.kp T.Zl.b Zp (Za (Zb 0) (Za (Zb 5) (Za (Zb 3) Zd)))))
 (Ze (Qv (DW.dt (LS (ZA (ED hr) (Zg G_looked (hr.mono (by first | decide | omega)) rfl T.Zl.m T.Zl.F.kp T.Zl.b Zp (Za (Zb 0) (Za (Zb 4) (Za (Zb 3) Zd)))) (Zb 4)) (GK (Wg (V8 (Zg G_within (hr.mono (by first | decide | omega)) rfl T.Z2.m T.Z2.F.kp T.Z2.b Zp (Za (Zg G_looked (hr.mono (by first | decide | omega)) rfl T.Zl.m T.Zl.F.kp T.Zl.b Zp (Za (Zb 0) (Za (Qc Zd) (Za (Zb 3) Zd)))) (Za (Zb 4) Zd)))))))) (Zh (Zr YS)) ZP)
 (Ze (Qv (DW.dt (LS (Wg (V8 (Zg G_within (hr.mono (by first | decide | omega)) rfl T.Z2.m T.Z2.F.kp T.Z2.b Zp (Za (Zb 4) (Za (Zb 6) Zd))))) (GK (ZA (ED hr) (Zg G_looked (hr.mono (by first | decide | omega)) rfl T.Zl.m T.Zl.F.kp T.Zl.b Zp (Za (Zb 0) (Za (X6 rfl T.Jw rfl T.ZdH (Za (Zm E6 (Zb 2) (J2 (Zb 1) (Xl (DP Zc)) Xu)) Zd)) (Za (Zb 3) Zd)))) (Zb 4))))) (Zh (Zr YS)) ZP)
 (Ze (Zk 7 Z4.nd (Zg G_wobbled (hr.mono (by first | decide | omega)) rfl T.QH.m T.QH.F.kp T.QH.b Zp (Za (Zb 0) (Za Zc (Za Zc Zd)))))
 (Ze (Qv (ZA (ED hr) (Zg G_looked (hr.mono (by first | decide | omega)) rfl T.Zl.m T.Zl.F.kp T.Zl.b Zp (Za (Zb 7) (Za (Zb 5) (Za (Zb 3) Zd)))) (Zg G_looked (hr.mono (by first | decide | omega)) rfl T.Zl.m T.Zl.F.kp T.Zl.b Zp (Za (Zb 7) (Za (Qc Zd) (Za (Zb 3) Zd))))) (Zh (Zr YS)) ZP)
 (Ze (Zk 8 Z4.nd (Zg G_wobbled (hr.mono (by first | decide | omega)) rfl T.QH.m T.QH.F.kp T.QH.b Zp (Za (Zb 0) (Za Zc (Za Zc Zd)))))
 (Ze (Qv (Wg (V8 (Zg G_within (hr.mono (by first | decide | omega)) rfl T.Z2.m T.Z2.F.kp T.Z2.b Zp (Za (Zg G_looked (hr.mono (by first | decide | omega)) rfl T.Zl.m T.Zl.F.kp T.Zl.b Zp (Za (Zb 8) (Za (Qc Zd) (Za (Zb 3) Zd)))) (Za (Zg G_looked (hr.mono (by first | decide | omega)) rfl T.Zl.m T.Zl.F.kp T.Zl.b Zp (Za (Zb 0) (Za (Qc Zd) (Za (Zb 3) Zd)))) Zd))))) (Zh (Zr YS)) ZP)
 (Zh (Zr (Zg G_within (hr.mono (by first | decide | omega)) rfl T.Z2.m T.Z2.F.kp T.Z2.b Zp (Za (Zb 6) (Za (Zg G_looked (hr.mono (by first | decide | omega)) rfl T.Zl.m T.Zl.F.kp T.Zl.b Zp (Za (Zb 8) (Za (Zb 5) (Za (Zb 3) Zd)))) Zd)))))))))))))), fun xs M Φ h => ?_⟩
 replace h := NC h
 obtain ⟨x1, x2, x3, x4, rfl, h⟩ := h
 obtain ⟨ls, rfl, ns, rfl, ss, rfl, h⟩ := h
 replace h := J5 h
 obtain ⟨u, v, rfl, ⟨ho, hL, ⟨ini, z, rfl, hnm, hnl, hnL⟩, hsl, hss⟩, h⟩ := h
 have hsL : ∀ s ∈ ss, JH s := fun s hs => hnL s (hss s hs)
 have l8 := ho.1
 walk_at "hd"
 walk_at "rk"
 refine ⟨ls, rfl, ss, rfl, ⟨ho, hL, hsL⟩, fun ls' n1 hO p1 s1 => ?_⟩
 obtain ⟨L1, N1⟩ := looks hO hL p1
 walk_at "hd"
 walk_at "rk"
 refine ⟨ini ++ [z], rfl, by omega, fun sm psm ssm => ?_⟩
 have smL : ∀ s ∈ sm, JH s := fun s hs => hnL s (psm.mem_iff.mp hs)
 walk_at "hd"
 walk_at "rk"
 refine ⟨ls, rfl, sm, rfl, ⟨ho, hL, smL⟩, fun ls2 n2 hO2 p2 s2 => ?_⟩
 cases hO.uniq ho hO2
 obtain ⟨L2, N2⟩ := looks hO hL p2
 walk_at "hd"
 walk_at "rk"
 refine ⟨ls, rfl, n1, rfl, ⟨ho, hL, L1⟩, fun ls2 n3 hO2 p3 s3 => ?_⟩
 cases hO.uniq ho hO2
 have nd' : (ls'.map (·.n)).Nodup := by
  rw [(hO.1.map (·.n)).nodup_iff, List.nodup_iff_pairwise_ne, List.pairwise_map]
  exact (ho.2.2.filter _).imp fun hab e => absurd hab (by rw [e]; exact List.lt_irrefl _)
 rw [Bn nd' (ns := n1) (ss := ss) fun s => p1.mem_iff] at p3
 cases Ju (p3.trans p1.symm) s3 s1
 refine Km L1 ?_
 rw [if_neg (by decide)]
 have idm : ∀ {a b : List Str}, (∀ l ∈ ls', l.n ∈ a → l.n ∈ b) → ∀ s ∈ ZZ a u v ls', s ∈ ZZ b u v ls' := fun {a b} hab s hs => by
  have := Va (f := fun l => l) (a := a) (b := b) (u := u) (v := v) (fun l => ⟨rfl, rfl⟩) ls' [] [] (fun l hl k => FQ (hab l hl) k) (fun _ h => h) s hs
  rwa [List.map_id'] at this
 refine ⟨ls, rfl, [], rfl, ⟨ho, hL, fun s hs => (nomatch hs)⟩, fun ls2 n4 hO2 p4 s4 => ?_⟩
 cases hO.uniq ho hO2
 obtain ⟨L4, N4⟩ := looks hO hL p4
 refine ⟨n4, rfl, n1, rfl, ⟨by omega, L4, L1⟩, ?_⟩
 rw [XM fun s hs => p1.mem_iff.mpr (idm (a := []) (b := ss) (fun l _ hl => (nomatch hl)) s (p4.mem_iff.mp hs)), if_neg (by decide)]
 walk_at "hd"
 walk_at "rk"
 refine ⟨n1, rfl, n2, rfl, ⟨by omega, L1, L2⟩, ?_⟩
 rw [XM fun s hs => p2.mem_iff.mpr (idm (fun l _ hl => psm.mem_iff.mpr (hss _ hl)) s (p1.mem_iff.mp hs)), if_neg (by decide)]
 rw [MB]
 refine ⟨by rw [List.length_map, List.length_singleton]; omega, ss ++ [z], by rw [List.map_append]; rfl, by rw [List.length_append, List.length_singleton]; omega, fun ks sk ndk mk => ?_⟩
 have kL : ∀ s ∈ ks, JH s := fun s hs => by
  rcases List.mem_append.mp ((mk s).mp hs) with hs | hs
  ·exact hsL s hs
  ·exact hnL s (List.mem_append_right _ hs)
 refine ⟨ls, rfl, ks, rfl, ⟨ho, hL, kL⟩, fun ls2 n5 hO2 p5 s5 => ?_⟩
 cases hO.uniq ho hO2
 rw [B1 (a := ks) (b := ss) fun l hl => ?_] at p5
 rotate_left
 ·rw [mk, List.mem_append, List.mem_singleton]
  exact ⟨fun q => q.elim id fun e => absurd e (hnm l (hO.mem hl)).2, .inl⟩
 cases Ju (p5.trans p1.symm) s5 s1
 refine Km L1 ?_
 rw [if_neg (by decide)]
 walk_at "hd"
 walk_at "rk"
 refine ⟨ls, rfl, l8, ?_⟩
 have hoC : Vr (ls.map (YM 0 0)) := ho.map (Wb 0 0) fun l hl => ⟨(ho.2.1 l hl).1, by show 0 ≤ l.wb * 0 + 0; omega⟩
 have hLC := hL.map 0 0
 have hOC := hO.map (Wb 0 0)
 walk_at "hd"
 walk_at "rk"
 refine ⟨ls.map (YM 0 0), rfl, sm, rfl, ⟨hoC, hLC, smL⟩, fun ls2 n6 hO2 p6 s6 => ?_⟩
 cases hOC.uniq hoC hO2
 refine ⟨ls.map (YM 0 0), rfl, [], rfl, ⟨hoC, hLC, fun s hs => (nomatch hs)⟩, fun ls2 n7 hO2 p7 s7 => ?_⟩
 cases hOC.uniq hoC hO2
 have ec : ZZ sm u v (ls'.map (YM 0 0)) = ZZ [] u v (ls'.map (YM 0 0)) := JN _ [] fun l hl => by
  obtain ⟨l', _, rfl⟩ := List.mem_map.mp hl
  have e : (YM 0 0 l').wb = 0 := by show l'.wb * 0 + 0 = 0; omega
  unfold Z8
  rw [e, decide_eq_false Fw, Bool.false_and, Bool.false_and]
 rw [ec] at p6
 cases Ju (p6.trans p7.symm) s6 s7
 refine Km (looks hOC hLC p6).1 ?_
 rw [if_neg (by decide)]
 walk_at "hd"
 walk_at "rk"
 refine ⟨ls, rfl, l8, ?_⟩
 have hoW : Vr (ls.map (YM 1 2)) := ho.map (Wb 1 2) fun l hl => ⟨(ho.2.1 l hl).1, by have := (ho.2.1 l hl).2; show 0 ≤ l.wb * 1 + 2; omega⟩
 have hLW := hL.map 1 2
 have hOW := hO.map (Wb 1 2)
 have eW : ∀ l, (YM 1 2 l).wb = l.wb + 2 := fun l => by show l.wb * 1 + 2 = l.wb + 2; omega
 walk_at "hd"
 walk_at "rk"
 refine ⟨ls.map (YM 1 2), rfl, [], rfl, ⟨hoW, hLW, fun s hs => (nomatch hs)⟩, fun ls2 n8 hO2 p8 s8 => ?_⟩
 cases hOW.uniq hoW hO2
 refine ⟨ls, rfl, [], rfl, ⟨ho, hL, fun s hs => (nomatch hs)⟩, fun ls2 n9 hO2 p9 s9 => ?_⟩
 cases hO.uniq ho hO2
 obtain ⟨L8, N8⟩ := looks hOW hLW p8
 obtain ⟨L9, N9⟩ := looks hO hL p9
 rw [List.length_map] at N8
 refine ⟨n8, rfl, n9, rfl, ⟨by omega, L8, L9⟩, ?_⟩
 have m8 : ∀ s ∈ n8, s ∈ n9 := fun s hs => by
  have := p8.mem_iff.mp hs
  rw [show ZZ [] u v (ls'.map (YM 1 2)) = (ls'.map (YM 1 2)).foldl (ZV [] u v) [] from rfl] at this
  have h2 := Va (f := fun l => ⟨l.n, l.o, l.bs, l.wb - 2⟩) (a := []) (b := []) (u := u) (v := v) (fun l => ⟨rfl, rfl⟩) (ls'.map (YM 1 2)) [] [] (fun l hl k => ?_) (fun _ h => h) s this
  ·rw [List.map_map] at h2
   have e : ((fun l : Ld => (⟨l.n, l.o, l.bs, l.wb - 2⟩ : Ld)) ∘ YM 1 2) = fun l => l := by
    funext l
    show (⟨l.n, l.o, l.bs, l.wb * 1 + 2 - 2⟩ : Ld) = l
    rw [show l.wb * 1 + 2 - 2 = l.wb by omega]
   rw [e, List.map_id'] at h2
   exact p9.mem_iff.mpr h2
  ·rw [DR, Yz] at k ⊢
   exact fun x y hc => k x y (by have hc : Qj u v x y ≤ l.wb - 2 := hc; omega)
 rw [XM m8, if_neg (by decide)]
 subst_vars
 walk_at "rk"
 refine ⟨ls.map (YM 1 2), rfl, sm, rfl, ⟨hoW, hLW, smL⟩, fun ls2 n10 hO2 p10 s10 => ?_⟩
 cases hOW.uniq hoW hO2
 refine ⟨n2, rfl, n10, rfl, ⟨by omega, L2, (looks hOW hLW p10).1⟩, ?_⟩
 rw [XM fun s hs => ?_]
 ·exact h
 ·refine p10.mem_iff.mpr (Va (f := YM 1 2) (a := sm) (b := sm) (u := u) (v := v) (Wb 1 2) ls' [] [] (fun l hl k => ?_) (fun _ h => h) s (p2.mem_iff.mp hs))
  have hm : l.n ∈ sm := psm.mem_iff.mpr (List.mem_append_left _ (hnm l (hO.mem hl)).1)
  have hw := (ho.2.1 l (hO.mem hl)).2
  rw [GR hm, Ws hw] at k
  rw [GR (l := YM 1 2 l) hm, Ws (by rw [eW]; omega), eW]
  obtain ⟨x, y, hc, e⟩ := k
  exact ⟨x, y, by omega, e⟩
theorem YW (T : Tx K mg) : ZU P w K mg base CX0 8 T.QZ T.Q6 ["_law_lands_here", "_law_held", "_law_spot_here"] (lift K W2) := by
 have G_looked : ZU P w K mg base CX0 7 T.V6 T.V4 ["lands", "held", "spot"] (lift K VY) := Wt T
 have G_inner : ZU P w K mg base CX0 1 T.Ub T.Ui ["_law_lands_here", "_law_land_here"] (lift K Ut) := LX T
 refine okD T.Qw.F ZX (fun xs M Φ h => by obtain ⟨_, _, _, rfl, _⟩ := QI h; rfl) fun cdv A outer s H E hr => ⟨_, (Ze (Zk 3 ZX.nd (Zg G_looked (hr.mono (by first | decide | omega)) rfl T.Zl.m T.Zl.F.kp T.Zl.b Zp (Za (Zb 0) (Za (Zb 1) (Za (Zb 2) Zd)))))
 (Ze (Zk 4 ZX.nd (QV (Gm rfl) rfl T.NM FD (Za (Z5 false (Zv (sc := Zf ZD) (XN := ["_law_lands_here", "_law_held", "_law_spot_here", "_law_told", "_law_outers", "_law_land_here", "_law_gone", "_law_rest"]) (N := ["_law_row"]) (ix := [none]) rfl rfl (by decide +kernel)) (V7 (Zb 0)) (fun C ex s H => (Zn 0 (show List.Nodup (["_law_row"] : List Str) by decide +kernel))) (fun C ex s H => QJ) (fun C ex s H => (ZJ (Za (Zi (Zb 0) Zc) (Za (Zi (Zb 0) Zc) Zd)))) rfl) Zd)))
 (Ze (YL (Zb 3) (Zn 5 ZX.nd) (Ze (Qv (DW.dt (LS (ZA (Wr hr) (Zb 5) (Zb 4)) (GK (DW.dt (Wy (ZA (ED hr) ((Uc hr) (Zb 4) (Zb 5)) ZQ) (Yr (ZA (Jf hr) ((Uc hr) (Zb 4) (Zb 5)) (Zb 3)))))))) (Zh (Zr YS)) ZP)
 (Ze (Zk 6 ZX.nd (Zg G_inner (hr.mono (by first | decide | omega)) rfl T.Kj.m T.Kj.F.kp T.Kj.b Zp (Za (Zb 0) (Za (Zb 5) Zd))))
 (Ze (Zk 7 ZX.nd (QV JD rfl T.XD VW (Za (Z5 false (Zv (sc := Zf ZD) (XN := ["_law_lands_here", "_law_held", "_law_spot_here", "_law_told", "_law_outers", "_law_land_here", "_law_gone", "_law_rest"]) (N := ["_law_row", "_law_gone"]) (ix := [none, some 6]) rfl rfl (by decide +kernel)) (V7 (Zb 0)) (fun C ex s H => (Zn 0 (show List.Nodup (["_law_row", "_law_gone"] : List Str) by decide +kernel))) (fun C ex s H => (JQ (ZA (Jf hr) (Zi (Zb 0) Zc) (Zb 1)))) (fun C ex s H => (Zb 0)) rfl) Zd)))
 (Zh (Qv (ZA (ED hr) (Zg G_looked (hr.mono (by first | decide | omega)) rfl T.Zl.m T.Zl.F.kp T.Zl.b Zp (Za (Zb 7) (Za (Zb 1) (Za (Zb 2) Zd)))) (Z5 false (Zv (sc := Zf ZD) (XN := ["_law_lands_here", "_law_held", "_law_spot_here", "_law_told", "_law_outers", "_law_land_here", "_law_gone", "_law_rest"]) (N := ["_law_one", "_law_gone"]) (ix := [none, some 6]) rfl rfl (by decide +kernel)) (Q4 (Zb 3)) (fun C ex s H => (Zn 0 (show List.Nodup (["_law_one", "_law_gone"] : List Str) by decide +kernel))) (fun C ex s H => (JQ (ZA (Jf hr) (Zb 0) (Zb 1)))) (fun C ex s H => (Zb 0)) rfl)) (Zh (Zr YS)) ZP))))) PassesOwn.never rfl)
 (Zh (Zr YS))))), fun xs M Φ h => ?_⟩
 replace h := QI h
 obtain ⟨x1, x2, x3, rfl, h⟩ := h
 obtain ⟨ls, rfl, ss, rfl, h⟩ := h
 replace h := J5 h
 obtain ⟨u, v, rfl, ⟨ho, hL, hsL⟩, h⟩ := h
 have l8 := ho.1
 have len := List.length_map (as := ls) ldD
 walk_at "hd"
 walk_at "rk"
 refine ⟨ls, rfl, ss, rfl, ⟨ho, hL, hsL⟩, fun ls' n1 hO p1 s1 => ?_⟩
 obtain ⟨L1, N1⟩ := looks hO hL p1
 have len1 := List.length_map (as := n1) PyData.str
 walk_at "hd"
 walk_at "rk"
 refine ⟨by omega, fun i acc M' => acc = ((prs (ls.map ldR)).take i).map DL.pairD ∧ M' = M, ⟨rfl, rfl⟩, ?_, ?_⟩
 ·rintro i d acc M' hd ⟨rfl, rfl⟩
  obtain ⟨l, el, rfl⟩ := ZE hd
  have er' : (prs (ls.map ldR))[i]? = some (l.n, .str l.o) := by unfold prs; rw [List.getElem?_map, List.getElem?_map, el]; rfl
  rw [WD]
  walk_at "rk"
  rw [← take_snoc _ er']
  first | exact ⟨rfl, rfl⟩ | rfl
 rintro acc M' ⟨rfl, rfl⟩
 have e1 : (ls.map ldD).length = (prs (ls.map ldR)).length := by unfold prs; rw [List.length_map, List.length_map, List.length_map]
 rw [e1, List.take_length]
 refine ⟨prs (ls.map ldR), rfl, fun p hp => ?_⟩
 rw [GL ho.CI]
 walk_at "hd"
 walk_at "rk"
 refine ⟨fun i Δ M2 => ∃ k5 k6 k7, Δ = [some (.dat (.tuple (ls.map ldD))), some (.dat (.list (ss.map PyData.str))), some (.dat (.tuple [.int u, .int v])), some (.dat (.list (n1.map PyData.str))), some (.own p), k5, k6, k7] ∧ M2 = Zx M' p (.dkv ((ls.map ldR).map fun r => ((Sum.inr r.n : Key), PyData.str r.o))), ⟨_, _, _, rfl, rfl⟩, ?_, ?_⟩
 ·rintro i d Δ M2 hd ⟨k5, k6, k7, rfl, rfl⟩
  obtain ⟨g, eg, rfl⟩ := ZE hd
  have mg : g ∈ n1 := List.mem_of_getElem? eg
  obtain ⟨l, ml, en, eo, hout⟩ := B5 ho hO (p1.mem_iff.mp mg)
  have hout : l.o = Str.ofString "" ∨ l.o ∈ n1 := hout.imp id p1.mem_iff.mpr
  obtain ⟨a1, b1⟩ := Jn (s := l.o) (ss := n1) fun t ht => by
   rcases List.mem_cons.mp ht with rfl | ht
   ·exact (hL l ml).2
   ·exact L1 t ht
  rw [Qn]
  walk_at "hd"
  walk_at "rk"
  rw [XA, eo]
  walk_at "rk"
  rw [b1]
  refine RY a1 (hout.imp id decide_eq_true) ?_
  walk_at "hd"
  walk_at "rk"
  refine ⟨ls, rfl, ⟨l8, hL, (hL l ml).1⟩, ?_⟩
  have hc : Cl ls (Qq ls l.n ls.length) := Mi ⟨l, ml, rfl⟩
  have gm := Kc (ls := ls) (P := JH) (hL l ml).1 (fun l hl => (hL l hl).1) ls.length
  generalize Qq ls l.n ls.length = G at hc gm ⊢
  walk_at "hd"
  walk_at "rk"
  refine ⟨by omega, fun j acc M2 => acc = ((ls.take j).filter (V3 G)).map ldD ∧ M2 = Zx M' p (.dkv ((ls.map ldR).map fun r => ((Sum.inr r.n : Key), PyData.str r.o))), ⟨rfl, rfl⟩, ?_, ?_⟩
  ·rintro j d acc M2 hd ⟨rfl, rfl⟩
   obtain ⟨x, ex, rfl⟩ := ZE hd
   have e : ls.take (j + 1) = ls.take j ++ [x] := by rw [List.take_succ, ex]; rfl
   obtain ⟨a2, b2⟩ := Jn (s := x.n) (ss := G) fun t ht => by
    rcases List.mem_cons.mp ht with rfl | ht
    ·exact (hL x (List.mem_of_getElem? ex)).1
    ·exact gm t ht
   rw [WD x]
   walk_at "rk"
   rw [a2, b2, e, List.filter_append]
   refine ⟨rfl, Jx (fun y => ?_) fun y => ?_⟩
   ·rw [List.filter_cons_of_pos (by exact y), List.filter_nil, List.map_append]
    first | exact ⟨rfl, rfl⟩ | rfl
   ·rw [List.filter_cons_of_neg (by unfold V3; rw [y]; exact Bool.false_ne_true), List.filter_nil, List.append_nil]
  rintro acc M2 ⟨rfl, rfl⟩
  rw [len, List.take_length]
  subst_vars
  walk_at "rk"
  refine ⟨ls.filter (V3 G), rfl, ss, rfl, ⟨ho.rest, fun l hl => hL l (List.mem_filter.mp hl).1, hsL⟩, fun ls2 n2 hO2 p2 s2 => ?_⟩
  cases (hO.rest hc).uniq ho.rest hO2
  rw [Cn (ls := ls') fun l hl => hc l (hO.mem hl)] at p2
  refine ⟨by omega, fun j acc M2 => acc = ((n1.take j).filter (NG G)).map PyData.str ∧ M2 = Zx M' p (.dkv ((ls.map ldR).map fun r => ((Sum.inr r.n : Key), PyData.str r.o))), ⟨rfl, rfl⟩, ?_, ?_⟩
  ·rintro j d acc M2 hd ⟨rfl, rfl⟩
   obtain ⟨x, ex, rfl⟩ := ZE hd
   have e : n1.take (j + 1) = n1.take j ++ [x] := by rw [List.take_succ, ex]; rfl
   obtain ⟨a2, b2⟩ := Jn (s := x) (ss := G) fun t ht => by
    rcases List.mem_cons.mp ht with rfl | ht
    ·exact L1 t (List.mem_of_getElem? ex)
    ·exact gm t ht
   walk_at "rk"
   rw [a2, b2, e, List.filter_append]
   refine ⟨rfl, Jx (fun y => ?_) fun y => ?_⟩
   ·rw [List.filter_cons_of_pos (by exact y), List.filter_nil, List.map_append]
    first | exact ⟨rfl, rfl⟩ | rfl
   ·rw [List.filter_cons_of_neg (by unfold NG; rw [y]; exact Bool.false_ne_true), List.filter_nil, List.append_nil]
  rintro acc M2 ⟨rfl, rfl⟩
  rw [len1, List.take_length]
  cases Ju (p2.trans (p1.filter (NG G)).symm) s2 (Xy s1 _)
  refine Km (fun s hs => L1 s (List.mem_filter.mp hs).1) ?_
  rw [if_neg (by decide)]
  exact ⟨_, _, _, rfl, rfl⟩
 ·rintro Δ M2 ⟨k5, k6, k7, rfl, rfl⟩
  subst_vars
  walk_at "rk"
  exact h _ fun a ha => Zz fun e => ha (by rw [e]; exact hp)
theorem Mm (T : Tx K mg) : ZU P w K mg base CX0 4 T.WN T.U1 ["_law_pen_here", "_law_house_here"] (lift K U5) := by
 have G_draw : ZU P w K mg base CX0 1 T.Vb T.J6 ["_law_pen_here", "_law_many"] (lift K Vd) := JW T
 have G_land : ZU P w K mg base CX0 3 T.CV T.EU ["_law_pen_here", "_law_house_here"] (lift K Us) := OR T
 refine okD T.XI.F Qo (fun xs M Φ h => by obtain ⟨_, _, rfl, _⟩ := Zy h; rfl) fun cdv A outer s H E hr => ⟨_, (Ze (Zk 2 Qo.nd (Zg G_draw (hr.mono (by first | decide | omega)) rfl T.Zj.m T.Zj.F.kp T.Zj.b Zp (Za (Zb 0) (Za Zc Zd))))
 (Ze (Zk 3 Qo.nd (QD Zd))
 (Ze (YL (J2 ((QE hr) (Zb 1) ZQ) Xu (Xl Zc)) (Zn 4 Qo.nd) (Ze (Y7 (Zg G_land (hr.mono (by first | decide | omega)) rfl T.GA.m T.GA.F.kp T.GA.b Zp (Za (Zb 0) (Za (Zb 1) Zd))) (Wc (n := 3) rfl (Z3 (Zn 5 Qo.nd) (Z3 (Zn 6 Qo.nd) (Z3 (Zn 7 Qo.nd) YC)))))
 (Ze (Qv (DW.dt (Wy (ZA (GZ hr) (Zb 3) (Qc Zd)) (Yr (ZA MR (Zb 2) Zc)))) (Zh (Zk 5 Qo.nd (Zi (Zi (Zb 3) (DP Zc)) Zc))) (Zh (Qv (ZA MR (Zb 2) Zc) (Zh (Zk 5 Qo.nd ZQ)) ZP)))
 (Ze (Qv (DW.dt (Wy (ZA (GZ hr) (Zb 3) (Qc Zd)) (Yr (ZA (YR hr) (Zm JM (Zb 2) Zc) Zc)))) (Zh (Zk 6 Qo.nd (Zi (Zi (Zb 3) (DP Zc)) Zc))) ZP)
 (Zh (Qv (ZA MR (Zg G_draw (hr.mono (by first | decide | omega)) rfl T.Zj.m T.Zj.F.kp T.Zj.b Zp (Za (Zb 0) (Za Zc Zd))) Zc) (Zh (JO (J4 (Zb 3) (ZJ (Za (Zb 4) (Za (Zb 5) (Za (Zb 6) (Za (Zb 7) Zd)))))))) ZP))))) PassesOwn.never rfl)
 (Zh (Zr (QV JD rfl T.XD VW (Za (Zu Bv rfl T.Jw Jr (Za (Zb 3) Zd)) Zd))))))), fun xs M Φ h => ?_⟩
 replace h := Zy h
 obtain ⟨x1, x2, rfl, h⟩ := h
 replace h := Z6 h
 obtain ⟨p, rfl, h⟩ := h
 replace h := Z6 h
 obtain ⟨q, rfl, c, ls, n, ⟨hp, hs, hn⟩, h⟩ := h
 walk_at "hd"
 walk_at "rk"
 refine ⟨hp, fun wy M1 w0 w1 f1 => ?_⟩
 have hs1 := hs.fr f1
 walk_at "hd"
 walk_at "rk"
 intro r hr'
 have rp : r ≠ p := Ne.symm (f1.1.ne hr')
 have rq : q ≠ r := fun e => by
  obtain ⟨f, ox, oy, eq, hf⟩ := hs1.h1
  rw [e, hr'] at eq
  cases eq
 have rc : c ≠ r := fun e => by
  obtain ⟨cs, ec, _⟩ := hs1.h2
  rw [e, hr'] at ec
  cases ec
 have r0 : M r = none := f1.fresh hr'
 have hs2 := hs1.put (o := .lst []) rq rc
 have pn2 := f1.1.put (o := .lst []) (Ne.symm rp)
 obtain ⟨f, ox, oy, eq, hf⟩ := hs2.h1
 walk_at "hd"
 walk_at "rk"
 rw [eq]
 walk_at "rk"
 rw [Na (by decide) (by have := hs.nm.1; omega), show Int.toNat 5 = 5 from rfl]
 have tl : (ls.take 5).length ≤ 5 := by rw [List.length_take]; omega
 have ll := List.length_map (as := ls.take 5) PyData.str
 refine ⟨fun j Δ M' => ∃ (k4 k5 k6 k7 : Option DV) (rows : List Ld), Δ = [some (.own p), some (.own q), some (.dat (.int wy)), some (.own r), k4, k5, k6, k7] ∧ (rows.map (·.n)).Sublist ((ls.take 5).take j) ∧ (∀ l ∈ rows, Gd ls l) ∧ M' r = some (.lst (rows.map ldD)) ∧ Hs M' p q c ls (n + 12 * j) ∧ Fh p c M M',
   ⟨_, _, _, _, [], rfl, List.Sublist.slnil, fun l hl => (nomatch hl), ZI, hs2, ?_⟩, ?_, ?_⟩
 ·exact ⟨pn2, fun a ha _ hn => (Zz fun e => hn (by rw [e]; exact r0)).trans (f1.2 a ha hn)⟩
 ·rintro j d Δ M' hd ⟨k4, k5, k6, k7, rows, rfl, hrn, hrg, hrm, hrh, hrf⟩
  obtain ⟨s, es, rfl⟩ := ZE hd
  have hj : j < (ls.take 5).length := (List.getElem?_eq_some_iff.mp es).1
  have ms : s ∈ ls.take 5 := List.mem_of_getElem? es
  have rl : rows.length ≤ 5 := by
   have := hrn.length_le
   rw [List.length_map, List.length_take] at this
   omega
  rw [Qn]
  walk_at "hd"
  walk_at "rk"
  refine ⟨c, ls, n + 12 * j, ⟨hrf.1, hrh, by omega⟩, fun ou bs wb M4 hou hshp hlim hwb hs4 f4 => ?_⟩
  have r4 : M4 r = some (.lst (rows.map ldD)) := (f4.2 r rp (Ne.symm rc) (by rw [hrm]; exact Option.some_ne_none _)).trans hrm
  walk_at "hd"
  walk_at "rk"
  rw [r4]
  walk_at "rk"
  refine ZaR hrg hou fun ou hou => ?_
  walk_at "hd"
  walk_at "rk"
  rw [r4]
  walk_at "rk"
  refine SN hrg ⟨hshp, hlim⟩ fun bs hbs => ?_
  subst_vars
  walk_at "rk"
  refine ⟨f4.1, fun r6 M6 a6 b6 f6 => ?_⟩
  have r6' : M6 r = some (.lst (rows.map ldD)) := f6.own r4 rp
  have ff := (hrf.trans f4).trans f6.fh
  refine Zw (fun z => ?_) fun z => ⟨_, _, _, _, rows, rfl, hrn.trans (List.take_sublist_take_left (Nat.le_succ j)), hrg, r6', hs4.fr f6, ff⟩
  rw [r6']
  walk_at "rk"
  refine ⟨by rw [List.length_map]; omega, _, _, _, _, rows ++ [⟨s, ou, bs, wb⟩], rfl, ?_, ?_, ?_, (hs4.fr f6).put rq rc, ff.1.put (Ne.symm rp), fun a ha hc hn => ?_⟩
  ·rw [List.map_append, List.take_succ, es]
   exact hrn.append (List.Sublist.refl _)
  ·intro l hl
   rcases List.mem_append.mp hl with hl | hl
   ·exact hrg l hl
   ·rw [List.mem_singleton.mp hl]
    exact ⟨ms, hou, hbs.1, hbs.2, hwb⟩
  ·rw [List.map_append]
   rfl
  ·rw [Zz (fun e => hn (by rw [e]; exact r0))]
   exact ff.2 a ha hc hn
 ·rintro Δ M4 ⟨k4, k5, k6, k7, rows, rfl, hrn, hrg, hrm, hrh, hrf⟩
  rw [ll] at hrn hrh
  rw [List.take_length] at hrn
  have rl : rows.length ≤ 5 := by
   have := hrn.length_le
   rw [List.length_map] at this
   omega
  have rnd : (rows.map (·.n)).Nodup := hrn.nodup ((List.take_sublist _ _).nodup hs.nm.2.1)
  subst_vars
  walk_at "rk"
  rw [hrm]
  walk_at "rk"
  refine ⟨rows.map (·.n), by rw [List.map_map, List.map_map]; rfl, rnd, by rw [List.length_map]; omega, fun ds' pd ud => ?_⟩
  obtain ⟨lds, rfl, pr⟩ := GU pd rows rfl
  exact h lds M4 (by rw [pr.length_eq]; omega) (Rp rnd (by omega) (fun l hl => ⟨(hrg l hl).2.2.1, (hrg l hl).2.2.2.2.1⟩) pr ud) (fun l hl => hrg l (pr.mem_iff.mp hl)) (hrh.le (by omega)) hrf
theorem TR (T : Tx K mg) : ZU P w K mg base CX0 9 T.TJ T.Zal ["_law_script"] (lift K CO) := by
 have G_pen : ZU P w K mg base CX0 1 T.RV T.RN ["_law_script", "_law_k"] (lift K CF) := T7 T
 have G_house : ZU P w K mg base CX0 3 T.UD T.UA ["_law_pen_here"] (lift K UE) := MK T
 have G_lands : ZU P w K mg base CX0 4 T.WN T.U1 ["_law_pen_here", "_law_house_here"] (lift K U5) := Mm T
 have G_spot : ZU P w K mg base CX0 2 T.Ff T.DQ ["_law_pen_here", "_law_house_here"] (lift K Ug) := Oa T
 have G_held_right : ZU P w K mg base CX0 8 T.Jl T.Jp ["_law_lands_here", "_law_names_here", "_law_held", "_law_spot_here"] (lift K EW) := X3 T
 have G_apart_right : ZU P w K mg base CX0 8 T.QZ T.Q6 ["_law_lands_here", "_law_held", "_law_spot_here"] (lift K W2) := YW T
 have G_draw : ZU P w K mg base CX0 1 T.Vb T.J6 ["_law_pen_here", "_law_many"] (lift K Vd) := JW T
 refine okD T.o_law.F VF (fun xs M Φ ⟨ns, e, _⟩ => by rw [e]; rfl) fun cdv A outer s H E hr => ⟨_, (Ze (Vk rfl T.Jb (Za Zc Zd) (Zn 1 VF.nd) (Ze (Zk 2 VF.nd (Zg G_pen (hr.mono (by first | decide | omega)) rfl T.MF.m T.MF.F.kp T.MF.b Zp (Za (Zb 0) (Za (Zb 1) Zd))))
 (Ze (Zk 3 VF.nd (Zg G_house (hr.mono (by first | decide | omega)) rfl T.Kk.m T.Kk.F.kp T.Kk.b Zp (Za (Zb 2) Zd)))
 (Ze (Zk 4 VF.nd (Zg G_lands (hr.mono (by first | decide | omega)) rfl T.XI.m T.XI.F.kp T.XI.b Zp (Za (Zb 2) (Za (Zb 3) Zd))))
 (Zh (Vk rfl T.Jb (Za Zc Zd) (Zn 5 VF.nd) (Ze (Zk 6 VF.nd (Zg G_spot (hr.mono (by first | decide | omega)) rfl T.Ba.m T.Ba.F.kp T.Ba.b Zp (Za (Zb 2) (Za (Zb 3) Zd))))
 (Ze (Zk 7 VF.nd (Zu Vm rfl T.Jw Jr (Za (Z5 false (Zv (sc := Zf Uj) (XN := ["_law_script", "_law_k", "_law_pen_here", "_law_house_here", "_law_lands_here", "_law_turn", "_law_spot_here", "_law_held"]) (N := ["_law_name", "_law_pen_here"]) (ix := [none, some 2]) rfl rfl (by decide +kernel)) (Q4 ((QE hr) (Zb 3) ZQ)) (fun C ex s H => (Zn 0 (show List.Nodup (["_law_name", "_law_pen_here"] : List Str) by decide +kernel))) (fun C ex s H => (JQ (ZA (YR hr) (Zg G_draw (hr.mono (by first | decide | omega)) rfl T.Zj.m T.Zj.F.kp T.Zj.b Zp (Za (Zb 1) (Za Zc Zd))) Zc))) (fun C ex s H => (Zb 0)) rfl) Zd)))
 (Ze (Qv (Wg (V8 (Zg G_held_right (hr.mono (by first | decide | omega)) rfl T.QO.m T.QO.F.kp T.QO.b Zp (Za (Zb 4) (Za ((QE hr) (Zb 3) ZQ) (Za (Zb 7) (Za (Zb 6) Zd))))))) (Zh (Zr YS)) ZP)
 (Zh (Qv (Wg (V8 (Zg G_apart_right (hr.mono (by first | decide | omega)) rfl T.Qw.m T.Qw.F.kp T.Qw.b Zp (Za (Zb 4) (Za (Zb 7) (Za (Zb 6) Zd)))))) (Zh (Zr YS)) ZP))))) PassesOwn.never rfl))))) PassesOwn.never rfl)
 (Zh (Zr YS))), fun xs M Φ ⟨ns, e, hn, h⟩ => ?_⟩
 subst e
 walk_at "hd"
 walk_at "rk"
 refine ⟨⟨by decide, by decide⟩, fun i Δ M' => ∃ k1 k2 k3 k4 k5 k6 k7 : Option DV, Δ = [some (.dat (.list (ns.map PyData.int))), k1, k2, k3, k4, k5, k6, k7], ⟨_, _, _, _, _, _, _, rfl⟩, ?_, ?_⟩
 ·rintro i Δ M' hi ⟨k1, k2, k3, k4, k5, k6, k7, rfl⟩
  rw [Qn]
  walk_at "hd"
  walk_at "rk"
  refine ⟨by omega, fun p o hp ho => ?_⟩
  walk_at "hd"
  walk_at "rk"
  refine ⟨Pen.Zx ho, fun q c ls M1 hq hc hs f1 => ?_⟩
  walk_at "hd"
  walk_at "rk"
  refine ⟨c, ls, 1, ⟨f1.1, hs, by decide⟩, fun lds M2 hl5 hO hG hs2 f2 => ?_⟩
  have hN := hs.nm.2.2
  have hNm : Nms lds ls := Za5 (fun l hl => (hG l hl).1) hs.nm.1 hs.nm.2.1 hN
  have hLy : B2 lds := fun l hl => ⟨(hN _ (List.mem_of_mem_take (hG l hl).1)).lay, (hG l hl).2.1.lay hN⟩
  subst_vars
  walk_at "rk"
  refine ⟨⟨by decide, by decide⟩, fun j Δ M' => ∃ (k5 k6 k7 : Option DV), Δ = [some (.dat (.list (ns.map PyData.int))), some (.dat (.int (i : Int))), some (.own p), some (.own q), some (.dat (.tuple (lds.map ldD))), k5, k6, k7] ∧ Hs M' p q c ls 61 ∧ Pen M' p, ⟨_, _, _, rfl, hs2, f2.1⟩, ?_, ?_⟩
  ·rintro j Δ M' hj ⟨k5, k6, k7, rfl, hsj, hpj⟩
   rw [Qn]
   walk_at "hd"
   walk_at "rk"
   refine ⟨c, ls, 61, ⟨hpj, hsj, by decide⟩, fun u v M6 f6 => ?_⟩
   have hs6 := hsj.fr f6
   obtain ⟨f', ox', oy', eq', hf'⟩ := hs6.h1
   walk_at "hd"
   walk_at "rk"
   rw [eq']
   walk_at "rk"
   have l6 := hs.nm.1
   have ln := List.length_map (as := ls) PyData.str
   refine ⟨by omega, fun n acc M7 => ∃ ss : List Str, acc = ss.map PyData.str ∧ ss.length ≤ n ∧ (∀ s ∈ ss, s ∈ ls) ∧ Fr p M6 M7, ⟨[], rfl, Nat.le_refl _, fun s hs => (nomatch hs), Fr.refl f6.1⟩, ?_, ?_⟩
   ·rintro n d acc M7 hd ⟨ss, rfl, hsl, hsm, f7⟩
    obtain ⟨s, es, rfl⟩ := ZE hd
    refine ⟨f7.1, fun r8 M8 a8 b8 f8 => Zw (fun z => ⟨ss ++ [s], by rw [List.map_append]; rfl, by rw [List.length_append, List.length_singleton]; omega, fun t ht => ?_, f7.trans f8⟩) fun z => ⟨ss, rfl, by omega, hsm, f7.trans f8⟩⟩
    rcases List.mem_append.mp ht with ht | ht
    ·exact hsm t ht
    ·rw [List.mem_singleton.mp ht]
     exact List.mem_of_getElem? es
   ·rintro acc M7 ⟨ss, rfl, hsl, hsm, f7⟩
    refine ⟨ss, rfl, by omega, fun ss' pr' _ => ?_⟩
    have eq7 := f7.own eq' hs6.qp
    walk_at "hd"
    walk_at "rk"
    rw [eq7]
    walk_at "rk"
    refine ⟨lds, rfl, ls, rfl, ss', rfl, ⟨hO, hLy, hNm, by rw [pr'.length_eq]; omega, fun s hs' => hsm s (pr'.mem_iff.mp hs')⟩, ?_⟩
    subst_vars
    walk_at "rk"
    refine ⟨lds, rfl, ss', rfl, ⟨hO, hLy, fun s hs' => (hN _ (hsm s (pr'.mem_iff.mp hs'))).lay⟩, fun M8 hM8 => ?_⟩
    exact ⟨_, _, _, rfl, (hs6.fr f7).keep hM8, f7.1.keep hM8⟩
  ·rintro Δ M' ⟨k5, k6, k7, rfl, hsj, hpj⟩
   exact ⟨_, _, _, _, _, _, _, rfl⟩
 ·rintro Δ M' ⟨k1, k2, k3, k4, k5, k6, k7, rfl⟩
  subst_vars
  walk_at "rk"
  exact h _
end
theorem Bw {α : Type} {l : List α} (h : l.length = 1) : ∃ a0, l = [a0] := by
 match l, h with
 | [a0], _ => exact ⟨a0, rfl⟩
theorem JF {α : Type} {l : List α} (h : l.length = 2) : ∃ a0 a1, l = [a0, a1] := by
 match l, h with
 | [a0, a1], _ => exact ⟨a0, a1, rfl⟩
theorem UB {α : Type} {l : List α} (h : l.length = 3) : ∃ a0 a1 a2, l = [a0, a1, a2] := by
 match l, h with
 | [a0, a1, a2], _ => exact ⟨a0, a1, a2, rfl⟩
theorem ZcX {α : Type} {l : List α} (h : l.length = 4) : ∃ a0 a1 a2 a3, l = [a0, a1, a2, a3] := by
 match l, h with
 | [a0, a1, a2, a3], _ => exact ⟨a0, a1, a2, a3, rfl⟩
theorem all_mk {l : PySem.W.OpenLaw} {w : World} {K : PySem.W.Frag} {h : Heap} {mg : Str → Option Value} {fa : Addr} (X : K.In h) (G : h.Ns mainGlobals mg) (hfa : mg "law" = some (.ref fa))
  {f0 : Addr} {od0 an0 : Option Addr} {sl0 : Array (Option Value)} {oc0 kV0 dc0 pm0 cd0 ct0 : Value} {f1 : Addr} {od1 an1 : Option Addr} {sl1 : Array (Option Value)} {oc1 kV1 dc1 pm1 cd1 ct1 : Value} {f2 : Addr} {od2 an2 : Option Addr} {sl2 : Array (Option Value)} {oc2 kV2 dc2 pm2 cd2 ct2 : Value} {f3 : Addr} {od3 an3 : Option Addr} {sl3 : Array (Option Value)} {oc3 kV3 dc3 pm3 cd3 ct3 : Value} {f4 : Addr} {od4 an4 : Option Addr} {sl4 : Array (Option Value)} {oc4 kV4 dc4 pm4 cd4 ct4 : Value} {f5 : Addr} {od5 an5 : Option Addr} {sl5 : Array (Option Value)} {oc5 kV5 dc5 pm5 cd5 ct5 : Value} {f6 : Addr} {od6 an6 : Option Addr} {sl6 : Array (Option Value)} {oc6 kV6 dc6 pm6 cd6 ct6 : Value} {f7 : Addr} {od7 an7 : Option Addr} {sl7 : Array (Option Value)} {oc7 kV7 dc7 pm7 cd7 ct7 : Value} {f8 : Addr} {od8 an8 : Option Addr} {sl8 : Array (Option Value)} {oc8 kV8 dc8 pm8 cd8 ct8 : Value} {f9 : Addr} {od9 an9 : Option Addr} {sl9 : Array (Option Value)} {oc9 kV9 dc9 pm9 cd9 ct9 : Value} {f10 : Addr} {od10 an10 : Option Addr} {sl10 : Array (Option Value)} {oc10 kV10 dc10 pm10 cd10 ct10 : Value} {f11 : Addr} {od11 an11 : Option Addr} {sl11 : Array (Option Value)} {oc11 kV11 dc11 pm11 cd11 ct11 : Value} {f12 : Addr} {od12 an12 : Option Addr} {sl12 : Array (Option Value)} {oc12 kV12 dc12 pm12 cd12 ct12 : Value} {f13 : Addr} {od13 an13 : Option Addr} {sl13 : Array (Option Value)} {oc13 kV13 dc13 pm13 cd13 ct13 : Value} {f14 : Addr} {od14 an14 : Option Addr} {sl14 : Array (Option Value)} {oc14 kV14 dc14 pm14 cd14 ct14 : Value} {f15 : Addr} {od15 an15 : Option Addr} {sl15 : Array (Option Value)} {oc15 kV15 dc15 pm15 cd15 ct15 : Value} {f16 : Addr} {od16 an16 : Option Addr} {sl16 : Array (Option Value)} {oc16 kV16 dc16 pm16 cd16 ct16 : Value} {f17 : Addr} {od17 an17 : Option Addr} {sl17 : Array (Option Value)} {oc17 kV17 dc17 pm17 cd17 ct17 : Value} {f18 : Addr} {od18 an18 : Option Addr} {sl18 : Array (Option Value)} {oc18 kV18 dc18 pm18 cd18 ct18 : Value} {f19 : Addr} {od19 an19 : Option Addr} {sl19 : Array (Option Value)} {oc19 kV19 dc19 pm19 cd19 ct19 : Value} {f20 : Addr} {od20 an20 : Option Addr} {sl20 : Array (Option Value)} {oc20 kV20 dc20 pm20 cd20 ct20 : Value} {f21 : Addr} {od21 an21 : Option Addr} {sl21 : Array (Option Value)} {oc21 kV21 dc21 pm21 cd21 ct21 : Value} {f22 : Addr} {od22 an22 : Option Addr} {sl22 : Array (Option Value)} {oc22 kV22 dc22 pm22 cd22 ct22 : Value} {f23 : Addr} {od23 an23 : Option Addr} {sl23 : Array (Option Value)} {oc23 kV23 dc23 pm23 cd23 ct23 : Value} {f24 : Addr} {od24 an24 : Option Addr} {sl24 : Array (Option Value)} {oc24 kV24 dc24 pm24 cd24 ct24 : Value} {f25 : Addr} {od25 an25 : Option Addr} {sl25 : Array (Option Value)} {oc25 kV25 dc25 pm25 cd25 ct25 : Value} {f26 : Addr} {od26 an26 : Option Addr} {sl26 : Array (Option Value)} {oc26 kV26 dc26 pm26 cd26 ct26 : Value} {f27 : Addr} {od27 an27 : Option Addr} {sl27 : Array (Option Value)} {oc27 kV27 dc27 pm27 cd27 ct27 : Value} {f28 : Addr} {od28 an28 : Option Addr} {sl28 : Array (Option Value)} {oc28 kV28 dc28 pm28 cd28 ct28 : Value} {f29 : Addr} {od29 an29 : Option Addr} {sl29 : Array (Option Value)} {oc29 kV29 dc29 pm29 cd29 ct29 : Value}
  (a0 : PySem.W.nsIn K mainGlobals "has_spots" = some (some (.ref f0))) (l0 : K.lookup f0 = some ⟨oc0, od0, .func (PySem.W.fnOf "has_spots" "has_spots" (Zs Qk) (Zo Qk) (Zf Qk) .none kV0 dc0 pm0 an0 cd0 ct0), sl0⟩) (c0 : PySem.W.codeIn K cd0 "has_spots" = true) (k0 : PySem.W.keepIn K (.ref f0) = true)
  (a1 : PySem.W.nsIn K mainGlobals "steps_to" = some (some (.ref f1))) (l1 : K.lookup f1 = some ⟨oc1, od1, .func (PySem.W.fnOf "steps_to" "steps_to" (Zs Qz) (Zo Qz) (Zf Qz) .none kV1 dc1 pm1 an1 cd1 ct1), sl1⟩) (c1 : PySem.W.codeIn K cd1 "steps_to" = true) (k1 : PySem.W.keepIn K (.ref f1) = true)
  (a2 : PySem.W.nsIn K mainGlobals "steps_between" = some (some (.ref f2))) (l2 : K.lookup f2 = some ⟨oc2, od2, .func (PySem.W.fnOf "steps_between" "steps_between" (Zs ZS) (Zo ZS) (Zf ZS) .none kV2 dc2 pm2 an2 cd2 ct2), sl2⟩) (c2 : PySem.W.codeIn K cd2 "steps_between" = true) (k2 : PySem.W.keepIn K (.ref f2) = true)
  (a3 : PySem.W.nsIn K mainGlobals "gap" = some (some (.ref f3))) (l3 : K.lookup f3 = some ⟨oc3, od3, .func (PySem.W.fnOf "gap" "gap" (Zs Bp) (Zo Bp) (Zf Bp) .none kV3 dc3 pm3 an3 cd3 ct3), sl3⟩) (c3 : PySem.W.codeIn K cd3 "gap" = true) (k3 : PySem.W.keepIn K (.ref f3) = true)
  (a4 : PySem.W.nsIn K mainGlobals "square" = some (some (.ref f4))) (l4 : K.lookup f4 = some ⟨oc4, od4, .func (PySem.W.fnOf "square" "square" (Zs Jv) (Zo Jv) (Zf Jv) .none kV4 dc4 pm4 an4 cd4 ct4), sl4⟩) (c4 : PySem.W.codeIn K cd4 "square" = true) (k4 : PySem.W.keepIn K (.ref f4) = true)
  (a5 : PySem.W.nsIn K mainGlobals "common" = some (some (.ref f5))) (l5 : K.lookup f5 = some ⟨oc5, od5, .func (PySem.W.fnOf "common" "common" (Zs Js) (Zo Js) (Zf Js) .none kV5 dc5 pm5 an5 cd5 ct5), sl5⟩) (c5 : PySem.W.codeIn K cd5 "common" = true) (k5 : PySem.W.keepIn K (.ref f5) = true)
  (a6 : PySem.W.nsIn K mainGlobals "cut_out" = some (some (.ref f6))) (l6 : K.lookup f6 = some ⟨oc6, od6, .func (PySem.W.fnOf "cut_out" "cut_out" (Zs QG) (Zo QG) (Zf QG) .none kV6 dc6 pm6 an6 cd6 ct6), sl6⟩) (c6 : PySem.W.codeIn K cd6 "cut_out" = true) (k6 : PySem.W.keepIn K (.ref f6) = true)
  (a7 : PySem.W.nsIn K mainGlobals "left_over" = some (some (.ref f7))) (l7 : K.lookup f7 = some ⟨oc7, od7, .func (PySem.W.fnOf "left_over" "left_over" (Zs Qi) (Zo Qi) (Zf Qi) .none kV7 dc7 pm7 an7 cd7 ct7), sl7⟩) (c7 : PySem.W.codeIn K cd7 "left_over" = true) (k7 : PySem.W.keepIn K (.ref f7) = true)
  (a8 : PySem.W.nsIn K mainGlobals "side" = some (some (.ref f8))) (l8 : K.lookup f8 = some ⟨oc8, od8, .func (PySem.W.fnOf "side" "side" (Zs YZ) (Zo YZ) (Zf YZ) .none kV8 dc8 pm8 an8 cd8 ct8), sl8⟩) (c8 : PySem.W.codeIn K cd8 "side" = true) (k8 : PySem.W.keepIn K (.ref f8) = true)
  (a9 : PySem.W.nsIn K mainGlobals "steps_away" = some (some (.ref f9))) (l9 : K.lookup f9 = some ⟨oc9, od9, .func (PySem.W.fnOf "steps_away" "steps_away" (Zs Z0) (Zo Z0) (Zf Z0) .none kV9 dc9 pm9 an9 cd9 ct9), sl9⟩) (c9 : PySem.W.codeIn K cd9 "steps_away" = true) (k9 : PySem.W.keepIn K (.ref f9) = true)
  (a10 : PySem.W.nsIn K mainGlobals "level" = some (some (.ref f10))) (l10 : K.lookup f10 = some ⟨oc10, od10, .func (PySem.W.fnOf "level" "level" (Zs JY) (Zo JY) (Zf JY) .none kV10 dc10 pm10 an10 cd10 ct10), sl10⟩) (c10 : PySem.W.codeIn K cd10 "level" = true) (k10 : PySem.W.keepIn K (.ref f10) = true)
  (a11 : PySem.W.nsIn K mainGlobals "looked" = some (some (.ref f11))) (l11 : K.lookup f11 = some ⟨oc11, od11, .func (PySem.W.fnOf "looked" "looked" (Zs Jz) (Zo Jz) (Zf Jz) .none kV11 dc11 pm11 an11 cd11 ct11), sl11⟩) (c11 : PySem.W.codeIn K cd11 "looked" = true) (k11 : PySem.W.keepIn K (.ref f11) = true)
  (a12 : PySem.W.nsIn K mainGlobals "outer_first" = some (some (.ref f12))) (l12 : K.lookup f12 = some ⟨oc12, od12, .func (PySem.W.fnOf "outer_first" "outer_first" (Zs ZF) (Zo ZF) (Zf ZF) .none kV12 dc12 pm12 an12 cd12 ct12), sl12⟩) (c12 : PySem.W.codeIn K cd12 "outer_first" = true) (k12 : PySem.W.keepIn K (.ref f12) = true)
  (a13 : PySem.W.nsIn K mainGlobals "keeps" = some (some (.ref f13))) (l13 : K.lookup f13 = some ⟨oc13, od13, .func (PySem.W.fnOf "keeps" "keeps" (Zs VB) (Zo VB) (Zf VB) .none kV13 dc13 pm13 an13 cd13 ct13), sl13⟩) (c13 : PySem.W.codeIn K cd13 "keeps" = true) (k13 : PySem.W.keepIn K (.ref f13) = true)
  (a14 : PySem.W.nsIn K mainGlobals "_law_pen" = some (some (.ref f14))) (l14 : K.lookup f14 = some ⟨oc14, od14, .func (PySem.W.fnOf "_law_pen" "_law_pen" (Zs BB) (Zo BB) (Zf BB) .none kV14 dc14 pm14 an14 cd14 ct14), sl14⟩) (c14 : PySem.W.codeIn K cd14 "_law_pen" = true) (k14 : PySem.W.keepIn K (.ref f14) = true)
  (a15 : PySem.W.nsIn K mainGlobals "_law_draw" = some (some (.ref f15))) (l15 : K.lookup f15 = some ⟨oc15, od15, .func (PySem.W.fnOf "_law_draw" "_law_draw" (Zs Y5) (Zo Y5) (Zf Y5) .none kV15 dc15 pm15 an15 cd15 ct15), sl15⟩) (c15 : PySem.W.codeIn K cd15 "_law_draw" = true) (k15 : PySem.W.keepIn K (.ref f15) = true)
  (a16 : PySem.W.nsIn K mainGlobals "_law_names" = some (some (.ref f16))) (l16 : K.lookup f16 = some ⟨oc16, od16, .func (PySem.W.fnOf "_law_names" "_law_names" (Zs QS) (Zo QS) (Zf QS) .none kV16 dc16 pm16 an16 cd16 ct16), sl16⟩) (c16 : PySem.W.codeIn K cd16 "_law_names" = true) (k16 : PySem.W.keepIn K (.ref f16) = true)
  (a17 : PySem.W.nsIn K mainGlobals "_law_frame" = some (some (.ref f17))) (l17 : K.lookup f17 = some ⟨oc17, od17, .func (PySem.W.fnOf "_law_frame" "_law_frame" (Zs Vl) (Zo Vl) (Zf Vl) .none kV17 dc17 pm17 an17 cd17 ct17), sl17⟩) (c17 : PySem.W.codeIn K cd17 "_law_frame" = true) (k17 : PySem.W.keepIn K (.ref f17) = true)
  (a18 : PySem.W.nsIn K mainGlobals "_law_boxes" = some (some (.ref f18))) (l18 : K.lookup f18 = some ⟨oc18, od18, .func (PySem.W.fnOf "_law_boxes" "_law_boxes" (Zs Vz) (Zo Vz) (Zf Vz) .none kV18 dc18 pm18 an18 cd18 ct18), sl18⟩) (c18 : PySem.W.codeIn K cd18 "_law_boxes" = true) (k18 : PySem.W.keepIn K (.ref f18) = true)
  (a19 : PySem.W.nsIn K mainGlobals "_law_laid" = some (some (.ref f19))) (l19 : K.lookup f19 = some ⟨oc19, od19, .func (PySem.W.fnOf "_law_laid" "_law_laid" (Zs Y4) (Zo Y4) (Zf Y4) .none kV19 dc19 pm19 an19 cd19 ct19), sl19⟩) (c19 : PySem.W.codeIn K cd19 "_law_laid" = true) (k19 : PySem.W.keepIn K (.ref f19) = true)
  (a20 : PySem.W.nsIn K mainGlobals "_law_spot" = some (some (.ref f20))) (l20 : K.lookup f20 = some ⟨oc20, od20, .func (PySem.W.fnOf "_law_spot" "_law_spot" (Zs Y6) (Zo Y6) (Zf Y6) .none kV20 dc20 pm20 an20 cd20 ct20), sl20⟩) (c20 : PySem.W.codeIn K cd20 "_law_spot" = true) (k20 : PySem.W.keepIn K (.ref f20) = true)
  (a21 : PySem.W.nsIn K mainGlobals "_law_land" = some (some (.ref f21))) (l21 : K.lookup f21 = some ⟨oc21, od21, .func (PySem.W.fnOf "_law_land" "_law_land" (Zs Yf) (Zo Yf) (Zf Yf) .none kV21 dc21 pm21 an21 cd21 ct21), sl21⟩) (c21 : PySem.W.codeIn K cd21 "_law_land" = true) (k21 : PySem.W.keepIn K (.ref f21) = true)
  (a22 : PySem.W.nsIn K mainGlobals "_law_house" = some (some (.ref f22))) (l22 : K.lookup f22 = some ⟨oc22, od22, .func (PySem.W.fnOf "_law_house" "_law_house" (Zs Vx) (Zo Vx) (Zf Vx) .none kV22 dc22 pm22 an22 cd22 ct22), sl22⟩) (c22 : PySem.W.codeIn K cd22 "_law_house" = true) (k22 : PySem.W.keepIn K (.ref f22) = true)
  (a23 : PySem.W.nsIn K mainGlobals "_law_lands" = some (some (.ref f23))) (l23 : K.lookup f23 = some ⟨oc23, od23, .func (PySem.W.fnOf "_law_lands" "_law_lands" (Zs Vy) (Zo Vy) (Zf Vy) .none kV23 dc23 pm23 an23 cd23 ct23), sl23⟩) (c23 : PySem.W.codeIn K cd23 "_law_lands" = true) (k23 : PySem.W.keepIn K (.ref f23) = true)
  (a24 : PySem.W.nsIn K mainGlobals "_law_within" = some (some (.ref f24))) (l24 : K.lookup f24 = some ⟨oc24, od24, .func (PySem.W.fnOf "_law_within" "_law_within" (Zs QW) (Zo QW) (Zf QW) .none kV24 dc24 pm24 an24 cd24 ct24), sl24⟩) (c24 : PySem.W.codeIn K cd24 "_law_within" = true) (k24 : PySem.W.keepIn K (.ref f24) = true)
  (a25 : PySem.W.nsIn K mainGlobals "_law_wobbled" = some (some (.ref f25))) (l25 : K.lookup f25 = some ⟨oc25, od25, .func (PySem.W.fnOf "_law_wobbled" "_law_wobbled" (Zs QF) (Zo QF) (Zf QF) .none kV25 dc25 pm25 an25 cd25 ct25), sl25⟩) (c25 : PySem.W.codeIn K cd25 "_law_wobbled" = true) (k25 : PySem.W.keepIn K (.ref f25) = true)
  (a26 : PySem.W.nsIn K mainGlobals "_law_held_right" = some (some (.ref f26))) (l26 : K.lookup f26 = some ⟨oc26, od26, .func (PySem.W.fnOf "_law_held_right" "_law_held_right" (Zs Qd) (Zo Qd) (Zf Qd) .none kV26 dc26 pm26 an26 cd26 ct26), sl26⟩) (c26 : PySem.W.codeIn K cd26 "_law_held_right" = true) (k26 : PySem.W.keepIn K (.ref f26) = true)
  (a27 : PySem.W.nsIn K mainGlobals "_law_inner" = some (some (.ref f27))) (l27 : K.lookup f27 = some ⟨oc27, od27, .func (PySem.W.fnOf "_law_inner" "_law_inner" (Zs JR) (Zo JR) (Zf JR) .none kV27 dc27 pm27 an27 cd27 ct27), sl27⟩) (c27 : PySem.W.codeIn K cd27 "_law_inner" = true) (k27 : PySem.W.keepIn K (.ref f27) = true)
  (a28 : PySem.W.nsIn K mainGlobals "_law_apart_right" = some (some (.ref f28))) (l28 : K.lookup f28 = some ⟨oc28, od28, .func (PySem.W.fnOf "_law_apart_right" "_law_apart_right" (Zs ZD) (Zo ZD) (Zf ZD) .none kV28 dc28 pm28 an28 cd28 ct28), sl28⟩) (c28 : PySem.W.codeIn K cd28 "_law_apart_right" = true) (k28 : PySem.W.keepIn K (.ref f28) = true)
  (a29 : PySem.W.nsIn K mainGlobals "law" = some (some (.ref f29))) (l29 : K.lookup f29 = some ⟨oc29, od29, .func (PySem.W.fnOf "law" "law" (Zs Uj) (Zo Uj) (Zf Uj) .none kV29 dc29 pm29 an29 cd29 ct29), sl29⟩) (c29 : PySem.W.codeIn K cd29 "law" = true) (k29 : PySem.W.keepIn K (.ref f29) = true)
  (z0 : PySem.W.nsIn K mainGlobals "abs" = some none)
  (z1 : PySem.W.nsIn K mainGlobals "dict" = some none)
  (z2 : PySem.W.nsIn K mainGlobals "len" = some none)
  (z3 : PySem.W.nsIn K mainGlobals "max" = some none)
  (z4 : PySem.W.nsIn K mainGlobals "min" = some none)
  (z5 : PySem.W.nsIn K mainGlobals "range" = some none)
  (z6 : PySem.W.nsIn K mainGlobals "set" = some none)
  (z7 : PySem.W.nsIn K mainGlobals "sorted" = some none)
  (z8 : PySem.W.nsIn K mainGlobals "tuple" = some none) :
  ∃ fd : FuncData, (∀ (s : Shared) (v : Value), BindsTo s fd ⟨[v], []⟩ [("_law_script", v)]) ∧ ∀ base : Heap, K.In base → base.Ns mainGlobals mg → ZU l.prog w K mg base CX0 9 fa fd ["_law_script"] (lift K CO) := by
 have e := hfa.symm.trans (PySem.W.mg_of X G a29)
 cases e
 have F0 := ZO (st := Qk) l0 c0 k0
 have b0 := F0.binds (ps := ["box"]) fun _ _ _ _ _ _ us hl => by obtain ⟨_, rfl⟩ := Bw hl; rfl
 have F1 := ZO (st := Qz) l1 c1 k1
 have b1 := F1.binds (ps := ["box", "spot"]) fun _ _ _ _ _ _ us hl => by obtain ⟨_, _, rfl⟩ := JF hl; rfl
 have F2 := ZO (st := ZS) l2 c2 k2
 have b2 := F2.binds (ps := ["one", "other"]) fun _ _ _ _ _ _ us hl => by obtain ⟨_, _, rfl⟩ := JF hl; rfl
 have F3 := ZO (st := Bp) l3 c3 k3
 have b3 := F3.binds (ps := ["one", "other", "way"]) fun _ _ _ _ _ _ us hl => by obtain ⟨_, _, _, rfl⟩ := UB hl; rfl
 have F4 := ZO (st := Jv) l4 c4 k4
 have b4 := F4.binds (ps := ["spot", "r"]) fun _ _ _ _ _ _ us hl => by obtain ⟨_, _, rfl⟩ := JF hl; rfl
 have F5 := ZO (st := Js) l5 c5 k5
 have b5 := F5.binds (ps := ["one", "other"]) fun _ _ _ _ _ _ us hl => by obtain ⟨_, _, rfl⟩ := JF hl; rfl
 have F6 := ZO (st := QG) l6 c6 k6
 have b6 := F6.binds (ps := ["one", "other"]) fun _ _ _ _ _ _ us hl => by obtain ⟨_, _, rfl⟩ := JF hl; rfl
 have F7 := ZO (st := Qi) l7 c7 k7
 have b7 := F7.binds (ps := ["box", "others"]) fun _ _ _ _ _ _ us hl => by obtain ⟨_, _, rfl⟩ := JF hl; rfl
 have F8 := ZO (st := YZ) l8 c8 k8
 have b8 := F8.binds (ps := ["shape", "wobble", "spot"]) fun _ _ _ _ _ _ us hl => by obtain ⟨_, _, _, rfl⟩ := UB hl; rfl
 have F9 := ZO (st := Z0) l9 c9 k9
 have b9 := F9.binds (ps := ["pieces", "spot"]) fun _ _ _ _ _ _ us hl => by obtain ⟨_, _, rfl⟩ := JF hl; rfl
 have F10 := ZO (st := JY) l10 c10 k10
 have b10 := F10.binds (ps := ["lands", "land"]) fun _ _ _ _ _ _ us hl => by obtain ⟨_, _, rfl⟩ := JF hl; rfl
 have F11 := ZO (st := Jz) l11 c11 k11
 have b11 := F11.binds (ps := ["lands", "held", "spot"]) fun _ _ _ _ _ _ us hl => by obtain ⟨_, _, _, rfl⟩ := UB hl; rfl
 have F12 := ZO (st := ZF) l12 c12 k12
 have b12 := F12.binds (ps := ["lands"]) fun _ _ _ _ _ _ us hl => by obtain ⟨_, rfl⟩ := Bw hl; rfl
 have F13 := ZO (st := VB) l13 c13 k13
 have b13 := F13.binds (ps := ["row", "held", "spot"]) fun _ _ _ _ _ _ us hl => by obtain ⟨_, _, _, rfl⟩ := UB hl; rfl
 have F14 := ZO (st := BB) l14 c14 k14
 have b14 := F14.binds (ps := ["_law_script", "_law_k"]) fun _ _ _ _ _ _ us hl => by obtain ⟨_, _, rfl⟩ := JF hl; rfl
 have F15 := ZO (st := Y5) l15 c15 k15
 have b15 := F15.binds (ps := ["_law_pen_here", "_law_many"]) fun _ _ _ _ _ _ us hl => by obtain ⟨_, _, rfl⟩ := JF hl; rfl
 have F16 := ZO (st := QS) l16 c16 k16
 have b16 := F16.binds (ps := ["_law_pen_here", "_law_many"]) fun _ _ _ _ _ _ us hl => by obtain ⟨_, _, rfl⟩ := JF hl; rfl
 have F17 := ZO (st := Vl) l17 c17 k17
 have b17 := F17.binds (ps := ["_law_pen_here"]) fun _ _ _ _ _ _ us hl => by obtain ⟨_, rfl⟩ := Bw hl; rfl
 have F18 := ZO (st := Vz) l18 c18 k18
 have b18 := F18.binds (ps := ["_law_pen_here"]) fun _ _ _ _ _ _ us hl => by obtain ⟨_, rfl⟩ := Bw hl; rfl
 have F19 := ZO (st := Y4) l19 c19 k19
 have b19 := F19.binds (ps := ["_law_frame_here", "_law_spot_here", "_law_more"]) fun _ _ _ _ _ _ us hl => by obtain ⟨_, _, _, rfl⟩ := UB hl; rfl
 have F20 := ZO (st := Y6) l20 c20 k20
 have b20 := F20.binds (ps := ["_law_pen_here", "_law_house_here"]) fun _ _ _ _ _ _ us hl => by obtain ⟨_, _, rfl⟩ := JF hl; rfl
 have F21 := ZO (st := Yf) l21 c21 k21
 have b21 := F21.binds (ps := ["_law_pen_here", "_law_house_here"]) fun _ _ _ _ _ _ us hl => by obtain ⟨_, _, rfl⟩ := JF hl; rfl
 have F22 := ZO (st := Vx) l22 c22 k22
 have b22 := F22.binds (ps := ["_law_pen_here"]) fun _ _ _ _ _ _ us hl => by obtain ⟨_, rfl⟩ := Bw hl; rfl
 have F23 := ZO (st := Vy) l23 c23 k23
 have b23 := F23.binds (ps := ["_law_pen_here", "_law_house_here"]) fun _ _ _ _ _ _ us hl => by obtain ⟨_, _, rfl⟩ := JF hl; rfl
 have F24 := ZO (st := QW) l24 c24 k24
 have b24 := F24.binds (ps := ["_law_one", "_law_other"]) fun _ _ _ _ _ _ us hl => by obtain ⟨_, _, rfl⟩ := JF hl; rfl
 have F25 := ZO (st := QF) l25 c25 k25
 have b25 := F25.binds (ps := ["_law_lands_here", "_law_least", "_law_more"]) fun _ _ _ _ _ _ us hl => by obtain ⟨_, _, _, rfl⟩ := UB hl; rfl
 have F26 := ZO (st := Qd) l26 c26 k26
 have b26 := F26.binds (ps := ["_law_lands_here", "_law_names_here", "_law_held", "_law_spot_here"]) fun _ _ _ _ _ _ us hl => by obtain ⟨_, _, _, _, rfl⟩ := ZcX hl; rfl
 have F27 := ZO (st := JR) l27 c27 k27
 have b27 := F27.binds (ps := ["_law_lands_here", "_law_land_here"]) fun _ _ _ _ _ _ us hl => by obtain ⟨_, _, rfl⟩ := JF hl; rfl
 have F28 := ZO (st := ZD) l28 c28 k28
 have b28 := F28.binds (ps := ["_law_lands_here", "_law_held", "_law_spot_here"]) fun _ _ _ _ _ _ us hl => by obtain ⟨_, _, _, rfl⟩ := UB hl; rfl
 have F29 := ZO (st := Uj) l29 c29 k29
 have b29 := F29.binds (ps := ["_law_script"]) fun _ _ _ _ _ _ us hl => by obtain ⟨_, rfl⟩ := Bw hl; rfl
 let T : Tx K mg := ⟨_, _, ⟨F0, PySem.W.mg_of X G a0, b0⟩, _, _, ⟨F1, PySem.W.mg_of X G a1, b1⟩, _, _, ⟨F2, PySem.W.mg_of X G a2, b2⟩, _, _, ⟨F3, PySem.W.mg_of X G a3, b3⟩, _, _, ⟨F4, PySem.W.mg_of X G a4, b4⟩, _, _, ⟨F5, PySem.W.mg_of X G a5, b5⟩, _, _, ⟨F6, PySem.W.mg_of X G a6, b6⟩, _, _, ⟨F7, PySem.W.mg_of X G a7, b7⟩, _, _, ⟨F8, PySem.W.mg_of X G a8, b8⟩, _, _, ⟨F9, PySem.W.mg_of X G a9, b9⟩, _, _, ⟨F10, PySem.W.mg_of X G a10, b10⟩, _, _, ⟨F11, PySem.W.mg_of X G a11, b11⟩, _, _, ⟨F12, PySem.W.mg_of X G a12, b12⟩, _, _, ⟨F13, PySem.W.mg_of X G a13, b13⟩, _, _, ⟨F14, PySem.W.mg_of X G a14, b14⟩, _, _, ⟨F15, PySem.W.mg_of X G a15, b15⟩, _, _, ⟨F16, PySem.W.mg_of X G a16, b16⟩, _, _, ⟨F17, PySem.W.mg_of X G a17, b17⟩, _, _, ⟨F18, PySem.W.mg_of X G a18, b18⟩, _, _, ⟨F19, PySem.W.mg_of X G a19, b19⟩, _, _, ⟨F20, PySem.W.mg_of X G a20, b20⟩, _, _, ⟨F21, PySem.W.mg_of X G a21, b21⟩, _, _, ⟨F22, PySem.W.mg_of X G a22, b22⟩, _, _, ⟨F23, PySem.W.mg_of X G a23, b23⟩, _, _, ⟨F24, PySem.W.mg_of X G a24, b24⟩, _, _, ⟨F25, PySem.W.mg_of X G a25, b25⟩, _, _, ⟨F26, PySem.W.mg_of X G a26, b26⟩, _, _, ⟨F27, PySem.W.mg_of X G a27, b27⟩, _, _, ⟨F28, PySem.W.mg_of X G a28, b28⟩, _, _, ⟨F29, PySem.W.mg_of X G a29, b29⟩, PySem.W.mg_none_of X G z0, PySem.W.mg_none_of X G z1, PySem.W.mg_none_of X G z2, PySem.W.mg_none_of X G z3, PySem.W.mg_none_of X G z4, PySem.W.mg_none_of X G z5, PySem.W.mg_none_of X G z6, PySem.W.mg_none_of X G z7, PySem.W.mg_none_of X G z8⟩
 exact ⟨_, fun s v => .of_eq rfl, fun base _ _ => TR T⟩
theorem walk {l : PySem.W.OpenLaw} {q : Program} {loose : List Str} {XP : (Str → Option Value) → Heap → Prop} {YP : World → Heap → Prop} {d : DefRec} {K : Params → PySem.W.Frag} (hn : l.most = some 63) (hdf : d.params.defaults = [])
  (hY : ∀ (w : World) (h : Heap), YP w h → (K w.params).In h)
  (F : ∀ (w : World) (mg : Str → Option Value) (fa : Addr) (h : Heap), (K w.params).In h → h.Ns mainGlobals mg → mg d.name = some (.ref fa) →
   ∃ fd : FuncData, (∀ (s : Shared) (u : Value), BindsTo s fd ⟨[u], []⟩ [("_law_script", u)]) ∧ ∀ base : Heap, (K w.params).In base → base.Ns mainGlobals mg → ZU l.prog w (K w.params) mg base CX0 9 fa fd ["_law_script"] (lift (K w.params) CO)) :
  PySem.W.WalkO q loose XP YP l.row.toRowW d [] (fun f vs => PySem.call f vs) :=
 L2.R6 (n := 63) (k := 9) (x := "_law_script") (CX := fun _ => CX0) (sp := fun w => lift (K w.params) CO) hn (by decide) hdf ⟨rfl, by decide, by decide, rfl⟩ hY F
  (fun w H a ns hl hO hS => Eb hl hO hS) fun _ _ _ _ _ z => z
end My
theorem PySem.W.Fast.tw12174763198668927106 : True := trivial
theorem PySem.W.Fast.tw4265849612376614547 : True := trivial
theorem PySem.W.Fast.tw15697784510858790024 : True := trivial
theorem PySem.W.Fast.tw2460076715784091386 : True := trivial
theorem PySem.W.Fast.tw16387351377289634059 : True := trivial
theorem PySem.W.Fast.tw12292051730735058573 : True := trivial
theorem PySem.W.Fast.tw7635177424195892154 : True := trivial
theorem PySem.W.Fast.tw18371625104132825302 : True := trivial
theorem PySem.W.Fast.tw17088243509963705566 : True := trivial
theorem PySem.W.Fast.tw13101398845720203249 : True := trivial
theorem PySem.W.Fast.tw7223745993857208246 : True := trivial
theorem PySem.W.Fast.tw12145202012977491824 : True := trivial
theorem PySem.W.Fast.tw13023483087566244558 : True := trivial
theorem PySem.W.Fast.tw7901673738167396728 : True := trivial
theorem PySem.W.Fast.tw9322619411025851937 : True := trivial
theorem PySem.W.Fast.tw10778588706195538717 : True := trivial
theorem PySem.W.Fast.tw1220048901226918621 : True := trivial
theorem PySem.W.Fast.tw18300525904268786835 : True := trivial
theorem PySem.W.Fast.tw9265635870948745537 : True := trivial
theorem PySem.W.Fast.tw6848649218099198217 : True := trivial
theorem PySem.W.Fast.tw4260323875389753082 : True := trivial
theorem PySem.W.Fast.tw5815180472590827586 : True := trivial
theorem PySem.W.Fast.tw2107240973690386961 : True := trivial
theorem PySem.W.Fast.tw9014456006902110493 : True := trivial
theorem PySem.W.Fast.tw13664112546181648503 : True := trivial
theorem PySem.W.Fast.tw14974821775578680640 : True := trivial
theorem PySem.W.Fast.tw11174675325277425557 : True := trivial
theorem PySem.W.Fast.tw7437606552577935166 : True := trivial
theorem PySem.W.Fast.tw6409566854233945074 : True := trivial
theorem PySem.W.Fast.tw17985244763273868940 : True := trivial
theorem PySem.W.Fast.tw13005748033265043141 : True := trivial
theorem PySem.W.Fast.tw6488629790682621013 : True := trivial
theorem PySem.W.Fast.tw16505969703471715153 : True := trivial
theorem PySem.W.Fast.tw12989428244961557179 : True := trivial
theorem PySem.W.Fast.tw5632958684953686451 : True := trivial
theorem PySem.W.Fast.tw1458422595241584141 : True := trivial
theorem PySem.W.Fast.tw12483265181033837760 : True := trivial
theorem PySem.W.Fast.tw17472966938695074833 : True := trivial
theorem PySem.W.Fast.tw17244709229375126670 : True := trivial
theorem PySem.W.Fast.tw5519198422978413691 : True := trivial
theorem PySem.W.Fast.tw2953874333101004732 : True := trivial
theorem PySem.W.Fast.tw632775817855255864 : True := trivial
theorem PySem.W.Fast.tw9725167346273514471 : True := trivial
theorem PySem.W.Fast.tw6470648305837522159 : True := trivial
theorem PySem.W.Fast.tw9763907757621628315 : True := trivial
theorem PySem.W.Fast.tw3791306400274736868 : True := trivial
theorem PySem.W.Fast.tw3166414092230920296 : True := trivial
theorem PySem.W.Fast.tw13743752325352106310 : True := trivial
theorem PySem.W.Fast.tw7667789739019461604 : True := trivial
theorem PySem.W.Fast.tw18101437852238813609 : True := trivial
theorem PySem.W.Fast.tw14252548831400205732 : True := trivial
theorem PySem.W.Fast.tw15596050630375308640 : True := trivial
theorem PySem.W.Fast.tw281885430365895518 : True := trivial
theorem PySem.W.Fast.tw8867348347198985939 : True := trivial
theorem PySem.W.Fast.tw18158456821480476277 : True := trivial
theorem PySem.W.Fast.tw131751589198008221 : True := trivial
theorem PySem.W.Fast.tw9389816513152864142 : True := trivial
theorem PySem.W.Fast.tw13394264783174186015 : True := trivial
theorem PySem.W.Fast.tw2443339082163112830 : True := trivial
theorem PySem.W.Fast.tw1982548615550443742 : True := trivial
theorem PySem.W.Fast.tw17755902160151620157 : True := trivial
theorem PySem.W.Fast.tw2977311736603001863 : True := trivial
theorem PySem.W.Fast.tw889273415457200051 : True := trivial
theorem PySem.W.Fast.tw11017725292123835543 : True := trivial
theorem PySem.W.Fast.tw8638290497333186808 : True := trivial
theorem PySem.W.Fast.tw15224897462329122029 : True := trivial
theorem PySem.W.Fast.tw15994333341546905150 : True := trivial
theorem PySem.W.Fast.tw14099679148330419572 : True := trivial
theorem PySem.W.Fast.tw16438340072202433100 : True := trivial
theorem PySem.W.Fast.tw12901912011131661805 : True := trivial
theorem PySem.W.Fast.tw5465514670061104806 : True := trivial
theorem PySem.W.Fast.tw140124298556583381 : True := trivial
theorem PySem.W.Fast.tw3462289239620685849 : True := trivial
theorem PySem.W.Fast.tw12028481156665418544 : True := trivial
theorem PySem.W.Fast.tw3560481680131951768 : True := trivial
theorem PySem.W.Fast.tw3431992362120302882 : True := trivial
theorem PySem.W.Fast.tw2287806287083073434 : True := trivial
theorem PySem.W.Fast.tw8409334922898311584 : True := trivial
theorem PySem.W.Fast.tw12264772853220846605 : True := trivial
theorem PySem.W.Fast.tw15105497415819266919 : True := trivial
theorem PySem.W.Fast.tw5899066800957747866 : True := trivial
theorem PySem.W.Fast.tw5948683578673597039 : True := trivial
theorem PySem.W.Fast.tw1074212549238832990 : True := trivial
theorem PySem.W.Fast.tw2644764993375551707 : True := trivial
theorem PySem.W.Fast.tw5728129038641533720 : True := trivial
theorem PySem.W.Fast.tw16120206167728222999 : True := trivial
theorem PySem.W.Fast.tw10912482423298817605 : True := trivial
theorem PySem.W.Fast.tw18295972362696372099 : True := trivial
theorem PySem.W.Fast.tw9069377823907344087 : True := trivial
theorem PySem.W.Fast.tw8409905018598854818 : True := trivial
theorem PySem.W.Fast.tw14189317989186749827 : True := trivial
theorem PySem.W.Fast.tw18318734762355342396 : True := trivial
theorem PySem.W.Fast.tw8006343951169954953 : True := trivial
theorem PySem.W.Fast.tw4367821185804290163 : True := trivial
theorem PySem.W.Fast.tw11781775331671126025 : True := trivial
theorem PySem.W.Fast.tw266449254608333845 : True := trivial
theorem PySem.W.Fast.tw15697864317742022849 : True := trivial
theorem PySem.W.Fast.tw3869485637808316055 : True := trivial
theorem PySem.W.Fast.tw14343249731715544576 : True := trivial
theorem PySem.W.Fast.tw6687226334180278689 : True := trivial
theorem PySem.W.Fast.tw14285422395409519173 : True := trivial
theorem PySem.W.Fast.tw2116363858106120161 : True := trivial
theorem PySem.W.Fast.tw1005807791534114416 : True := trivial
theorem PySem.W.Fast.tw8048052597172269397 : True := trivial
theorem PySem.W.Fast.tw3012399675434461914 : True := trivial
theorem PySem.W.Fast.tw5937454801100603763 : True := trivial
theorem PySem.W.Fast.tw7609092332620501288 : True := trivial
theorem PySem.W.Fast.tw7545993980981476324 : True := trivial
theorem PySem.W.Fast.tw1701133957955298111 : True := trivial
theorem PySem.W.Fast.tw9470412814055780322 : True := trivial
theorem PySem.W.Fast.tw18350480219617947118 : True := trivial
theorem PySem.W.Fast.tw13558979723724901670 : True := trivial
theorem PySem.W.Fast.tw5246700532032240244 : True := trivial
theorem PySem.W.Fast.tw12272370496947204530 : True := trivial
theorem PySem.W.Fast.tw7691755485685286784 : True := trivial
theorem PySem.W.Fast.tw5584585766583230754 : True := trivial
theorem PySem.W.Fast.tw5745041301763538088 : True := trivial
theorem PySem.W.Fast.tw11064069477907678936 : True := trivial
theorem PySem.W.Fast.tw13174311694416526163 : True := trivial
theorem PySem.W.Fast.tw14202574158249988977 : True := trivial
theorem PySem.W.Fast.tw16537869396439220338 : True := trivial
theorem PySem.W.Fast.tw16743708611305475335 : True := trivial
theorem PySem.W.Fast.tw691636431986618452 : True := trivial
theorem PySem.W.Fast.tw2425808292440933507 : True := trivial
theorem PySem.W.Fast.tw4837850712365012879 : True := trivial
theorem PySem.W.Fast.tw11787487931436953140 : True := trivial
theorem PySem.W.Fast.tw15042801853938996617 : True := trivial
theorem PySem.W.Fast.tw16555799917240619744 : True := trivial
theorem PySem.W.Fast.tw254448395163034708 : True := trivial
theorem PySem.W.Fast.tw934808199435836616 : True := trivial
theorem PySem.W.Fast.tw14055974372933939022 : True := trivial
theorem PySem.W.Fast.tw15977548338746969851 : True := trivial
theorem PySem.W.Fast.tw8527804518876780814 : True := trivial
theorem PySem.W.Fast.tw959074976794161208 : True := trivial
theorem PySem.W.Fast.tw10706058101531177814 : True := trivial
theorem PySem.W.Fast.tw11732839887563250102 : True := trivial
theorem PySem.W.Fast.tw258291912015308660 : True := trivial
theorem PySem.W.Fast.tw4557927989944973397 : True := trivial
theorem PySem.W.Fast.tw5395147379587246925 : True := trivial
theorem PySem.W.Fast.tw2459792976987944580 : True := trivial
theorem PySem.W.Fast.tw11042524942083314619 : True := trivial
theorem PySem.W.Fast.tw4910024188873907324 : True := trivial
theorem PySem.W.Fast.tw551072463790170069 : True := trivial
theorem PySem.W.Fast.tw854070920878934932 : True := trivial
theorem PySem.W.Fast.tw11419958430352047983 : True := trivial
theorem PySem.W.Fast.tw15787516888673051422 : True := trivial
theorem PySem.W.Fast.tw16198149658227441525 : True := trivial
theorem PySem.W.Fast.tw18106141795981410638 : True := trivial
theorem PySem.W.Fast.tw17093408563307483498 : True := trivial
theorem PySem.W.Fast.tw5886637537984349969 : True := trivial
theorem PySem.W.Fast.tw10101349058793722447 : True := trivial
theorem PySem.W.Fast.tw14686718365784562025 : True := trivial
theorem PySem.W.Fast.tw11545610825692636622 : True := trivial
theorem PySem.W.Fast.tw2853891661730692044 : True := trivial
theorem PySem.W.Fast.tw3458044650989440263 : True := trivial
theorem PySem.W.Fast.tw14724300836005880641 : True := trivial
theorem PySem.W.Fast.tw841125631160478271 : True := trivial
theorem PySem.W.Fast.tw5403078785293109687 : True := trivial
theorem PySem.W.Fast.tw9129992544396984701 : True := trivial
theorem PySem.W.Fast.tw12469774368259599419 : True := trivial
theorem PySem.W.Fast.tw13885415411385103611 : True := trivial
theorem PySem.W.Fast.tw5228960782181786617 : True := trivial
theorem PySem.W.Fast.tw12870418011036196370 : True := trivial
theorem PySem.W.Fast.tw4372512012023529632 : True := trivial
theorem PySem.W.Fast.tw12626380846644360953 : True := trivial
theorem PySem.W.Fast.tw1343174932897792581 : True := trivial
theorem PySem.W.Fast.tw10697625061608318202 : True := trivial
theorem PySem.W.Fast.tw1491053204307653821 : True := trivial
theorem PySem.W.Fast.tw8762757423105020153 : True := trivial
theorem PySem.W.Fast.tw7823601833378227935 : True := trivial
theorem PySem.W.Fast.tw2049328955028548646 : True := trivial
theorem PySem.W.Fast.tw15220146278007834175 : True := trivial
theorem PySem.W.Fast.tw10617825972398248728 : True := trivial
theorem PySem.W.Fast.tw17792087954235144142 : True := trivial
theorem PySem.W.Fast.tw3252670791242666082 : True := trivial
theorem PySem.W.Fast.tw6413792819159788674 : True := trivial
theorem PySem.W.Fast.tw9398058455386875443 : True := trivial
theorem PySem.W.Fast.tw14783473622384658870 : True := trivial
open PySem PySem.W PyProof.Rows
set_option maxRecDepth 100000 in
set_option maxHeartbeats 0 in
theorem PySem.Challenge.cw_landsentered_k23_whole_looks_beside_look_holds : PySem.Challenge.rw_landsentered_k23_whole_looks_beside_look.Holds := by
 w_on; o_law; k_head; (case hw => w_witness2)
 k_fill
 refine My.walk (l := PySem.Challenge.rw_landsentered_k23_whole_looks_beside_look) rfl rfl (fun w h Y => PySem.W.kIn_of Y) ?F
 case F =>
  intro w mg fa h KX G hmg
  refine' My.all_mk KX G hmg ?a0 ?l0 ?c0 ?k0 ?a1 ?l1 ?c1 ?k1 ?a2 ?l2 ?c2 ?k2 ?a3 ?l3 ?c3 ?k3 ?a4 ?l4 ?c4 ?k4 ?a5 ?l5 ?c5 ?k5 ?a6 ?l6 ?c6 ?k6 ?a7 ?l7 ?c7 ?k7 ?a8 ?l8 ?c8 ?k8 ?a9 ?l9 ?c9 ?k9 ?a10 ?l10 ?c10 ?k10 ?a11 ?l11 ?c11 ?k11 ?a12 ?l12 ?c12 ?k12 ?a13 ?l13 ?c13 ?k13 ?a14 ?l14 ?c14 ?k14 ?a15 ?l15 ?c15 ?k15 ?a16 ?l16 ?c16 ?k16 ?a17 ?l17 ?c17 ?k17 ?a18 ?l18 ?c18 ?k18 ?a19 ?l19 ?c19 ?k19 ?a20 ?l20 ?c20 ?k20 ?a21 ?l21 ?c21 ?k21 ?a22 ?l22 ?c22 ?k22 ?a23 ?l23 ?c23 ?k23 ?a24 ?l24 ?c24 ?k24 ?a25 ?l25 ?c25 ?k25 ?a26 ?l26 ?c26 ?k26 ?a27 ?l27 ?c27 ?k27 ?a28 ?l28 ?c28 ?k28 ?a29 ?l29 ?c29 ?k29 ?z0 ?z1 ?z2 ?z3 ?z4 ?z5 ?z6 ?z7 ?z8
  (case a0 => k_is)
  (case l0 => k_is)
  (case c0 => k_is)
  (case k0 => k_is)
  (case a1 => k_is)
  (case l1 => k_is)
  (case c1 => k_is)
  (case k1 => k_is)
  (case a2 => k_is)
  (case l2 => k_is)
  (case c2 => k_is)
  (case k2 => k_is)
  (case a3 => k_is)
  (case l3 => k_is)
  (case c3 => k_is)
  (case k3 => k_is)
  (case a4 => k_is)
  (case l4 => k_is)
  (case c4 => k_is)
  (case k4 => k_is)
  (case a5 => k_is)
  (case l5 => k_is)
  (case c5 => k_is)
  (case k5 => k_is)
  (case a6 => k_is)
  (case l6 => k_is)
  (case c6 => k_is)
  (case k6 => k_is)
  (case a7 => k_is)
  (case l7 => k_is)
  (case c7 => k_is)
  (case k7 => k_is)
  (case a8 => k_is)
  (case l8 => k_is)
  (case c8 => k_is)
  (case k8 => k_is)
  (case a9 => k_is)
  (case l9 => k_is)
  (case c9 => k_is)
  (case k9 => k_is)
  (case a10 => k_is)
  (case l10 => k_is)
  (case c10 => k_is)
  (case k10 => k_is)
  (case a11 => k_is)
  (case l11 => k_is)
  (case c11 => k_is)
  (case k11 => k_is)
  (case a12 => k_is)
  (case l12 => k_is)
  (case c12 => k_is)
  (case k12 => k_is)
  (case a13 => k_is)
  (case l13 => k_is)
  (case c13 => k_is)
  (case k13 => k_is)
  (case a14 => k_is)
  (case l14 => k_is)
  (case c14 => k_is)
  (case k14 => k_is)
  (case a15 => k_is)
  (case l15 => k_is)
  (case c15 => k_is)
  (case k15 => k_is)
  (case a16 => k_is)
  (case l16 => k_is)
  (case c16 => k_is)
  (case k16 => k_is)
  (case a17 => k_is)
  (case l17 => k_is)
  (case c17 => k_is)
  (case k17 => k_is)
  (case a18 => k_is)
  (case l18 => k_is)
  (case c18 => k_is)
  (case k18 => k_is)
  (case a19 => k_is)
  (case l19 => k_is)
  (case c19 => k_is)
  (case k19 => k_is)
  (case a20 => k_is)
  (case l20 => k_is)
  (case c20 => k_is)
  (case k20 => k_is)
  (case a21 => k_is)
  (case l21 => k_is)
  (case c21 => k_is)
  (case k21 => k_is)
  (case a22 => k_is)
  (case l22 => k_is)
  (case c22 => k_is)
  (case k22 => k_is)
  (case a23 => k_is)
  (case l23 => k_is)
  (case c23 => k_is)
  (case k23 => k_is)
  (case a24 => k_is)
  (case l24 => k_is)
  (case c24 => k_is)
  (case k24 => k_is)
  (case a25 => k_is)
  (case l25 => k_is)
  (case c25 => k_is)
  (case k25 => k_is)
  (case a26 => k_is)
  (case l26 => k_is)
  (case c26 => k_is)
  (case k26 => k_is)
  (case a27 => k_is)
  (case l27 => k_is)
  (case c27 => k_is)
  (case k27 => k_is)
  (case a28 => k_is)
  (case l28 => k_is)
  (case c28 => k_is)
  (case k28 => k_is)
  (case a29 => k_is)
  (case l29 => k_is)
  (case c29 => k_is)
  (case k29 => k_is)
  (case z0 => k_is)
  (case z1 => k_is)
  (case z2 => k_is)
  (case z3 => k_is)
  (case z4 => k_is)
  (case z5 => k_is)
  (case z6 => k_is)
  (case z7 => k_is)
  (case z8 => k_is)
