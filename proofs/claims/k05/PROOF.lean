import PyProof.Rows.All
import Wide.All
import OpenK.AllK
import Wide.FinOn
import Lean
import PyProof.EqAt
import PyProof.EqKinds
import PyProof.TupleCall
import PyProof.ReprRoads
import PyProof.EqLayable
import PyProof.NeData
import PyProof.Rows.TupDisplay
import PySem.Challenge.RW_landsentered_k05_spots_of_shapes
set_option Elab.async false
set_option linter.all false
set_option maxRecDepth 100000
namespace L2
open PySem PySem.Spec PyProof.Rows

/-- a key: an int or a str -/
abbrev Key := Sum Int Str
def keyIs : Key → Value → Bool
  | .inl k, v => Value.isInt k v
  | .inr x, v => Value.isStrOf x v
def keyH (w : World) : Key → Int
  | .inl k => hashInt k
  | .inr x => hashStr w x
theorem keyIs_shape : ∀ {k : Key} {v : Value}, keyIs k v = true → (∃ i t, k = Sum.inl i ∧ v = Value.int i t) ∨ (∃ x t, k = Sum.inr x ∧ v = Value.str x t)
  | .inl i, v, h => by
    obtain ⟨t, e⟩ := Value.isInt_shape (k := i) (v := v) h
    exact .inl ⟨i, t, rfl, e⟩
  | .inr x, v, h => by
    obtain ⟨t, e⟩ := Value.isStrOf_shape (x := x) (v := v) h
    exact .inr ⟨x, t, rfl, e⟩
theorem key_ll (a b : Int) : decide ((Sum.inl a : Key) = Sum.inl b) = (a == b) := by
  by_cases e : a = b
  · subst e; simp
  · have h : ¬ (Sum.inl a : Key) = Sum.inl b := fun q => e (Sum.inl.inj q)
    rw [decide_eq_false h]
    exact (beq_eq_false_iff_ne.mpr e).symm
theorem key_rr (a b : Str) : decide ((Sum.inr a : Key) = Sum.inr b) = decide (a = b) := by
  by_cases e : a = b
  · subst e; simp
  · have h : ¬ (Sum.inr a : Key) = Sum.inr b := fun q => e (Sum.inr.inj q)
    rw [decide_eq_false h, decide_eq_false e]
theorem key_lr (a : Int) (b : Str) : decide ((Sum.inl a : Key) = Sum.inr b) = false := decide_eq_false (fun q => nomatch q)
theorem key_rl (a : Str) (b : Int) : decide ((Sum.inr a : Key) = Sum.inl b) = false := decide_eq_false (fun q => nomatch q)

def mixKind (prog : Program) (w : World) : PySem.KeyKind prog w Key where
  is := keyIs
  hash := keyH w
  inj := fun v a b ha hb => by
    rcases keyIs_shape ha with ⟨i, t, rfl, rfl⟩ | ⟨x, t, rfl, rfl⟩
    · rcases keyIs_shape hb with ⟨j, u, rfl, e⟩ | ⟨y, u, rfl, e⟩
      · injection e with e1 _; rw [e1]
      · exact nomatch e
    · rcases keyIs_shape hb with ⟨j, u, rfl, e⟩ | ⟨y, u, rfl, e⟩
      · exact nomatch e
      · injection e with e1 _; rw [e1]
  byValue := fun k v h => by
    rcases keyIs_shape h with ⟨i, t, rfl, rfl⟩ | ⟨x, t, rfl, rfl⟩ <;> rfl
  pyHash := fun hv h => by
    rcases keyIs_shape hv with ⟨i, t, rfl, rfl⟩ | ⟨x, t, rfl, rfl⟩
    · exact wpAny_pyHash_int h
    · exact wpAny_pyHash_str h
  eqBool := fun hu hv h => by
    rcases keyIs_shape hu with ⟨i, t, rfl, rfl⟩ | ⟨x, t, rfl, rfl⟩
    · rcases keyIs_shape hv with ⟨j, u, rfl, rfl⟩ | ⟨y, u, rfl, rfl⟩
      · rw [key_ll] at h; exact wpAny_eqBool_int h
      · rw [key_lr] at h; exact SeqAt.EqAt.int_str i t y u _ _ _ _ h
    · rcases keyIs_shape hv with ⟨j, u, rfl, rfl⟩ | ⟨y, u, rfl, rfl⟩
      · rw [key_rl] at h; exact SeqAt.EqAt.str_int x t j u _ _ _ _ h
      · rw [key_rr] at h; exact wpAny_eqBool_str h
  «strs» := fun k x t v h => by
    rcases keyIs_shape h with ⟨i, u, rfl, e⟩ | ⟨y, u, rfl, e⟩
    · exact nomatch e
    · injection e with e1 _
      subst e1
      cases v <;> rfl

end L2

namespace L2
open PySem PySem.Spec PyProof.Rows

/-- a value, without the heap -/
inductive V where
  | non | bl (b : Bool) | int (i : Int) | str (x : Str) | byt (b : Array UInt8) | flt (b : UInt64) | ref (a : Addr) | ty (n : String)
  deriving DecidableEq

def RelV : V → Value → Prop
  | .non, u => u = Value.none
  | .bl b, u => u = Value.bool b
  | .int i, u => ∃ t, u = Value.int i t
  | .str x, u => ∃ t, u = Value.str x t
  | .byt b, u => ∃ t, u = Value.bytes b t
  | .flt b, u => ∃ t, u = Value.float b t
  | .ref a, u => u = Value.ref a
  | .ty n, u => u = Value.type n

abbrev Vals : List V → List Value → Prop := Paired RelV
theorem Vals.length {xs : List V} {us : List Value} (r : Vals xs us) : xs.length = us.length := Paired.length r
theorem Vals.get : ∀ {xs : List V} {us : List Value} {i : Nat} {x : V}, Vals xs us → xs[i]? = some x → ∃ u, us[i]? = some u ∧ RelV x u
  | _, _, _, _, .nil, e => by simp at e
  | _, _, 0, _, .cons r _, e => by simp at e; subst e; exact ⟨_, rfl, r⟩
  | _, _, i + 1, x, .cons _ t, e => by
    obtain ⟨u, h1, h2⟩ := Vals.get (i := i) (x := x) t (by simpa using e)
    exact ⟨u, by simpa using h1, h2⟩
theorem Vals.set {x : V} {u : Value} (r : RelV x u) : ∀ {xs : List V} {us : List Value} (i : Nat), Vals xs us → Vals (xs.set i x) (us.set i u)
  | _, _, _, .nil => .nil
  | _, _, 0, .cons _ t => .cons r t
  | _, _, i + 1, .cons q t => .cons q (Vals.set r i t)
theorem Vals.append : ∀ {xs ys : List V} {us ws : List Value}, Vals xs us → Vals ys ws → Vals (xs ++ ys) (us ++ ws)
  | _, _, _, _, .nil, s => s
  | _, _, _, _, .cons r t, s => .cons r (Vals.append t s)
theorem Vals.take : ∀ {xs : List V} {us : List Value} (n : Nat), Vals xs us → Vals (xs.take n) (us.take n)
  | _, _, 0, _ => .nil
  | _, _, _ + 1, .nil => .nil
  | _, _, n + 1, .cons r t => .cons r (Vals.take n t)
theorem Vals.drop : ∀ {xs : List V} {us : List Value} (n : Nat), Vals xs us → Vals (xs.drop n) (us.drop n)
  | _, _, 0, r => r
  | _, _, _ + 1, .nil => .nil
  | _, _, n + 1, .cons _ t => Vals.drop n t

def RelO : Option V → Option Value → Prop
  | some v, some u => RelV v u
  | none, none => True
  | _, _ => False
def KV {κ : Type} : List (κ × V) → List (κ × Value) → Prop := Paired fun (p : κ × V) (q : κ × Value) => p.1 = q.1 ∧ RelV p.2 q.2

/-- a key of a dict (00_mix): an int or a text -/
def kV : Key → V
  | .inl i => .int i
  | .inr x => .str x

/-- what stands at a tracked address -/
inductive HO where
  /-- a list -/
  | lst (xs : List V)
  /-- a tuple (never changes) -/
  | tup (xs : List V)
  /-- a dict whose keys are ints and texts; one whose keys are tuples of ints and texts (the empty one is both) -/
  | dK (kvs : List (Key × V)) | dT (kvs : List (List Key × V))
  /-- a set of ints: its members, its size -/
  | set (S : Int → Bool) (n : Nat)
  /-- an instance of the class at C, its dict at dx, its attributes -/
  | ins (C dx : Addr) (fs : List (Str × V))
  /-- the dict of the instance at x -/
  | own (x : Addr)
  /-- the dict of an exception -/
  | xd (fs : List (Str × V))
  /-- a bound method, f of x -/
  | met (f x : Addr)
  /-- a range object lo, lo + 1, .. below hi -/
  | rng (lo hi : Int)
  /-- a thing that is known to the object (the script; a dict while a loop walks it): read, never written while it is so -/
  | frz (o : Obj) (u : HO)
  /-- a code object's table -/
  | tbl (ps : Array Value)
  /-- any other thing, by what is true of its one object (a def of one's own: SetO a S n := HO.ext fun h => ..) -/
  | ext (φ : Heap → Prop)

abbrev Hp := Addr → Option HO
def upd (H : Hp) (a : Addr) (o : HO) : Hp := fun b => if b = a then some o else H b
theorem upd_same {H : Hp} {a : Addr} {o : HO} : upd H a o a = some o := by unfold upd; rw [if_pos rfl]
theorem upd_ne {H : Hp} {a b : Addr} {o : HO} (h : b ≠ a) : upd H a o b = H b := by unfold upd; rw [if_neg h]
theorem ne_of_none {H : Hp} {a b : Addr} {o : HO} (h : H a = some o) (h' : H b = none) : a ≠ b := by
  intro e; subst e; rw [h] at h'; cases h'

section
variable (P : Program) (w : World)
def ObjOk (H : Hp) (h : Heap) (a : Addr) : HO → Prop
  | .lst xs => xs.length ≤ sizeLine ∧ ∃ (its : List Value) (n : Nat), Vals xs its ∧ h.get? a = some { cls := .type "list", data := .seq its.toArray n }
  | .tup xs => xs.length ≤ sizeLine ∧ ∃ its : List Value, Vals xs its ∧ IsTup h a its.toArray
  | .dK kvs => kvs.length ≤ sizeLine ∧ (a == sysModules) = false ∧ ∃ vs, KV kvs vs ∧ h.DictOf (mixKind P w) a vs
  | .dT kvs => kvs.length ≤ sizeLine ∧ (a == sysModules) = false ∧ ∃ xs : List (List Key × Addr × Value),
      Paired (fun (p : List Key × V) (q : List Key × Addr × Value) => p.1 = q.1 ∧ H q.2.1 = some (.tup (p.1.map kV)) ∧ RelV p.2 q.2.2) kvs xs ∧
      ∃ o es ep, h.get? a = some o ∧ o.ExactDict ∧ o.data = .dict es ep ∧ es.toList = xs.map (entryOfKey (tupleKind (mixKind P w))) ∧ (xs.map (·.1)).Nodup
  | .set S n => h.SetOf (intKind P w) a S n
  | .ins C dx fs => H dx = some (.own a) ∧ fs.length ≤ 1000 ∧ dx ≠ a ∧ h.get? a = some (PySem.W.instObj C dx) ∧
      ∃ mA, h.Ns1 dx mA ∧ (∀ f, RelO (fs.lookup f) (mA f)) ∧ PySem.Within mA (fs.map (·.1))
  | .own _ => ∃ o, h.get? a = some o
  | .xd fs => ∃ mA, h.Ns1 a mA ∧ ∀ f, RelO (fs.lookup f) (mA f)
  | .rng lo hi => ∃ t u v, h.get? a = some { cls := .type "range", data := .fields #[.int lo t, .int hi u, .int 1 v] }
  | .frz o u => h.get? a = some o ∧ ObjOk H h a u
  | .tbl ps => h.get? a = some { cls := .none, data := .fields ps }
  | .met f x => h.get? a = some (PySem.W.methodObj (.ref f) (.ref x))
  | .ext φ => φ h ∧ (∃ o, h.get? a = some o) ∧ ∀ h1 h2 : Heap, φ h1 → (∀ o, h1.get? a = some o → h2.get? a = some o) → φ h2
/-- the abstract heap is held -/
def HOk (H : Hp) (h : Heap) : Prop := ∀ a o, H a = some o → ObjOk P w H h a o
end

section
variable {P : Program} {w : World} {H H' : Hp} {h h' : Heap} {a : Addr} {o : HO}
theorem ObjOk.lt (x : ObjOk P w H h a o) : a < h.objs.size := by
  cases o with
  | lst xs => obtain ⟨_, _, _, _, e⟩ := x; exact Heap.lt_size e
  | tup xs => obtain ⟨_, _, _, p⟩ := x; exact p.lt
  | dK kvs => obtain ⟨_, _, _, _, o, _, _, e, _⟩ := x; exact Heap.lt_size e
  | dT kvs => obtain ⟨_, _, _, _, o, _, _, e, _⟩ := x; exact Heap.lt_size e
  | set S n => obtain ⟨o, _, _, _, e, _⟩ := x; exact Heap.lt_size e
  | ins C dx fs => obtain ⟨_, _, _, e, _⟩ := x; exact Heap.lt_size e
  | own y => obtain ⟨_, e⟩ := x; exact Heap.lt_size e
  | xd fs => obtain ⟨_, ⟨_, _, _, e, _⟩, _⟩ := x; exact Heap.lt_size e
  | rng lo hi => obtain ⟨_, _, _, e⟩ := x; exact Heap.lt_size e
  | frz ob u => obtain ⟨e, _⟩ := x; exact Heap.lt_size e
  | tbl ps => exact Heap.lt_size (show h.get? a = some _ from x)
  | met f y => exact Heap.lt_size (show h.get? a = some _ from x)
  | ext φ => obtain ⟨_, ⟨_, e⟩, _⟩ := x; exact Heap.lt_size e
theorem Paired.mapP {α β : Type} {F G : α → β → Prop} : ∀ {l₁ : List α} {l₂ : List β}, Paired F l₁ l₂ → (∀ a b, F a b → G a b) → Paired G l₁ l₂
  | _, _, .nil, _ => .nil
  | _, _, .cons r t, f => .cons (f _ _ r) (Paired.mapP t f)
/-- what an object's description leans on: its own object, its own dict, the tuples -/
theorem ObjOk.stay (x : ObjOk P w H h a o) (k : ∀ b u, (b = a ∨ H b = some (.own a)) → h.get? b = some u → h'.get? b = some u)
    (ho : ∀ b, H b = some (.own a) → H' b = some (.own a)) (ht : ∀ b xs, H b = some (.tup xs) → H' b = some (.tup xs)) : ObjOk P w H' h' a o := by
  induction o with
  | lst xs => obtain ⟨z, its, n, r, e⟩ := x; exact ⟨z, its, n, r, k _ _ (.inl rfl) e⟩
  | tup xs => obtain ⟨z, its, r, ob, e, c⟩ := x; exact ⟨z, its, r, ob, k _ _ (.inl rfl) e, c⟩
  | dK kvs => obtain ⟨z, y, vs, r, ob, es, ep, e, c⟩ := x; exact ⟨z, y, vs, r, ob, es, ep, k _ _ (.inl rfl) e, c⟩
  | dT kvs =>
    obtain ⟨z, y, xs, r, ob, es, ep, e, c⟩ := x
    exact ⟨z, y, xs, Paired.mapP r fun p q z => ⟨z.1, ht _ _ z.2.1, z.2.2⟩, ob, es, ep, k _ _ (.inl rfl) e, c⟩
  | set S n => obtain ⟨ob, es, ep, t, e, c⟩ := x; exact ⟨ob, es, ep, t, k _ _ (.inl rfl) e, c⟩
  | ins C dx fs =>
    obtain ⟨d, z, ne, e, mA, ⟨od, es, ep, e2, c⟩, r⟩ := x
    exact ⟨ho _ d, z, ne, k _ _ (.inl rfl) e, mA, ⟨od, es, ep, k _ _ (.inr d) e2, c⟩, r⟩
  | own y => obtain ⟨ob, e⟩ := x; exact ⟨ob, k _ _ (.inl rfl) e⟩
  | xd fs => obtain ⟨mA, ⟨od, es, ep, e, c⟩, r⟩ := x; exact ⟨mA, ⟨od, es, ep, k _ _ (.inl rfl) e, c⟩, r⟩
  | rng lo hi => obtain ⟨t, u, v, e⟩ := x; exact ⟨t, u, v, k _ _ (.inl rfl) e⟩
  | frz ob u ih => obtain ⟨e, q⟩ := x; exact ⟨k _ _ (.inl rfl) e, ih q⟩
  | tbl ps =>
    have e : h.get? a = some { cls := .none, data := .fields ps } := x
    show h'.get? a = some { cls := .none, data := .fields ps }
    exact k a _ (.inl rfl) e
  | met f y =>
    have e : h.get? a = some (PySem.W.methodObj (.ref f) (.ref y)) := x
    show h'.get? a = some (PySem.W.methodObj (.ref f) (.ref y))
    exact k a _ (.inl rfl) e
  | ext φ => obtain ⟨p, ⟨o, e⟩, st⟩ := x; exact ⟨st _ _ p fun o q => k _ _ (.inl rfl) q, ⟨o, k _ _ (.inl rfl) e⟩, st⟩
theorem HOk.lt (x : HOk P w H h) (e : H a = some o) : a < h.objs.size := (x a o e).lt
theorem HOk.fresh (x : HOk P w H h) (e : h.objs.size ≤ a) : H a = none := by
  cases q : H a with
  | none => rfl
  | some u => exact absurd (Nat.lt_of_lt_of_le (x.lt q) e) (Nat.lt_irrefl _)
/-- every object of the heap is kept -/
theorem HOk.kept (x : HOk P w H h) (k : ∀ b u, h.get? b = some u → h'.get? b = some u) : HOk P w H h' := fun a o e =>
  (x a o e).stay (fun b u _ q => k b u q) (fun _ q => q) fun _ _ q => q
/-- a new object is laid and tracked -/
theorem HOk.laid (x : HOk P w H h) (k : ∀ b u, h.get? b = some u → h'.get? b = some u) (hp : h.objs.size ≤ a) (new : ObjOk P w (upd H a o) h' a o) : HOk P w (upd H a o) h' := fun b u e => by
  have hn := x.fresh hp
  by_cases hb : b = a
  · subst hb; rw [upd_same] at e; cases e; exact new
  · rw [upd_ne hb] at e
    exact (x b u e).stay (fun c v _ q => k c v q) (fun c q => by rw [upd_ne (ne_of_none q hn)]; exact q) fun c xs q => by rw [upd_ne (ne_of_none q hn)]; exact q
end

/-- what may be read as u: it is u, or a known u -/
def Rd (H : Hp) (a : Addr) (u : HO) : Prop := H a = some u ∨ ∃ o, H a = some (.frz o u)
theorem Rd.of {H : Hp} {a : Addr} {u : HO} (h : H a = some u) : Rd H a u := .inl h
theorem Rd.ok {P : Program} {w : World} {H : Hp} {h : Heap} {a : Addr} {u : HO} (r : Rd H a u) (x : HOk P w H h) : ObjOk P w H h a u := by
  rcases r with r | ⟨o, r⟩
  · exact x a u r
  · obtain ⟨_, q⟩ := x a _ r
    exact q
/-- what may be written -/
def Mut : Option HO → Prop
  | some (.lst _) => True
  | some (.dK _) => True
  | some (.dT _) => True
  | some (.set _ _) => True
  | some (.ins _ _ _) => True
  | some (.ext _) => True
  | _ => False
section
variable {P : Program} {w : World} {H : Hp} {h h' : Heap} {x e : Addr} {o' : HO}
/-- the object at e is changed: x itself, or the dict of the instance x -/
theorem HOk.write (ok : HOk P w H h) (mu : Mut (H x)) (he : e = x ∨ H e = some (.own x)) (k : ∀ b u, b ≠ e → h.get? b = some u → h'.get? b = some u) (heo : ∃ u, h'.get? e = some u)
    (new : ObjOk P w (upd H x o') h' x o') : HOk P w (upd H x o') h' := fun b u q => by
  have nown : ∀ c y, H c = some (.own y) → c ≠ x := fun c y r z => by subst z; rw [r] at mu; exact mu
  have ntup : ∀ c xs, H c = some (.tup xs) → c ≠ x := fun c xs r z => by subst z; rw [r] at mu; exact mu
  by_cases hb : b = x
  · subst hb; rw [upd_same] at q; cases q; exact new
  · rw [upd_ne hb] at q
    by_cases hbe : b = e
    · have q' : H b = some (.own x) := by
        rcases he with z | z
        · exact absurd (hbe.trans z) hb
        · rw [hbe]; exact z
      rw [q] at q'; cases q'
      obtain ⟨v, hv⟩ := heo
      exact ⟨v, by rw [hbe]; exact hv⟩
    · refine (ok b u q).stay (fun c v hc r => k c v ?_ r) (fun c r => by rw [upd_ne (nown c b r)]; exact r) fun c xs r => by rw [upd_ne (ntup c xs r)]; exact r
      rcases hc with rfl | hc
      · exact hbe
      · rintro rfl
        rcases he with z | z
        · exact nown c b hc z
        · rw [hc] at z; cases z; exact hb rfl
end

/-! ### kept unless tracked; of the frames at fs (the callers') the slots may change (an exception that passes writes there); of the records at ex (iterators) nothing is said -/
structure Un (fs ex : List Addr) (H H' : Hp) (h h' : Heap) : Prop where
  keep : ∀ b o, h.get? b = some o → H b = none → b ∉ fs → b ∉ ex → h'.get? b = some o
  slot : ∀ b o, h.get? b = some o → H b = none → b ∈ fs → b ∉ ex → ∃ sl, h'.get? b = some { o with slots := sl }
  free : ∀ b o, h.get? b = some o → H b = none → b ∉ ex → H' b = none
  there : ∀ b o, h.get? b = some o → b ∉ ex → ∃ o', h'.get? b = some o'
  tups : ∀ b xs, H b = some (.tup xs) → H' b = some (.tup xs)
  frzs : ∀ b o u, H b = some (.frz o u) → H' b = some (.frz o u)
  tbls : ∀ b ps, H b = some (.tbl ps) → ∃ more, H' b = some (.tbl (ps ++ more))
section
variable {fs fs' ex ex' : List Addr} {H H1 H2 : Hp} {h h1 h2 h' : Heap} {a x e : Addr} {o : HO}
theorem Un.any (u : Un fs ex H H1 h h1) {b : Addr} {ob : Obj} (q : h.get? b = some ob) (n : H b = none) (hx : b ∉ ex) : ∃ sl, h1.get? b = some { ob with slots := sl } := by
  by_cases hb : b ∈ fs
  · exact u.slot b ob q n hb hx
  · exact ⟨ob.slots, u.keep b ob q n hb hx⟩
theorem Un.trans (a : Un fs ex H H1 h h1) (b : Un fs ex H1 H2 h1 h2) : Un fs ex H H2 h h2 where
  keep := fun c ob q n hc hx => b.keep c ob (a.keep c ob q n hc hx) (a.free c ob q n hx) hc hx
  slot := fun c ob q n hc hx => by
    obtain ⟨sl, e1⟩ := a.slot c ob q n hc hx
    obtain ⟨sl', e2⟩ := b.slot c _ e1 (a.free c ob q n hx) hc hx
    exact ⟨sl', e2⟩
  free := fun c ob q n hx => by
    obtain ⟨o', e1⟩ := a.there c ob q hx
    exact b.free c o' e1 (a.free c ob q n hx) hx
  there := fun c ob q hx => by
    obtain ⟨o', e1⟩ := a.there c ob q hx
    exact b.there c o' e1 hx
  tups := fun c xs q => b.tups c xs (a.tups c xs q)
  frzs := fun c ob xs q => b.frzs c ob xs (a.frzs c ob xs q)
  tbls := fun c ps q => by
    obtain ⟨m1, e1⟩ := a.tbls c ps q
    obtain ⟨m2, e2⟩ := b.tbls c _ e1
    exact ⟨m1 ++ m2, by rw [e2, Array.append_assoc]⟩
theorem Un.kept (k : ∀ b u, h.get? b = some u → h'.get? b = some u) : Un fs ex H H h h' :=
  ⟨fun b ob q _ _ _ => k b ob q, fun b ob q _ _ _ => ⟨ob.slots, k b ob q⟩, fun _ _ _ n _ => n, fun b ob q _ => ⟨ob, k b ob q⟩, fun _ _ q => q, fun _ _ _ q => q, fun _ ps q => ⟨#[], by rw [q]; simp⟩⟩
theorem Un.refl : Un fs ex H H h h := Un.kept fun _ _ q => q
theorem Un.laid (k : ∀ b u, h.get? b = some u → h'.get? b = some u) (hp : h.objs.size ≤ a) (hn : H a = none) : Un fs ex H (upd H a o) h h' where
  keep := fun b u q _ _ _ => k b u q
  slot := fun b u q _ _ _ => ⟨u.slots, k b u q⟩
  free := fun b u q n _ => by rw [upd_ne (Nat.ne_of_lt (Nat.lt_of_lt_of_le (Heap.lt_size q) hp))]; exact n
  there := fun b u q _ => ⟨u, k b u q⟩
  tups := fun b xs q => by rw [upd_ne (ne_of_none q hn)]; exact q
  frzs := fun b u xs q => by rw [upd_ne (ne_of_none q hn)]; exact q
  tbls := fun b ps q => ⟨#[], by rw [upd_ne (ne_of_none q hn), q]; simp⟩
theorem Un.write (mu : Mut (H x)) (he : e = x ∨ H e = some (.own x)) (k : ∀ b u, b ≠ e → h.get? b = some u → h'.get? b = some u) (heo : ∃ u, h'.get? e = some u) : Un fs ex H (upd H x o) h h' := by
  have hx : ∀ b, H b = none → b ≠ x := fun b n z => by subst z; rw [n] at mu; exact mu
  have hb : ∀ b, H b = none → b ≠ e := fun b n z => by
    subst z
    rcases he with r | r
    · exact hx b n r
    · rw [n] at r; cases r
  have hm : ∀ b u, H b = some u → ¬ Mut (some u) → b ≠ x := fun b u q nm z => by subst z; rw [q] at mu; exact nm mu
  refine ⟨fun b u q n _ _ => k b u (hb b n) q, fun b u q n _ _ => ⟨u.slots, k b u (hb b n) q⟩, fun b u q n _ => by rw [upd_ne (hx b n)]; exact n, fun b u q _ => ?_,
    fun b xs q => by rw [upd_ne (hm b _ q fun z => z)]; exact q, fun b u xs q => by rw [upd_ne (hm b _ q fun z => z)]; exact q, fun b ps q => ⟨#[], by rw [upd_ne (hm b _ q fun z => z), q]; simp⟩⟩
  by_cases hbe : b = e
  · subst hbe; exact heo
  · exact ⟨u, k b u hbe q⟩
theorem Un.mono (u : Un fs ex H H1 h h1) (hs : ∀ b ∈ fs, b ∈ fs') (hx : ∀ b ∈ ex, b ∈ ex') : Un fs' ex' H H1 h h1 :=
  ⟨fun b ob q n hb he => u.keep b ob q n (fun z => hb (hs b z)) fun z => he (hx b z), fun _ _ q n _ he => u.any q n fun z => he (hx _ z), fun b ob q n he => u.free b ob q n fun z => he (hx b z), fun b ob q he => u.there b ob q fun z => he (hx b z), u.tups, u.frzs, u.tbls⟩
end

/-! ### the heap without what is tracked -/
def trk (h : Heap) (H : Hp) : List Addr := (List.range h.objs.size).filter fun a => (H a).isSome
def hidT (h : Heap) (H : Hp) : Heap := PySem.W.hideAll h (trk h H)
theorem hidT_size (h : Heap) (H : Hp) : (hidT h H).objs.size = h.objs.size := PySem.W.hideAll_size _ _
theorem hidT_get {h : Heap} {H : Hp} {b : Addr} {o : Obj} (e : h.get? b = some o) (n : H b = none) : (hidT h H).get? b = some o :=
  PySem.W.hideAll_get _ e fun hm => by
    have q : (H b).isSome = true := (List.mem_filter.mp hm).2
    rw [n] at q; simp at q
theorem of_hidT {h : Heap} {H : Hp} {b : Addr} {o : Obj} (e : (hidT h H).get? b = some o) : h.get? b = some o ∧ H b = none := by
  have e' : h.get? b = some o := PySem.W.of_hideAll (trk h H) e
  refine ⟨e', ?_⟩
  cases q : H b with
  | none => rfl
  | some x =>
    have hm : b ∈ trk h H := List.mem_filter.mpr ⟨List.mem_range.mpr (Heap.lt_size e'), by simp [q]⟩
    have z : (hidT h H).get? b = none := PySem.W.hideAll_none (trk h H) hm
    rw [z] at e; cases e

/-! ### OpenK's ledger, filled with every new object but one -/
def allNews (g h : Heap) (L : Addr) : List (Addr × Obj) := (List.range h.objs.size).filterMap fun a => if a = L ∨ (g.get? a).isSome = true then none else (h.get? a).map fun o => (a, o)
def rest (g h : Heap) (L d : Addr) : List (Addr × Obj) := (allNews g h L).filter fun p => decide (p.1 ≠ d)
end L2

namespace L2
open PySem PySem.Spec PyProof.Rows

/-- the module's facts, over the base: the heap at the law's entry without what is tracked there -/
structure Mod (K : PySem.W.Frag) (mg : Str → Option Value) (base : Heap) : Prop where
  kin : K.In base
  glob : base.Ns mainGlobals mg
  blt : ∃ mb, base.Ns builtinsNs mb ∧ ∀ x : Str, x ≠ "__name__" → mb x = bootBuiltins x
  nolimit : base.NoLimit

/-- the context: a def's body (or a comprehension's block) running. base: fixed through the whole law; s₀, H₀: the entry; outer: the frames whose slots others may change (a def's callers); stack: all frames that run;
   ex: iterators that were made ahead of the entry and are walked here (a comprehension's); fn: the names whose cells were made at the entry (a def: all; a comprehension's block: its own); calm: not within an except suite; pn: pins that every state bears; xe: what is wanted of an exception that leaves the code -/
structure Cx where
  prog : Program
  w : World
  K : PySem.W.Frag
  mg : Str → Option Value
  base : Heap
  A : Around
  N : List Str
  s₀ : Shared
  H₀ : Hp
  env : Env
  outer : List Env
  stack : List Env
  ex : List Addr
  fn : Str → Bool
  calm : Bool
  pn : List (Addr × Obj)
  xe : Value → Shared → Prop
/-- the callers' frames -/
def frs (l : List Env) : List Addr := l.filterMap (·.frame)
abbrev Cx.fs (X : Cx) : List Addr := frs X.outer

def Vis (sc : Scope) (x : Str) : Prop := sc.names.lookup x = some .local ∨ sc.names.lookup x = some .cell ∨ sc.names.lookup x = some .free
def Loc (sc : Scope) (x : Str) : Prop := sc.names.lookup x = some .local ∨ sc.names.lookup x = some .cell
def Look (env : Env) (h : Heap) (m : Str → Option Value) (x : Str) (u : Value) : Prop :=
  (env.kindOf x = some .local ∧ m x = some u) ∨ ((env.kindOf x = some .cell ∨ env.kindOf x = some .free) ∧ ∃ c, env.cells.lookup x = some c ∧ h.IsCell c (some u))

structure Cx.Ok (X : Cx) : Prop where
  mod : Mod X.K X.mg X.base
  kind : X.env.scope.kind = .function
  glob : X.env.globals = mainGlobals
  blt : X.env.builtins = builtinsNs
  above : X.s₀.heap.objs.size ≤ X.env.locals
  inj : ∀ x y c, X.env.cells.lookup x = some c → X.env.cells.lookup y = some c → x = y
  has : ∀ x, (X.env.kindOf x = some .cell ∨ X.env.kindOf x = some .free) → ∃ c, X.env.cells.lookup x = some c
  cab : ∀ x c, X.fn x = true → X.env.cells.lookup x = some c → X.s₀.heap.objs.size ≤ c
  hd : X.calm = true → X.A.handled = none
  frames : X.A.frames = some X.stack
  stk : X.stack = X.outer ∨ (X.stack = X.env :: X.outer ∧ X.env.frame = some X.env.locals)
  exf : ∀ b ∈ X.ex, b ≠ X.env.locals ∧ ∀ x c, X.env.cells.lookup x = some c → c ≠ b
  bs : ∀ b o, X.base.get? b = some o → X.s₀.heap.get? b = some o ∧ X.H₀ b = none
  bsz : X.base.objs.size ≤ X.s₀.heap.objs.size
  noex : ∀ b o, X.base.get? b = some o → b ∉ X.ex
  exfs : ∀ b ∈ X.ex, b ∉ X.fs
  funs : X.s₀.heap.FunFrames X.base X.outer
  frf : ∀ b ∈ X.fs, X.H₀ b = none

structure Inv (X : Cx) (pins : List (Addr × Obj)) (σ : List (Option V)) (H : Hp) (s : Shared) : Prop where
  ok : X.Ok
  os : s.os = X.s₀.os
  bare : AllBare s.gens
  base : Un X.fs X.ex X.H₀ H X.s₀.heap s.heap
  loc : ∃ m, s.heap.Ns X.env.locals m ∧ ∀ (i : Nat) (x : Str) (v : V), X.N[i]? = some x → σ[i]? = some (some v) → Vis X.env.scope x → ∃ u, RelV v u ∧ Look X.env s.heap m x u
  cell : ∀ x c, X.env.cells.lookup x = some c → ∃ v, s.heap.IsCell c v
  free : H X.env.locals = none
  freeC : ∀ x c, X.env.cells.lookup x = some c → H c = none
  pin : ∀ p ∈ X.pn ++ pins, s.heap.get? p.1 = some p.2 ∧ H p.1 = none ∧ p.1 ≠ X.env.locals ∧ p.1 ∉ X.fs ∧ ∀ v, p.2.data ≠ .cell v
  hok : HOk X.prog X.w H s.heap
  len : σ.length = X.N.length

section
variable {X : Cx} {pins : List (Addr × Obj)} {σ : List (Option V)} {H H' : Hp} {s : Shared} {h' : Heap}

theorem Cx.Ok.nofr (ok : X.Ok) {b : Addr} {o : Obj} (e : X.base.get? b = some o) : b ∉ X.fs := fun hb => by
  have := (ok.funs.mem hb).1
  rw [e] at this; cases this
theorem Inv.bs (I : Inv X pins σ H s) : ∀ b o, X.base.get? b = some o → s.heap.get? b = some o ∧ H b = none := fun b o e =>
  ⟨I.base.keep b o (I.ok.bs b o e).1 (I.ok.bs b o e).2 (I.ok.nofr e) (I.ok.noex b o e), I.base.free b o (I.ok.bs b o e).1 (I.ok.bs b o e).2 (I.ok.noex b o e)⟩
theorem Inv.bk (I : Inv X pins σ H s) : ∀ b o, X.base.get? b = some o → s.heap.get? b = some o := fun b o e => (I.bs b o e).1
theorem Inv.mod (I : Inv X pins σ H s) : Mod X.K X.mg X.base := I.ok.mod
theorem Inv.kIn (I : Inv X pins σ H s) : X.K.In s.heap := I.ok.mod.kin.keeps I.bk
/-- the frame over the base: for OpenK's rules (K.In X.base is I.mod.kin) -/
theorem Inv.fr (I : Inv X pins σ H s) : ∃ m, Fr X.base X.env.locals s.heap m :=
  let ⟨m, hn, _⟩ := I.loc
  ⟨m, hn, I.bk, Nat.le_trans I.ok.bsz I.ok.above⟩
theorem Inv.lt (I : Inv X pins σ H s) : X.env.locals < s.heap.objs.size := let ⟨_, hn, _⟩ := I.loc; hn.lt
theorem Inv.sz (I : Inv X pins σ H s) : X.s₀.heap.objs.size ≤ s.heap.objs.size := Nat.le_trans I.ok.above (Nat.le_of_lt I.lt)
theorem Inv.nofs (I : Inv X pins σ H s) {a : Addr} (h : s.heap.objs.size ≤ a) : a ∉ X.fs := fun hb => by
  obtain ⟨_, o, ho, _⟩ := I.ok.funs.mem hb
  exact absurd (Nat.lt_of_lt_of_le (Heap.lt_size ho) (Nat.le_trans I.sz h)) (Nat.lt_irrefl _)
theorem Inv.cne (I : Inv X pins σ H s) : ∀ x c, X.env.cells.lookup x = some c → c ≠ X.env.locals := fun x c e z => by
  obtain ⟨v, o, ho, hd⟩ := I.cell x c e
  obtain ⟨m, ⟨o', es, ep, ho', hd', _⟩, _⟩ := I.loc
  rw [z, ho'] at ho; cases ho; rw [hd'] at hd; cases hd
theorem Inv.funs (I : Inv X pins σ H s) : s.heap.FunFrames X.base X.outer := by
  have all : ∀ (l : List Env), (∀ b ∈ frs l, b ∈ X.fs) → X.s₀.heap.FunFrames X.base l → s.heap.FunFrames X.base l := by
    intro l
    induction l with
    | nil => intro _ _; trivial
    | cons env r ih =>
      intro hs hl
      obtain ⟨hk, ⟨L, o, hf, hn, ho, hd⟩, hr⟩ := hl
      have hL : L ∈ X.fs := hs L (by unfold frs; rw [List.filterMap_cons, hf]; exact List.mem_cons_self)
      obtain ⟨sl, e⟩ := I.base.slot L o ho (I.ok.frf L hL) hL fun z => I.ok.exfs L z hL
      exact ⟨hk, ⟨L, _, hf, hn, e, hd⟩, ih (fun b hb => hs b (by unfold frs; rw [List.filterMap_cons, hf]; exact List.mem_cons_of_mem _ hb)) hr⟩
  exact all X.outer (fun _ hb => hb) I.ok.funs

/-- the frames that run, for a call -/
theorem Inv.stack (I : Inv X pins σ H s) : s.heap.FunFrames X.base X.stack := by
  rcases I.ok.stk with e | ⟨e, hf⟩
  · rw [e]; exact I.funs
  · rw [e]
    obtain ⟨m, hn, _⟩ := I.loc
    refine .cons (by rw [I.ok.kind]; decide) hf hn ?_ I.funs
    exact Heap.get?_none_of_le (Nat.le_trans I.ok.bsz I.ok.above)
theorem Inv.stkSub (I : Inv X pins σ H s) : ∀ b ∈ frs X.stack, b ∈ X.env.locals :: X.fs := fun b hb => by
  rcases I.ok.stk with e | ⟨e, hf⟩
  · rw [e] at hb; exact List.mem_cons_of_mem _ hb
  · rw [e] at hb
    unfold frs at hb
    rw [List.filterMap_cons, hf] at hb
    exact hb
theorem Inv.stkFree (I : Inv X pins σ H s) : ∀ b ∈ frs X.stack, H b = none := fun b hb => by
  rcases List.mem_cons.mp (I.stkSub b hb) with e | hb
  · rw [e]; exact I.free
  · obtain ⟨_, o, ho, _⟩ := I.ok.funs.mem hb
    exact I.base.free b o ho (I.ok.frf b hb) fun z => I.ok.exfs b z hb

/-- THE STEP: the untracked objects but the frame and the records at ch are kept (the callers' frames up to slots), the frame's map is kept, the new abstract heap is held -/
theorem Inv.step {g' : Array GenState} {t' : Nat} {d' : Drawn} {ch : List Addr} (I : Inv X pins σ H s)
    (hch : ∀ b ∈ ch, (b ∈ X.ex ∨ X.s₀.heap.objs.size ≤ b) ∧ b ≠ X.env.locals ∧ (∀ x c, X.env.cells.lookup x = some c → c ≠ b) ∧ ∀ p ∈ X.pn ++ pins, p.1 ≠ b)
    (keep : ∀ b o, b ≠ X.env.locals → b ∉ X.fs → b ∉ ch → s.heap.get? b = some o → H b = none → h'.get? b = some o)
    (slot : ∀ b o, b ≠ X.env.locals → b ∈ X.fs → b ∉ ch → s.heap.get? b = some o → H b = none → ∃ sl, h'.get? b = some { o with slots := sl }) (free : ∀ b o, b ∉ ch → s.heap.get? b = some o → H b = none → H' b = none)
    (there : ∀ b o, b ∉ ch → s.heap.get? b = some o → ∃ o', h'.get? b = some o')
    (tups : ∀ b xs, H b = some (.tup xs) → H' b = some (.tup xs)) (frzs : ∀ b o u, H b = some (.frz o u) → H' b = some (.frz o u)) (tbls : ∀ b ps, H b = some (.tbl ps) → ∃ more, H' b = some (.tbl (ps ++ more)))
    (ns : ∀ m, s.heap.Ns X.env.locals m → h'.Ns X.env.locals m) (hok : HOk X.prog X.w H' h') (hg : AllBare g') :
    Inv X pins σ H' { s with heap := h', gens := g', drawn := d', toks := t' } := by
  have neL : ∀ b o, X.s₀.heap.get? b = some o → b ≠ X.env.locals := fun b o e => Nat.ne_of_lt (Nat.lt_of_lt_of_le (Heap.lt_size e) I.ok.above)
  have neC : ∀ b o, X.s₀.heap.get? b = some o → b ∉ X.ex → b ∉ ch := fun b o e hx hb => by
    rcases (hch b hb).1 with z | z
    · exact hx z
    · exact absurd (Nat.lt_of_lt_of_le (Heap.lt_size e) z) (Nat.lt_irrefl _)
  have cellK : ∀ x c, X.env.cells.lookup x = some c → ∀ v, s.heap.IsCell c v → h'.IsCell c v := fun x c e v ⟨o, ho, hd⟩ => by
    have nch : c ∉ ch := fun z => (hch c z).2.2.1 x c e rfl
    by_cases hc : c ∈ X.fs
    · obtain ⟨sl, q⟩ := slot c o (I.cne x c e) hc nch ho (I.freeC x c e)
      exact ⟨_, q, hd⟩
    · exact ⟨o, keep c o (I.cne x c e) hc nch ho (I.freeC x c e), hd⟩
  refine ⟨I.ok, I.os, hg, ⟨fun b o e n hb hx => ?_, fun b o e n hb hx => ?_, fun b o e n hx => ?_, fun b o e hx => ?_, fun b xs e => tups b xs (I.base.tups b xs e), fun b o xs e => frzs b o xs (I.base.frzs b o xs e), fun b ps e => ?_⟩, ?_, fun x c e => ?_, ?_, fun x c e => ?_, fun p hp => ?_, hok, I.len⟩
  · exact keep b o (neL b o e) hb (neC b o e hx) (I.base.keep b o e n hb hx) (I.base.free b o e n hx)
  · obtain ⟨sl, e1⟩ := I.base.slot b o e n hb hx
    obtain ⟨sl', e2⟩ := slot b _ (neL b o e) hb (neC b o e hx) e1 (I.base.free b o e n hx)
    exact ⟨sl', e2⟩
  · obtain ⟨o', e1⟩ := I.base.there b o e hx
    exact free b o' (neC b o e hx) e1 (I.base.free b o e n hx)
  · obtain ⟨o', e1⟩ := I.base.there b o e hx
    exact there b o' (neC b o e hx) e1
  · obtain ⟨m1, e1⟩ := I.base.tbls b ps e
    obtain ⟨m2, e2⟩ := tbls b _ e1
    exact ⟨m1 ++ m2, by rw [e2, Array.append_assoc]⟩
  · obtain ⟨m, hn, hl⟩ := I.loc
    refine ⟨m, ns m hn, fun i x v e1 e2 e3 => ?_⟩
    obtain ⟨u, r, l⟩ := hl i x v e1 e2 e3
    refine ⟨u, r, ?_⟩
    rcases l with l | ⟨k, c, e, z⟩
    · exact .inl l
    · exact .inr ⟨k, c, e, cellK x c e _ z⟩
  · obtain ⟨v, z⟩ := I.cell x c e
    exact ⟨v, cellK x c e v z⟩
  · obtain ⟨m, ⟨o, _, _, ho, _⟩, _⟩ := I.loc
    exact free _ o (fun z => (hch _ z).2.1 rfl) ho I.free
  · obtain ⟨v, o, ho, hd⟩ := I.cell x c e
    exact free c o (fun z => (hch c z).2.2.1 x c e rfl) ho (I.freeC x c e)
  · obtain ⟨e, n, ne, nf, d⟩ := I.pin p hp
    have nch : p.1 ∉ ch := fun z => (hch p.1 z).2.2.2 p hp rfl
    exact ⟨keep p.1 p.2 ne nf nch e n, free p.1 p.2 nch e n, ne, nf, d⟩
/-- .. where the frame's own object is kept too -/
theorem Inv.un {t' : Nat} (I : Inv X pins σ H s) (u : Un X.fs [] H H' s.heap h') (hok : HOk X.prog X.w H' h') : Inv X pins σ H' { s with heap := h', toks := t' } := by
  obtain ⟨m, ⟨o, es, ep, ho, r⟩, _⟩ := id I.loc
  obtain ⟨sl, hL⟩ := u.any ho I.free (by simp)
  exact I.step (g' := s.gens) (d' := s.drawn) (ch := []) (fun _ z => nomatch z) (fun b o _ hb _ e n => u.keep b o e n hb (by simp)) (fun b o _ hb _ e n => u.slot b o e n hb (by simp)) (fun b o _ e n => u.free b o e n (by simp)) (fun b o _ e => u.there b o e (by simp)) u.tups u.frzs u.tbls (fun m' hm => by
    obtain ⟨o', es', ep', ho', r'⟩ := hm
    rw [ho] at ho'; cases ho'
    exact ⟨_, es', ep', hL, r'⟩) hok I.bare
/-- behind a call (or a comprehension's block): the slots of this frame may have changed too, the records at ch may have turned -/
theorem Inv.call {g' : Array GenState} {t' : Nat} {d' : Drawn} {ch : List Addr} (I : Inv X pins σ H s) (u : Un (frs X.stack) ch H H' s.heap h') (hok : HOk X.prog X.w H' h') (hg : AllBare g')
    (hch : ∀ b ∈ ch, (b ∈ X.ex ∨ X.s₀.heap.objs.size ≤ b) ∧ b ≠ X.env.locals ∧ (∀ x c, X.env.cells.lookup x = some c → c ≠ b) ∧ ∀ p ∈ X.pn ++ pins, p.1 ≠ b) :
    Inv X pins σ H' { s with heap := h', gens := g', drawn := d', toks := t' } := by
  obtain ⟨m, ⟨o, es, ep, ho, r⟩, _⟩ := id I.loc
  obtain ⟨sl, hL⟩ := u.any ho I.free fun z => (hch _ z).2.1 rfl
  exact I.step (ch := ch) hch (fun b o hL hb hc e n => u.keep b o e n (fun z => (List.mem_cons.mp (I.stkSub b z)).elim hL hb) hc) (fun b o _ _ hc e n => u.any e n hc) (fun b o hc e n => u.free b o e n hc) (fun b o hc e => u.there b o e hc) u.tups u.frzs u.tbls (fun m' hm => by
    obtain ⟨o', es', ep', ho', r'⟩ := hm
    rw [ho] at ho'; cases ho'
    exact ⟨_, es', ep', hL, r'⟩) hok hg
/-- an untracked record of ours (an iterator) has turned -/
theorem Inv.turned {t' : Nat} {it : Addr} (I : Inv X pins σ H s) (k : ∀ b o, b ≠ it → s.heap.get? b = some o → h'.get? b = some o) (hn : H it = none) (hL : it ≠ X.env.locals)
    (h1 : it ∈ X.ex ∨ X.s₀.heap.objs.size ≤ it) (h2 : ∀ x c, X.env.cells.lookup x = some c → c ≠ it) (h3 : ∀ p ∈ X.pn ++ pins, p.1 ≠ it) : Inv X pins σ H { s with heap := h', toks := t' } := by
  have nit : ∀ b u, H b = some u → b ≠ it := fun b u e z => by rw [z, hn] at e; cases e
  refine I.step (g' := s.gens) (d' := s.drawn) (ch := [it]) (fun b hb => ?_) (fun b o _ _ hc e _ => k b o (fun z => hc (by simp [z])) e) (fun b o _ _ hc e _ => ⟨o.slots, k b o (fun z => hc (by simp [z])) e⟩) (fun _ _ _ _ n => n)
    (fun b o hc e => ⟨o, k b o (fun z => hc (by simp [z])) e⟩) (fun _ _ e => e) (fun _ _ _ e => e) (fun b ps e => ⟨#[], by rw [e]; simp⟩) (fun m hm => ?_) (fun b u e => ?_) I.bare
  · have e : b = it := by simpa using hb
    subst e
    exact ⟨h1, hL, h2, h3⟩
  · obtain ⟨o, es, ep, ho, r⟩ := hm
    exact ⟨o, es, ep, k _ o (Ne.symm hL) ho, r⟩
  · refine (I.hok b u e).stay (fun c v hc q => k c v ?_ q) (fun _ q => q) fun _ _ q => q
    rcases hc with z | z
    · rw [z]; exact nit b u e
    · exact nit c _ z
theorem Inv.tok (I : Inv X pins σ H s) (t : Nat) : Inv X pins σ H { s with toks := t } := I.un (h' := s.heap) (t' := t) Un.refl I.hok
/-- all objects kept -/
theorem Inv.kept {t' : Nat} (I : Inv X pins σ H s) (k : ∀ b u, s.heap.get? b = some u → h'.get? b = some u) : Inv X pins σ H { s with heap := h', toks := t' } := I.un (Un.kept k) (I.hok.kept k)
/-- a new object laid and tracked -/
theorem Inv.laid {a : Addr} {o : HO} {t' : Nat} (I : Inv X pins σ H s) (k : ∀ b u, s.heap.get? b = some u → h'.get? b = some u) (hp : s.heap.objs.size ≤ a) (new : ObjOk X.prog X.w (upd H a o) h' a o) :
    Inv X pins σ (upd H a o) { s with heap := h', toks := t' } := I.un (Un.laid k hp (I.hok.fresh hp)) (I.hok.laid k hp new)
/-- an object written -/
theorem Inv.write {x e : Addr} {o : HO} {t' : Nat} (I : Inv X pins σ H s) (mu : Mut (H x)) (he : e = x ∨ H e = some (.own x)) (k : ∀ b u, b ≠ e → s.heap.get? b = some u → h'.get? b = some u) (heo : ∃ u, h'.get? e = some u)
    (new : ObjOk X.prog X.w (upd H x o) h' x o) : Inv X pins σ (upd H x o) { s with heap := h', toks := t' } := I.un (Un.write mu he k heo) (I.hok.write mu he k heo new)
theorem Inv.pins_of {pins' : List (Addr × Obj)} (I : Inv X pins σ H s) (h : ∀ p ∈ pins', s.heap.get? p.1 = some p.2 ∧ H p.1 = none ∧ p.1 ≠ X.env.locals ∧ p.1 ∉ X.fs ∧ ∀ v, p.2.data ≠ .cell v) : Inv X pins' σ H s :=
  ⟨I.ok, I.os, I.bare, I.base, I.loc, I.cell, I.free, I.freeC, fun p hp => (List.mem_append.mp hp).elim (fun z => I.pin p (List.mem_append_left _ z)) (h p), I.hok, I.len⟩

theorem nodup_ix {N : List Str} (hN : N.Nodup) {i j : Nat} {x : Str} (a : N[i]? = some x) (b : N[j]? = some x) : i = j := by
  obtain ⟨h1, e1⟩ := List.getElem?_eq_some_iff.mp a
  obtain ⟨h2, e2⟩ := List.getElem?_eq_some_iff.mp b
  exact (List.getElem_inj hN).mp (e1.trans e2.symm)

/-- a name is stored; what changed -/
theorem store_ok2 {M : Model} {A : Around} {E : Value → Shared → Prop} {i : Nat} {x : Str} {v : V} {u : Value} {Q : Unit → Shared → Prop} (I : Inv X pins σ H s) (hN : X.N.Nodup) (hi : X.N[i]? = some x) (hx : Loc X.env.scope x) (r : RelV v u)
    (h : ∀ s', Inv X pins (σ.set i (some v)) H s' → (∃ a, Heap.SameBut a s.heap s'.heap ∧ (a = X.env.locals ∨ X.env.cells.lookup x = some a)) → Q () s') (hf : X.fn x = true ∨ X.env.scope.names.lookup x = some .local := by first | exact .inl rfl | exact .inr rfl | assumption) : wpAny M A (storeName X.env x u) Q E s := by
  obtain ⟨m, hn, hl⟩ := id I.loc
  have hcls : (X.env.scope.kind == .class || (X.env.scope.kind == .module && X.env.locals != X.env.globals)) = false := by rw [I.ok.kind]; rfl
  have hiσ : i < σ.length := by rw [I.len]; exact (List.getElem?_eq_some_iff.mp hi).1
  have cne := I.cne
  have tracked : ∀ {a : Addr} {h' : Heap}, (∃ o, s.heap.get? a = some o ∧ H a = none) → Heap.SameBut a s.heap h' → HOk X.prog X.w H h' := fun {a h'} ha hs b ob e => by
    obtain ⟨_, _, hfree⟩ := ha
    refine (I.hok b ob e).stay (fun c w' hc q => (hs.2 c ?_).trans q) (fun _ q => q) fun _ _ q => q
    rintro rfl
    rcases hc with rfl | hc
    · rw [hfree] at e; cases e
    · rw [hfree] at hc; cases hc
  rcases hx with hk | hk
  · refine wpAny_storeName_local hk hn (fun h' hn' hs => ?_) hcls
    obtain ⟨oL, _, _, hoL, _⟩ := id hn
    refine h _ ⟨I.ok, I.os, I.bare, ⟨fun b o e n hb hx => ?_, fun b o e n hb hx => ?_, I.base.free, fun b o e hx => ?_, I.base.tups, I.base.frzs, I.base.tbls⟩, ⟨_, hn', fun j y v' e1 e2 e3 => ?_⟩, fun y c e => ?_, I.free, I.freeC, fun p hp => ?_, tracked ⟨oL, hoL, I.free⟩ hs, by simpa using I.len⟩ ⟨_, hs, .inl rfl⟩
    · exact (hs.2 b (Nat.ne_of_lt (Nat.lt_of_lt_of_le (Heap.lt_size e) I.ok.above))).trans (I.base.keep b o e n hb hx)
    · obtain ⟨sl, e1⟩ := I.base.slot b o e n hb hx
      exact ⟨sl, (hs.2 b (Nat.ne_of_lt (Nat.lt_of_lt_of_le (Heap.lt_size e) I.ok.above))).trans e1⟩
    · obtain ⟨o', e1⟩ := I.base.there b o e hx
      exact ⟨o', (hs.2 b (Nat.ne_of_lt (Nat.lt_of_lt_of_le (Heap.lt_size e) I.ok.above))).trans e1⟩
    · by_cases hj : j = i
      · subst hj
        rw [hi] at e1; cases e1
        rw [List.getElem?_set_self hiσ] at e2
        cases e2
        exact ⟨u, r, .inl ⟨hk, by simp⟩⟩
      · rw [List.getElem?_set_ne (Ne.symm hj)] at e2
        obtain ⟨u', r', q⟩ := hl j y v' e1 e2 e3
        refine ⟨u', r', ?_⟩
        rcases q with ⟨k, e⟩ | ⟨k, c, e, z⟩
        · refine .inl ⟨k, ?_⟩
          have : y ≠ x := fun e => hj (nodup_ix hN e1 (e ▸ hi))
          simp [this, e]
        · exact .inr ⟨k, c, e, z.sameBut hs (cne y c e)⟩
    · obtain ⟨w', z⟩ := I.cell y c e
      exact ⟨w', z.sameBut hs (cne y c e)⟩
    · obtain ⟨e, n, ne, nf, d⟩ := I.pin p hp
      exact ⟨(hs.2 p.1 ne).trans e, n, ne, nf, d⟩
  · have hfn : X.fn x = true := by
      rcases hf with z | z
      · exact z
      · rw [z] at hk; cases hk
    obtain ⟨c, hc⟩ := I.ok.has x (.inl hk)
    obtain ⟨w', z⟩ := I.cell x c hc
    refine wpAny_storeName_cell I.ok.kind hk hc z (fun h' hc' hs => ?_)
    obtain ⟨oc, hoc, hocd⟩ := id z
    refine h { s with heap := h' } ⟨I.ok, I.os, I.bare, ⟨fun b o e n hb hx => ?_, fun b o e n hb hx => ?_, I.base.free, fun b o e hx => ?_, I.base.tups, I.base.frzs, I.base.tbls⟩, ⟨m, hn.sameBut hs (Ne.symm (cne x c hc)), fun j y v' e1 e2 e3 => ?_⟩, fun y c' e => ?_, I.free, I.freeC, fun p hp => ?_, tracked ⟨oc, hoc, I.freeC x c hc⟩ hs, by simpa using I.len⟩ ⟨c, hs, .inr hc⟩
    · exact (hs.2 b (Nat.ne_of_lt (Nat.lt_of_lt_of_le (Heap.lt_size e) (I.ok.cab x c hfn hc)))).trans (I.base.keep b o e n hb hx)
    · obtain ⟨sl, e1⟩ := I.base.slot b o e n hb hx
      exact ⟨sl, (hs.2 b (Nat.ne_of_lt (Nat.lt_of_lt_of_le (Heap.lt_size e) (I.ok.cab x c hfn hc)))).trans e1⟩
    · obtain ⟨o', e1⟩ := I.base.there b o e hx
      exact ⟨o', (hs.2 b (Nat.ne_of_lt (Nat.lt_of_lt_of_le (Heap.lt_size e) (I.ok.cab x c hfn hc)))).trans e1⟩
    · by_cases hj : j = i
      · subst hj
        rw [hi] at e1; cases e1
        rw [List.getElem?_set_self hiσ] at e2
        cases e2
        exact ⟨u, r, .inr ⟨.inl hk, c, hc, hc'⟩⟩
      · rw [List.getElem?_set_ne (Ne.symm hj)] at e2
        obtain ⟨u', r', q⟩ := hl j y v' e1 e2 e3
        refine ⟨u', r', ?_⟩
        rcases q with q | ⟨k, c', e, z'⟩
        · exact .inl q
        · refine .inr ⟨k, c', e, z'.sameBut hs ?_⟩
          rintro rfl
          exact hj (nodup_ix hN e1 (I.ok.inj _ _ _ e hc ▸ hi))
    · by_cases hcc : c' = c
      · subst hcc; exact ⟨_, hc'⟩
      · obtain ⟨w2, z2⟩ := I.cell y c' e
        exact ⟨w2, z2.sameBut hs hcc⟩
    · obtain ⟨e, n, ne, nf, d⟩ := I.pin p hp
      refine ⟨(hs.2 p.1 ?_).trans e, n, ne, nf, d⟩
      intro q
      rw [q, hoc] at e
      have q' : oc = p.2 := Option.some.inj e
      exact d w' (by rw [← q']; exact hocd)
theorem store_ok {M : Model} {A : Around} {E : Value → Shared → Prop} {i : Nat} {x : Str} {v : V} {u : Value} {Q : Unit → Shared → Prop} (I : Inv X pins σ H s) (hN : X.N.Nodup) (hi : X.N[i]? = some x) (hx : Loc X.env.scope x) (r : RelV v u)
    (h : ∀ s', Inv X pins (σ.set i (some v)) H s' → Q () s') (hf : X.fn x = true ∨ X.env.scope.names.lookup x = some .local := by first | exact .inl rfl | exact .inr rfl | assumption) : wpAny M A (storeName X.env x u) Q E s :=
  store_ok2 I hN hi hx r (fun s' I' _ => h s' I') hf
/-- behind a call or a block, the state as it is -/
theorem Inv.call' {s' : Shared} {ch : List Addr} (I : Inv X pins σ H s) (ho : s'.os = s.os) (u : Un (frs X.stack) ch H H' s.heap s'.heap) (hok : HOk X.prog X.w H' s'.heap) (hg : AllBare s'.gens)
    (hch : ∀ b ∈ ch, (b ∈ X.ex ∨ X.s₀.heap.objs.size ≤ b) ∧ b ≠ X.env.locals ∧ (∀ x c, X.env.cells.lookup x = some c → c ≠ b) ∧ ∀ p ∈ X.pn ++ pins, p.1 ≠ b) : Inv X pins σ H' s' := by
  obtain ⟨h', g', d', t', o'⟩ := s'
  have e : o' = s.os := ho
  subst e
  exact I.call (g' := g') (t' := t') (d' := d') u hok hg hch
end

/-! ### the judgements -/
/-- an exception: its class, its own dict's address (where it has one), the abstract heap behind it -/
abbrev XK := Value → Option Addr → Hp → Prop
abbrev St := List (Option V)
abbrev VK := V → Hp → Prop
/-- an expression's reading; a test's; an argument list's -/
abbrev TE := St → Hp → VK → Prop
abbrev TT := St → Hp → (Bool → Hp → Prop) → Prop
abbrev TA := St → Hp → (List V → Hp → Prop) → Prop
/-- what is wanted behind a statement -/
structure Ends where
  nx : St → Hp → Prop
  rt : VK
  bk : St → Hp → Prop := fun _ _ => False
  ct : St → Hp → Prop := fun _ _ => False
abbrev TS := Ends → St → Hp → Prop

def EP (X : Cx) (pins : List (Addr × Obj)) (σ : St) (Q : VK) (u : Value) (s' : Shared) : Prop := ∃ v H', Inv X pins σ H' s' ∧ RelV v u ∧ Q v H'
def TP (X : Cx) (pins : List (Addr × Obj)) (σ : St) (Q : Bool → Hp → Prop) (b : Bool) (s' : Shared) : Prop := ∃ H', Inv X pins σ H' s' ∧ Q b H'
def AP (X : Cx) (pins : List (Addr × Obj)) (σ : St) (Q : List V → Hp → Prop) (us : List Value) (s' : Shared) : Prop := ∃ vs H', Inv X pins σ H' s' ∧ Vals vs us ∧ Q vs H'
def SP (X : Cx) (pins : List (Addr × Obj)) (D : Ends) (f : Flow) (s' : Shared) : Prop :=
  match f with
  | .next => ∃ σ' H', Inv X pins σ' H' s' ∧ D.nx σ' H'
  | .brk => ∃ σ' H', Inv X pins σ' H' s' ∧ D.bk σ' H'
  | .cont => ∃ σ' H', Inv X pins σ' H' s' ∧ D.ct σ' H'
  | .ret u => ∃ v σ' H', Inv X pins σ' H' s' ∧ RelV v u ∧ D.rt v H'

def PE (X : Cx) (e : Expr) (t : TE) : Prop :=
  ∀ (pins : List (Addr × Obj)) (s : Shared) (σ : St) (H : Hp) (Q : VK), Inv X pins σ H s → t σ H Q → wpAny (model X.prog X.w) X.A (eval e X.env) (EP X pins σ Q) X.xe s
def PT (X : Cx) (e : Expr) (t : TT) : Prop :=
  ∀ (pins : List (Addr × Obj)) (s : Shared) (σ : St) (H : Hp) (Q : Bool → Hp → Prop), Inv X pins σ H s → t σ H Q → wpAny (model X.prog X.w) X.A (isTrue e X.env (eval e X.env)) (TP X pins σ Q) X.xe s
/-- a test whatever its 'whole' is (and, or) -/
def PW (X : Cx) (e : Expr) (t : TT) : Prop :=
  ∀ (whole : Sem Value) (pins : List (Addr × Obj)) (s : Shared) (σ : St) (H : Hp) (Q : Bool → Hp → Prop), Inv X pins σ H s → t σ H Q → wpAny (model X.prog X.w) X.A (isTrue e X.env whole) (TP X pins σ Q) X.xe s
theorem PW.pt {X : Cx} {e : Expr} {t : TT} (h : PW X e t) : PT X e t := h _
/-- an argument list (no star), from the left -/
def PA (X : Cx) (es : List Expr) (t : TA) : Prop :=
  ∀ (pos : Pos) (pins : List (Addr × Obj)) (s : Shared) (σ : St) (H : Hp) (Q : List V → Hp → Prop), Inv X pins σ H s → t σ H Q → wpAny (model X.prog X.w) X.A (spliced (backTo pos (starEach es X.env))) (AP X pins σ Q) X.xe s
def PS (X : Cx) (st : Stmt) (t : TS) : Prop :=
  ∀ (pins : List (Addr × Obj)) (s : Shared) (σ : St) (H : Hp) (D : Ends), Inv X pins σ H s → t D σ H → wpAny (model X.prog X.w) X.A (exec st X.env) (SP X pins D) X.xe s
def PSs (X : Cx) (st : List Stmt) (t : TS) : Prop :=
  ∀ (pins : List (Addr × Obj)) (s : Shared) (σ : St) (H : Hp) (D : Ends), Inv X pins σ H s → t D σ H → wpAny (model X.prog X.w) X.A (execs st X.env) (SP X pins D) X.xe s
/-- weaken the end -/
theorem thn {α : Type} {t : Sem α} {Q Q' : α → Shared → Prop} {M : Model} {A : Around} {E : Value → Shared → Prop} {s : Shared} (h : wpAny M A t Q E s) (hQ : ∀ a s, Q a s → Q' a s) : wpAny M A t Q' E s := wpAny_mono h hQ fun _ _ x => x
end L2

namespace L2
open PySem PySem.Spec PyProof.Rows
section
variable {X : Cx}


/-! ### names and constants -/
def tVar (i : Nat) : TE := fun σ H Q => ∃ v, σ[i]? = some (some v) ∧ Q v H
def tC (v : V) : TE := fun _ H Q => Q v H
theorem pe_var {i : Nat} {x : Str} {pos : Pos} (hN : X.N[i]? = some x) (hv : Vis X.env.scope x) (hd : (x == ("__debug__" : Str)) = false := by decide) (hcd : (x == ("__classdict__" : Str)) = false := by decide) : PE X (.Name x pos) (tVar i) := by
  intro pins s σ H Q I h
  obtain ⟨v, e, h⟩ := h
  obtain ⟨m, hn, hl⟩ := I.loc
  obtain ⟨u, r, l⟩ := hl i x v hN e hv
  have fin : EP X pins σ Q u s := ⟨v, H, I, r, h⟩
  rcases l with ⟨hk, hm⟩ | ⟨hk, c, hc, hcell⟩
  · exact wpAny_Name (wpAny_loadName_local I.ok.kind hk hn hm fin) hd
  · rcases hk with hk | hk
    · exact wpAny_Name (wpAny_loadName_cell I.ok.kind hk hc hcell fin) hd
    · exact wpAny_Name (wpAny_loadName_free I.ok.kind hk hc hcell fin hcd) hd
theorem pe_int {i j pos} : PE X (.Constant (.int i) j pos) (tC (.int i)) := fun _ _ _ H _ I h => wpAny_Constant_int ⟨.int i, H, I.tok _, ⟨_, rfl⟩, h⟩
theorem pe_bl {b j pos} : PE X (.Constant (.bool b) j pos) (tC (.bl b)) := fun _ _ _ H _ I h => Constant_bool ⟨.bl b, H, I, rfl, h⟩
theorem pe_non {j pos} : PE X (.Constant .none j pos) (tC .non) := fun _ _ _ H _ I h => Constant_none ⟨.non, H, I, rfl, h⟩
theorem pe_str {x j pos} : PE X (.Constant (.str x) j pos) (tC (.str x)) := fun _ _ _ H _ I h => Calls.Constant_str ⟨.str x, H, I.tok _, ⟨_, rfl⟩, h⟩

/-- a global name of the def -/
def Gl (X : Cx) (x : Str) : Prop := X.env.kindOf x = some .globalImplicit
theorem ld_glob {E : Value → Shared → Prop} {pins : List (Addr × Obj)} {s : Shared} {σ : St} {H : Hp} {x : Str} {u : Value} {pos : Pos} {Q : Value → Shared → Prop} (I : Inv X pins σ H s) (hg : Gl X x) (hm : X.mg x = some u) (h : Q u s)
    (hd : (x == ("__debug__" : Str)) = false := by decide) : wpAny (model X.prog X.w) X.A (eval (.Name x pos) X.env) Q E s :=
  Calls.Name_function_global I.ok.kind hg (Calls.loadGlobal_global (by rw [I.ok.glob]; exact I.mod.glob.keeps I.bk) hm h) hd
theorem ld_blt {E : Value → Shared → Prop} {pins : List (Addr × Obj)} {s : Shared} {σ : St} {H : Hp} {x : Str} {u : Value} {pos : Pos} {Q : Value → Shared → Prop} (I : Inv X pins σ H s) (hg : Gl X x) (hm : X.mg x = none) (hv : bootBuiltins x = some u) (h : Q u s)
    (hn : x ≠ "__name__" := by decide) (hd : (x == ("__debug__" : Str)) = false := by decide) : wpAny (model X.prog X.w) X.A (eval (.Name x pos) X.env) Q E s := by
  obtain ⟨mb, h1, h2⟩ := I.mod.blt
  exact Calls.Name_function_global I.ok.kind hg (Calls.loadGlobal_builtin (by rw [I.ok.glob]; exact I.mod.glob.keeps I.bk) hm (by rw [I.ok.blt]; exact h1.keeps I.bk) ((h2 x hn).trans hv) h) hd
/-- a module's constant, a class, a function, as a value -/
theorem pe_glob {x : Str} {v : V} {u : Value} {pos : Pos} (hg : Gl X x) (hm : X.mg x = some u) (r : RelV v u) (hd : (x == ("__debug__" : Str)) = false := by decide) : PE X (.Name x pos) (tC v) :=
  fun _ _ _ H _ I h => ld_glob I hg hm ⟨v, H, I, r, h⟩ hd
theorem pe_bltn {x : Str} {v : V} {u : Value} {pos : Pos} (hg : Gl X x) (hm : X.mg x = none) (hv : bootBuiltins x = some u) (r : RelV v u) (hn : x ≠ "__name__" := by decide) (hd : (x == ("__debug__" : Str)) = false := by decide) : PE X (.Name x pos) (tC v) :=
  fun _ _ _ H _ I h => ld_blt I hg hm hv ⟨v, H, I, r, h⟩ hn hd

/-! ### arithmetic -/
/-- two ints -/
def t2I (ta tb : TE) (k : Int → Int → Hp → Prop) : St → Hp → Prop := fun σ H => ta σ H fun x H1 => tb σ H1 fun y H2 => ∃ i j, x = .int i ∧ y = .int j ∧ k i j H2
def tAdd (ta tb : TE) : TE := fun σ H Q => t2I ta tb (fun i j H2 => Q (.int (i + j)) H2) σ H
def tSub (ta tb : TE) : TE := fun σ H Q => t2I ta tb (fun i j H2 => Q (.int (i - j)) H2) σ H
/-- the left factor below 2^64 -/
def tMul (ta tb : TE) : TE := fun σ H Q => t2I ta tb (fun i j H2 => (-(2 ^ 64) < i ∧ i < 2 ^ 64) ∧ Q (.int (i * j)) H2) σ H
variable {a b : Expr} {ta tb : TE} {pos : Pos}

/-! ### comparisons -/
def PC (X : Cx) (op : CmpOp) (a b : Expr) (t : TE) : Prop :=
  ∀ (pins : List (Addr × Obj)) (s : Shared) (σ : St) (H : Hp) (Q : VK), Inv X pins σ H s → t σ H Q →
    wpAny (model X.prog X.w) X.A (eval a X.env) (fun v s₁ => wpAny (model X.prog X.w) X.A (eval b X.env) (fun u s₂ => wpAny (model X.prog X.w) X.A (compareOp op v u) (EP X pins σ Q) X.xe s₂) X.xe s₁) X.xe s
def tCmp (p : Int → Int → Bool) (ta tb : TE) : TE := fun σ H Q => t2I ta tb (fun i j H2 => Q (.bl (p i j)) H2) σ H
abbrev tLt : TE → TE → TE := tCmp fun i j => decide (i < j)
abbrev tLe : TE → TE → TE := tCmp fun i j => decide (i ≤ j)
abbrev tGt : TE → TE → TE := tCmp fun i j => decide (j < i)
abbrev tGe : TE → TE → TE := tCmp fun i j => decide (j ≤ i)
abbrev tEqI : TE → TE → TE := tCmp fun i j => decide (i = j)
abbrev tNeI : TE → TE → TE := tCmp fun i j => !decide (i = j)
/-- is None -/
def tIsN (ta : TE) : TE := fun σ H Q => ta σ H fun x H1 => Q (.bl (decide (x = .non))) H1
def tNotN (ta : TE) : TE := fun σ H Q => ta σ H fun x H1 => Q (.bl (!decide (x = .non))) H1
/-- a comparison as a value, as a test -/
def tB (t : TE) : TT := fun σ H Q => t σ H fun x H1 => ∃ c, x = .bl c ∧ Q c H1
/-- an expression whose value is a bool, as a test -/
theorem pt_val {e : Expr} {t : TE} (h : PE X e t) (he : ∀ whole, isTrue e X.env whole = (do let v ← whole; standAt e.pos; holding [v] (truthy v)) := by intro _; rfl) : PT X e (tB t) := by
  intro pins s σ H Q I hw
  refine isTrue_plain (thn (h pins s σ H _ I hw) fun v s1 ⟨x, H1, I1, r1, q1⟩ => ?_) (he _)
  obtain ⟨d, rfl, q⟩ := q1
  cases r1
  exact wpAny_truthy_bool ⟨H1, I1, q⟩

/-! ### and, or, not -/
variable {tA tB' : TT} {rest : List Expr}
def tAnd (t u : TT) : TT := fun σ H Q => t σ H fun c H1 => if c = true then u σ H1 Q else Q false H1
def tOr (t u : TT) : TT := fun σ H Q => t σ H fun c H1 => if c = true then Q true H1 else u σ H1 Q
def tNot (t : TT) : TT := fun σ H Q => t σ H fun c H1 => Q (!c) H1
theorem pw_and1 (ha : PT X a tA) : PW X (.BoolOp .And [a] pos) tA := by
  intro wh pins s σ H Q I h
  refine isTrue_and (thn (ha pins s σ H Q I h) fun c s1 e => ?_)
  cases c with
  | true => exact isTrue_and_nil e
  | false => exact e
theorem pw_or1 (ha : PT X a tA) : PW X (.BoolOp .Or [a] pos) tA := by
  intro wh pins s σ H Q I h
  refine isTrue_or (thn (ha pins s σ H Q I h) fun c s1 e => ?_)
  cases c with
  | false => exact isTrue_or_nil e
  | true => exact e
theorem pw_and (ha : PT X a tA) (hb : PW X (.BoolOp .And (b :: rest) pos) tB') : PW X (.BoolOp .And (a :: b :: rest) pos) (tAnd tA tB') := by
  intro wh pins s σ H Q I h
  refine isTrue_and (thn (ha pins s σ H _ I h) fun c s1 ⟨H1, I1, q1⟩ => ?_)
  cases c with
  | true => exact hb wh pins s1 σ H1 Q I1 q1
  | false => exact ⟨H1, I1, q1⟩
theorem pw_or (ha : PT X a tA) (hb : PW X (.BoolOp .Or (b :: rest) pos) tB') : PW X (.BoolOp .Or (a :: b :: rest) pos) (tOr tA tB') := by
  intro wh pins s σ H Q I h
  refine isTrue_or (thn (ha pins s σ H _ I h) fun c s1 ⟨H1, I1, q1⟩ => ?_)
  cases c with
  | true => exact ⟨H1, I1, q1⟩
  | false => exact hb wh pins s1 σ H1 Q I1 q1
theorem pt_not (ha : PT X a tA) : PT X (.UnaryOp .Not a pos) (tNot tA) := by
  intro pins s σ H Q I h
  exact isTrue_not (ha pins s σ H (fun c H1 => Q (!c) H1) I h)
/-- .. as values (bools) -/
def tAndV (ta tb : TE) : TE := fun σ H Q => ta σ H fun x H1 => ∃ c, x = .bl c ∧ if c = true then tb σ H1 Q else Q (.bl false) H1
def tOrV (ta tb : TE) : TE := fun σ H Q => ta σ H fun x H1 => ∃ c, x = .bl c ∧ if c = true then Q (.bl true) H1 else tb σ H1 Q
def tNotV (ta : TE) : TE := fun σ H Q => ta σ H fun x H1 => ∃ c, x = .bl c ∧ Q (.bl (!c)) H1
theorem pe_one {op} {t : TE} (h : PE X a t) : PE X (.BoolOp op [a] pos) t := fun pins s σ H Q I hw => BoolOp_one (h pins s σ H Q I hw)
theorem pe_and (ha : PE X a ta) (hb : PE X (.BoolOp .And (b :: rest) pos) tb) : PE X (.BoolOp .And (a :: b :: rest) pos) (tAndV ta tb) := by
  intro pins s σ H Q I h
  refine BoolOp_and (thn (ha pins s σ H _ I h) fun v s1 ⟨x, H1, I1, r1, q1⟩ => ?_)
  obtain ⟨c, rfl, q1⟩ := q1
  cases r1
  refine wpAny_truthy_bool ?_
  cases c with
  | true => exact hb pins s1 σ H1 Q I1 q1
  | false => exact ⟨.bl false, H1, I1, rfl, q1⟩
theorem pe_not (ha : PE X a ta) : PE X (.UnaryOp .Not a pos) (tNotV ta) := by
  intro pins s σ H Q I h
  refine UnaryOp_ (thn (ha pins s σ H _ I h) fun v s1 ⟨x, H1, I1, r1, q1⟩ => ?_)
  obtain ⟨c, rfl, q1⟩ := q1
  cases r1
  exact not_of (wpAny_truthy_bool ⟨.bl (!c), H1, I1, rfl, q1⟩)
/-- a if t else b -/
def tIf (t : TT) (ta tb : TE) : TE := fun σ H Q => t σ H fun c H1 => if c = true then ta σ H1 Q else tb σ H1 Q
end
end L2

namespace L2
open PySem PySem.Spec PyProof.Rows

/-! ### a list, a tuple that is read: tracked, frozen, or an object of the module -/
def SqL (K : PySem.W.Frag) (H : Hp) (a : Addr) (xs : List V) : Prop :=
  Rd H a (.lst xs) ∨
    ∃ (o : Obj) (its : Array Value) (n : Nat), K.lookup a = some o ∧ o.cls = .type "list" ∧ o.dict = none ∧ o.data = .seq its n ∧ its.size ≤ sizeLine ∧ Vals xs its.toList
def SqT (K : PySem.W.Frag) (H : Hp) (a : Addr) (xs : List V) : Prop :=
  Rd H a (.tup xs) ∨
    ∃ (o : Obj) (its : Array Value) (n : Nat), K.lookup a = some o ∧ o.cls = .type "tuple" ∧ o.data = .seq its n ∧ its.size ≤ sizeLine ∧ Vals xs its.toList
def absV : Value → Option V
  | .none => some .non
  | .bool b => some (.bl b)
  | .int i _ => some (.int i)
  | .str x _ => some (.str x)
  | .bytes b _ => some (.byt b)
  | .float b _ => some (.flt b)
  | .ref a => some (.ref a)
  | .type n => some (.ty n)
  | _ => none
theorem RelV.abs {x : V} {u : Value} (r : RelV x u) : absV u = some x := by
  cases x with
  | non => cases r; rfl
  | bl _ => cases r; rfl
  | int _ => obtain ⟨t, rfl⟩ := r; rfl
  | str _ => obtain ⟨t, rfl⟩ := r; rfl
  | byt _ => obtain ⟨t, rfl⟩ := r; rfl
  | flt _ => obtain ⟨t, rfl⟩ := r; rfl
  | ref _ => cases r; rfl
  | ty _ => cases r; rfl
theorem RelV.inj {x y : V} {u : Value} (r : RelV x u) (q : RelV y u) : x = y := Option.some.inj (r.abs.symm.trans q.abs)
theorem Vals.inj : ∀ {xs ys : List V} {us : List Value}, Vals xs us → Vals ys us → xs = ys
  | _, _, _, .nil, .nil => rfl
  | _, _, _, .cons r t, .cons r' t' => by rw [r.inj r', Vals.inj t t']
section
variable {X : Cx} {pins : List (Addr × Obj)} {σ : St} {H : Hp} {s : Shared} {a : Addr} {xs ys : List V}
theorem SqL.of {K : PySem.W.Frag} (h : H a = some (.lst xs)) : SqL K H a xs := .inl (.inl h)
theorem SqT.of {K : PySem.W.Frag} (h : H a = some (.tup xs)) : SqT K H a xs := .inl (.inl h)
theorem Inv.list (I : Inv X pins σ H s) (h : SqL X.K H a xs) : ∃ its : List Value, Vals xs its ∧ PlainL s.heap a its.toArray ∧ xs.length ≤ sizeLine := by
  rcases h with h | ⟨o, its, n, hk, hc, hd, hs, hz, r⟩
  · obtain ⟨z, its, n, r, e⟩ := h.ok I.hok
    exact ⟨its, r, ⟨_, n, e, rfl, rfl, rfl⟩, z⟩
  · refine ⟨its.toList, r, ⟨o, n, I.kIn a o hk, hc, hd, by simpa using hs⟩, ?_⟩
    have e := r.length
    simp only [Array.length_toList] at e
    omega
theorem Inv.tuple (I : Inv X pins σ H s) (h : SqT X.K H a xs) : ∃ its : List Value, Vals xs its ∧ IsTup s.heap a its.toArray ∧ xs.length ≤ sizeLine := by
  rcases h with h | ⟨o, its, n, hk, hc, hs, hz, r⟩
  · obtain ⟨z, its, r, p⟩ := h.ok I.hok
    exact ⟨its, r, p, z⟩
  · refine ⟨its.toList, r, ⟨o, I.kIn a o hk, hc, n, by simpa using hs⟩, ?_⟩
    have e := r.length
    simp only [Array.length_toList] at e
    omega
theorem Inv.list_inj (I : Inv X pins σ H s) (h : SqL X.K H a xs) (h' : SqL X.K H a ys) : xs = ys := by
  obtain ⟨its, r, ⟨o, n, e, _, _, d⟩, _⟩ := I.list h
  obtain ⟨its', r', ⟨o', n', e', _, _, d'⟩, _⟩ := I.list h'
  rw [e] at e'; cases e'
  rw [d] at d'
  injection d' with d1 _
  have : its = its' := by simpa using congrArg Array.toList d1
  subst this
  exact r.inj r'
theorem Inv.tuple_inj (I : Inv X pins σ H s) (h : SqT X.K H a xs) (h' : SqT X.K H a ys) : xs = ys := by
  obtain ⟨its, r, ⟨o, e, _, n, d⟩, _⟩ := I.tuple h
  obtain ⟨its', r', ⟨o', e', _, n', d'⟩, _⟩ := I.tuple h'
  rw [e] at e'; cases e'
  rw [d] at d'
  injection d' with d1 _
  have : its = its' := by simpa using congrArg Array.toList d1
  subst this
  exact r.inj r'
end

/-! ### another wish about exceptions -/
abbrev Cx.wish (X : Cx) (E : Value → Shared → Prop) : Cx := { X with xe := E }
/-- no exception leaves -/
abbrev Cx.nox (X : Cx) : Cx := X.wish fun _ _ => False
theorem Cx.Ok.wish {X : Cx} (ok : X.Ok) (E : Value → Shared → Prop) : (X.wish E).Ok :=
  ⟨ok.mod, ok.kind, ok.glob, ok.blt, ok.above, ok.inj, ok.has, ok.cab, ok.hd, ok.frames, ok.stk, ok.exf, ok.bs, ok.bsz, ok.noex, ok.exfs, ok.funs, ok.frf⟩
theorem Cx.Ok.unwish {X : Cx} {E : Value → Shared → Prop} (ok : (X.wish E).Ok) : X.Ok :=
  ⟨ok.mod, ok.kind, ok.glob, ok.blt, ok.above, ok.inj, ok.has, ok.cab, ok.hd, ok.frames, ok.stk, ok.exf, ok.bs, ok.bsz, ok.noex, ok.exfs, ok.funs, ok.frf⟩
section
variable {X : Cx} {pins : List (Addr × Obj)} {σ : St} {H : Hp} {s : Shared} {E : Value → Shared → Prop}
theorem Inv.wish (I : Inv X pins σ H s) (E : Value → Shared → Prop) : Inv (X.wish E) pins σ H s := ⟨I.ok.wish E, I.os, I.bare, I.base, I.loc, I.cell, I.free, I.freeC, I.pin, I.hok, I.len⟩
theorem Inv.unwish (I : Inv (X.wish E) pins σ H s) : Inv X pins σ H s := ⟨I.ok.unwish, I.os, I.bare, I.base, I.loc, I.cell, I.free, I.freeC, I.pin, I.hok, I.len⟩
theorem SP.unwish {D : Ends} {f : Flow} {s' : Shared} (h : SP (X.wish E) pins D f s') : SP X pins D f s' := by
  cases f with
  | next => obtain ⟨σ', H', I, q⟩ := h; exact ⟨σ', H', I.unwish, q⟩
  | brk => obtain ⟨σ', H', I, q⟩ := h; exact ⟨σ', H', I.unwish, q⟩
  | cont => obtain ⟨σ', H', I, q⟩ := h; exact ⟨σ', H', I.unwish, q⟩
  | ret u => obtain ⟨v, σ', H', I, r, q⟩ := h; exact ⟨v, σ', H', I.unwish, r, q⟩
theorem PSs.nox {st : List Stmt} {t : TS} (h : PSs X.nox st t) : PSs X st t := fun pins s σ H D I hw =>
  wpAny_mono (h pins s σ H D (I.wish _) hw) (fun _ _ q => q.unwish) fun _ _ z => False.elim z
end

/-! ### blocks and small statements -/
section
variable {X : Cx} {st : Stmt} {rest : List Stmt} {t u : TS} {e : Expr} {te : TE} {pos : Pos}
def tNext : TS := fun D σ H => D.nx σ H
def tSeq (t u : TS) : TS := fun D σ H => t { D with nx := u D } σ H
theorem pss_nil : PSs X [] tNext := fun _ _ σ H _ I h => wpAny_execs_nil ⟨σ, H, I, h⟩
theorem pss_cons (h1 : PS X st t) (h2 : PSs X rest u) : PSs X (st :: rest) (tSeq t u) := by
  intro pins s σ H D I h
  refine wpAny_execs_cons (thn (h1 pins s σ H { D with nx := u D } I h) fun f s1 q => ?_)
  cases f with
  | next =>
    obtain ⟨σ', H', I', q⟩ := q
    exact h2 pins s1 σ' H' D I' q
  | ret v => exact q
  | brk => exact q
  | cont => exact q
theorem pss_one (h1 : PS X st t) : PSs X [st] t := by
  intro pins s σ H D I h
  refine wpAny_execs_cons (thn (h1 pins s σ H D I h) fun f s1 q => ?_)
  cases f with
  | next => exact wpAny_execs_nil q
  | ret v => exact q
  | brk => exact q
  | cont => exact q
def tBreak : TS := fun D σ H => D.bk σ H
def tCont : TS := fun D σ H => D.ct σ H
/-- in a def's body nothing is shown -/
theorem Inv.quiet {pins : List (Addr × Obj)} {σ : St} {H : Hp} {s : Shared} (I : Inv X pins σ H s) : interactive X.env = false := by simp [interactive, I.ok.kind]
/-- an expression whose value is dropped -/
def tDrop (te : TE) : TS := fun D σ H => te σ H fun _ H1 => D.nx σ H1
theorem ps_expr (he : PE X e te) (hs : swapsWith e none pos.line X.env = pure false := by rfl) : PS X (.Expr e pos) (tDrop te) := by
  intro pins s σ H D I h
  exact wpAny_Expr_any (thn (he pins s σ H _ I h) fun v s1 ⟨x, H1, I1, r1, q1⟩ => ⟨σ, H1, I1, q1⟩) I.quiet hs
def tRet (te : TE) : TS := fun D σ H => te σ H D.rt
theorem ps_ret (he : PE X e te) : PS X (.Return (some e) pos) (tRet te) := by
  intro pins s σ H D I h
  exact wpAny_Return_some (thn (he pins s σ H _ I h) fun v s1 ⟨x, H1, I1, r1, q1⟩ => ⟨x, σ, H1, I1, r1, q1⟩)
def tRetN : TS := fun D _ H => D.rt .non H
def tIfS (c : TT) (t u : TS) : TS := fun D σ H => c σ H fun b H1 => if b = true then t D σ H1 else u D σ H1
theorem ps_if {c : Expr} {a b : List Stmt} {tc : TT} (hc : PT X c tc) (ha : PSs X a t) (hb : PSs X b u) : PS X (.If c a b pos) (tIfS tc t u) := by
  intro pins s σ H D I h
  refine wpAny_If (thn (hc pins s σ H _ I h) fun d s1 ⟨H1, I1, q1⟩ => ?_)
  cases d with
  | true => exact ha pins s1 σ H1 D I1 q1
  | false => exact hb pins s1 σ H1 D I1 q1
/-- code that the proof never comes to -/
def tNever : TS := fun _ _ _ => False
end

/-! ### targets -/
abbrev TG := V → St → Hp → (St → Hp → Prop) → Prop
abbrev TGs := List V → St → Hp → (St → Hp → Prop) → Prop
def PG (X : Cx) (target : Expr) (t : TG) : Prop :=
  ∀ (pins : List (Addr × Obj)) (s : Shared) (σ : St) (H : Hp) (v : V) (u : Value) (Q : St → Hp → Prop), Inv X pins σ H s → RelV v u → t v σ H Q →
    wpAny (model X.prog X.w) X.A (assign target X.env u) (fun _ s' => ∃ σ' H', Inv X pins σ' H' s' ∧ Q σ' H') X.xe s
/-- several targets, one after another -/
def PGs (X : Cx) (ts : List Expr) (t : TGs) : Prop :=
  ∀ (pins : List (Addr × Obj)) (s : Shared) (σ : St) (H : Hp) (vs : List V) (us : List Value) (Q : St → Hp → Prop), Inv X pins σ H s → Vals vs us → t vs σ H Q →
    wpAny (model X.prog X.w) X.A (assignInOrder ((assignEach ts X.env).map (·.2)) us) (fun _ s' => ∃ σ' H', Inv X pins σ' H' s' ∧ Q σ' H') X.xe s
/-- o[i] = v, by values -/
abbrev TSet := V → V → V → Hp → (Hp → Prop) → Prop
def PSet (X : Cx) (t : TSet) : Prop :=
  ∀ (pins : List (Addr × Obj)) (s : Shared) (σ : St) (H : Hp) (o i v : V) (ov iv u : Value) (Q : Hp → Prop), Inv X pins σ H s → RelV o ov → RelV i iv → RelV v u → t o i v H Q →
    wpAny (model X.prog X.w) X.A (setItem ov iv u) (fun _ s' => ∃ H', Inv X pins σ H' s' ∧ Q H') X.xe s
/-- a op= b, by values -/
abbrev TIp := V → V → Hp → VK → Prop
def PIp (X : Cx) (op : Operator) (t : TIp) : Prop :=
  ∀ (pins : List (Addr × Obj)) (s : Shared) (σ : St) (H : Hp) (x y : V) (v u : Value) (Q : VK), Inv X pins σ H s → RelV x v → RelV y u → t x y H Q →
    wpAny (model X.prog X.w) X.A (inplaceOp op v u) (EP X pins σ Q) X.xe s
section
variable {X : Cx} {pos : Pos}
def gName (i : Nat) : TG := fun v σ H Q => Q (σ.set i (some v)) H
theorem pg_name {i : Nat} {x : Str} (hN : X.N.Nodup) (hi : X.N[i]? = some x) (hx : Loc X.env.scope x) (hf : X.fn x = true ∨ X.env.scope.names.lookup x = some .local := by first | exact .inl rfl | exact .inr rfl | assumption) : PG X (.Name x pos) (gName i) := by
  intro pins s σ H v u Q I r h
  exact wpAny_assign_Name (store_ok I hN hi hx r (fun s' I' => ⟨_, H, I', h⟩) hf)
def gNil : TGs := fun vs σ H Q => vs = [] ∧ Q σ H
def gCons (t : TG) (u : TGs) : TGs := fun vs σ H Q => ∃ v r, vs = v :: r ∧ t v σ H fun σ' H' => u r σ' H' Q
theorem pgs_nil : PGs X [] gNil := by
  intro pins s σ H vs us Q I r h
  obtain ⟨e, h⟩ := h
  subst e
  cases r
  exact assignInOrder_nil ⟨σ, H, I, h⟩
theorem pgs_cons {e : Expr} {es : List Expr} {t : TG} {u : TGs} (h1 : PG X e t) (h2 : PGs X es u)
    (hs : (assignEach (e :: es) X.env).map (·.2) = assign e X.env :: (assignEach es X.env).map (·.2) := by rfl) : PGs X (e :: es) (gCons t u) := by
  intro pins s σ H vs us Q I r h
  obtain ⟨v, vr, e1, h⟩ := h
  subst e1
  cases r with
  | cons r rr =>
    rw [hs]
    refine assignInOrder_cons (thn (h1 pins s σ H _ _ _ I r h) fun _ s1 ⟨σ1, H1, I1, q1⟩ => ?_)
    exact h2 pins s1 σ1 H1 _ _ Q I1 rr q1
/-- (a, b, ..) = a tuple of that length -/
def gTup (K : PySem.W.Frag) (n : Nat) (t : TGs) : TG := fun v σ H Q => ∃ a xs, v = .ref a ∧ SqT K H a xs ∧ xs.length = n ∧ t xs σ H Q
theorem pg_tup {es : List Expr} {k : Nat} {t : TGs} {n : Nat} (hc : X.calm = true) (h : PGs X es t)
    (hn : (assignEach es X.env).length = n := by rfl) (hst : (assignEach es X.env).findIdx? (·.1) = none := by rfl) : PG X (.Tuple es k pos) (gTup X.K n t) := by
  intro pins s σ H v u Q I r hw
  obtain ⟨a, xs, e1, hq, hl, hw⟩ := hw
  subst e1
  cases r
  obtain ⟨its, rv, ht, hz⟩ := I.tuple hq
  refine assign_Tuple_tuple (I.ok.hd hc) ht (by simp [hn, ← hl, rv.length]) hst fun h' hx => ?_
  have I1 : Inv X pins σ H { s with heap := h' } := I.kept (t' := s.toks) fun b o e => hx b o (Nat.ne_of_lt (Heap.lt_size e)) e
  exact h pins _ σ H xs _ Q I1 (by simpa using rv) hw
/-- o[i] = .. -/
def gSub (to ti : TE) (t : TSet) : TG := fun v σ H Q => to σ H fun o H1 => ti σ H1 fun i H2 => t o i v H2 fun H3 => Q σ H3
theorem pg_sub {o i : Expr} {to ti : TE} {t : TSet} (ho : PE X o to) (hi : PE X i ti) (hs : PSet X t)
    (ha : ∀ v, assign (.Subscript o i pos) X.env v = (do
      let ov ← holding [v] (eval o X.env)
      let iv ← holding [v, ov] (eval i X.env)
      standAt pos
      holding [v, ov, iv] (setItem ov iv v)
      release [v, ov, iv] []) := by intro _; rfl) : PG X (.Subscript o i pos) (gSub to ti t) := by
  intro pins s σ H v u Q I r h
  rw [ha]
  refine wpAny_bind (wpAny_holding (thn (ho pins s σ H _ I h) fun ov s1 ⟨x, H1, I1, r1, q1⟩ => ?_))
  refine wpAny_bind (wpAny_holding (thn (hi pins s1 σ H1 _ I1 q1) fun iv s2 ⟨y, H2, I2, r2, q2⟩ => ?_))
  refine wpAny_bind (wpAny_standAt (wpAny_bind (wpAny_holding (thn (hs pins s2 σ H2 x y v ov iv u _ I2 r1 r2 r q2) fun _ s3 ⟨H3, I3, q3⟩ => ?_))))
  exact wpAny_release ⟨σ, H3, I3, q3⟩
/-- target = value -/
def tAsg (te : TE) (g : TG) : TS := fun D σ H => te σ H fun x H1 => g x σ H1 D.nx
theorem ps_asg {tg e : Expr} {te : TE} {g : TG} (he : PE X e te) (hg : PG X tg g) (hs : swapsWithSole [tg] e pos.line X.env = pure false := by rfl) (hw : swappedStores [tg] e X.env = pure none := by rfl)
    (h1 : (assignEach [tg] X.env).map (·.2) = [assign tg X.env] := by rfl) : PS X (.Assign [tg] e pos) (tAsg te g) := by
  intro pins s σ H D I h
  refine wpAny_Assign_stores (thn (he pins s σ H _ I h) fun v s1 ⟨x, H1, I1, r1, q1⟩ => ?_) hs hw
  rw [h1]
  exact thn (hg pins s1 σ H1 x v _ I1 r1 q1) fun _ s2 q => q
/-- name = value -/
theorem ps_set {i : Nat} {x : Str} {e : Expr} {te : TE} {pos' : Pos} (hN : X.N.Nodup) (hi : X.N[i]? = some x) (hx : Loc X.env.scope x) (he : PE X e te) (hs : swapsWith e (some (.Name x pos')) pos.line X.env = pure false := by rfl) (hf : X.fn x = true ∨ X.env.scope.names.lookup x = some .local := by first | exact .inl rfl | exact .inr rfl | assumption) :
    PS X (.Assign [.Name x pos'] e pos) (tAsg te (gName i)) := by
  intro pins s σ H D I h
  refine wpAny_Assign_Name (thn (he pins s σ H _ I h) fun v s1 ⟨y, H1, I1, r1, q1⟩ => ?_) hs
  exact store_ok I1 hN hi hx r1 (fun s2 I2 => ⟨_, H1, I2, q1⟩) hf
/-- a, b = x, y with plain local names: stored from the right; the pair itself is not tracked (the opening rows as in PyProof/Rows/TupAssign.lean:23) -/
def tPar (i j : Nat) (ta : TA) : TS := fun D σ H => ta σ H fun vs H1 => ∃ v w, vs = [v, w] ∧ D.nx ((σ.set i (some v)).set j (some w)) H1
theorem ps_par {i j : Nat} {x y : Str} {a b : Expr} {ta : TA} {px py pt : Pos} {kt k2 pt2} (hc : X.calm = true) (hN : X.N.Nodup) (hi : X.N[i]? = some x) (hj : X.N[j]? = some y) (hij : i ≠ j)
    (hx : X.env.scope.names.lookup x = some .local) (hy : X.env.scope.names.lookup y = some .local) (ha : PA X [a, b] ta)
    (hw : swappedStores [.Tuple [.Name x px, .Name y py] kt pt] (.Tuple [a, b] k2 pt2) X.env = pure (some [x, y]))
    (hs : swapsWithSole [.Tuple [.Name x px, .Name y py] kt pt] (.Tuple [a, b] k2 pt2) pos.line X.env = pure false := by rfl) :
    PS X (.Assign [.Tuple [.Name x px, .Name y py] kt pt] (.Tuple [a, b] k2 pt2) pos) (tPar i j ta) := by
  intro pins s σ H D I h
  rw [exec_Assign_arm]
  refine wpAny_bind (wpAny_standAt ?_)
  rw [hs]
  refine wpAny_bind (wpAny_pure ?_)
  rw [if_neg (by decide)]
  refine wpAny_bind (Tuple_ (thn (ha _ pins s σ H _ I h) fun us s1 ⟨vs, H1, I1, r1, q1⟩ => ?_))
  obtain ⟨v, w, e1, q1⟩ := q1
  subst e1
  obtain ⟨u1, u2, rfl, rv, rw'⟩ : ∃ u1 u2, us = [u1, u2] ∧ RelV v u1 ∧ RelV w u2 := by
    cases r1 with
    | cons p q =>
      cases q with
      | cons p' q' =>
        cases q'
        exact ⟨_, _, rfl, p, p'⟩
  refine wpAny_newObj_type ?_ (by show 2 ≤ sizeLine; decide)
  have I2 : Inv X pins σ H1 { s1 with heap := s1.heap.push { cls := .type "tuple", data := .seq [u1, u2].toArray } } := I1.kept (t' := s1.toks) fun b o e => Heap.get?_push_of_some _ e
  rw [hw]
  refine wpAny_bind (wpAny_pure ?_)
  show wpAny (model X.prog X.w) X.A (do rule "assign.swapped-stores"; let items ← unpackItems (.ref s1.heap.objs.size) 2 none; assignInOrder [fun v => bindName X.env y v, fun v => bindName X.env x v] items.reverse; pure Flow.next) _ _ _
  refine wpAny_bind (wpAny_rule (wpAny_bind (unpackItems_tuple (items := #[u1, u2]) (I.ok.hd hc) (IsTup.new s1.heap _) fun h' hx' => ?_)))
  have I3 := I2.kept (h' := h') (t' := s1.toks) fun b o e => hx' b o (Nat.ne_of_lt (Heap.lt_size e)) e
  show wpAny _ _ (assignInOrder [fun v => bindName X.env y v, fun v => bindName X.env x v] [u2, u1] >>= fun _ => pure Flow.next) _ _ _
  refine wpAny_bind (assignInOrder_cons (wpAny_bindName (store_ok I3 hN hj (.inl hy) rw' (fun s2 I4 => ?_) (.inr hy))))
  refine assignInOrder_cons (wpAny_bindName (store_ok I4 hN hi (.inl hx) rv (fun s3 I5 => assignInOrder_nil (wpAny_pure ?_)) (.inr hx)))
  rw [List.set_comm _ _ (Ne.symm hij)] at I5
  exact ⟨_, H1, I5, q1⟩
/-- name op= e -/
def tAug (i : Nat) (te : TE) (ti : TIp) : TS := fun D σ H => ∃ x, σ[i]? = some (some x) ∧ te σ H fun y H1 => ti x y H1 fun z H2 => D.nx (σ.set i (some z)) H2
theorem ps_aug {i : Nat} {x : Str} {e : Expr} {te : TE} {op : Operator} {ti : TIp} {pos' : Pos} (hN : X.N.Nodup) (hi : X.N[i]? = some x) (hx : Loc X.env.scope x) (he : PE X e te) (ho : PIp X op ti) (hf : X.fn x = true ∨ X.env.scope.names.lookup x = some .local := by first | exact .inl rfl | exact .inr rfl | assumption) :
    PS X (.AugAssign (.Name x pos') op e pos) (tAug i te ti) := by
  intro pins s σ H D I h
  obtain ⟨v, e1, h⟩ := h
  obtain ⟨m, hn, hl⟩ := I.loc
  have vis : Vis X.env.scope x := by rcases hx with k | k; exact .inl k; exact .inr (.inl k)
  obtain ⟨u, r, l⟩ := hl i x v hi e1 vis
  refine wpAny_AugAssign_Name ?_
  have go : wpAny (model X.prog X.w) X.A (eval e X.env) (fun w s₂ => wpAny (model X.prog X.w) X.A (inplaceOp op u w) (fun r s₃ => wpAny (model X.prog X.w) X.A (storeName X.env x r) (fun _ => SP X pins D .next) X.xe s₃) X.xe s₂) X.xe s := by
    refine thn (he pins s σ H _ I h) fun w s1 ⟨y, H1, I1, r1, q1⟩ => ?_
    refine thn (ho pins s1 σ H1 v y u w _ I1 r r1 q1) fun z s2 ⟨zv, H2, I2, r2, q2⟩ => ?_
    exact store_ok I2 hN hi hx r2 (fun s3 I3 => ⟨_, H2, I3, q2⟩) hf
  rcases l with ⟨hk, hm⟩ | ⟨hk, c, hc, hcell⟩
  · exact wpAny_loadName_local I.ok.kind hk hn hm go
  · rcases hk with hk | hk
    · exact wpAny_loadName_cell I.ok.kind hk hc hcell go
    · rcases hx with k | k
      · have : X.env.scope.names.lookup x = some .free := hk
        rw [k] at this; cases this
      · have : X.env.scope.names.lookup x = some .free := hk
        rw [k] at this; cases this
/-- o[i] op= e -/
def tAugS (to ti te : TE) (tget : V → V → Hp → VK → Prop) (tip : TIp) (tset : TSet) : TS := fun D σ H => to σ H fun o H1 => ti σ H1 fun i H2 => tget o i H2 fun x H3 => te σ H3 fun y H4 => tip x y H4 fun z H5 => tset o i z H5 fun H6 => D.nx σ H6
/-- o[i], by values -/
def PGet (X : Cx) (t : V → V → Hp → VK → Prop) : Prop :=
  ∀ (pins : List (Addr × Obj)) (s : Shared) (σ : St) (H : Hp) (o i : V) (ov iv : Value) (Q : VK), Inv X pins σ H s → RelV o ov → RelV i iv → t o i H Q →
    wpAny (model X.prog X.w) X.A (getItem ov iv) (EP X pins σ Q) X.xe s
/-- ints -/
def ipI (f : Int → Int → Int) : TIp := fun x y H Q => ∃ i j, x = .int i ∧ y = .int j ∧ Q (.int (f i j)) H
theorem ip_add : PIp X .Add (ipI fun i j => i + j) := by
  intro pins s σ H x y v u Q I r1 r2 h
  obtain ⟨i, j, e1, e2, q⟩ := h
  subst e1; subst e2
  obtain ⟨t, rfl⟩ := r1
  obtain ⟨t', rfl⟩ := r2
  exact iadd_int ⟨.int _, H, I.tok _, ⟨_, rfl⟩, q⟩
end

/-! ### while -/
section
variable {X : Cx} {pos : Pos}
/-- the invariant W with its measure -/
def tWhile (c : TT) (tb : TS) : TS := fun D σ H => ∃ W : Nat → St → Hp → Prop, (∃ m, W m σ H) ∧ ∀ m σ H, W m σ H →
  c σ H fun b H1 => if b = true then ∃ N : St → Hp → Prop, (∀ σ' H', N σ' H' → ∃ m', m' < m ∧ W m' σ' H') ∧ tb { D with nx := N, ct := N, bk := D.nx } σ H1 else D.nx σ H1
end

/-! ### what a loop or a comprehension walks -/
/-- at turn i: it yields x (the heap may grow), or it stops -/
structure It where
  go : Nat → Hp → Prop
  yld : Nat → Hp → V → Hp → Prop
  stop : Nat → Hp → Prop
/-- the iterator's own objects may turn: they are not the frame's, not pinned, younger than the entry (or a comprehension's own) -/
def FpOk (X : Cx) (pins : List (Addr × Obj)) (H : Hp) (b : Addr) : Prop :=
  H b = none ∧ b ≠ X.env.locals ∧ b ∉ X.fs ∧ (b ∈ X.ex ∨ X.s₀.heap.objs.size ≤ b) ∧ (∀ x c, X.env.cells.lookup x = some c → c ≠ b) ∧ ∀ p ∈ X.pn ++ pins, p.1 ≠ b
theorem Inv.fpOk {X : Cx} {pins : List (Addr × Obj)} {σ : St} {H H' : Hp} {s : Shared} {b : Addr} (I : Inv X pins σ H s) (hb : s.heap.objs.size ≤ b) (hn : H' b = none) : FpOk X pins H' b := by
  refine ⟨hn, Nat.ne_of_gt (Nat.lt_of_lt_of_le I.lt hb), I.nofs hb, .inr (Nat.le_trans I.sz hb), fun x c e z => ?_, fun p hp z => ?_⟩
  · obtain ⟨v, q⟩ := I.cell x c e
    exact absurd (Nat.lt_of_lt_of_le q.lt (by rw [z]; exact hb)) (Nat.lt_irrefl _)
  · exact absurd (Nat.lt_of_lt_of_le (Heap.lt_size (I.pin p hp).1) (by rw [z]; exact hb)) (Nat.lt_irrefl _)
structure Turn (P : Program) (w : World) (K : PySem.W.Frag) (tg : Expr) (J : It) (fp : List Addr) (it : Addr) (tn : Nat → Heap → Prop) : Prop where
  mem : it ∈ fp
  obj : ∀ i h, tn i h → ∀ b ∈ fp, ∃ o, h.get? b = some o ∧ ∀ v, o.data ≠ .cell v
  keep : ∀ i h h', tn i h → (∀ b ∈ fp, ∀ o, h.get? b = some o → h'.get? b = some o) → tn i h'
  item : ∀ (X : Cx), X.prog = P → X.w = w → X.K = K → X.calm = true → ∀ (i : Nat) (pins : List (Addr × Obj)) (s : Shared) (σ : St) (H : Hp) (E : Value → Shared → Prop), Inv X pins σ H s → (∀ b ∈ fp, FpOk X pins H b) → tn i s.heap → J.go i H →
    wpAny (model P w) X.A (pyNext (.ref it)) (fun r s1 => ∃ u, r = some u ∧
      wpAny (model P w) X.A (letOwnedTupleGo tg (.ref it) u) (fun _ s2 => ∃ x H', Inv X pins σ H' s2 ∧ RelV x u ∧ J.yld i H x H' ∧ tn (i + 1) s2.heap ∧ ∀ b ∈ fp, H' b = none) E s1) E s
  done : ∀ (X : Cx), X.prog = P → X.w = w → X.K = K → X.calm = true → ∀ (i : Nat) (pins : List (Addr × Obj)) (s : Shared) (σ : St) (H : Hp) (E : Value → Shared → Prop), Inv X pins σ H s → (∀ b ∈ fp, FpOk X pins H b) → tn i s.heap → J.stop i H →
    wpAny (model P w) X.A (pyNext (.ref it)) (fun r s1 => r = none ∧ Inv X pins σ H s1) E s
  self : ∀ (A : Around) (i : Nat) (s : Shared) (Q : Value → Shared → Prop) (E : Value → Shared → Prop), tn i s.heap → Q (.ref it) s → wpAny (model P w) A (pyIter (.ref it)) Q E s
abbrev TI := St → Hp → (It → Hp → Prop) → Prop
/-- an iterator has come -/
def PIE (X : Cx) (pins : List (Addr × Obj)) (σ : St) (tg : Expr) (R : It → Hp → Prop) (itv : Value) (s2 : Shared) : Prop :=
  ∃ (it : Addr) (fp : List Addr) (tn : Nat → Heap → Prop) (J : It) (H' : Hp), itv = .ref it ∧ Inv X pins σ H' s2 ∧ Turn X.prog X.w X.K tg J fp it tn ∧ tn 0 s2.heap ∧ (∀ b ∈ fp, FpOk X pins H' b) ∧ R J H'
def PI (X : Cx) (tg iter : Expr) (wi : TI) : Prop :=
  ∀ (pins : List (Addr × Obj)) (s : Shared) (σ : St) (H : Hp) (R : It → Hp → Prop), Inv X pins σ H s → wi σ H R →
    wpAny (model X.prog X.w) X.A (eval iter X.env) (fun v s1 => wpAny (model X.prog X.w) X.A (pyIter v) (PIE X pins σ tg R) X.xe s1) X.xe s

/-- the step ahead of the store is nothing for an iterator that keeps no tuple -/
theorem go_of {M : Model} {A : Around} {E : Value → Shared → Prop} {s : Shared} {tg : Expr} {it : Addr} {u : Value} {o : Obj} {n : String} {vs : Array Value} {Q : Unit → Shared → Prop} (ho : s.heap.get? it = some o) (hc : o.cls = .type n) (hd : o.data = .fields vs)
    (hn : ["enumerate", "zip", "dict_itemiterator", "dict_reverseitemiterator", "odict_iterator", "itertools.zip_longest", "itertools.pairwise"].contains n = false) (hQ : Q () s) : wpAny M A (letOwnedTupleGo tg (.ref it) u) Q E s := by
  unfold letOwnedTupleGo
  cases tg <;> first
    | exact wpAny_pure hQ
    | (cases u <;> first
        | exact wpAny_pure hQ
        | (refine wpAny_bind (wpAny_load ho ?_)
           rw [hc, hd]
           show wpAny M A (if (["enumerate", "zip", "dict_itemiterator", "dict_reverseitemiterator", "odict_iterator", "itertools.zip_longest", "itertools.pairwise"].contains n && vs[0]? == some (rawInt _)) = true then _ else _) Q E s
           rw [if_neg (by intro h; rw [hn, Bool.false_and] at h; cases h)]
           exact wpAny_pure hQ))

/-- the list at a, as it stands at each turn (a loop may append to it) -/
def Itl (K : PySem.W.Frag) (a : Addr) : It :=
  ⟨fun i H => ∃ xs x, SqL K H a xs ∧ xs[i]? = some x, fun i H x H' => H' = H ∧ ∀ xs, SqL K H a xs → xs[i]? = some x, fun i H => ∃ xs, SqL K H a xs ∧ xs.length ≤ i⟩
def Itt (K : PySem.W.Frag) (a : Addr) : It :=
  ⟨fun i H => ∃ xs x, SqT K H a xs ∧ xs[i]? = some x, fun i H x H' => H' = H ∧ ∀ xs, SqT K H a xs → xs[i]? = some x, fun i H => ∃ xs, SqT K H a xs ∧ xs.length ≤ i⟩
/-- lo, lo + 1, .. (n of them) -/
def Itr (lo : Int) (n : Nat) : It := ⟨fun i _ => i < n, fun i H x H' => H' = H ∧ x = .int (lo + i), fun i _ => n ≤ i⟩
theorem turn_list {P : Program} {w : World} {K : PySem.W.Frag} {tg : Expr} (a it : Addr) : Turn P w K tg (Itl K a) [it] it (fun i h => h.IsListIter it a i) where
  mem := by simp
  obj := fun i h st b hb => by
    have e : b = it := by simpa using hb
    subst e
    obtain ⟨o, e, c, d⟩ := st
    exact ⟨o, e, fun v z => by rw [d] at z; cases z⟩
  keep := fun i h h' st k => st.at fun o e => k it (by simp) o e
  item := by
    intro X hP hw hK hc i pins s σ H E I hf st hg
    subst hP hw hK
    obtain ⟨xs, x, hq, hx⟩ := hg
    obtain ⟨its, rv, p, hz⟩ := I.list hq
    obtain ⟨u, hu, ru⟩ := rv.get hx
    obtain ⟨f0, f1, f2, f3, f4, f5⟩ := hf it (by simp)
    refine wpAny_pyNext_list_item st p.isList (x := u) (by simpa using hu) fun h' st' sb => ?_
    have I1 : Inv X pins σ H { s with heap := h' } := I.turned (t' := s.toks) (fun b o hb e => (sb.2 b hb).trans e) f0 f1 f3 f4 f5
    obtain ⟨o, e, c, d⟩ := id st'
    exact ⟨u, rfl, go_of (s := { s with heap := h' }) e c d (by decide) ⟨x, H, I1, ru, ⟨rfl, fun ys hy => by rw [I.list_inj hy hq]; exact hx⟩, st', fun b hb => (hf b hb).1⟩⟩
  done := by
    intro X hP hw hK hc i pins s σ H E I hf st hg
    subst hP hw hK
    obtain ⟨xs, hq, hx⟩ := hg
    obtain ⟨its, rv, p, hz⟩ := I.list hq
    obtain ⟨f0, f1, f2, f3, f4, f5⟩ := hf it (by simp)
    have hl := rv.length
    exact wpAny_pyNext_list_end (I.ok.hd hc) st p.isList (by simp; omega) fun h' eb => ⟨rfl, I.turned (t' := s.toks) (fun b o hb e => eb b o hb e) f0 f1 f3 f4 f5⟩
  self := fun _ _ _ _ _ st h => wpAny_pyIter_listiter st h
theorem turn_tuple {P : Program} {w : World} {K : PySem.W.Frag} {tg : Expr} (a it : Addr) : Turn P w K tg (Itt K a) [it] it (fun i h => h.IsTupleIter it a i) where
  mem := by simp
  obj := fun i h st b hb => by
    have e : b = it := by simpa using hb
    subst e
    obtain ⟨o, e, c, d⟩ := st
    exact ⟨o, e, fun v z => by rw [d] at z; cases z⟩
  keep := fun i h h' st k => st.at fun o e => k it (by simp) o e
  item := by
    intro X hP hw hK hc i pins s σ H E I hf st hg
    subst hP hw hK
    obtain ⟨xs, x, hq, hx⟩ := hg
    obtain ⟨its, rv, p, hz⟩ := I.tuple hq
    obtain ⟨u, hu, ru⟩ := rv.get hx
    obtain ⟨f0, f1, f2, f3, f4, f5⟩ := hf it (by simp)
    refine wpAny_pyNext_tuple_item st (show s.heap.IsTuple a its.toArray from p) (x := u) (by simpa using hu) fun h' st' sb => ?_
    have I1 : Inv X pins σ H { s with heap := h' } := I.turned (t' := s.toks) (fun b o hb e => (sb.2 b hb).trans e) f0 f1 f3 f4 f5
    obtain ⟨o, e, c, d⟩ := id st'
    exact ⟨u, rfl, go_of (s := { s with heap := h' }) e c d (by decide) ⟨x, H, I1, ru, ⟨rfl, fun ys hy => by rw [I.tuple_inj hy hq]; exact hx⟩, st', fun b hb => (hf b hb).1⟩⟩
  done := by
    intro X hP hw hK hc i pins s σ H E I hf st hg
    subst hP hw hK
    obtain ⟨xs, hq, hx⟩ := hg
    obtain ⟨its, rv, p, hz⟩ := I.tuple hq
    obtain ⟨f0, f1, f2, f3, f4, f5⟩ := hf it (by simp)
    have hl := rv.length
    exact wpAny_pyNext_tuple_end (I.ok.hd hc) st (show s.heap.IsTuple a its.toArray from p) (by simp; omega) fun h' eb => ⟨rfl, I.turned (t' := s.toks) (fun b o hb e => eb b o hb e) f0 f1 f3 f4 f5⟩
  self := fun _ _ _ _ _ st h => wpAny_pyIter_tupleiter st h
theorem turn_range {P : Program} {w : World} {K : PySem.W.Frag} {tg : Expr} (it : Addr) (lo : Int) (n : Nat) : Turn P w K tg (Itr lo n) [it] it (fun i h => IsRangeIter h it (lo + (i : Nat) * 1) ((n : Int) - (i : Nat)) 1) where
  mem := by simp
  obj := fun i h st b hb => by
    have e : b = it := by simpa using hb
    subst e
    exact ⟨_, st, fun v z => by
      have z' : Data.fields _ = Data.cell v := z
      cases z'⟩
  keep := fun i h h' st k => k it (by simp) _ st
  item := by
    intro X hP hw hK hc i pins s σ H E I hf st hg
    subst hP hw hK
    obtain ⟨f0, f1, f2, f3, f4, f5⟩ := hf it (by simp)
    have W := Walks.range (prog := X.prog) (w := X.w) (I.ok.hd hc) it lo 1 n
    refine W.item i s _ _ hg st fun v h' tk hv st' kk => ?_
    obtain ⟨t, rfl⟩ := hv
    have I1 : Inv X pins σ H { s with heap := h', toks := tk } := I.turned (fun b o hb e => kk b o (by simpa using hb) e) f0 f1 f3 f4 f5
    refine ⟨_, rfl, go_of (s := { s with heap := h', toks := tk }) (n := "range_iterator") st' rfl rfl (by decide) ⟨.int (lo + i), H, I1, ⟨t, ?_⟩, ⟨rfl, rfl⟩, st', fun b hb => (hf b hb).1⟩⟩
    rw [Int.mul_one]
  done := by
    intro X hP hw hK hc i pins s σ H E I hf st hg
    subst hP hw hK
    obtain ⟨f0, f1, f2, f3, f4, f5⟩ := hf it (by simp)
    exact wpAny_pyNext_range_end (I.ok.hd hc) st (by have : n ≤ i := hg; omega) fun h' eb => ⟨rfl, I.turned (t' := s.toks) (fun b o hb e => eb b o hb e) f0 f1 f3 f4 f5⟩
  self := fun _ _ _ _ _ st h => wpAny_pyIter_rangeiter st h
end L2

namespace L2
open PySem PySem.Spec PyProof.Rows
section
variable {X : Cx} {tg : Expr}
def iList (K : PySem.W.Frag) (tl : TE) : TI := fun σ H R => tl σ H fun x H1 => ∃ a, x = .ref a ∧ (∃ xs, SqL K H1 a xs) ∧ R (Itl K a) H1
def iTup (K : PySem.W.Frag) (tl : TE) : TI := fun σ H R => tl σ H fun x H1 => ∃ a, x = .ref a ∧ (∃ xs, SqT K H1 a xs) ∧ R (Itt K a) H1
theorem pi_list {l : Expr} {tl : TE} (hl : PE X l tl) : PI X tg l (iList X.K tl) := by
  intro pins s σ H R I h
  refine thn (hl pins s σ H _ I h) fun v s1 ⟨x, H1, I1, r1, q1⟩ => ?_
  obtain ⟨a, e, ⟨xs, hq⟩, q⟩ := q1
  subst e
  cases r1
  obtain ⟨its, rv, p, hz⟩ := I1.list hq
  refine wpAny_pyIter_list p.isList ?_
  refine ⟨s1.heap.objs.size, [s1.heap.objs.size], _, _, H1, rfl, I1.kept (t' := s1.toks) fun b o e => Heap.get?_push_of_some _ e, turn_list a _, ⟨_, Heap.get?_push_size _ rfl, rfl, rfl⟩, fun b hb => ?_, q⟩
  have e : b = s1.heap.objs.size := by simpa using hb
  subst e
  exact I1.fpOk (Nat.le_refl _) (I1.hok.fresh (Nat.le_refl _))
theorem pi_tup {l : Expr} {tl : TE} (hl : PE X l tl) : PI X tg l (iTup X.K tl) := by
  intro pins s σ H R I h
  refine thn (hl pins s σ H _ I h) fun v s1 ⟨x, H1, I1, r1, q1⟩ => ?_
  obtain ⟨a, e, ⟨xs, hq⟩, q⟩ := q1
  subst e
  cases r1
  obtain ⟨its, rv, p, hz⟩ := I1.tuple hq
  refine wpAny_pyIter_tuple (show s1.heap.IsTuple a its.toArray from p) ?_
  refine ⟨s1.heap.objs.size, [s1.heap.objs.size], _, _, H1, rfl, I1.kept (t' := s1.toks) fun b o e => Heap.get?_push_of_some _ e, turn_tuple a _, ⟨_, Heap.get?_push_size _ rfl, rfl, rfl⟩, fun b hb => ?_, q⟩
  have e : b = s1.heap.objs.size := by simpa using hb
  subst e
  exact I1.fpOk (Nat.le_refl _) (I1.hok.fresh (Nat.le_refl _))
/-- a range object just made, walked -/
theorem range_it {pins : List (Addr × Obj)} {σ : St} {H : Hp} {s : Shared} {R : It → Hp → Prop} {E : Value → Shared → Prop} {lo hi : Int} {t u v : Tok} {tk : Nat} (I : Inv X pins σ H s) (h1 : -(2 ^ 62) ≤ lo) (h2 : lo < 2 ^ 62) (h3 : -(2 ^ 62) ≤ hi) (h4 : hi < 2 ^ 62)
    (q : R (Itr lo (hi - lo).toNat) H) : wpAny (model X.prog X.w) X.A (pyIter (.ref s.heap.objs.size)) (PIE X pins σ tg R) E { s with heap := s.heap.push { cls := .type "range", data := .fields #[.int lo t, .int hi u, .int 1 v] }, toks := tk } := by
  refine wpAny_pyIter_range (IsRange.new ..) (small_one h1 h2 h3 h4) ?_
  have I1 : Inv X pins σ H { s with heap := s.heap.push { cls := .type "range", data := .fields #[.int lo t, .int hi u, .int 1 v] }, toks := tk } := I.kept fun b o e => Heap.get?_push_of_some _ e
  refine ⟨(s.heap.push { cls := .type "range", data := .fields #[.int lo t, .int hi u, .int 1 v] }).objs.size, [(s.heap.push { cls := .type "range", data := .fields #[.int lo t, .int hi u, .int 1 v] }).objs.size], _, _, H, rfl,
    I1.kept (t' := tk) fun b o e => Heap.get?_push_of_some _ e, turn_range _ lo (hi - lo).toNat, ?_, fun b hb => ?_, q⟩
  · have e1 : lo + ((0 : Nat) : Int) * 1 = lo := by simp
    have e2 : (((hi - lo).toNat : Nat) : Int) - ((0 : Nat) : Int) = Builtin.Range.rangeSize lo hi 1 := by rw [rangeSize_one]; split <;> omega
    show IsRangeIter _ _ (lo + ((0 : Nat) : Int) * 1) ((((hi - lo).toNat : Nat) : Int) - ((0 : Nat) : Int)) 1
    rw [e1, e2]
    exact Heap.get?_push_size _ rfl
  · have e : b = (s.heap.push { cls := .type "range", data := .fields #[.int lo t, .int hi u, .int 1 v] }).objs.size := by simpa using hb
    subst e
    exact I1.fpOk (Nat.le_refl _) (I1.hok.fresh (Nat.le_refl _))
def iRng1 (ta : TA) : TI := fun σ H R => ta σ H fun vs H1 => ∃ j : Int, vs = [.int j] ∧ -(2 ^ 62) ≤ j ∧ j < 2 ^ 62 ∧ R (Itr 0 j.toNat) H1
def iRng2 (ta : TA) : TI := fun σ H R => ta σ H fun vs H1 => ∃ i j : Int, vs = [.int i, .int j] ∧ (-(2 ^ 62) ≤ i ∧ i < 2 ^ 62 ∧ -(2 ^ 62) ≤ j ∧ j < 2 ^ 62) ∧ R (Itr i (j - i).toNat) H1
theorem pi_range1 {a : Expr} {ta : TA} {p pos : Pos} (hg : Gl X "range") (hm : X.mg "range" = none) (ha : PA X [a] ta) (hs : starEach [a] X.env = [(false, eval a X.env)] := by rfl) : PI X tg (.Call (.Name "range" p) [a] [] pos) (iRng1 ta) := by
  intro pins s σ H R I h
  refine Call_ (ld_blt I hg hm boot_range (PyProof.Rows.callWith_type1 (thn (ha pos pins s σ H _ I h) fun us s1 ⟨vs, H1, I1, r1, q1⟩ => ?_) hs rfl))
  obtain ⟨j, e, q1, q2, q⟩ := q1
  subst e
  cases r1 with
  | cons r rr =>
    cases rr
    obtain ⟨t, rfl⟩ := r
    exact call_range_1 (range_it I1 (by omega) (by omega) q1 q2 (by simpa using q))
theorem pi_range2 {a b : Expr} {ta : TA} {p pos : Pos} (hg : Gl X "range") (hm : X.mg "range" = none) (ha : PA X [a, b] ta) (hs : starEach [a, b] X.env = [(false, eval a X.env), (false, eval b X.env)] := by rfl) (hs2 : starEach [b] X.env = [(false, eval b X.env)] := by rfl) :
    PI X tg (.Call (.Name "range" p) [a, b] [] pos) (iRng2 ta) := by
  intro pins s σ H R I h
  refine Call_ (ld_blt I hg hm boot_range (PyProof.Rows.callWith_type1 (thn (ha pos pins s σ H _ I h) fun us s1 ⟨vs, H1, I1, r1, q1⟩ => ?_) (by rw [hs, hs2]) (by rw [hs2]; rfl)))
  obtain ⟨i, j, e, ⟨q1, q2, q3, q4⟩, q⟩ := q1
  subst e
  cases r1 with
  | cons r rr =>
    cases rr with
    | cons r' rr =>
      cases rr
      obtain ⟨t, rfl⟩ := r
      obtain ⟨t', rfl⟩ := r'
      exact call_range_2 (range_it I1 q1 q2 q3 q4 q)

/-! ### for -/
/-- W: the invariant by the turn and a measure; N: what the body is to reach -/
def tFor (wi : TI) (g : TG) (tb : TS) : TS := fun D σ H => wi σ H fun J H1 => ∃ W : Nat → Nat → St → Hp → Prop, (∃ m, W 0 m σ H1) ∧ ∀ i m σ H, W i m σ H →
  (J.stop i H ∧ D.nx σ H) ∨ (J.go i H ∧ ∃ N : St → Hp → Prop, (∀ σ' H', N σ' H' → ∃ m', m' < m ∧ W (i + 1) m' σ' H') ∧ ∀ x H', J.yld i H x H' → g x σ H' fun σ2 H2 => tb { D with nx := N, ct := N, bk := D.nx } σ2 H2)
/-- the records at fp as they stand -/
def pinsAt (fp : List Addr) (h : Heap) : List (Addr × Obj) := fp.filterMap fun b => (h.get? b).map fun o => (b, o)
theorem mem_pinsAt {fp : List Addr} {h : Heap} {b : Addr} {o : Obj} (hb : b ∈ fp) (e : h.get? b = some o) : (b, o) ∈ pinsAt fp h := List.mem_filterMap.mpr ⟨b, hb, by rw [e]; rfl⟩
theorem of_pinsAt {fp : List Addr} {h : Heap} {p : Addr × Obj} (hp : p ∈ pinsAt fp h) : p.1 ∈ fp ∧ h.get? p.1 = some p.2 := by
  obtain ⟨b, hb, e⟩ := List.mem_filterMap.mp hp
  cases q : h.get? b with
  | none => rw [q] at e; cases e
  | some o =>
    rw [q] at e
    have e' : (b, o) = p := Option.some.inj e
    subst e'
    exact ⟨hb, q⟩
theorem Inv.pinned {pins : List (Addr × Obj)} {σ : St} {H : Hp} {s : Shared} {fp : List Addr} (I : Inv X pins σ H s) (hf : ∀ b ∈ fp, FpOk X pins H b) (ho : ∀ b ∈ fp, ∃ o, s.heap.get? b = some o ∧ ∀ v, o.data ≠ .cell v) : Inv X (pins ++ pinsAt fp s.heap) σ H s :=
  I.pins_of fun p hp => (List.mem_append.mp hp).elim (fun z => I.pin p (List.mem_append_right _ z)) fun z => by
    obtain ⟨hb, e⟩ := of_pinsAt z
    obtain ⟨f0, f1, f2, _⟩ := hf p.1 hb
    obtain ⟨o, e', d⟩ := ho p.1 hb
    rw [e] at e'; cases e'
    exact ⟨e, f0, f1, f2, d⟩
theorem Inv.unpinned {pins pl : List (Addr × Obj)} {σ : St} {H : Hp} {s : Shared} (I : Inv X (pins ++ pl) σ H s) : Inv X pins σ H s := I.pins_of fun p hp => I.pin p (List.mem_append_right _ (List.mem_append_left _ hp))
theorem ps_for {iter : Expr} {body : List Stmt} {wi : TI} {g : TG} {tb : TS} {pos : Pos} (hp : PassesOwn (model X.prog X.w) X.A X.env X.xe) (hc : X.calm = true) (hi : PI X tg iter wi) (hg : PG X tg g) (hb : PSs X body tb)
    (hs : ∀ x, foldedSetIterable iter X.env x = pure x := by intro _; rfl) : PS X (.For tg iter body [] pos) (tFor wi g tb) := by
  intro pins s σ H D I h
  refine wpAny_For (thn (hi pins s σ H _ I h) fun v s1 h1 => thn h1 fun itv s2 h2 => ?_) hs
  obtain ⟨it, fp, tn, J, H2, e, I2, T, st2, f2, W, ⟨m0, w0⟩, turn⟩ := h2
  subst e
  -- what stays true of the iterator's objects through the loop
  have stat : ∀ {H' : Hp}, (∀ b ∈ fp, H' b = none) → ∀ b ∈ fp, FpOk X pins H' b := fun hn b hb => ⟨hn b hb, (f2 b hb).2⟩
  refine codeAny_forLoop_any (fun n s' => ∃ i σ' H', Inv X pins σ' H' s' ∧ tn i s'.heap ∧ (∀ b ∈ fp, H' b = none) ∧ W i n σ' H') ?_ m0 ⟨0, σ, H2, I2, st2, fun b hb => (f2 b hb).1, w0⟩
  rintro n s3 ⟨i, σ3, H3, I3, st3, fr3, w3⟩
  rcases turn i n σ3 H3 w3 with ⟨stop, qn⟩ | ⟨go, N, hN, step⟩
  · refine wpAny_passesOwn hp (thn (T.done X rfl rfl rfl hc i pins s3 σ3 H3 X.xe I3 (stat fr3) st3 stop) fun r s4 ⟨hr, I4⟩ => ?_)
    subst hr
    exact wpAny_execs_nil ⟨σ3, H3, I4, qn⟩
  · refine wpAny_passesOwn hp (thn (T.item X rfl rfl rfl hc i pins s3 σ3 H3 X.xe I3 (stat fr3) st3 go) fun r s4 ⟨u, hr, h4⟩ => ?_)
    subst hr
    refine wpAny_passesOwn hp (thn h4 fun _ s5 ⟨x, H5, I5, r5, y5, st5, fr5⟩ => ?_)
    have I5' := I5.pinned (stat fr5) (T.obj _ _ st5)
    refine wpAny_passesOwn hp (thn (hg _ s5 σ3 H5 x u _ I5' r5 (step x H5 y5)) fun _ s6 ⟨σ6, H6, I6, q6⟩ => ?_)
    refine wpAny_passesOwn hp (thn (hb _ s6 σ6 H6 _ I6 q6) fun f s7 q7 => ?_)
    have again : ∀ {σ7 : St} {H7 : Hp}, Inv X (pins ++ pinsAt fp s5.heap) σ7 H7 s7 → N σ7 H7 → ∃ m, m < n ∧ ∃ i σ' H', Inv X pins σ' H' s7 ∧ tn i s7.heap ∧ (∀ b ∈ fp, H' b = none) ∧ W i m σ' H' := fun {σ7 H7} I7 n7 => by
      obtain ⟨m', hm, w7⟩ := hN σ7 H7 n7
      refine ⟨m', hm, i + 1, σ7, H7, I7.unpinned, T.keep _ _ _ st5 fun b hb o e => (I7.pin (b, o) (List.mem_append_right _ (List.mem_append_right _ (mem_pinsAt hb e)))).1, fun b hb => ?_, w7⟩
      obtain ⟨o, e, d⟩ := T.obj _ _ st5 b hb
      exact (I7.pin (b, o) (List.mem_append_right _ (List.mem_append_right _ (mem_pinsAt hb e)))).2.1
    cases f with
    | next => obtain ⟨σ7, H7, I7, n7⟩ := q7; exact again I7 n7
    | cont => obtain ⟨σ7, H7, I7, n7⟩ := q7; exact again I7 n7
    | brk => obtain ⟨σ7, H7, I7, q7⟩ := q7; exact ⟨σ7, H7, I7.unpinned, q7⟩
    | ret v => obtain ⟨x7, σ7, H7, I7, r7, q7⟩ := q7; exact ⟨x7, σ7, H7, I7.unpinned, r7, q7⟩
end

/-! ### the forms one uses -/
/-- over a list that the body leaves as it is -/
theorem for_list {K : PySem.W.Frag} {a : Addr} {xs : List V} {g : TG} {tb : TS} {D : Ends} {σ : St} {H : Hp} (Pv : Nat → St → Hp → Prop) (h0 : Pv 0 σ H) (hl : ∀ i σ H, i ≤ xs.length → Pv i σ H → SqL K H a xs)
    (hs : ∀ i x σ H, xs[i]? = some x → Pv i σ H → g x σ H fun σ2 H2 => tb { D with nx := Pv (i + 1), ct := Pv (i + 1), bk := D.nx } σ2 H2) (hd : ∀ σ H, Pv xs.length σ H → D.nx σ H) :
    ∃ W : Nat → Nat → St → Hp → Prop, (∃ m, W 0 m σ H) ∧ ∀ i m σ H, W i m σ H →
      ((Itl K a).stop i H ∧ D.nx σ H) ∨ ((Itl K a).go i H ∧ ∃ N : St → Hp → Prop, (∀ σ' H', N σ' H' → ∃ m', m' < m ∧ W (i + 1) m' σ' H') ∧ ∀ x H', (Itl K a).yld i H x H' → g x σ H' fun σ2 H2 => tb { D with nx := N, ct := N, bk := D.nx } σ2 H2) := by
  refine ⟨fun i m σ H => m = xs.length - i ∧ i ≤ xs.length ∧ Pv i σ H, ⟨xs.length, by simp, Nat.zero_le _, h0⟩, ?_⟩
  rintro i m σ H ⟨rfl, hi, p⟩
  have q := hl i σ H hi p
  by_cases hlt : i < xs.length
  · refine .inr ⟨⟨xs, xs[i], q, by simp [hlt]⟩, Pv (i + 1), fun σ' H' p' => ⟨xs.length - (i + 1), by omega, rfl, hlt, p'⟩, fun x H' y => ?_⟩
    obtain ⟨e, y⟩ := y
    subst e
    exact hs i x σ _ (y xs q) p
  · have e : i = xs.length := by omega
    subst e
    exact .inl ⟨⟨xs, q, Nat.le_refl _⟩, hd σ H p⟩
theorem for_tup {K : PySem.W.Frag} {a : Addr} {xs : List V} {g : TG} {tb : TS} {D : Ends} {σ : St} {H : Hp} (Pv : Nat → St → Hp → Prop) (h0 : Pv 0 σ H) (hl : ∀ i σ H, i ≤ xs.length → Pv i σ H → SqT K H a xs)
    (hs : ∀ i x σ H, xs[i]? = some x → Pv i σ H → g x σ H fun σ2 H2 => tb { D with nx := Pv (i + 1), ct := Pv (i + 1), bk := D.nx } σ2 H2) (hd : ∀ σ H, Pv xs.length σ H → D.nx σ H) :
    ∃ W : Nat → Nat → St → Hp → Prop, (∃ m, W 0 m σ H) ∧ ∀ i m σ H, W i m σ H →
      ((Itt K a).stop i H ∧ D.nx σ H) ∨ ((Itt K a).go i H ∧ ∃ N : St → Hp → Prop, (∀ σ' H', N σ' H' → ∃ m', m' < m ∧ W (i + 1) m' σ' H') ∧ ∀ x H', (Itt K a).yld i H x H' → g x σ H' fun σ2 H2 => tb { D with nx := N, ct := N, bk := D.nx } σ2 H2) := by
  refine ⟨fun i m σ H => m = xs.length - i ∧ i ≤ xs.length ∧ Pv i σ H, ⟨xs.length, by simp, Nat.zero_le _, h0⟩, ?_⟩
  rintro i m σ H ⟨rfl, hi, p⟩
  have q := hl i σ H hi p
  by_cases hlt : i < xs.length
  · refine .inr ⟨⟨xs, xs[i], q, by simp [hlt]⟩, Pv (i + 1), fun σ' H' p' => ⟨xs.length - (i + 1), by omega, rfl, hlt, p'⟩, fun x H' y => ?_⟩
    obtain ⟨e, y⟩ := y
    subst e
    exact hs i x σ _ (y xs q) p
  · have e : i = xs.length := by omega
    subst e
    exact .inl ⟨⟨xs, q, Nat.le_refl _⟩, hd σ H p⟩
theorem for_range {lo : Int} {n : Nat} {g : TG} {tb : TS} {D : Ends} {σ : St} {H : Hp} (Pv : Nat → St → Hp → Prop) (h0 : Pv 0 σ H)
    (hs : ∀ i σ H, i < n → Pv i σ H → g (.int (lo + i)) σ H fun σ2 H2 => tb { D with nx := Pv (i + 1), ct := Pv (i + 1), bk := D.nx } σ2 H2) (hd : ∀ σ H, Pv n σ H → D.nx σ H) :
    ∃ W : Nat → Nat → St → Hp → Prop, (∃ m, W 0 m σ H) ∧ ∀ i m σ H, W i m σ H →
      ((Itr lo n).stop i H ∧ D.nx σ H) ∨ ((Itr lo n).go i H ∧ ∃ N : St → Hp → Prop, (∀ σ' H', N σ' H' → ∃ m', m' < m ∧ W (i + 1) m' σ' H') ∧ ∀ x H', (Itr lo n).yld i H x H' → g x σ H' fun σ2 H2 => tb { D with nx := N, ct := N, bk := D.nx } σ2 H2) := by
  refine ⟨fun i m σ H => m = n - i ∧ i ≤ n ∧ Pv i σ H, ⟨n, by simp, Nat.zero_le _, h0⟩, ?_⟩
  rintro i m σ H ⟨rfl, hi, p⟩
  by_cases hlt : i < n
  · refine .inr ⟨hlt, Pv (i + 1), fun σ' H' p' => ⟨n - (i + 1), by omega, rfl, hlt, p'⟩, fun x H' y => ?_⟩
    obtain ⟨e, y⟩ := y
    subst e y
    exact hs i σ _ hlt p
  · have e : i = n := by omega
    subst e
    exact .inl ⟨Nat.le_refl _, hd σ H p⟩
end L2

namespace L2
open PySem PySem.Spec PyProof.Rows

abbrev R2 := V → V → Hp → VK → Prop
/-- a two-place operation on values: f is binaryOp op, inplaceOp op or compareOp op -/
def OpR (X : Cx) (f : Value → Value → Sem Value) (r : R2) : Prop :=
  ∀ (pins : List (Addr × Obj)) (s : Shared) (σ : St) (H : Hp) (x y : V) (v u : Value) (Q : VK), Inv X pins σ H s → RelV x v → RelV y u → r x y H Q →
    wpAny (model X.prog X.w) X.A (f v u) (EP X pins σ Q) X.xe s
/-- a one-place operation -/
def UnR (X : Cx) (f : Value → Sem Value) (r : V → Hp → VK → Prop) : Prop :=
  ∀ (pins : List (Addr × Obj)) (s : Shared) (σ : St) (H : Hp) (x : V) (v : Value) (Q : VK), Inv X pins σ H s → RelV x v → r x H Q →
    wpAny (model X.prog X.w) X.A (f v) (EP X pins σ Q) X.xe s
/-- a call of a value that is known (a builtin, a type) with values -/
def CallR (X : Cx) (f : Value) (r : List V → Hp → VK → Prop) : Prop :=
  ∀ (pins : List (Addr × Obj)) (s : Shared) (σ : St) (H : Hp) (xs : List V) (us : List Value) (Q : VK), Inv X pins σ H s → Vals xs us → r xs H Q →
    wpAny (model X.prog X.w) X.A (call f us) (EP X pins σ Q) X.xe s
/-- a value's truth -/
def TruR (X : Cx) (r : V → Hp → (Bool → Hp → Prop) → Prop) : Prop :=
  ∀ (pins : List (Addr × Obj)) (s : Shared) (σ : St) (H : Hp) (x : V) (v : Value) (Q : Bool → Hp → Prop), Inv X pins σ H s → RelV x v → r x H Q →
    wpAny (model X.prog X.w) X.A (truthy v) (TP X pins σ Q) X.xe s

def tOp (r : R2) (ta tb : TE) : TE := fun σ H Q => ta σ H fun x H1 => tb σ H1 fun y H2 => r x y H2 Q
def tUn (r : V → Hp → VK → Prop) (ta : TE) : TE := fun σ H Q => ta σ H fun x H1 => r x H1 Q
/-- ints in, under C, and a value out -/
def rI (C : Int → Int → Prop) (g : Int → Int → V) : R2 := fun x y H Q => ∃ i j, x = .int i ∧ y = .int j ∧ C i j ∧ Q (g i j) H
def rI0 (g : Int → Int → V) : R2 := fun x y H Q => ∃ i j, x = .int i ∧ y = .int j ∧ Q (g i j) H
def rU (g : Int → V) : V → Hp → VK → Prop := fun x H Q => ∃ i, x = .int i ∧ Q (g i) H

section
variable {X : Cx} {a b c : Expr} {ta tb tc : TE} {pos : Pos}

theorem binT (ha : PE X a ta) (hb : PE X b tb) {pins : List (Addr × Obj)} {s : Shared} {σ : St} {H : Hp} {R : V → V → Hp → Prop} (I : Inv X pins σ H s)
    (h : ta σ H fun x H1 => tb σ H1 fun y H2 => R x y H2) {Q : Value → Shared → Prop} {f : Value → Value → Sem Value}
    (hf : ∀ v u s2 x y H2, Inv X pins σ H2 s2 → RelV x v → RelV y u → R x y H2 → wpAny (model X.prog X.w) X.A (f v u) Q X.xe s2) :
    wpAny (model X.prog X.w) X.A (eval a X.env) (fun v s₁ => wpAny (model X.prog X.w) X.A (eval b X.env) (fun u s₂ => wpAny (model X.prog X.w) X.A (f v u) Q X.xe s₂) X.xe s₁) X.xe s := by
  refine thn (ha pins s σ H _ I h) fun v s1 ⟨x, H1, I1, r1, q1⟩ => ?_
  refine thn (hb pins s1 σ H1 _ I1 q1) fun u s2 ⟨y, H2, I2, r2, q2⟩ => ?_
  exact hf v u s2 x y H2 I2 r1 r2 q2

theorem pe_op {op : Operator} {r : R2} (ho : OpR X (binaryOp op) r) (ha : PE X a ta) (hb : PE X b tb) : PE X (.BinOp a op b pos) (tOp r ta tb) := by
  intro pins s σ H Q I h
  exact wpAny_BinOp (binT ha hb I h fun v u s2 x y H2 I2 rx ry q => ho pins s2 σ H2 x y v u Q I2 rx ry q)
theorem pe_un {op : UnaryOp} {r : V → Hp → VK → Prop} (ho : UnR X (unaryOp op) r) (ha : PE X a ta) : PE X (.UnaryOp op a pos) (tUn r ta) := by
  intro pins s σ H Q I h
  exact UnaryOp_ (thn (ha pins s σ H _ I h) fun v s1 ⟨x, H1, I1, r1, q1⟩ => ho pins s1 σ H1 x v Q I1 r1 q1)

/-! ### ints -/
theorem opI {f : Value → Value → Sem Value} {C : Int → Int → Prop} {g : Int → Int → Int}
    (rule : ∀ (i j : Int) (t u : Tok) (s : Shared) (Q : Value → Shared → Prop) (E : Value → Shared → Prop), C i j → Q (.int (g i j) s.toks) { s with toks := s.toks + 1 } → wpAny (model X.prog X.w) X.A (f (.int i t) (.int j u)) Q E s) :
    OpR X f (rI C fun i j => .int (g i j)) := by
  intro pins s σ H x y v u Q I rx ry h
  obtain ⟨i, j, rfl, rfl, hc, q⟩ := h
  obtain ⟨t, rfl⟩ := rx
  obtain ⟨t', rfl⟩ := ry
  exact rule i j t t' s _ _ hc ⟨.int (g i j), H, I.tok _, ⟨_, rfl⟩, q⟩
theorem opI0 {f : Value → Value → Sem Value} {g : Int → Int → Int}
    (rule : ∀ (i j : Int) (t u : Tok) (s : Shared) (Q : Value → Shared → Prop) (E : Value → Shared → Prop), Q (.int (g i j) s.toks) { s with toks := s.toks + 1 } → wpAny (model X.prog X.w) X.A (f (.int i t) (.int j u)) Q E s) :
    OpR X f (rI0 fun i j => .int (g i j)) := by
  intro pins s σ H x y v u Q I rx ry h
  obtain ⟨i, j, rfl, rfl, q⟩ := h
  obtain ⟨t, rfl⟩ := rx
  obtain ⟨t', rfl⟩ := ry
  exact rule i j t t' s _ _ ⟨.int (g i j), H, I.tok _, ⟨_, rfl⟩, q⟩
theorem opB0 {f : Value → Value → Sem Value} {g : Int → Int → Bool}
    (rule : ∀ (i j : Int) (t u : Tok) (s : Shared) (Q : Value → Shared → Prop) (E : Value → Shared → Prop), Q (.bool (g i j)) s → wpAny (model X.prog X.w) X.A (f (.int i t) (.int j u)) Q E s) :
    OpR X f (rI0 fun i j => .bl (g i j)) := by
  intro pins s σ H x y v u Q I rx ry h
  obtain ⟨i, j, rfl, rfl, q⟩ := h
  obtain ⟨t, rfl⟩ := rx
  obtain ⟨t', rfl⟩ := ry
  exact rule i j t t' s _ _ ⟨.bl (g i j), H, I, rfl, q⟩

def CDiv (i j : Int) : Prop := 0 < j ∧ j < 1073741824
def CDivN (i j : Int) : Prop := j ≠ 0 ∧ j.natAbs < 1073741824
def CPow (i j : Int) : Prop := 0 ≤ j ∧ j ≤ 1000000 ∧ i.natAbs < 2 ^ 64
def CMul (i j : Int) : Prop := (-(2 ^ 64) < i ∧ i < 2 ^ 64) ∨ (-(2 ^ 64) < j ∧ j < 2 ^ 64)
theorem CMul.ok {i j : Int} (h : CMul i j) : IntMulOk i j := by
  rcases h with ⟨h1, h2⟩ | ⟨h1, h2⟩
  · exact .of_left (intBits_le_64 h1 h2)
  · exact .of_right (intBits_le_64 h1 h2)

theorem op_add : OpR X (binaryOp .Add) (rI0 fun i j => .int (i + j)) := opI0 fun _ _ _ _ _ _ _ q => add_int q
theorem op_sub : OpR X (binaryOp .Sub) (rI0 fun i j => .int (i - j)) := opI0 fun _ _ _ _ _ _ _ q => sub_int q
theorem op_mul : OpR X (binaryOp .Mult) (rI CMul fun i j => .int (i * j)) := opI fun _ _ _ _ _ _ _ hc q => mul_int q hc.ok
/-- // by a positive divisor -/
theorem op_fdiv : OpR X (binaryOp .FloorDiv) (rI CDiv fun i j => .int (i / j)) := opI fun i j _ _ _ _ _ hc q => by
  have h1 : (0 : Int) < j := hc.1
  have h2 : j < 1073741824 := hc.2
  exact floordiv_int (by omega) (by rw [Int.fdiv_eq_ediv_of_nonneg i (by omega)]; exact q) (.inl (PyProof.noPylong_small (by omega)))
/-- % by a positive divisor of any size -/
theorem op_mod : OpR X (binaryOp .Mod) (rI (fun _ j => 0 < j) fun i j => .int (i % j)) := opI fun i j _ _ _ _ _ hc q => by
  have h1 : (0 : Int) < j := hc
  exact mod_int' (by omega) (by rw [Int.fmod_eq_emod_of_nonneg i (by omega)]; exact q)
theorem op_pow : OpR X (binaryOp .Pow) (rI CPow fun i j => .int (i ^ j.toNat)) := opI fun _ _ _ _ _ _ _ hc q => pow_int_small hc.1 hc.2.1 hc.2.2 q


theorem unI {f : Value → Sem Value} {g : Int → Int}
    (rule : ∀ (i : Int) (t : Tok) (s : Shared) (Q : Value → Shared → Prop) (E : Value → Shared → Prop), Q (.int (g i) s.toks) { s with toks := s.toks + 1 } → wpAny (model X.prog X.w) X.A (f (.int i t)) Q E s) :
    UnR X f (rU fun i => .int (g i)) := by
  intro pins s σ H x v Q I rx h
  obtain ⟨i, rfl, q⟩ := h
  obtain ⟨t, rfl⟩ := rx
  exact rule i t s _ _ ⟨.int (g i), H, I.tok _, ⟨_, rfl⟩, q⟩
theorem un_neg : UnR X (unaryOp .USub) (rU fun i => .int (-i)) := unI fun _ _ _ _ _ q => neg_int q

/-! ### bools among ints: n += (a < b) -/
end

/-! ### comparisons -/
/-- the scalars that == tells apart as data does -/
def scal : V → V → Bool
  | .non, .non => true | .non, .int _ => true | .int _, .non => true | .non, .bl _ => true | .bl _, .non => true | .non, .str _ => true | .str _, .non => true
  | .int _, .int _ => true | .bl _, .bl _ => true | .str _, .str _ => true | .byt _, .byt _ => true
  | .int _, .str _ => true | .str _, .int _ => true | .bl _, .str _ => true | .str _, .bl _ => true
  | _, _ => false
def rEq : R2 := fun x y H Q => scal x y = true ∧ Q (.bl (decide (x = y))) H
def rNe : R2 := fun x y H Q => scal x y = true ∧ Q (.bl (!decide (x = y))) H

theorem dec_int {i j : Int} : decide (V.int i = V.int j) = (i == j) := by
  rw [Bool.eq_iff_iff]
  simp
theorem dec_bl {i j : Bool} : decide (V.bl i = V.bl j) = (i == j) := by
  rw [Bool.eq_iff_iff]
  simp
theorem dec_str {i j : Str} : decide (V.str i = V.str j) = (i == j) := by
  rw [Bool.eq_iff_iff]
  simp
theorem dec_byt {i j : Array UInt8} : decide (V.byt i = V.byt j) = (i.toList == j.toList) := by
  rw [Bool.eq_iff_iff]
  cases i
  cases j
  simp

section
variable {X : Cx} {a b c : Expr} {ta tb tc : TE} {pos : Pos}
theorem fin_bl {pins : List (Addr × Obj)} {σ : St} {H : Hp} {s : Shared} {Q : VK} {k k' : Bool} (I : Inv X pins σ H s) (q : Q (.bl k) H) (e : k = k') : EP X pins σ Q (.bool k') s := by
  subst e
  exact ⟨.bl k, H, I, rfl, q⟩
theorem op_eq : OpR X (compareOp .Eq) rEq := by
  intro pins s σ H x y v u Q I rx ry h
  obtain ⟨hs, q⟩ := h
  cases x with
  | non =>
    cases rx
    cases y with
    | non => cases ry; exact PySem.EqNone.eq_none_none (fin_bl I q (by simp))
    | bl j => cases ry; exact PySem.EqNone.eq_none_bool (fin_bl I q (by simp))
    | int j => obtain ⟨t', rfl⟩ := ry; exact PySem.EqNone.eq_none_int (fin_bl I q (by simp))
    | str j => obtain ⟨t', rfl⟩ := ry; exact PySem.EqNone.eq_none_str (fin_bl I q (by simp))
    | _ => exact absurd (show false = true from hs) Bool.false_ne_true
  | bl i =>
    cases rx
    cases y with
    | non => cases ry; exact PySem.EqNone.eq_bool_none (fin_bl I q (by simp))
    | bl j => cases ry; exact eq_bool (fin_bl I q dec_bl)
    | str j => obtain ⟨t', rfl⟩ := ry; exact PySem.EqMixed.eq_bool_str (fin_bl I q (by simp))
    | _ => exact absurd (show false = true from hs) Bool.false_ne_true
  | int i =>
    obtain ⟨t, rfl⟩ := rx
    cases y with
    | non => cases ry; exact PySem.EqNone.eq_int_none (fin_bl I q (by simp))
    | int j => obtain ⟨t', rfl⟩ := ry; exact eq_int (fin_bl I q dec_int)
    | str j => obtain ⟨t', rfl⟩ := ry; exact PySem.EqMixed.eq_int_str (fin_bl I q (by simp))
    | _ => exact absurd (show false = true from hs) Bool.false_ne_true
  | str i =>
    obtain ⟨t, rfl⟩ := rx
    cases y with
    | non => cases ry; exact PySem.EqNone.eq_str_none (fin_bl I q (by simp))
    | bl j => cases ry; exact PySem.EqMixed.eq_str_bool (fin_bl I q (by simp))
    | int j => obtain ⟨t', rfl⟩ := ry; exact PySem.EqMixed.eq_str_int (fin_bl I q (by simp))
    | str j => obtain ⟨t', rfl⟩ := ry; exact eq_str (fin_bl I q dec_str)
    | _ => exact absurd (show false = true from hs) Bool.false_ne_true
  | byt i =>
    obtain ⟨t, rfl⟩ := rx
    cases y with
    | byt j => obtain ⟨t', rfl⟩ := ry; exact PySem.W.eq_bytes (fin_bl I q dec_byt)
    | _ => exact absurd (show false = true from hs) Bool.false_ne_true
  | _ => cases y <;> exact absurd (show false = true from hs) Bool.false_ne_true

theorem op_lt : OpR X (compareOp .Lt) (rI0 fun i j => .bl (decide (i < j))) := opB0 fun _ _ _ _ _ _ _ q => lt_int q
theorem op_le : OpR X (compareOp .LtE) (rI0 fun i j => .bl (decide (i ≤ j))) := opB0 fun _ _ _ _ _ _ _ q => le_int q
theorem op_gt : OpR X (compareOp .Gt) (rI0 fun i j => .bl (decide (j < i))) := opB0 fun _ _ _ _ _ _ _ q => gt_int q
theorem op_ge : OpR X (compareOp .GtE) (rI0 fun i j => .bl (decide (j ≤ i))) := opB0 fun _ _ _ _ _ _ _ q => ge_int q


/-- is, is not of two objects that are tracked lists or instances -/
def isObj : HO → Bool
  | .lst _ => true
  | .ins _ _ _ => true
  | _ => false


theorem nomark (b : Expr) {op : CmpOp} (h : op ≠ .In := by decide) (h2 : op ≠ .NotIn := by decide) : behindInMarks op b = false := by
  have e1 : (op == CmpOp.In) = false := by cases op <;> first | rfl | exact absurd rfl h
  have e2 : (op == CmpOp.NotIn) = false := by cases op <;> first | rfl | exact absurd rfl h2
  cases b <;> simp [behindInMarks, e1, e2]
/-- a comparison as a value; hm: nomark b, or (for in, not in) by with_unfolding_all rfl -/
theorem pe_cmpR {op : CmpOp} {r : R2} (ho : OpR X (compareOp op) r) (ha : PE X a ta) (hb : PE X b tb) (hm : behindInMarks op b = false) : PE X (.Compare a [op] [b] pos) (tOp r ta tb) := by
  intro pins s σ H Q I h
  exact wpAny_Compare1 (binT ha hb I h fun v u s2 x y H2 I2 rx ry q => ho pins s2 σ H2 x y v u Q I2 rx ry q) hm
/-- a reading of a value as a test -/
def tTest (t : TE) : TT := fun σ H Q => t σ H fun x H' => ∃ k, x = .bl k ∧ Q k H'
theorem pt_cmpR {op : CmpOp} {r : R2} (ho : OpR X (compareOp op) r) (ha : PE X a ta) (hb : PE X b tb) (hm : behindInMarks op b = false) : PT X (.Compare a [op] [b] pos) (tTest (tOp r ta tb)) := by
  intro pins s σ H Q I h
  refine wpAny_isTrue_Compare1 (thn (ha pins s σ H _ I h) fun v s1 ⟨x, H1, I1, r1, q1⟩ => thn (hb pins s1 σ H1 _ I1 q1) fun u s2 ⟨y, H2, I2, r2, q2⟩ =>
    thn (ho pins s2 σ H2 x y v u _ I2 r1 r2 q2) fun c s3 ⟨z, H3, I3, r3, k, e, q3⟩ => ?_) hm
  subst e
  cases r3
  exact wpAny_truthy_bool ⟨H3, I3, q3⟩
/-- a op1 b op2 c -/
def tChain (r r' : R2) (ta tb tc : TE) : TE := fun σ H Q => ta σ H fun x H1 => tb σ H1 fun y H2 => r x y H2 fun z H3 => ∃ k, z = .bl k ∧
  (if k = true then tc σ H3 fun w' H4 => r' y w' H4 Q else Q (.bl false) H3)
theorem pe_chain {op op' : CmpOp} {r r' : R2} (ho : OpR X (compareOp op) r) (ho' : OpR X (compareOp op') r') (ha : PE X a ta) (hb : PE X b tb) (hc : PE X c tc)
    (hm : lastMarks [op, op'] [b, c] = false := by with_unfolding_all rfl) : PE X (.Compare a [op, op'] [b, c] pos) (tChain r r' ta tb tc) := by
  intro pins s σ H Q I h
  refine Compare_chain (thn (ha pins s σ H _ I h) fun v s1 ⟨x, H1, I1, r1, q1⟩ => chain_link (thn (hb pins s1 σ H1 _ I1 q1) fun u s2 ⟨y, H2, I2, r2, q2⟩ =>
    thn (ho pins s2 σ H2 x y v u _ I2 r1 r2 q2) fun d s3 ⟨z, H3, I3, r3, k, e, q3⟩ => ?_)) hm
  subst e
  cases r3
  refine wpAny_truthy_bool ?_
  cases k with
  | false => exact ite_ff ⟨.bl false, H3, I3, rfl, q3⟩
  | true => exact ite_tt (chain_last (thn (hc pins s3 σ H3 _ I3 q3) fun w' s4 ⟨z', H4, I4, r4, q4⟩ => ho' pins s4 σ H4 y z' u w' Q I4 r2 r4 q4))
theorem pt_chain {op op' : CmpOp} {r r' : R2} (ho : OpR X (compareOp op) r) (ho' : OpR X (compareOp op') r') (ha : PE X a ta) (hb : PE X b tb) (hc : PE X c tc)
    (hm : lastMarks [op, op'] [b, c] = false := by with_unfolding_all rfl) : PT X (.Compare a [op, op'] [b, c] pos) (tTest (tChain r r' ta tb tc)) := by
  intro pins s σ H Q I h
  refine isTrue_chain (thn (ha pins s σ H _ I h) fun v s1 ⟨x, H1, I1, r1, q1⟩ => test_link (thn (hb pins s1 σ H1 _ I1 q1) fun u s2 ⟨y, H2, I2, r2, q2⟩ =>
    thn (ho pins s2 σ H2 x y v u _ I2 r1 r2 q2) fun d s3 ⟨z, H3, I3, r3, k, e, q3⟩ => ?_)) hm
  subst e
  cases r3
  refine wpAny_truthy_bool ?_
  cases k with
  | false =>
    obtain ⟨k', e', q'⟩ := q3
    cases e'
    exact ite_ff ⟨H3, I3, q'⟩
  | true =>
    refine ite_tt (test_last (thn (hc pins s3 σ H3 _ I3 q3) fun w' s4 ⟨z', H4, I4, r4, q4⟩ => thn (ho' pins s4 σ H4 y z' u w' _ I4 r2 r4 q4) fun d' s5 ⟨z2, H5, I5, r5, k2, e2, q5⟩ => ?_))
    subst e2
    cases r5
    exact wpAny_truthy_bool ⟨H5, I5, q5⟩

/-! ### truth -/
/-- a value's truth by the abstract heap -/
def TruV (K : PySem.W.Frag) (x : V) (H : Hp) (k : Bool) : Prop :=
  match x with
  | .non => k = false
  | .bl b => k = b
  | .int i => k = (i != 0)
  | .str y => y.length ≤ sizeLine ∧ k = ((y.length : Int) != 0)
  | .byt y => y.size ≤ sizeLine ∧ k = ((y.size : Int) != 0)
  | .ref p => (∃ xs, SqL K H p xs ∧ k = !xs.isEmpty) ∨ (∃ xs, SqT K H p xs ∧ k = !xs.isEmpty) ∨ ∃ kvs, H p = some (.dK kvs) ∧ k = !kvs.isEmpty
  | _ => False
theorem line63 : (sizeLine : Nat) < 2 ^ 63 := by rw [sizeLine_eq]; decide

/-! ### strs and bytes -/

def PlainIxT (b : Expr) : Prop := ∀ o i, subscripted b false o i = operate [o, i] (getItem o i)

/-! ### scalar builtins, by CallR -/
theorem vals1 {x : V} {us : List Value} (r : Vals [x] us) : ∃ u, us = [u] ∧ RelV x u := by
  cases r with
  | cons r1 r2 => cases r2; exact ⟨_, rfl, r1⟩
theorem vals2 {x y : V} {us : List Value} (r : Vals [x, y] us) : ∃ u w', us = [u, w'] ∧ RelV x u ∧ RelV y w' := by
  cases r with
  | cons r1 r2 =>
    cases r2 with
    | cons r3 r4 => cases r4; exact ⟨_, _, rfl, r1, r3⟩
theorem call_abs : CallR X (.builtin "abs") (fun xs H Q => ∃ i, xs = [.int i] ∧ Q (.int (if i < 0 then -i else i)) H) := by
  intro pins s σ H xs us Q I r h
  obtain ⟨i, rfl, q⟩ := h
  obtain ⟨u, rfl, t, rfl⟩ := vals1 r
  exact call_abs_int fun u tk => ⟨.int (if i < 0 then -i else i), H, I.tok _, ⟨_, rfl⟩, q⟩
theorem call_max2 (hc : X.calm = true) : CallR X (.builtin "max") (fun xs H Q => ∃ i j, xs = [.int i, .int j] ∧ Q (.int (if j > i then j else i)) H) := by
  intro pins s σ H xs us Q I r h
  obtain ⟨i, j, rfl, q⟩ := h
  obtain ⟨u, w', rfl, ⟨t, rfl⟩, ⟨t', rfl⟩⟩ := vals2 r
  refine max_two_ints (I.ok.hd hc) fun h' tk k => ⟨_, H, I.kept k, ?_, q⟩
  by_cases hj : j > i
  · rw [if_pos hj, if_pos hj]; exact ⟨_, rfl⟩
  · rw [if_neg hj, if_neg hj]; exact ⟨_, rfl⟩
theorem call_min2 (hc : X.calm = true) : CallR X (.builtin "min") (fun xs H Q => ∃ i j, xs = [.int i, .int j] ∧ Q (.int (if j < i then j else i)) H) := by
  intro pins s σ H xs us Q I r h
  obtain ⟨i, j, rfl, q⟩ := h
  obtain ⟨u, w', rfl, ⟨t, rfl⟩, ⟨t', rfl⟩⟩ := vals2 r
  refine min_two_ints (I.ok.hd hc) fun h' tk k => ⟨_, H, I.kept k, ?_, q⟩
  by_cases hj : j < i
  · rw [if_pos hj, if_pos hj]; exact ⟨_, rfl⟩
  · rw [if_neg hj, if_neg hj]; exact ⟨_, rfl⟩
theorem call_int1 : CallR X (.type "int") (fun xs H Q => (∃ i, xs = [.int i] ∧ Q (.int i) H) ∨ ∃ k, xs = [.bl k] ∧ Q (.int (if k then 1 else 0)) H) := by
  intro pins s σ H xs us Q I r h
  rcases h with ⟨i, rfl, q⟩ | ⟨k, rfl, q⟩
  · obtain ⟨u, rfl, t, rfl⟩ := vals1 r
    exact call_int_int ⟨.int i, H, I, ⟨_, rfl⟩, q⟩
  · obtain ⟨u, rfl, r1⟩ := vals1 r
    cases r1
    exact call_int_bool ⟨.int (if k then 1 else 0), H, I.tok _, ⟨_, rfl⟩, q⟩
theorem call_str_int : CallR X (.type "str") (fun xs H Q => ∃ i, xs = [.int i] ∧ i.natAbs.log2 < 1920 ∧ Q (.str (toString i)) H) := by
  intro pins s σ H xs us Q I r h
  obtain ⟨i, rfl, hz, q⟩ := h
  obtain ⟨u, rfl, t, rfl⟩ := vals1 r
  exact PySem.P.str_of_int hz ⟨.str _, H, I.tok _, ⟨_, rfl⟩, q⟩
/-- len of a str, a bytes, a list, a tuple -/
def LenV (K : PySem.W.Frag) (x : V) (H : Hp) (n : Nat) : Prop :=
  match x with
  | .str y => y.length ≤ sizeLine ∧ n = y.length
  | .byt y => y.size ≤ sizeLine ∧ n = y.size
  | .ref p => (∃ xs, SqL K H p xs ∧ n = xs.length) ∨ ∃ xs, SqT K H p xs ∧ n = xs.length
  | _ => False
end
end L2

namespace L2
open PySem PySem.Spec PyProof.Rows

/-! ### an instance, its attributes a map -/
structure ObjM (h : Heap) (x dx C : Addr) (mA : Str → Option Value) : Prop where
  obj : h.get? x = some (PySem.W.instObj C dx)
  ns : h.Ns1 dx mA
  ne : dx ≠ x



section
variable {prog : Program} {w : World} {A : Around} {E : Value → Shared → Prop} {s : Shared} {K : PySem.W.Frag} {x dx C f : Addr} {mA : Str → Option Value} {name : Str} {v : Value}





end

/-! ### the attributes as a list of pairs -/
def putF (f : Str) (v : V) : List (Str × V) → List (Str × V)
  | [] => [(f, v)]
  | (g, x) :: r => if g = f then (g, v) :: r else (g, x) :: putF f v r


section
variable {P : Program} {w : World} {H H' : Hp} {h h' : Heap} {a C dx : Addr} {fs fs' : List (Str × V)}
end

/-! ### what of the text a class must have -/
structure Cls (K : PySem.W.Frag) (C : Addr) : Prop where
  pg : PySem.W.plainGet K C Str.empty = true
  hd : PySem.W.hasDictIn K C = true
  po : PySem.W.plainOver K C = true
  sa : PySem.W.findIn K (.ref C) "__setattr__" = some (some (.builtin "object.__setattr__"))
/-- no class of it has the name -/
def NoAttr (K : PySem.W.Frag) (C : Addr) (f : Str) : Prop := PySem.W.findIn K (.ref C) f = some none
/-- a constant of the class -/
structure Con (K : PySem.W.Frag) (C : Addr) (f : Str) (v : V) (u : Value) : Prop where
  at_ : PySem.W.findIn K (.ref C) f = some (some u)
  rel : RelV v u
  get : PySem.W.specialIn K u "__get__" = some none
  cp : PySem.W.copiedNames.contains f = false
/-- a method: a plain def of the class or of one above it -/
structure Meth (K : PySem.W.Frag) (C : Addr) (m : Str) (f : Addr) : Prop where
  at_ : PySem.W.findIn K (.ref C) m = some (some (.ref f))
  fn : PySem.W.isFn K (.ref f) = true
  kp : PySem.W.keepIn K (.ref f) = true

section
variable {X : Cx} {pins : List (Addr × Obj)} {σ : St} {H : Hp} {s : Shared} {a C dx : Addr} {fs : List (Str × V)} {f : Str} {v : V} {A : Around} {E : Value → Shared → Prop}






end

/-! ### readings and rules -/
/-- e.f, an attribute of the instance -/
def tFld (K : PySem.W.Frag) (ta : TE) (f : Str) : TE := fun σ H Q => ta σ H fun x H1 => ∃ a C dx fs v, x = .ref a ∧ H1 a = some (.ins C dx fs) ∧ Cls K C ∧ NoAttr K C f ∧ fs.lookup f = some v ∧ Q v H1
/-- e.f, a constant of the class -/
def tCon (K : PySem.W.Frag) (ta : TE) (f : Str) : TE := fun σ H Q => ta σ H fun x H1 => ∃ a C dx fs v u, x = .ref a ∧ H1 a = some (.ins C dx fs) ∧ Cls K C ∧ Con K C f v u ∧ fs.lookup f = none ∧ Q v H1
/-- e.f = value -/
def sFld (K : PySem.W.Frag) (ta tv : TE) (f : Str) : TS := fun D σ H => tv σ H fun y H1 => ta σ H1 fun x H2 => ∃ a C dx fs, x = .ref a ∧ H2 a = some (.ins C dx fs) ∧ Cls K C ∧ NoAttr K C f ∧ fs.length < 1000 ∧
  D.nx σ (upd H2 a (.ins C dx (putF f y fs)))
/-- an augmented operator on two values -/
def InOp (X : Cx) (op : Operator) (rd : V → V → Hp → VK → Prop) : Prop :=
  ∀ (pins : List (Addr × Obj)) (s : Shared) (σ : St) (H : Hp) (x y : V) (u v : Value) (Q : VK), Inv X pins σ H s → RelV x u → RelV y v → rd x y H Q → wpAny (model X.prog X.w) X.A (inplaceOp op u v) (EP X pins σ Q) X.xe s
/-- e.f op= value -/
def sFldAug (K : PySem.W.Frag) (ta tv : TE) (rd : V → V → Hp → VK → Prop) (f : Str) : TS := fun D σ H => ta σ H fun x H1 => ∃ a C dx fs v, x = .ref a ∧ H1 a = some (.ins C dx fs) ∧ Cls K C ∧ NoAttr K C f ∧ fs.lookup f = some v ∧
  tv σ H1 fun y H2 => rd v y H2 fun z H3 => ∃ dx' fs', H3 a = some (.ins C dx' fs') ∧ fs'.length < 1000 ∧ D.nx σ (upd H3 a (.ins C dx' (putF f z fs')))

section
variable {X : Cx} {o e value : Expr} {f : Str} {pos pos' tpos : Pos} {ta tv : TE}
def rAdd : V → V → Hp → VK → Prop := fun x y H Q => ∃ i j, x = .int i ∧ y = .int j ∧ Q (.int (i + j)) H
def rSub : V → V → Hp → VK → Prop := fun x y H Q => ∃ i j, x = .int i ∧ y = .int j ∧ Q (.int (i - j)) H

end

/-! ### isinstance -/
section
variable {X : Cx} {pins : List (Addr × Obj)} {σ : St} {H : Hp} {s : Shared} {A : Around} {E : Value → Shared → Prop} {Q : Value → Shared → Prop} {c : Value} {b : Bool}
/-- the type of a value, as the fragment's deciders take it; for an instance its class -/
inductive TyOf (K : PySem.W.Frag) (H : Hp) : V → Value → Prop where
  | non : TyOf K H .non (.type "NoneType")
  | bl (x : Bool) : TyOf K H (.bl x) (.type "bool")
  | int (i : Int) : TyOf K H (.int i) (.type "int")
  | str (x : Str) : TyOf K H (.str x) (.type "str")
  | flt (x : UInt64) : TyOf K H (.flt x) (.type "float")
  | lst {a : Addr} {xs : List V} (e : H a = some (.lst xs)) : TyOf K H (.ref a) (.type "list")
  | frz {a : Addr} {o : Obj} {xs : List V} (e : H a = some (.frz o (.lst xs))) : TyOf K H (.ref a) (.type "list")
  | tup {a : Addr} {xs : List V} (e : H a = some (.tup xs)) : TyOf K H (.ref a) (.type "tuple")
  | dK {a : Addr} {kvs : List (Key × V)} (e : H a = some (.dK kvs)) : TyOf K H (.ref a) (.type "dict")
  | dT {a : Addr} {kvs : List (List Key × V)} (e : H a = some (.dT kvs)) : TyOf K H (.ref a) (.type "dict")
  | ins {a C dx : Addr} {fs : List (Str × V)} (e : H a = some (.ins C dx fs)) (cl : Cls K C) (ha : PySem.W.findIn K (.ref C) "__class__" = some (some (.builtin "object.__class__")))
      (hn : PySem.W.specialIn K (.builtin "object.__class__") "__get__" = some (some (.builtin "getset_descriptor.__get__"))) (htk : PySem.W.takesIn K (.builtin "object.__class__") = some true)
      (hm : PySem.W.mroIn K C (.type "object") = some true) : TyOf K H (.ref a) (.ref C)
end
end L2

namespace L2
open PySem PySem.Spec PyProof.Rows

/-! ### room -/
structure Room (k : Nat) (A : Around) : Prop where
  hd : A.handled = none
  dp : A.depth + 3 * k + 5 < recursionLimit
  un : A.units + 16 * k + 200 < cLine
  gd : A.guards = some []
theorem Room.mono {j k : Nat} {A : Around} (r : Room k A) (h : j ≤ k) : Room j A := ⟨r.hd, by have := r.dp; omega, by have := r.un; omega, r.gd⟩
theorem Room.deeper {k : Nat} {A : Around} (r : Room (k + 1) A) (env : Env) : Room k (A.deeper env) :=
  ⟨r.hd, by have := r.dp; show A.depth + 1 + 3 * k + 5 < _; omega, by have := r.un; show A.units + 3 + 16 * k + 200 < _; omega, r.gd⟩
theorem Room.depth {k : Nat} {A : Around} (r : Room k A) : A.depth < recursionLimit := by have := r.dp; omega
theorem Room.units {k : Nat} {A : Around} (r : Room k A) : A.units + 64 < cLine := by have := r.un; omega

/-! ### argument lists and displays -/
def tNil : TA := fun _ H Q => Q [] H
def tCons (ta : TE) (tr : TA) : TA := fun σ H Q => ta σ H fun x H1 => tr σ H1 fun xs H2 => Q (x :: xs) H2
section
variable {X : Cx} {e : Expr} {es : List Expr} {te : TE} {t : TA} {pos : Pos}
theorem pa_nil : PA X [] tNil := fun _ _ _ _ H Q I h => Calls.spliced_nil ⟨[], H, I, .nil, h⟩
theorem pa_cons (ha : PE X e te) (hr : PA X es t) (hs : starEach (e :: es) X.env = (false, eval e X.env) :: starEach es X.env := by rfl) : PA X (e :: es) (tCons te t) := by
  intro pos pins s σ H Q I h
  rw [hs]
  show wpAny _ _ (spliced ((false, eval e X.env) :: backTo pos (starEach es X.env))) _ _ s
  refine Calls.spliced_cons (thn (ha pins s σ H _ I h) fun u s1 ⟨x, H1, I1, r1, q1⟩ => ?_)
  exact thn (hr pos pins s1 σ H1 _ I1 q1) fun us s2 ⟨xs, H2, I2, r2, q2⟩ => ⟨x :: xs, H2, I2, .cons r1 r2, q2⟩

/-- a tuple, a list of written items -/
def tTup (t : TA) : TE := fun σ H Q => t σ H fun xs H1 => xs.length ≤ sizeLine ∧ ∀ p, H1 p = none → Q (.ref p) (upd H1 p (.tup xs))
def tLst (t : TA) : TE := fun σ H Q => t σ H fun xs H1 => xs.length ≤ sizeLine ∧ ∀ p, H1 p = none → Q (.ref p) (upd H1 p (.lst xs))
theorem pe_tup {x1} (h : PA X es t) : PE X (.Tuple es x1 pos) (tTup t) := by
  intro pins s σ H Q I hq
  refine wpAny_Tuple_spliced (thn (h pos pins s σ H _ I hq) fun us s1 ⟨xs, H1, I1, r, z, q⟩ => ⟨by rw [← r.length]; exact z, ?_⟩)
  have hf : H1 s1.heap.objs.size = none := I1.hok.fresh (Nat.le_refl _)
  refine ⟨.ref s1.heap.objs.size, upd H1 s1.heap.objs.size (.tup xs), I1.laid (t' := s1.toks) (fun b u e => Heap.get?_push_of_some _ e) (Nat.le_refl _) ?_, rfl, q _ hf⟩
  exact ⟨z, us, r, ⟨_, Heap.get?_push_size _ rfl, rfl, _, rfl⟩⟩
theorem pe_lst (h : PA X es t) : PE X (.List es pos) (tLst t) := by
  intro pins s σ H Q I hq
  refine wpAny_List_spliced (thn (h pos pins s σ H _ I hq) fun us s1 ⟨xs, H1, I1, r, z, q⟩ => ⟨by rw [← r.length]; exact z, ?_⟩)
  have hf : H1 s1.heap.objs.size = none := I1.hok.fresh (Nat.le_refl _)
  refine ⟨.ref s1.heap.objs.size, upd H1 s1.heap.objs.size (.lst xs), I1.laid (t' := s1.toks) (fun b u e => Heap.get?_push_of_some _ e) (Nat.le_refl _) ?_, rfl, q _ hf⟩
  exact ⟨z, us, 0, r, Heap.get?_push_size _ rfl⟩
end

/-! ### what a def promises -/
/-- a def's promise: the bound arguments in the parameters' order, the heap, the wanted end, the wanted exception -/
abbrev Sp := List V → Hp → VK → XK → Prop
/-- how an exception lies behind a call (file 08 gives it): the callers' frames, abstract heap and state ahead of the call, the wish, the exception, the state -/
abbrev CXT := List Env → Hp → Shared → XK → Value → Shared → Prop

/-- the state at a call -/
structure Env0 (P : Program) (w : World) (K : PySem.W.Frag) (mg : Str → Option Value) (base : Heap) (A : Around) (outer : List Env) (s : Shared) (H : Hp) : Prop where
  frames : A.frames = some outer
  mod : Mod K mg base
  bs : ∀ b o, base.get? b = some o → s.heap.get? b = some o ∧ H b = none
  bsz : base.objs.size ≤ s.heap.objs.size
  funs : s.heap.FunFrames base outer
  frf : ∀ b ∈ frs outer, H b = none
  hok : HOk P w H s.heap
  bare : AllBare s.gens
/-- a call's end -/
def CE (outer : List Env) (P : Program) (w : World) (H : Hp) (s : Shared) (Q : VK) (u : Value) (s' : Shared) : Prop :=
  ∃ v H', s'.os = s.os ∧ AllBare s'.gens ∧ Un (frs outer) [] H H' s.heap s'.heap ∧ HOk P w H' s'.heap ∧ RelV v u ∧ Q v H'
def CR (CX : CXT) (outer : List Env) (P : Program) (w : World) (H : Hp) (s : Shared) (Q : VK) (E : XK) (r : Result) (s' : Shared) : Prop :=
  match r with
  | .ok (.ret u) => CE outer P w H s Q u s'
  | .ok _ => False
  | .error e => CX outer H s E e s'
structure FnOk (P : Program) (w : World) (K : PySem.W.Frag) (mg : Str → Option Value) (base : Heap) (CX : CXT) (k : Nat) (f : Addr) (fd : FuncData) (ps : List Str) (sp : Sp) : Prop where
  len : ∀ vs H Q E, sp vs H Q E → vs.length = ps.length
  run : ∀ (A : Around) (outer : List Env) (s : Shared) (H : Hp) (args : Args) (us : List Value) (vs : List V) (Q : VK) (E : XK), Room k A → Env0 P w K mg base A outer s H → BindsTo s fd args (ps.zip us) → Vals vs us → sp vs H Q E →
    codeAny (model P w) A (.call (.ref f) args) (CR CX outer P w H s Q E) s
theorem FnOk.mono {P : Program} {w : World} {K : PySem.W.Frag} {mg : Str → Option Value} {base : Heap} {CX : CXT} {j k : Nat} {f : Addr} {fd : FuncData} {ps : List Str} {sp : Sp} (F : FnOk P w K mg base CX j f fd ps sp) (h : j ≤ k) :
    FnOk P w K mg base CX k f fd ps sp := ⟨F.len, fun A outer s H args us vs Q E hr => F.run A outer s H args us vs Q E (hr.mono h)⟩


section
variable {X : Cx} {pins : List (Addr × Obj)} {σ : St} {H : Hp} {s s' : Shared}
/-- from a body: what a callee wants -/
theorem Inv.env0 (I : Inv X pins σ H s) : Env0 X.prog X.w X.K X.mg X.base X.A X.stack s H :=
  ⟨I.ok.frames, I.ok.mod, I.bs, Nat.le_trans I.ok.bsz I.sz, I.stack, I.stkFree, I.hok, I.bare⟩
/-- behind a call -/
theorem Inv.after {Q : VK} {u : Value} (I : Inv X pins σ H s) (h : CE X.stack X.prog X.w H s Q u s') : EP X pins σ Q u s' := by
  obtain ⟨v, H', os, bare, un, hok, r, q⟩ := h
  obtain ⟨hh, g, d, t, os'⟩ := s'
  obtain rfl : os' = s.os := os
  exact ⟨v, H', I.call (h' := hh) (g' := g) (d' := d) (t' := t) (ch := []) un hok bare (fun b z => absurd z (by simp)), r, q⟩
end

/-! ### calls -/
/-- f(..): the written arguments, then the defaults dvs; E: what is wanted of an exception -/
def tCall (sp : Sp) (dvs : List V) (E : XK) (t : TA) : TE := fun σ H Q => t σ H fun vs H1 => sp (vs ++ dvs) H1 Q E
/-- o.m(..) of an instance of the class at C -/
def tMeth (C : Addr) (m : Str) (sp : Sp) (dvs : List V) (E : XK) (ta : TE) (t : TA) : TE := fun σ H Q => ta σ H fun x H1 => ∃ a dx fs, x = .ref a ∧ H1 a = some (.ins C dx fs) ∧ fs.lookup m = none ∧
  t σ H1 fun vs H2 => sp (x :: (vs ++ dvs)) H2 Q E
/-- C(..): a new instance and its dict, then __init__ -/
def tMake (C : Addr) (sp : Sp) (dvs : List V) (E : XK) (t : TA) : TE := fun σ H Q => t σ H fun vs H1 => ∀ x dx, H1 x = none → H1 dx = none → dx ≠ x →
  sp (.ref x :: (vs ++ dvs)) (upd (upd H1 dx (.own x)) x (.ins C dx [])) (fun v H2 => v = .non ∧ Q (.ref x) H2) E

/-- how the parameters are bound: us the positional arguments, kw the keywords' values by name, ds the defaults that fill up -/
def Binds (K : PySem.W.Frag) (fd : FuncData) (ps : List Str) (ds : List Value) : Prop :=
  ∀ (s : Shared) (us : List Value), K.In s.heap → (us ++ ds).length = ps.length → BindsTo s fd ⟨us, []⟩ (ps.zip (us ++ ds))
/-- every parameter is given -/
theorem Binds.all {K : PySem.W.Frag} {fd : FuncData} {ps : List Str} (h : ∀ us : List Value, us.length = ps.length → bindArgs fd ⟨us, []⟩ = pure (ps.zip us)) : Binds K fd ps [] := fun s us _ hl => by
  rw [List.append_nil] at hl ⊢
  exact .of_eq (h us hl)

/-- an exception of a callee reaches what this body wants of exceptions -/
def Passes (CX : CXT) (X : Cx) (E : XK) : Prop := ∀ (pins : List (Addr × Obj)) (σ : St) (H : Hp) (s : Shared) (e : Value) (s' : Shared), Inv X pins σ H s → CX X.stack H s E e s' → X.xe e s'

section
variable {X : Cx} {CX : CXT} {k : Nat} {f C : Addr} {fd : FuncData} {ps : List Str} {sp : Sp} {dvs : List V} {ds : List Value} {E : XK} {x m : Str} {p pos apos : Pos} {e o : Expr} {es : List Expr} {ta : TE} {t : TA}

/-- the callee runs -/
theorem run_fn {pins : List (Addr × Obj)} {σ : St} {H : Hp} {s : Shared} {Q : VK} {us : List Value} {vs : List V} (F : FnOk X.prog X.w X.K X.mg X.base CX k f fd ps sp) (hr : Room k X.A) (hb : Binds X.K fd ps ds) (hd : Vals dvs ds) (hx : Passes CX X E)
    (I : Inv X pins σ H s) (r : Vals vs us) (h : sp (vs ++ dvs) H Q E) : wpAny (model X.prog X.w) X.A (call (.ref f) us) (EP X pins σ Q) X.xe s := by
  have r2 : Vals (vs ++ dvs) (us ++ ds) := r.append hd
  have hl : (us ++ ds).length = ps.length := by rw [← r2.length]; exact F.len _ _ _ _ h
  refine wpAny_call (codeAny_mono (F.run X.A X.stack s H ⟨us, []⟩ (us ++ ds) (vs ++ dvs) Q E hr I.env0 (hb s us I.kIn hl) r2 h) fun r s' hq => ?_)
  cases r with
  | error e => exact hx pins σ H s e s' I hq
  | ok fl =>
    cases fl with
    | ret u => exact I.after hq
    | next => exact False.elim hq
    | brk => exact False.elim hq
    | cont => exact False.elim hq

theorem pe_call (F : FnOk X.prog X.w X.K X.mg X.base CX k f fd ps sp) (hr : Room k X.A) (hg : Gl X x) (hm : X.mg x = some (.ref f)) (hk : PySem.W.keepIn X.K (.ref f) = true) (hb : Binds X.K fd ps ds) (hd : Vals dvs ds) (hx : Passes CX X E)
    (ha : PA X (e :: es) t) (hdb : (x == ("__debug__" : Str)) = false := by decide) (he : starEach (e :: es) X.env = (false, eval e X.env) :: starEach es X.env := by rfl) (hpl : (backTo pos (starEach es X.env)).any (·.1) = false := by rfl) :
    PE X (.Call (.Name x p) (e :: es) [] pos) (tCall sp dvs E t) := by
  intro pins s σ H Q I h
  refine wpAny_Call_Name_kw (ld_glob I hg hm ?_ hdb)
  refine PySem.W.callWith_K (h₀ := X.base) I.ok.mod.kin hk (thn (ha pos pins s σ H _ I h) fun us s1 ⟨vs, H1, I1, r, q⟩ => ⟨I1.kIn, ?_⟩) he hpl
  exact run_fn F hr hb hd hx I1 r q


/-- what a class must have to be made -/
structure Mk (K : PySem.W.Frag) (C f : Addr) : Prop where
  makes : PySem.W.makesIn K C = true
  init : PySem.W.findIn K (.ref C) "__init__" = some (some (.ref f))
  fn : PySem.W.isFn K (.ref f) = true
  kp : PySem.W.keepIn K (.ref C) = true

end

/-! ### keywords -/
/-- the values of the keywords, from the left -/
def PK (X : Cx) (kws : List Keyword) (t : TA) : Prop :=
  ∀ (pos : Pos) (pins : List (Addr × Obj)) (s : Shared) (σ : St) (H : Hp) (Q : List V → Hp → Prop), Inv X pins σ H s → t σ H Q → wpAny (model X.prog X.w) X.A (evalAll ((backToKw pos (keywordEach kws X.env)).map (·.2))) (AP X pins σ Q) X.xe s
section
variable {X : Cx} {CX : CXT} {k : Nat} {f C : Addr} {fd : FuncData} {ps ks : List Str} {sp : Sp} {E : XK} {x m : Str} {p pos apos kpos : Pos} {e o : Expr} {es : List Expr} {kws : List Keyword} {te ta : TE} {t tk : TA} {nm : Option Str}

/-- how a call with keywords binds: g puts the positional values us and the keywords' values ws (names ks) in the parameters' order, defaults among them -/
structure KBinds (K : PySem.W.Frag) (fd : FuncData) (ps ks : List Str) (g : List Value → List Value → List Value) (gV : List V → List V → List V) : Prop where
  to : ∀ (s : Shared) (us ws : List Value), K.In s.heap → (g us ws).length = ps.length → BindsTo s fd ⟨us, ks.zip ws⟩ (ps.zip (g us ws))
  rel : ∀ {vs : List V} {us : List Value} {zs : List V} {ws : List Value}, Vals vs us → Vals zs ws → Vals (gV vs zs) (g us ws)
def tCallK (sp : Sp) (gV : List V → List V → List V) (E : XK) (t tk : TA) : TE := fun σ H Q => t σ H fun vs H1 => tk σ H1 fun zs H2 => sp (gV vs zs) H2 Q E
variable {g : List Value → List Value → List Value} {gV : List V → List V → List V}
end

/-! ### a def's body keeps its promise -/
/-- names: the parameters first -/
structure FnScope (N P : List Str) (sc : Scope) : Prop where
  kind : sc.kind = .function
  co : sc.isCoroutine = false
  gen : sc.isGenerator = false
  nd : N.Nodup
  pre : N.take P.length = P
  par : ∀ x ∈ P, sc.names.lookup x = some .local ∨ sc.names.lookup x = some .cell
  nofree : ∀ y ∈ sc.names, y.2 ≠ .free

theorem bindL_out {kindOf : Str → Option NameKind} {x : Str} : ∀ {binds : List (Str × Value)} {m : Str → Option Value}, (∀ v, (x, v) ∉ binds) → bindL kindOf binds m x = m x
  | [], _, _ => rfl
  | (n, v) :: r, m, h => by
    unfold bindL
    rw [bindL_out fun w hw => h w (List.mem_cons_of_mem _ hw)]
    split
    · have : x ≠ n := by rintro rfl; exact h v List.mem_cons_self
      simp [this]
    · rfl
theorem bindC_out {kindOf : Str → Option NameKind} {x : Str} : ∀ {binds : List (Str × Value)} {m : Str → Option Value}, (∀ v, (x, v) ∉ binds) → bindC kindOf binds m x = m x
  | [], _, _ => rfl
  | (n, v) :: r, m, h => by
    unfold bindC
    rw [bindC_out fun w hw => h w (List.mem_cons_of_mem _ hw)]
    split
    · rfl
    · have : x ≠ n := by rintro rfl; exact h v List.mem_cons_self
      simp [this]
theorem bindL_get {kindOf : Str → Option NameKind} {x : Str} {v : Value} : ∀ {P : List Str} {vs : List Value} {i : Nat} {m : Str → Option Value}, P.Nodup → P[i]? = some x → vs[i]? = some v → kindOf x = some .local →
    bindL kindOf (P.zip vs) m x = some v
  | [], _, _, _, _, h, _, _ => by simp at h
  | _ :: _, [], _, _, _, _, h, _ => by simp at h
  | p :: P, w :: vs, 0, m, nd, h1, h2, hk => by
    simp at h1 h2; subst h1; subst h2
    show bindL kindOf ((p, w) :: P.zip vs) m p = _
    unfold bindL
    rw [bindL_out fun v hv => (List.nodup_cons.mp nd).1 (List.of_mem_zip hv).1, if_pos hk]
    simp
  | p :: P, w :: vs, i + 1, m, nd, h1, h2, hk => by
    show bindL kindOf ((p, w) :: P.zip vs) m x = _
    unfold bindL
    exact bindL_get (i := i) (List.nodup_cons.mp nd).2 (by simpa using h1) (by simpa using h2) hk
theorem bindC_get {kindOf : Str → Option NameKind} {x : Str} {v : Value} : ∀ {P : List Str} {vs : List Value} {i : Nat} {m : Str → Option Value}, P.Nodup → P[i]? = some x → vs[i]? = some v → kindOf x ≠ some .local →
    bindC kindOf (P.zip vs) m x = some v
  | [], _, _, _, _, h, _, _ => by simp at h
  | _ :: _, [], _, _, _, _, h, _ => by simp at h
  | p :: P, w :: vs, 0, m, nd, h1, h2, hk => by
    simp at h1 h2; subst h1; subst h2
    show bindC kindOf ((p, w) :: P.zip vs) m p = _
    unfold bindC
    rw [bindC_out fun v hv => (List.nodup_cons.mp nd).1 (List.of_mem_zip hv).1, if_neg hk]
    simp
  | p :: P, w :: vs, i + 1, m, nd, h1, h2, hk => by
    show bindC kindOf ((p, w) :: P.zip vs) m x = _
    unfold bindC
    exact bindC_get (i := i) (List.nodup_cons.mp nd).2 (by simpa using h1) (by simpa using h2) hk

/-- the names' values at the entry -/
def start (N : List Str) (vs : List V) : St := vs.map some ++ List.replicate (N.length - vs.length) none

/-- the context of a def's body, at its entry; an exception leaves the frame, then lies as CX says -/
def cxOf (CX : CXT) (P : Program) (w : World) (K : PySem.W.Frag) (mg : Str → Option Value) (base : Heap) (N : List Str) (qual : Str) (scope : Scope) (f : Addr) (cd : Value) (A : Around) (outer : List Env) (s : Shared) (H : Hp) (E : XK) : Cx where
  prog := P
  w := w
  K := K
  mg := mg
  base := base
  A := A.deeper (envOfC qual scope s.heap.objs.size f cd)
  N := N
  s₀ := s
  H₀ := H
  env := envOfC qual scope s.heap.objs.size f cd
  outer := outer
  stack := envOfC qual scope s.heap.objs.size f cd :: outer
  ex := []
  calm := true
  fn := fun _ => true
  pn := []
  xe := fun e s' => wpAny (model P w) (A.deeper (envOfC qual scope s.heap.objs.size f cd)) (leaving (envOfC qual scope s.heap.objs.size f cd) e) (fun _ s'' => CX outer H s E e s'') (fun e' s'' => CX outer H s E e' s'') s'

theorem cell_has {sc : Scope} {n : Nat} {x : Str} (h : sc.names.lookup x = some .cell) : ∃ c, (cellsFrom n sc.names []).lookup x = some c := by
  have q := PySem.W.cellsFrom_some sc.names n [] (.inl h)
  exact Option.isSome_iff_exists.mp q

theorem inv_start {CX : CXT} {P : Program} {w : World} {K : PySem.W.Frag} {mg : Str → Option Value} {base : Heap} {N ps : List Str} {qual : Str} {scope : Scope} {f : Addr} {cd : Value} {A : Around} {outer : List Env} {s s1 : Shared} {H : Hp} {E : XK} {us : List Value} {vs : List V}
    (S : FnScope N ps scope) (hd : A.handled = none) (e0 : Env0 P w K mg base A outer s H) (hl : vs.length = ps.length) (r : Vals vs us)
    (x : InCallC s s.heap.objs.size (bindL (envOfC qual scope s.heap.objs.size f cd).kindOf (ps.zip us) fun _ => none) (cellsFrom (s.heap.objs.size + 1) scope.names []) (bindC (envOfC qual scope s.heap.objs.size f cd).kindOf (ps.zip us) fun _ => none) s1) :
    Inv (cxOf CX P w K mg base N qual scope f cd A outer s H E) [] (start N vs) H s1 := by
  have hpl : ps.length ≤ N.length := by have := congrArg List.length S.pre; rw [List.length_take] at this; omega
  obtain ⟨h1, tk, rfl, hk⟩ := x.done
  have noA : ∀ b : Addr, b ∉ (cxOf CX P w K mg base N qual scope f cd A outer s H E).ex := fun b z => absurd (show b ∈ ([] : List Addr) from z) (by simp)
  refine ⟨⟨e0.mod, S.kind, rfl, rfl, Nat.le_refl _, fun y z c h1 h2 => ?_, fun y hy => ?_, fun y c _ h => ?_, fun _ => hd, Around.frames_deeper e0.frames, .inr ⟨rfl, rfl⟩, fun b z => absurd z (noA b), e0.bs, e0.bsz, fun b _ _ => noA b, fun b z => absurd z (noA b), e0.funs, e0.frf⟩,
    rfl, e0.bare, Un.kept hk, ⟨_, x.toInCall.ns, fun i y v h1 h2 h3 => ?_⟩, fun y c h => ⟨_, x.cell y c h⟩, e0.hok.fresh (Nat.le_refl _), fun y c h => ?_, fun p hp => absurd (show p ∈ ([] : List (Addr × Obj)) from hp) (by simp), e0.hok.kept hk, ?_⟩
  · exact name_of_addr x.apart (PySem.mem_of_lookup h1) (PySem.mem_of_lookup h2)
  · have hy : scope.names.lookup y = some .cell ∨ scope.names.lookup y = some .free := hy
    rcases hy with hy | hy
    · exact cell_has hy
    · exact absurd rfl (S.nofree _ (PySem.mem_of_lookup hy))
  · exact Nat.le_of_lt (x.above y c (PySem.mem_of_lookup h))
  · have hi : i < vs.length := by
      unfold start at h2
      by_cases hi : i < vs.length
      · exact hi
      · rw [List.getElem?_append_right (by simpa using hi)] at h2
        rw [List.getElem?_replicate] at h2
        split at h2 <;> cases h2
    have ha : vs[i]? = some v := by
      unfold start at h2
      rw [List.getElem?_append_left (by simpa using hi), List.getElem?_map] at h2
      cases e : vs[i]? with
      | none => rw [e] at h2; cases h2
      | some a => rw [e] at h2; cases h2; rfl
    obtain ⟨u, hu, rv⟩ := r.get ha
    have hp : ps[i]? = some y := by
      rw [← S.pre, List.getElem?_take_of_lt (by omega)]; exact h1
    have ndP : ps.Nodup := by rw [← S.pre]; exact S.nd.sublist (List.take_sublist _ _)
    refine ⟨u, rv, ?_⟩
    rcases S.par y (List.mem_of_getElem? hp) with k | k
    · exact .inl ⟨k, bindL_get ndP hp hu k⟩
    · obtain ⟨c, e⟩ := cell_has (n := s.heap.objs.size + 1) k
      refine .inr ⟨.inl k, c, e, ?_⟩
      have q := x.cell y c e
      rw [bindC_get ndP hp hu (by show scope.names.lookup y ≠ _; rw [k]; decide)] at q
      exact q
  · exact e0.hok.fresh (Nat.le_of_lt (x.above y c (PySem.mem_of_lookup h)))
  · unfold start
    show _ = N.length
    rw [List.length_append, List.length_map, List.length_replicate]
    omega

/-- THE RULE: a def (or a method) of the text, by its body. The body's reading t is chosen for each entry; it is run at the parameters' values -/
theorem fn_of {CX : CXT} {P : Program} {w : World} {K : PySem.W.Frag} {mg : Str → Option Value} {base : Heap} {k : Nat} {f : Addr} {name qual : Str} {params : Arguments} {body : List Stmt} {scope : Scope} {dV kV doc pm cdv ct oc : Value} {an od : Option Addr}
    {osl : Array (Option Value)} {N ps : List Str} {sp : Sp} (lk : K.lookup f = some ⟨oc, od, .func (PySem.W.fnOf name qual params body scope dV kV doc pm an cdv ct), osl⟩) (hcd : PySem.W.codeIn K cdv qual = true) (S : FnScope N ps scope)
    (len : ∀ vs H Q E, sp vs H Q E → vs.length = ps.length)
    (hbody : ∀ (A : Around) (outer : List Env) (s : Shared) (H : Hp) (vs : List V) (Q : VK) (E : XK), Room k (A.deeper (envOfC qual scope s.heap.objs.size f cdv)) → sp vs H Q E →
      ∃ t, PSs (cxOf CX P w K mg base N qual scope f cdv A outer s H E) body t ∧ t { nx := fun _ H' => Q .non H', rt := Q } (start N vs) H) :
    FnOk P w K mg base CX (k + 1) f (PySem.W.fnOf name qual params body scope dV kV doc pm an cdv ct) ps sp := by
  refine ⟨len, fun A outer s H args us vs Q E hr e0 hb r hsp => ?_⟩
  have hl := len _ _ _ _ hsp
  have KX : K.In s.heap := e0.mod.kin.keeps fun b o e => (e0.bs b o e).1
  have lim : s.heap.NoLimit := e0.mod.nolimit.keeps fun b o e => (e0.bs b o e).1
  have hkind : ∀ y ∈ ps.zip us, scope.names.lookup y.1 = some .local ∨ (scope.names.lookup y.1 = some .cell ∧ ((cellsFrom (s.heap.objs.size + 1) scope.names []).lookup y.1).isSome = true) := fun ⟨n, v⟩ hy => by
    rcases S.par n (List.of_mem_zip hy).1 with q | q
    · exact .inl q
    · exact .inr ⟨q, PySem.W.cellsFrom_some _ _ _ (.inl q)⟩
  refine codeAny_call_function hr.depth (KX _ _ lk) rfl S.co S.gen rfl (PySem.W.codeRec_of KX hcd) (hb _ _ _ _ ?_)
  refine wpAny_newFunctionEnv_cells S.kind hkind fun env he s1 x => ?_
  subst he
  refine ⟨lim.keeps x.toInCall.keep, codeAny_func ?_⟩
  obtain ⟨t, ht, hq⟩ := hbody A outer s H vs Q E (hr.deeper _) hsp
  have I : Inv (cxOf CX P w K mg base N qual scope f cdv A outer s H E) [] (start N vs) H s1 := inv_start S hr.hd e0 hl r x
  refine wpAny_mono (ht [] s1 (start N vs) H _ I hq) (fun fl s' hs => ?_) fun e s' hs => hs
  have fin : ∀ {σ' : St} {H' : Hp} {v : V} {u : Value}, Inv (cxOf CX P w K mg base N qual scope f cdv A outer s H E) [] σ' H' s' → RelV v u → Q v H' → CE outer P w H s Q u s' :=
    fun {σ' H' v u} J rv q => ⟨v, H', J.os, J.bare, J.base, J.hok, rv, q⟩
  cases fl with
  | ret u =>
    obtain ⟨v, σ', H', J, rv, q⟩ := hs
    exact fin J rv q
  | next =>
    obtain ⟨σ', H', J, q⟩ := hs
    exact fin (v := V.non) (u := Value.none) J rfl q
  | brk =>
    obtain ⟨_, _, _, q⟩ := hs
    exact False.elim q
  | cont =>
    obtain ⟨_, _, _, q⟩ := hs
    exact False.elim q
end L2

namespace L2
open PySem PySem.Spec PyProof.Rows
section
variable {X : Cx} {x : Str} {p pos : Pos} {e : Expr} {es : List Expr} {t : TA} {id T : String} {r : List V → Hp → VK → Prop}

def tCB (r : List V → Hp → VK → Prop) (t : TA) : TE := fun σ H Q => t σ H fun vs H1 => r vs H1 Q
/-- f(e, ..), f a built-in function -/
theorem pe_callB (hc : CallR X (.builtin id) r) (hg : Gl X x) (hm : X.mg x = none) (hv : bootBuiltins x = some (.builtin id)) (ha : PA X (e :: es) t) (hn : x ≠ "__name__" := by decide) (hdb : (x == ("__debug__" : Str)) = false := by decide)
    (he : starEach (e :: es) X.env = (false, eval e X.env) :: starEach es X.env := by rfl) (hpl : (backTo pos (starEach es X.env)).any (·.1) = false := by rfl) : PE X (.Call (.Name x p) (e :: es) [] pos) (tCB r t) := by
  intro pins s σ H Q I h
  refine wpAny_Call_Name_kw (ld_blt I hg hm hv ?_ hn hdb)
  exact PyProof.Rows.callWith_builtin1 (thn (ha pos pins s σ H _ I h) fun us s1 ⟨vs, H1, I1, r1, q1⟩ => hc pins s1 σ H1 vs us Q I1 r1 q1) he hpl
/-- T(e, ..), T a built-in type -/
theorem pe_callTy (hc : CallR X (.type T) r) (hg : Gl X x) (hm : X.mg x = none) (hv : bootBuiltins x = some (.type T)) (ha : PA X (e :: es) t) (hn : x ≠ "__name__" := by decide) (hdb : (x == ("__debug__" : Str)) = false := by decide)
    (he : starEach (e :: es) X.env = (false, eval e X.env) :: starEach es X.env := by rfl) (hpl : (backTo pos (starEach es X.env)).any (·.1) = false := by rfl) : PE X (.Call (.Name x p) (e :: es) [] pos) (tCB r t) := by
  intro pins s σ H Q I h
  refine wpAny_Call_Name_kw (ld_blt I hg hm hv ?_ hn hdb)
  exact PyProof.Rows.callWith_type1 (thn (ha pos pins s σ H _ I h) fun us s1 ⟨vs, H1, I1, r1, q1⟩ => hc pins s1 σ H1 vs us Q I1 r1 q1) he hpl
end
end L2

namespace HT
open PySem PyProof.Rows

/-- t < u of tuples of ints -/
def lexLt : List Int → List Int → Bool
  | [], [] => false
  | [], _ :: _ => true
  | _ :: _, [] => false
  | x :: xs, y :: ys => if x = y then lexLt xs ys else decide (x < y)


section
open PySem.SeqAt
open PySem.AutoSeq1 (wpAny_loadPart')
open PySem.MeetsSeq PySem.MeetsSeq2 PySem.MeetsSeq3

end

section
variable {prog : Program} {w : World} {A : Around} {E : Value → Shared → Prop} {s : Shared}



/-! ### t[a:b], not the whole -/
/-- a slice's bound as a place among n (d where it is left out) -/
def sIx (n d : Nat) : Option Int → Nat
  | none => d
  | some v => if v < 0 then (v + (n : Int)).toNat else min v.toNat n
theorem sIx_none (n d : Nat) : sIx n d none = d := rfl
theorem sIx_nat (n d k : Nat) : sIx n d (some (k : Int)) = min k n := by
  show (if (k : Int) < 0 then ((k : Int) + (n : Int)).toNat else min (k : Int).toNat n) = min k n
  rw [if_neg (by omega), Int.toNat_natCast]
theorem sIx_le (n d : Nat) (hd : d ≤ n) (o : Option Int) : sIx n d o ≤ n := by
  cases o with
  | none => exact hd
  | some v =>
    show (if v < 0 then (v + (n : Int)).toNat else min v.toNat n) ≤ n
    by_cases hv : v < 0
    · rw [if_pos hv]; omega
    · rw [if_neg hv]; exact Nat.min_le_right _ _
theorem clip_eq (v : Int) (n d : Nat) : (if v < 0 then max (v + (n : Int)) 0 else min v (n : Int)) = ((sIx n d (some v) : Nat) : Int) := by
  show (if v < 0 then max (v + (n : Int)) 0 else min v (n : Int)) = (((if v < 0 then (v + (n : Int)).toNat else min v.toNat n) : Nat) : Int)
  by_cases hv : v < 0
  · simp only [if_pos hv]; omega
  · simp only [if_neg hv]; omega
theorem adjust_gen (lo hi : Option Int) (n : Nat) : Builtin.Slice.sliceAdjust lo hi 1 (n : Int) = (((sIx n 0 lo : Nat) : Int), ((sIx n n hi : Nat) : Int)) := by
  have h1 : ¬ ((1 : Int) < 0) := by omega
  unfold Builtin.Slice.sliceAdjust
  simp only [h1, if_false]
  refine Prod.ext ?_ ?_
  · cases lo with
    | none => rfl
    | some v => exact clip_eq v n 0
  · cases hi with
    | none => rfl
    | some v => exact clip_eq v n n
theorem places_gen (i j : Nat) : Builtin.Slice.slicePlaces (i : Int) (j : Int) 1 = j - i := by
  unfold Builtin.Slice.slicePlaces
  have h1 : (1 : Int) > 0 := by omega
  simp only [h1, if_true, Int.ediv_one]
  split <;> omega
theorem slicePart_ {v : Value} {o : Option Int} {Q : Option Int → Shared → Prop} (p : IsPart v o) (h : Q o s) : wpAny (model prog w) A (Builtin.Slice.slicePartIndex v) Q E s := by
  cases p with
  | none => exact slicePart_none h
  | int i t => exact slicePart_int h
theorem sliceApplied_gen {sl : Addr} {vl vu : Value} {lo hi : Option Int} {n : Nat} {Q : Int × Int × Nat → Shared → Prop} (hs : s.heap.IsSliceOf sl vl vu .none) (pl : IsPart vl lo) (pu : IsPart vu hi)
    (h : Q (((sIx n 0 lo : Nat) : Int), 1, sIx n n hi - sIx n 0 lo) s) : wpAny (model prog w) A (Builtin.Slice.sliceApplied (.ref sl) (pure (n : Int))) Q E s := by
  obtain ⟨os, hos, hcs, hds⟩ := id hs
  unfold Builtin.Slice.sliceApplied Builtin.Slice.sliceFields
  refine wpAny_bind (wpAny_bind (wpAny_field hos hds (x := vl) rfl (wpAny_bind (wpAny_field hos hds (x := vu) rfl (wpAny_bind (wpAny_field hos hds (x := .none) rfl (wpAny_pure ?_)))))))
  refine wpAny_bind (slicePart_none ?_)
  show wpAny _ _ (if ((1 : Int) == 0) = true then _ else _) _ _ s
  rw [if_neg (by decide)]
  refine wpAny_bind (slicePart_ pl (wpAny_bind (slicePart_ pu (wpAny_bind (wpAny_pure ?_)))))
  show wpAny _ _ (match Builtin.Slice.sliceAdjust lo hi 1 (n : Int) with | (lo, hi) => pure (lo, (1 : Int), Builtin.Slice.slicePlaces lo hi 1)) _ _ s
  rw [adjust_gen lo hi n]
  show wpAny _ _ (pure (((sIx n 0 lo : Nat) : Int), (1 : Int), Builtin.Slice.slicePlaces ((sIx n 0 lo : Nat) : Int) ((sIx n n hi : Nat) : Int) 1)) _ _ s
  rw [places_gen]
  exact wpAny_pure h
theorem pick_gen (xs : Array Value) (i k : Nat) : ((List.range k).filterMap fun (m : Nat) => xs[((i : Int) + (m : Int) * 1).toNat]?).toArray = ((xs.toList.drop i).take k).toArray := by
  have e : (fun (m : Nat) => xs[((i : Int) + (m : Int) * 1).toNat]?) = fun m => xs[i + m]? := by
    funext m
    have : ((i : Int) + (m : Int) * 1).toNat = i + m := by omega
    rw [this]
  rw [e]
  have := pick_run xs i k
  rw [List.filterMap_map] at this
  have e2 : ((fun x => xs[x]?) ∘ fun x => i + x) = fun m => xs[i + m]? := rfl
  rw [e2] at this
  rw [this]

theorem getItem_tuple_cut {t sl : Addr} {items : Array Value} {vl vu : Value} {lo hi : Option Int} {Q : Value → Shared → Prop} (ht : IsTup s.heap t items) (hs : s.heap.IsSliceOf sl vl vu .none) (pl : IsPart vl lo) (pu : IsPart vu hi)
    (hw : ¬ (sIx items.size 0 lo = 0 ∧ sIx items.size items.size hi = items.size))
    (h : Q (.ref s.heap.objs.size) { s with heap := s.heap.push { cls := .type "tuple", data := .seq ((items.toList.drop (sIx items.size 0 lo)).take (sIx items.size items.size hi - sIx items.size 0 lo)).toArray } })
    (hsz : items.size ≤ sizeLine) : wpAny (model prog w) A (getItem (.ref t) (.ref sl)) Q E s := by
  have htake : sizeOk (.seq ((items.toList.drop (sIx items.size 0 lo)).take (sIx items.size items.size hi - sIx items.size 0 lo)).toArray) := by
    show ((items.toList.drop (sIx items.size 0 lo)).take (sIx items.size items.size hi - sIx items.size 0 lo)).toArray.size ≤ sizeLine
    rw [List.size_toArray, List.length_take, List.length_drop, Array.length_toList]
    omega
  have hj : sIx items.size items.size hi ≤ items.size := sIx_le _ _ (Nat.le_refl _) hi
  obtain ⟨os, hos, hcs, hds⟩ := id hs
  have hTs : s.TypeIs (.ref sl) "slice" := ⟨os, hos, hcs⟩
  unfold getItem
  try with_reducible refine wpAny_holding ?_
  first | refine wpAny_bind (wpAny_pure ?_) | skip
  refine wpAny_bind (wpAny_sequenceKey ht.typeIs (by decide) ?_)
  refine wpAny_bind (wpAny_callSpecial?_slot (name := Str.ofString "__getitem__") ht.typeIs PyProof.Rows.slot_tuple_getitem
    (wpAny_call_entry PyProof.Rows.slot_tuple_getitem ht.typeIs entry_tuple_getitem ?_ (args_tuple_getitem _ _)))
  show wpAny _ _ (Builtin.Tuple.tupleItemsOf (.ref t) >>= _) _ _ s
  refine wpAny_bind (tupleItemsOf_ ht ?_)
  refine wpAny_bind (wpAny_typeOf hTs ?_)
  rw [if_pos (by decide)]
  refine wpAny_bind (sliceApplied_gen hs pl pu ?_)
  have hno : ¬ ((((sIx items.size 0 lo : Nat) : Int) == 0 && (1 : Int) == 1 && (sIx items.size items.size hi - sIx items.size 0 lo) == items.size) = true) := by
    intro q
    rw [Bool.and_eq_true, Bool.and_eq_true] at q
    have q1 : ((sIx items.size 0 lo : Nat) : Int) = 0 := eq_of_beq q.1.1
    have q2 : sIx items.size items.size hi - sIx items.size 0 lo = items.size := eq_of_beq q.2
    exact hw ⟨by omega, by omega⟩
  show wpAny _ _ (if (((sIx items.size 0 lo : Nat) : Int) == 0 && (1 : Int) == 1 && (sIx items.size items.size hi - sIx items.size 0 lo) == items.size) = true then _ else _) _ _ s
  rw [if_neg hno, pick_gen]
  first
    | exact wpAny_bind (m := Builtin.Tuple.tupleExact _) (wpAny_newObj_type (wpAny_pure ⟨_, rfl, wpAny_pure h⟩) htake)
    | exact wpAny_bind (m := Builtin.Tuple.tupleExact _) (wpAny_newObj_type (wpAny_bind (wpAny_pure (wpAny_pure ⟨_, rfl, wpAny_pure h⟩))) htake)
    | exact wpAny_bind (wpAny_bind (m := Builtin.Tuple.tupleExact _) (wpAny_newObj_type (wpAny_pure (wpAny_pure ⟨_, rfl, wpAny_pure h⟩)) htake))
    | exact wpAny_bind (wpAny_bind (m := Builtin.Tuple.tupleExact _) (wpAny_newObj_type (wpAny_pure ⟨_, rfl, wpAny_pure h⟩) htake))
end
end HT

namespace L2
open PySem PySem.Spec PyProof.Rows

/-! ### the parts of a slice -/
abbrev TO := St → Hp → (Option Int → Hp → Prop) → Prop
/-- a slice's part (left out, or an int) -/
def PO (X : Cx) (e : Option Expr) (t : TO) : Prop :=
  ∀ (pins : List (Addr × Obj)) (s : Shared) (σ : St) (H : Hp) (Q : Option Int → Hp → Prop), Inv X pins σ H s → t σ H Q →
    wpAny (model X.prog X.w) X.A (evalPart e X.env) (fun u s' => ∃ o H', Inv X pins σ H' s' ∧ IsPart u o ∧ Q o H') X.xe s
def tNoPart : TO := fun _ H Q => Q none H
def tPart (t : TE) : TO := fun σ H Q => t σ H fun x H1 => ∃ i, x = .int i ∧ Q (some i) H1

theorem intsAre_of {ns : List Int} : ∀ {us : List Value}, Vals (ns.map V.int) us → IntsAre us ns := by
  induction ns with
  | nil => intro us r; rw [List.map_nil] at r; cases r; exact .nil
  | cons n ns ih =>
    intro us r
    rw [List.map_cons] at r
    cases r with
    | cons r1 r2 =>
      obtain ⟨t, e⟩ := r1
      subst e
      exact .cons n t (ih r2)

section
variable {X : Cx} {e : Expr} {te : TE} {lo hi : Option Expr} {tl th : TO} {pos p2 : Pos}

theorem po_none : PO X none tNoPart := by
  intro pins s σ H Q I h
  rw [evalPart_none]
  exact wpAny_pure ⟨none, H, I, .none, h⟩
theorem po_some (h : PE X e te) : PO X (some e) (tPart te) := by
  intro pins s σ H Q I hw
  rw [evalPart_some]
  refine thn (h pins s σ H _ I hw) fun u s1 ⟨x, H1, I1, r1, q1⟩ => ?_
  obtain ⟨i, rfl, q⟩ := q1
  obtain ⟨t, rfl⟩ := r1
  exact ⟨some i, H1, I1, .int i t, q⟩

/-- what a slice of a value is, by values: the slice object stands at sl -/
def SlR (X : Cx) (r : V → Option Int → Option Int → Hp → VK → Prop) : Prop :=
  ∀ (pins : List (Addr × Obj)) (s : Shared) (σ : St) (H : Hp) (x : V) (v vl vu : Value) (lo hi : Option Int) (sl : Addr) (Q : VK), Inv X pins σ H s → RelV x v → s.heap.IsSliceOf sl vl vu .none → IsPart vl lo → IsPart vu hi → r x lo hi H Q →
    ∃ T id, typeLookup (.type T) "__getitem__" = pure (some (.builtin id)) ∧ s.TypeIs v T ∧ wpAny (model X.prog X.w) X.A (getItem v (.ref sl)) (EP X pins σ Q) X.xe s
def tSl (r : V → Option Int → Option Int → Hp → VK → Prop) (te : TE) (tl th : TO) : TE := fun σ H Q => te σ H fun x H1 => tl σ H1 fun l H2 => th σ H2 fun u H3 => r x l u H3 Q
/-- a[lo:hi], any a -/
theorem pe_slice {r : V → Option Int → Option Int → Hp → VK → Prop} (hr : SlR X r) (he : PE X e te) (hl : PO X lo tl) (hu : PO X hi th) : PE X (.Subscript e (.Slice lo hi none p2) pos) (tSl r te tl th) := by
  intro pins s σ H Q I h
  refine Subscript_ (thn (he pins s σ H _ I h) fun v s1 ⟨x, H1, I1, r1, q1⟩ => ?_)
  refine wpAny_Slice (thn (hl pins s1 σ H1 _ I1 q1) fun vl s2 ⟨l, H2, I2, pl, q2⟩ => thn (hu pins s2 σ H2 _ I2 q2) fun vu s3 ⟨u, H3, I3, pu, q3⟩ => ?_)
  rw [evalPart_none]
  refine wpAny_pure ?_
  have I4 : Inv X pins σ H3 { s3 with heap := s3.heap.push { cls := .type "slice", data := .fields #[vl, vu, .none] } } := I3.kept (t' := s3.toks) fun b ob q => Heap.get?_push_of_some _ q
  obtain ⟨T, id, hT, ht, hg⟩ := hr pins { s3 with heap := s3.heap.push { cls := .type "slice", data := .fields #[vl, vu, .none] } } σ H3 x v vl vu l u s3.heap.objs.size Q I4 r1 (Heap.IsSliceOf.new ..) pl pu q3
  show wpAny (model X.prog X.w) X.A (subscriptTail e (.Slice lo hi none p2) v (.ref s3.heap.objs.size)) (EP X pins σ Q) X.xe { s3 with heap := s3.heap.push { cls := .type "slice", data := .fields #[vl, vu, .none] } }
  exact tail_any (ops := [.ref s3.heap.objs.size, v]) ht hT hg (by with_unfolding_all rfl)

/-- the items of xs[lo:hi] -/
def cutV (xs : List V) (lo hi : Option Int) : List V := (xs.drop (HT.sIx xs.length 0 lo)).take (HT.sIx xs.length xs.length hi - HT.sIx xs.length 0 lo)
theorem cutV_length (xs : List V) (lo hi : Option Int) : (cutV xs lo hi).length ≤ xs.length := by
  unfold cutV
  rw [List.length_take, List.length_drop]
  omega
/-- t[lo:hi], not the whole of it (the whole would be t itself) -/
def rSlT (K : PySem.W.Frag) : V → Option Int → Option Int → Hp → VK → Prop := fun x lo hi H Q => ∃ a xs, x = .ref a ∧ SqT K H a xs ∧
  ¬ (HT.sIx xs.length 0 lo = 0 ∧ HT.sIx xs.length xs.length hi = xs.length) ∧ ∀ p, H p = none → Q (.ref p) (upd H p (.tup (cutV xs lo hi)))
theorem sl_tup : SlR X (rSlT X.K) := by
  intro pins s σ H x v vl vu lo hi sl Q I rx hs pl pu h
  obtain ⟨a, xs, rfl, hx, hw, q⟩ := h
  cases rx
  obtain ⟨its, r, ht, hz⟩ := I.tuple hx
  have hlen : its.toArray.size = xs.length := by rw [List.size_toArray]; exact r.length.symm
  refine ⟨"tuple", _, PyProof.Rows.slot_tuple_getitem.lookup, ht.typeIs, ?_⟩
  refine HT.getItem_tuple_cut ht hs pl pu (by rw [hlen]; exact hw) ?_ (by rw [hlen]; exact hz)
  rw [hlen]
  refine ⟨.ref s.heap.objs.size, _, I.laid (t' := s.toks) (o := .tup (cutV xs lo hi)) (fun b ob q => Heap.get?_push_of_some _ q) (Nat.le_refl _) ?_, rfl, q _ (I.hok.fresh (Nat.le_refl _))⟩
  exact ⟨Nat.le_trans (cutV_length xs lo hi) hz, _, (r.drop (HT.sIx xs.length 0 lo)).take (HT.sIx xs.length xs.length hi - HT.sIx xs.length 0 lo), IsTup.new _ _⟩

/-! ### t < u, t + u -/
def rLtT (K : PySem.W.Frag) : R2 := fun x y H Q => ∃ a b ns ms, x = .ref a ∧ y = .ref b ∧ SqT K H a (ns.map V.int) ∧ SqT K H b (ms.map V.int) ∧ Q (.bl (HT.lexLt ns ms)) H
/-- t + u, t not empty: u empty gives t itself -/
def rCatT (K : PySem.W.Frag) : R2 := fun x y H Q => ∃ a b xs ys, x = .ref a ∧ y = .ref b ∧ SqT K H a xs ∧ SqT K H b ys ∧ xs ≠ [] ∧ xs.length + ys.length ≤ sizeLine ∧
  (ys = [] → Q (.ref a) H) ∧ (ys ≠ [] → ∀ p, H p = none → Q (.ref p) (upd H p (.tup (xs ++ ys))))
end
end L2

namespace L2
open PySem PySem.Spec PyProof.Rows

/-! ### places -/
/-- the place that an index of any sign means -/
def ixN (n : Nat) (i : Int) : Option Nat := if 0 ≤ i then (if i < n then some i.toNat else none) else if -(n : Int) ≤ i then some (i + n).toNat else none
def atI {α : Type} (xs : List α) (i : Int) : Option α := (ixN xs.length i).bind fun j => xs[j]?
theorem ixN_seq {n : Nat} {i : Int} {j : Nat} (h : ixN n i = some j) : seqIndex? i n = some j ∧ j < n ∧ -(n : Int) ≤ i ∧ i < n := by
  unfold ixN at h
  by_cases h0 : 0 ≤ i
  · rw [if_pos h0] at h
    by_cases h1 : i < n
    · rw [if_pos h1] at h
      have e : i.toNat = j := Option.some.inj h
      exact ⟨by rw [seqIndex_of h0 h1, e], by omega, by omega, h1⟩
    · rw [if_neg h1] at h; cases h
  · rw [if_neg h0] at h
    by_cases h1 : -(n : Int) ≤ i
    · rw [if_pos h1] at h
      have e : (i + n).toNat = j := Option.some.inj h
      exact ⟨by rw [seqIndex_neg (by omega) h1, e], by omega, h1, by omega⟩
    · rw [if_neg h1] at h; cases h
theorem atI_get {α : Type} {xs : List α} {i : Int} {v : α} (h : atI xs i = some v) : ∃ j, seqIndex? i xs.length = some j ∧ xs[j]? = some v ∧ j < xs.length ∧ -(xs.length : Int) ≤ i ∧ i < xs.length := by
  unfold atI at h
  cases e : ixN xs.length i with
  | none => rw [e] at h; cases h
  | some j =>
    rw [e] at h
    obtain ⟨h1, h2, h3, h4⟩ := ixN_seq e
    exact ⟨j, h1, h, h2, h3, h4⟩
theorem atI_nat {α : Type} {xs : List α} {j : Nat} {v : α} (h : xs[j]? = some v) : atI xs (j : Int) = some v := by
  have hj : j < xs.length := (List.getElem?_eq_some_iff.mp h).1
  have e : ixN xs.length (j : Int) = some j := by
    unfold ixN
    rw [if_pos (by omega), if_pos (by omega)]; simp
  unfold atI; rw [e]; exact h
theorem atI_last {α : Type} (xs : List α) (v : α) : atI (xs ++ [v]) (-1) = some v := by
  have hl : (xs ++ [v]).length = xs.length + 1 := by simp
  have e : ixN (xs ++ [v]).length (-1) = some xs.length := by
    unfold ixN
    rw [hl, if_neg (by decide), if_pos (by omega)]
    congr 1
    omega
  unfold atI
  rw [e]
  show (xs ++ [v])[xs.length]? = some v
  simp

/-! ### what may be subscripted -/
/-- what stands as an index of a plain subscript -/
def PlainIx (b : Expr) : Prop := ∀ o i, subscripted b false o i = operate [o, i] (getItem o i)
/-- a subscript by values -/
def IxR (X : Cx) (r : R2) : Prop :=
  ∀ (value slice : Expr) (pins : List (Addr × Obj)) (s : Shared) (σ : St) (H : Hp) (x y : V) (v u : Value) (Q : VK), Inv X pins σ H s → RelV x v → RelV y u → r x y H Q →
    subscripted slice false v u = operate [v, u] (getItem v u) → wpAny (model X.prog X.w) X.A (subscriptTail value slice v u) (EP X pins σ Q) X.xe s
/-- a call of a builtin's method by values: the receiver, the arguments -/
def MtR (X : Cx) (id : String) (r : V → List V → Hp → VK → Prop) : Prop :=
  ∀ (pins : List (Addr × Obj)) (s : Shared) (σ : St) (H : Hp) (x : V) (xs : List V) (v : Value) (us : List Value) (Q : VK), Inv X pins σ H s → RelV x v → Vals xs us → r x xs H Q →
    wpAny (model X.prog X.w) X.A (call (.builtin id) (v :: us)) (EP X pins σ Q) X.xe s
section
variable {X : Cx} {a b : Expr} {ta tb : TE} {pos : Pos}
theorem IxR.or {r r' : R2} (h : IxR X r) (h' : IxR X r') : IxR X (fun x y H Q => r x y H Q ∨ r' x y H Q) := by
  intro value slice pins s σ H x y v u Q I rx ry q hs
  rcases q with q | q
  · exact h value slice pins s σ H x y v u Q I rx ry q hs
  · exact h' value slice pins s σ H x y v u Q I rx ry q hs
/-- a[b] -/
theorem pe_ix {r : R2} (hr : IxR X r) (ha : PE X a ta) (hb : PE X b tb) (hs : PlainIx b) : PE X (.Subscript a b pos) (tOp r ta tb) := by
  intro pins s σ H Q I h
  exact Subscript_ (binT ha hb I h fun v u s2 x y H2 I2 rx ry q => hr a b pins s2 σ H2 x y v u Q I2 rx ry q (hs _ _))

def rIxL (K : PySem.W.Frag) : R2 := fun x y H Q => ∃ p xs i v, x = .ref p ∧ y = .int i ∧ SqL K H p xs ∧ atI xs i = some v ∧ Q v H
def rIxT (K : PySem.W.Frag) : R2 := fun x y H Q => ∃ p xs i v, x = .ref p ∧ y = .int i ∧ SqT K H p xs ∧ atI xs i = some v ∧ Q v H
def rIxS : R2 := fun x y H Q => ∃ z i c, x = .str z ∧ y = .int i ∧ z.length ≤ sizeLine ∧ atI z.cps.toList i = some c ∧ Q (.str ⟨#[c]⟩) H
theorem ix_list : IxR X (rIxL X.K) := by
  intro value slice pins s σ H x y v u Q I rx ry h hs
  obtain ⟨p, xs, i, z, rfl, rfl, hq, he, q⟩ := h
  cases rx
  obtain ⟨t, rfl⟩ := ry
  obtain ⟨its, r, pl, hz⟩ := I.list hq
  obtain ⟨j, h1, h2, h3, h4, h5⟩ := atI_get he
  obtain ⟨w, ew, rw'⟩ := r.get h2
  have hl := r.length
  have hn := line63
  have fin : EP X pins σ Q w s := ⟨z, H, I, rw', q⟩
  by_cases h0 : 0 ≤ i
  · have hj : i.toNat = j := by
      rw [seqIndex_of h0 h5] at h1
      exact Option.some.inj h1
    exact item_listR pl.isList h0 (by omega) (by rw [hj]; simpa using ew) fin hs
  · have hj : (i + (its.toArray.size : Int)).toNat = j := by
      rw [seqIndex_neg (by omega) h4] at h1
      rw [List.size_toArray, ← hl]
      exact Option.some.inj h1
    exact subscriptTail_builtinR (x := w) pl.isList.typeIs slot_list_getitem.lookup
      (wpAny_getItem_list_neg (Q := fun r s' => r = w ∧ EP X pins σ Q r s') pl.isList (by omega) (by rw [List.size_toArray] <;> omega) (by omega) (by rw [hj]; simpa using ew) ⟨rfl, fin⟩) hs
theorem ix_tup : IxR X (rIxT X.K) := by
  intro value slice pins s σ H x y v u Q I rx ry h hs
  obtain ⟨p, xs, i, z, rfl, rfl, hq, he, q⟩ := h
  cases rx
  obtain ⟨t, rfl⟩ := ry
  obtain ⟨its, r, pl, hz⟩ := I.tuple hq
  obtain ⟨j, h1, h2, h3, h4, h5⟩ := atI_get he
  obtain ⟨w, ew, rw'⟩ := r.get h2
  have hl := r.length
  have hn := line63
  have fin : EP X pins σ Q w s := ⟨z, H, I, rw', q⟩
  exact subscriptTail_builtinR (x := w) pl.typeIs slot_tuple_getitem.lookup
    (getItem_tuple (j := j) (Q := fun r s' => r = w ∧ EP X pins σ Q r s') pl (by omega) (by omega) (by rw [List.size_toArray, ← hl]; exact h1) (by simpa using ew) ⟨rfl, fin⟩) hs
theorem ix_str : IxR X rIxS := by
  intro value slice pins s σ H x y v u Q I rx ry h hs
  obtain ⟨z, i, c, rfl, rfl, hz, he, q⟩ := h
  obtain ⟨t, rfl⟩ := rx
  obtain ⟨t', rfl⟩ := ry
  obtain ⟨j, h1, h2, h3, h4, h5⟩ := atI_get he
  have hl : z.cps.toList.length = z.length := by simp [Str.length]
  rw [hl] at h1 h4 h5
  have hn := line63
  exact tail_any (typeIs_str s z t) slot_str_getitem.lookup (getItem_str (c := c) (by
    have e1 : decide (i < -(2 ^ 63 : Int)) = false := decide_eq_false (by omega)
    have e2 : decide (i ≥ 2 ^ 63) = false := decide_eq_false (by omega)
    rw [e1, e2, Bool.or_false]) (by rw [h1]; simpa using h2) ⟨.str ⟨#[c]⟩, H, I.tok _, ⟨_, rfl⟩, q⟩) hs
/-- list, tuple or str -/
def rIx (K : PySem.W.Frag) : R2 := fun x y H Q => rIxL K x y H Q ∨ rIxT K x y H Q ∨ rIxS x y H Q
theorem ix_seq : IxR X (rIx X.K) := ix_list.or (ix_tup.or ix_str)

/-! ### xs[i] = v, any sign -/
/-- the list's object behind a store -/
theorem mapSeq_set (its : List Value) (n j : Nat) (u : Value) : Obj.mapSeq (·.setIfInBounds j u) { cls := .type "list", data := .seq its.toArray n } = { cls := .type "list", data := .seq (its.set j u).toArray n } := by
  simp [Obj.mapSeq]
theorem Inv.lst {pins : List (Addr × Obj)} {σ : St} {H : Hp} {s : Shared} {p : Addr} {xs : List V} (I : Inv X pins σ H s) (h : H p = some (.lst xs)) :
    ∃ (its : List Value) (n : Nat), Vals xs its ∧ s.heap.get? p = some { cls := .type "list", data := .seq its.toArray n } ∧ xs.length ≤ sizeLine := by
  obtain ⟨z, its, n, r, e⟩ := I.hok p _ h
  exact ⟨its, n, r, e, z⟩
/-- the list at p is written by an update of its object -/
theorem Inv.lstUpd {pins : List (Addr × Obj)} {σ : St} {H : Hp} {s : Shared} {p : Addr} {xs ys : List V} {its its' : List Value} {n n' : Nat} {f : Obj → Obj} (I : Inv X pins σ H s) (h : H p = some (.lst xs))
    (ho : s.heap.get? p = some { cls := .type "list", data := .seq its.toArray n }) (hf : f { cls := .type "list", data := .seq its.toArray n } = { cls := .type "list", data := .seq its'.toArray n' }) (r : Vals ys its') (hz : ys.length ≤ sizeLine) (t : Nat) :
    Inv X pins σ (upd H p (.lst ys)) { s with heap := s.heap.update p f, toks := t } := by
  have e : (s.heap.update p f).get? p = some { cls := .type "list", data := .seq its'.toArray n' } := by
    rw [Heap.get?_update_self f ho (by rw [hf] <;> rfl), hf]
  refine I.write (x := p) (e := p) (by rw [h]; trivial) (.inl rfl) (fun b u hb q => (Heap.get?_update_other _ _ (Ne.symm hb)).trans q) ⟨_, e⟩ ?_
  exact ⟨hz, its', n', r, e⟩
def rSetL : V → V → V → Hp → (Hp → Prop) → Prop := fun o i v H Q => ∃ p xs k j, o = .ref p ∧ i = .int k ∧ H p = some (.lst xs) ∧ ixN xs.length k = some j ∧ Q (upd H p (.lst (xs.set j v)))
theorem set_list : PSet X rSetL := by
  intro pins s σ H o i v ov iv u Q I ro ri rv h
  obtain ⟨p, xs, k, j, rfl, rfl, hp, hj, q⟩ := h
  cases ro
  obtain ⟨t, rfl⟩ := ri
  obtain ⟨its, n, r, ho, hz⟩ := I.lst hp
  obtain ⟨h1, h2, h3, h4⟩ := ixN_seq hj
  have hl := r.length
  have hn := line63
  have I' : Inv X pins σ (upd H p (.lst (xs.set j v))) { s with heap := s.heap.update p (Obj.mapSeq (·.setIfInBounds j u)) } :=
    I.lstUpd hp ho (mapSeq_set its n j u) (r.set rv j) (by rw [List.length_set]; exact hz) s.toks
  by_cases h0 : 0 ≤ k
  · have hk : k.toNat = j := by
      rw [seqIndex_of h0 h4] at h1
      exact Option.some.inj h1
    exact PySem.W.ki_setAt ho h0 (by omega) (by rw [List.size_toArray, ← hl]; exact h4) (by rw [hk]; exact ⟨_, I', q⟩)
  · have hk : (k + (its.toArray.size : Int)).toNat = j := by
      rw [seqIndex_neg (by omega) h3] at h1
      rw [List.size_toArray, ← hl]
      exact Option.some.inj h1
    exact PySem.W.ki_setBack ho (by omega) (by rw [List.size_toArray, ← hl]; exact h3) (by omega) (by rw [hk]; exact ⟨_, I', q⟩)

/-! ### slices -/
theorem slice_bounds (lo hi : Option Int) (n : Nat) : (sliceBounds lo hi none n).1 = ((HT.sIx n 0 lo : Nat) : Int) ∧ (sliceBounds lo hi none n).2.1 = ((HT.sIx n n hi : Nat) : Int) ∧ (sliceBounds lo hi none n).2.2 = 1 := by
  refine ⟨?_, ?_, rfl⟩
  · cases lo with
    | none => simp [sliceBounds, HT.sIx]
    | some i =>
      simp only [sliceBounds, HT.sIx, Option.getD_none, show (1 : Int) > 0 by decide, if_true]
      by_cases h : i < 0
      · simp only [h, if_true] <;> omega
      · simp only [h, if_false] <;> omega
  · cases hi with
    | none => simp [sliceBounds, HT.sIx]
    | some i =>
      simp only [sliceBounds, HT.sIx, Option.getD_none, show (1 : Int) > 0 by decide, if_true]
      by_cases h : i < 0
      · simp only [h, if_true] <;> omega
      · simp only [h, if_false] <;> omega
theorem slicePick_cut (its : List Value) (lo hi : Option Int) : slicePick its.toArray lo hi none = ((its.drop (HT.sIx its.length 0 lo)).take (HT.sIx its.length its.length hi - HT.sIx its.length 0 lo)).toArray := by
  obtain ⟨h1, h2, h3⟩ := slice_bounds lo hi its.toArray.size
  unfold slicePick
  rw [h1, h2, h3]
  simp only [sliceRange_one, pick_run, List.size_toArray] <;> rfl
/-- xs[lo:hi] of a list: a new list -/
def rSlL (K : PySem.W.Frag) : V → Option Int → Option Int → Hp → VK → Prop := fun x lo hi H Q => ∃ a xs, x = .ref a ∧ SqL K H a xs ∧ ∀ p, H p = none → Q (.ref p) (upd H p (.lst (cutV xs lo hi)))
theorem sl_list : SlR X (rSlL X.K) := by
  intro pins s σ H x v vl vu lo hi sl Q I rx hs pl pu h
  obtain ⟨a, xs, rfl, hx, q⟩ := h
  cases rx
  obtain ⟨its, r, ht, hz⟩ := I.list hx
  have hlen := r.length
  refine ⟨"list", _, slot_list_getitem.lookup, ht.isList.typeIs, ?_⟩
  refine wpAny_getItem_list_slice ht.isList hs pl pu .none (by simp) ?_ (by rw [List.size_toArray] <;> omega)
  rw [slicePick_cut, ← hlen]
  refine ⟨.ref s.heap.objs.size, _, I.laid (t' := s.toks) (o := .lst (cutV xs lo hi)) (fun b ob q => Heap.get?_push_of_some _ q) (Nat.le_refl _) ?_, rfl, q _ (I.hok.fresh (Nat.le_refl _))⟩
  exact ⟨Nat.le_trans (cutV_length xs lo hi) hz, _, 0, (r.drop (HT.sIx xs.length 0 lo)).take (HT.sIx xs.length xs.length hi - HT.sIx xs.length 0 lo), Heap.get?_push_size _ rfl⟩

/-! ### in, not in: flat items -/
def flatV : V → Bool
  | .non => true
  | .bl _ => true
  | .int _ => true
  | .str _ => true
  | _ => false
/-- == of flat values -/
def eqV : V → V → Bool
  | .non, .non => true
  | .bl a, .bl b => a == b
  | .bl a, .int b => (if a then 1 else 0) == b
  | .int a, .bl b => a == (if b then 1 else 0)
  | .int a, .int b => a == b
  | .str a, .str b => a == b
  | _, _ => false
/-- the items' answers, read off the values (a value's own answer does not lean on its token) -/
def eqU (x : V) (u : Value) : Bool := match u with
  | .none => eqV .non x
  | .bool b => eqV (.bl b) x
  | .int i _ => eqV (.int i) x
  | .str z _ => eqV (.str z) x
  | _ => false
def inV (x : V) (xs : List V) : Bool := xs.any fun y => eqV y x
/-- x in a list or tuple of flat items -/
def rIn (K : PySem.W.Frag) (neg : Bool) : R2 := fun x y H Q => ∃ p xs, y = .ref p ∧ (SqL K H p xs ∨ SqT K H p xs) ∧ flatV x = true ∧ xs.all flatV = true ∧ Q (.bl (if neg then !inV x xs else inV x xs)) H

/-! ### len, list(x), tuple(x) of any list or tuple that is read -/
theorem call_len_seq : CallR X (.builtin "len") (fun xs H Q => ∃ p ys, xs = [.ref p] ∧ (SqL X.K H p ys ∨ SqT X.K H p ys) ∧ Q (.int ys.length) H) := by
  intro pins s σ H xs us Q I r h
  obtain ⟨p, ys, rfl, hq, q⟩ := h
  obtain ⟨u, rfl, rx⟩ := vals1 r
  cases rx
  have hn := line63
  rcases hq with hq | hq
  · obtain ⟨its, r', pl, hz⟩ := I.list hq
    have hlen := r'.length
    exact Calls.call_len_list pl.isList (by simp only [List.size_toArray] <;> omega) ⟨.int ys.length, H, I.tok _, ⟨s.toks + 1, by rw [List.size_toArray, hlen]⟩, q⟩
  · obtain ⟨its, r', pl, hz⟩ := I.tuple hq
    have hlen := r'.length
    exact len_tuple pl (by simp only [List.size_toArray] <;> omega) ⟨.int ys.length, H, I.tok _, ⟨s.toks + 1, by rw [List.size_toArray, hlen]⟩, q⟩
theorem call_len_str : CallR X (.builtin "len") (fun xs H Q => ∃ z, xs = [.str z] ∧ z.length ≤ sizeLine ∧ Q (.int z.length) H) := by
  intro pins s σ H xs us Q I r h
  obtain ⟨z, rfl, hz, q⟩ := h
  obtain ⟨u, rfl, t, rfl⟩ := vals1 r
  have hn := line63
  exact len_str (by omega) ⟨.int z.length, H, I.tok _, ⟨_, rfl⟩, q⟩
theorem call_tuple_of : CallR X (.type "tuple") (fun xs H Q => ∃ p ys, xs = [.ref p] ∧ ((SqL X.K H p ys ∧ ∀ l, H l = none → Q (.ref l) (upd H l (.tup ys))) ∨ (SqT X.K H p ys ∧ Q (.ref p) H))) := by
  intro pins s σ H xs us Q I r h
  obtain ⟨p, ys, rfl, h⟩ := h
  obtain ⟨u, rfl, rx⟩ := vals1 r
  cases rx
  rcases h with ⟨hq, q⟩ | ⟨hq, q⟩
  · obtain ⟨its, r', pl, hz⟩ := I.list hq
    have hlen := r'.length
    refine call_tuple_list pl.isList (fun h' kp => ?_) (by simp only [List.size_toArray] <;> omega)
    have I1 : Inv X pins σ H { s with heap := h' } := I.kept (t' := s.toks) kp
    have I2 : Inv X pins σ (upd H h'.objs.size (.tup ys)) { s with heap := h'.push { cls := .type "tuple", data := .seq its.toArray } } :=
      I1.laid (t' := s.toks) (fun b o e => Heap.get?_push_of_some _ e) (Nat.le_refl _) (show ObjOk X.prog X.w _ _ _ (.tup ys) from ⟨hz, its, r', IsTup.new _ _⟩)
    exact ⟨.ref h'.objs.size, _, I2, rfl, q _ (I1.hok.fresh (Nat.le_refl _))⟩
  · obtain ⟨its, r', pl, hz⟩ := I.tuple hq
    exact call_tuple_same pl ⟨.ref p, H, I, rfl, q⟩

/-! ### the call of a builtin's method: o.m(..) -/
/-- the value is of that builtin type -/
def tyV (K : PySem.W.Frag) (T : String) (x : V) (H : Hp) : Prop := match x with
  | .str _ => T = "str"
  | .int _ => T = "int"
  | .ref p => (T = "list" ∧ ∃ xs, SqL K H p xs) ∨ (T = "tuple" ∧ ∃ o, K.lookup p = some o ∧ o.cls = .type "tuple" ∧ o.dict = none) ∨
      (T = "dict" ∧ ((∃ kvs, H p = some (.dK kvs)) ∨ ∃ kvs, H p = some (.dT kvs))) ∨ (T = "set" ∧ ∃ S n, H p = some (.set S n))
  | _ => False
theorem tyV_is {pins : List (Addr × Obj)} {σ : St} {H : Hp} {s : Shared} {T : String} {x : V} {v : Value} (I : Inv X pins σ H s) (r : RelV x v) (ty : tyV X.K T x H) :
    s.TypeIs v T ∧ ∀ a, v = .ref a → ∃ ob, s.heap.get? a = some ob ∧ ob.dict = none := by
  cases x with
  | str z =>
    obtain ⟨t, rfl⟩ := r
    cases (show T = "str" from ty)
    exact ⟨typeIs_str s z t, fun _ e => nomatch e⟩
  | int i =>
    obtain ⟨t, rfl⟩ := r
    cases (show T = "int" from ty)
    exact ⟨typeIs_int s i t, fun _ e => nomatch e⟩
  | ref p =>
    cases r
    rcases ty with ⟨rfl, xs, hq⟩ | ⟨rfl, o, hk, hc, hd⟩ | ⟨rfl, hk⟩ | ⟨rfl, S, n, hk⟩
    · obtain ⟨its, _, pl, _⟩ := I.list hq
      refine ⟨pl.isList.typeIs, fun a e => ?_⟩
      cases e
      obtain ⟨o, n, e, c, hd, _⟩ := pl
      exact ⟨o, e, hd⟩
    · refine ⟨⟨o, I.kIn p o hk, hc⟩, fun a e => ?_⟩
      cases e
      exact ⟨o, I.kIn _ o hk, hd⟩
    · have z : ∃ o, s.heap.get? p = some o ∧ o.ExactDict := by
        rcases hk with ⟨kvs, hk⟩ | ⟨kvs, hk⟩
        · obtain ⟨_, _, _, _, o, _, _, e, ex, _⟩ := I.hok p _ hk
          exact ⟨o, e, ex⟩
        · obtain ⟨_, _, _, _, o, _, _, e, ex, _⟩ := I.hok p _ hk
          exact ⟨o, e, ex⟩
      obtain ⟨o, e, ex⟩ := z
      refine ⟨⟨o, e, ex.1⟩, fun a e2 => ?_⟩
      cases e2
      exact ⟨o, e, ex.2.1⟩
    · obtain ⟨o, _, _, _, e, ex, _⟩ := I.hok p _ hk
      refine ⟨⟨o, e, ex.1⟩, fun a e2 => ?_⟩
      cases e2
      exact ⟨o, e, ex.2.1⟩
  | _ => exact False.elim ty
def tBM0 (K : PySem.W.Frag) (T : String) (r : V → List V → Hp → VK → Prop) (to : TE) : TE := fun σ H Q => to σ H fun x H1 => tyV K T x H1 ∧ r x [] H1 Q
def tBM (K : PySem.W.Frag) (T : String) (r : V → List V → Hp → VK → Prop) (to : TE) (t : TA) : TE := fun σ H Q => to σ H fun x H1 => tyV K T x H1 ∧ t σ H1 fun xs H2 => r x xs H2 Q
variable {o e : Expr} {es : List Expr} {to : TE} {t : TA} {name : Str} {apos cpos : Pos} {T id : String} {r : V → List V → Hp → VK → Prop}
theorem pe_bm (pa : PlainAttrs T) (slot : Slot T name id) (hty : typeOf (.builtin id) = pure (.type "method_descriptor")) (hm : MtR X id r) (ho : PE X o to) (ha : PA X (e :: es) t)
    (hbase : attributeBase o name X.env (eval o X.env) = eval o X.env := by rfl)
    (hfew : ((backTo cpos (starEach (e :: es) X.env)).all (fun x => !x.1) && (backToKw cpos (keywordEach [] X.env)).all (fun x => x.1.isSome)
      && decide ((e :: es).length + ([] : List Keyword).length + (if ([] : List Keyword).isEmpty then 0 else 1) < 30)) = true := by rfl)
    (hline : (apos.endLine == cpos.line) = true := by rfl) (hs : starEach (e :: es) X.env = (false, eval e X.env) :: starEach es X.env := by rfl) (hplain : (backTo cpos (starEach es X.env)).any (·.1) = false := by rfl) :
    PE X (.Call (.Attribute o name apos) (e :: es) [] cpos) (tBM X.K T r to t) := by
  intro pins s σ H Q I h
  refine wpAny_Call_method_late hbase hfew hline rfl (thn (ho pins s σ H _ I h) fun v s1 ⟨x, H1, I1, r1, ty, q1⟩ => ?_)
  obtain ⟨h1, h2⟩ := tyV_is I1 r1 ty
  refine ⟨T, id, pa, slot, hty, h1, h2, ?_⟩
  have hA := ha cpos pins s1 σ H1 _ I1 q1
  rw [hs] at hA ⊢
  refine Calls.callWith_builtin (by show (false || (backTo cpos (starEach es X.env)).any (·.1)) = false; rw [hplain] <;> rfl) (Calls.evalArgs_plain ?_)
  exact thn hA fun us s2 ⟨vs, H2, I2, r2, q2⟩ => hm pins s2 σ H2 x vs v us Q I2 r1 r2 q2
/- xs.append(e), list.index on a module's tuple .. are MtR facts of 06m -/
end
end L2

namespace L2
open PySem PySem.Spec PyProof.Rows

def MtM (X : Cx) (id : String) (r : V → List V → Hp → VK → Prop) : Prop :=
  ∀ (pins : List (Addr × Obj)) (s : Shared) (σ : St) (H : Hp) (x : V) (xs : List V) (v : Value) (us : List Value) (Q : VK), Inv X pins σ H s → RelV x v → Vals xs us → r x xs H Q →
    wpAny (model X.prog X.w) X.A (call (.builtin id) (v :: us)) (EP X pins σ Q) X.xe s

/-! ### lists of values -/
theorem Vals.one : ∀ {x : V} {us : List Value}, Vals [x] us → ∃ u, us = [u] ∧ RelV x u
  | _, _, .cons r .nil => ⟨_, rfl, r⟩
theorem Vals.two : ∀ {x y : V} {us : List Value}, Vals [x, y] us → ∃ u v, us = [u, v] ∧ RelV x u ∧ RelV y v
  | _, _, _, .cons r (.cons q .nil) => ⟨_, _, rfl, r, q⟩

section
variable {X : Cx} {pins : List (Addr × Obj)} {σ : St} {H : Hp} {s : Shared} {l b : Addr} {xs ys zs : List V}

/-! ### the two steps: a tracked list is rewritten, a new list is laid -/
theorem Inv.lset {its its' : List Value} {n : Nat} {f : Array Value → Array Value} {t' : Nat} (I : Inv X pins σ H s) (hH : H l = some (.lst xs))
    (e : s.heap.get? l = some { cls := .type "list", data := .seq its.toArray n }) (hf : f its.toArray = its'.toArray) (hv : Vals ys its') (hz : ys.length ≤ sizeLine) :
    Inv X pins σ (upd H l (.lst ys)) { s with heap := s.heap.update l (Obj.mapSeq f), toks := t' } := by
  have q := PySem.IsL.update e f
  rw [hf] at q
  refine I.write (x := l) (e := l) (by rw [hH]; exact trivial) (.inl rfl) (fun b' u hb hu => (Heap.get?_update_other s.heap (Obj.mapSeq f) (Ne.symm hb)).trans hu) ⟨_, q⟩ ?_
  exact ⟨hz, its', _, hv, q⟩
theorem Inv.lnew {its : List Value} {t' : Nat} (I : Inv X pins σ H s) (hv : Vals ys its) (hz : ys.length ≤ sizeLine) :
    Inv X pins σ (upd H s.heap.objs.size (.lst ys)) { s with heap := s.heap.push { cls := .type "list", data := .seq its.toArray }, toks := t' } :=
  I.laid (fun _ _ q => Heap.get?_push_of_some _ q) (Nat.le_refl _) ⟨hz, its, 0, hv, Heap.get?_push_size _ rfl⟩
theorem Inv.fresh (I : Inv X pins σ H s) : H s.heap.objs.size = none := I.hok.fresh (Nat.le_refl _)
theorem Inv.lstM (I : Inv X pins σ H s) (hH : H l = some (.lst xs)) : xs.length ≤ sizeLine ∧ ∃ (its : List Value) (n : Nat), Vals xs its ∧ xs.length = its.length ∧ s.heap.get? l = some { cls := .type "list", data := .seq its.toArray n } := by
  obtain ⟨z, its, n, r, e⟩ := I.hok l _ hH
  exact ⟨z, its, n, r, r.length, e⟩

theorem notLongL {n : Nat} (h : n ≤ sizeLine) : Builtin.List.listTooLong n = false := by
  unfold Builtin.List.listTooLong
  exact decide_eq_false (by omega)
end

section
variable {X : Cx}

/-! ### methods -/
def rAppend : V → List V → Hp → VK → Prop := fun x vs H Q => ∃ l xs y, x = .ref l ∧ vs = [y] ∧ H l = some (.lst xs) ∧ xs.length < sizeLine ∧ Q .non (upd H l (.lst (xs ++ [y])))
theorem mt_append : MtM X "list.append" rAppend := by
  intro pins s σ H x vs v us Q I rx rv h
  obtain ⟨l, xs, y, rfl, rfl, hH, hz, q⟩ := h
  cases rx
  obtain ⟨u, rfl, ru⟩ := rv.one
  obtain ⟨z, its, n, r, hl, e⟩ := I.lstM hH
  refine call_meets F.slot_list_append ⟨_, e, rfl⟩ F.entry_list_append (F.args_list_append_2 _ _) (PySem.list_append l its.toArray n u (by rw [List.size_toArray]; omega)) ⟨e, ?_⟩
  refine ⟨.non, _, I.lset (its' := its ++ [u]) hH e (by simp) (r.append (.cons ru .nil)) ?_, rfl, q⟩
  rw [List.length_append, List.length_singleton]
  omega

def rExtend : V → List V → Hp → VK → Prop := fun x vs H Q => ∃ l b xs zs, x = .ref l ∧ vs = [.ref b] ∧ H l = some (.lst xs) ∧ H b = some (.lst zs) ∧ xs.length + zs.length ≤ sizeLine ∧ Q .non (upd H l (.lst (xs ++ zs)))
theorem mt_extend : MtM X "list.extend" rExtend := by
  intro pins s σ H x vs v us Q I rx rv h
  obtain ⟨l, b, xs, zs, rfl, rfl, hH, hB, hz, q⟩ := h
  cases rx
  obtain ⟨u, rfl, ru⟩ := rv.one
  cases ru
  obtain ⟨z, its, n, r, hl, e⟩ := I.lstM hH
  obtain ⟨z2, its2, n2, r2, hl2, e2⟩ := I.lstM hB
  have hsz : its.toArray.size + its2.toArray.size ≤ sizeLine := by rw [List.size_toArray, List.size_toArray]; omega
  have hlong : ¬ (!its.toArray.isEmpty && Builtin.List.listTooLong (its.toArray.size + its2.toArray.size)) = true := by
    rw [notLongL hsz, Bool.and_false]
    exact Bool.false_ne_true
  refine call_meets F.slot_list_extend ⟨_, e, rfl⟩ F.entry_list_extend (F.args_list_extend_2 _ _)
    (AutoSeq1.list_extend_list_list_0 l its.toArray n b its2.toArray n2 hlong (by rw [List.size_toArray]; omega) (by omega)) ⟨e, e2, ?_⟩
  refine ⟨.non, _, I.lset (its' := its ++ its2) hH e (by simp) (r.append r2) ?_, rfl, q⟩
  rw [List.length_append]
  omega

def rPop : V → List V → Hp → VK → Prop := fun x vs H Q => ∃ l xs y, x = .ref l ∧ vs = [] ∧ H l = some (.lst xs) ∧ xs[xs.length - 1]? = some y ∧ Q y (upd H l (.lst xs.dropLast))

def rPopAt : V → List V → Hp → VK → Prop := fun x vs H Q => ∃ l xs i k y, x = .ref l ∧ vs = [.int i] ∧ H l = some (.lst xs) ∧ -(2 ^ 63) ≤ i ∧ i < 2 ^ 63 ∧ seqIndex? i xs.length = some k ∧ xs[k]? = some y ∧ Q y (upd H l (.lst (xs.eraseIdx k)))

def rReverse : V → List V → Hp → VK → Prop := fun x vs H Q => ∃ l xs, x = .ref l ∧ vs = [] ∧ H l = some (.lst xs) ∧ Q .non (upd H l (.lst xs.reverse))

def rClear : V → List V → Hp → VK → Prop := fun x vs H Q => ∃ l xs, x = .ref l ∧ vs = [] ∧ H l = some (.lst xs) ∧ Q .non (upd H l (.lst []))

/-! ### list + list, list += list, list * int -/
def rCat : R2 := fun x y H Q => ∃ l b xs zs, x = .ref l ∧ y = .ref b ∧ H l = some (.lst xs) ∧ H b = some (.lst zs) ∧ xs.length + zs.length ≤ sizeLine ∧ ∀ p, H p = none → Q (.ref p) (upd H p (.lst (xs ++ zs)))
/-- a list times an int (a negative one is nothing) -/
def rRep : R2 := fun x y H Q => ∃ l k xs, x = .ref l ∧ y = .int k ∧ H l = some (.lst xs) ∧ -(2 ^ 63) ≤ k ∧ k < 2 ^ 63 ∧ xs.length * k.toNat ≤ sizeLine ∧
  ∀ p, H p = none → Q (.ref p) (upd H p (.lst (List.replicate k.toNat xs).flatten))

/-! ### del xs[i] -/
end

/-! ### xs[a:b] = ys -/
section
variable {prog : Program} {w : World} {A : Around} {E : Value → Shared → Prop} {s : Shared}
set_option maxRecDepth 100000 in
end

section
variable {X : Cx}
end
end L2

namespace L2
open PySem PySem.Spec PyProof.Rows

/-! ### lists of pairs as tables -/
section
variable {κ : Type} [DecidableEq κ]
def valV (kvs : List (κ × V)) (k : κ) : Option V := (kvs.find? fun kv => decide (kv.1 = k)).map (·.2)
/-- in its place, or at the end -/
def putK (kvs : List (κ × V)) (k : κ) (v : V) : List (κ × V) :=
  if (kvs.any fun kv => decide (kv.1 = k)) = true then kvs.map (fun kv => if kv.1 = k then (kv.1, v) else kv) else kvs ++ [(k, v)]
def dropK (kvs : List (κ × V)) (k : κ) : List (κ × V) := kvs.filter fun kv => decide (kv.1 ≠ k)

theorem valV_pos {p : κ × V} {r : List (κ × V)} {k : κ} (e : p.1 = k) : valV (p :: r) k = some p.2 := by simp [valV, List.find?_cons, e]
theorem valV_neg {p : κ × V} {r : List (κ × V)} {k : κ} (e : ¬ p.1 = k) : valV (p :: r) k = valV r k := by simp [valV, List.find?_cons, e]
theorem valV_any (k : κ) : ∀ kvs : List (κ × V), (kvs.any fun kv => decide (kv.1 = k)) = (valV kvs k).isSome
  | [] => rfl
  | p :: r => by
    rw [List.any_cons]
    by_cases e : p.1 = k
    · simp only [valV_pos e, decide_eq_true e, Bool.true_or, Option.isSome_some]
    · rw [valV_neg e, decide_eq_false e, Bool.false_or]; exact valV_any k r

theorem RelO.isSome_eq {o : Option V} {u : Option Value} (r : RelO o u) : o.isSome = u.isSome := by
  cases o with
  | none => cases u with
    | none => rfl
    | some _ => exact (show False from r).elim
  | some _ => cases u with
    | none => exact (show False from r).elim
    | some _ => rfl
theorem RelO.getD {o : Option V} {u : Option Value} {d : V} {d' : Value} (r : RelO o u) (rd : RelV d d') : RelV (o.getD d) (u.getD d') := by
  cases o with
  | none => cases u with
    | none => exact rd
    | some _ => exact (show False from r).elim
  | some _ => cases u with
    | none => exact (show False from r).elim
    | some _ => exact r

theorem KV.any {kvs : List (κ × V)} {vs : List (κ × Value)} (r : KV kvs vs) (k : κ) : (kvs.any fun kv => decide (kv.1 = k)) = vs.any fun kv => decide (kv.1 = k) := by
  unfold KV at r
  induction r with
  | nil => rfl
  | cons h t ih => rw [List.any_cons, List.any_cons, ih, h.1]
theorem KV.repl {kvs : List (κ × V)} {vs : List (κ × Value)} (r : KV kvs vs) (k : κ) {y : V} {u : Value} (ry : RelV y u) :
    KV (kvs.map fun kv => if kv.1 = k then (kv.1, y) else kv) (vs.map fun kv => if kv.1 = k then (kv.1, u) else kv) := by
  unfold KV at r ⊢
  induction r with
  | nil => exact .nil
  | @cons p q ps qs h t ih =>
    rw [List.map_cons, List.map_cons]
    refine .cons ?_ ih
    obtain ⟨h1, h2⟩ := h
    by_cases e : p.1 = k
    · rw [if_pos e, if_pos (h1.symm.trans e)]; exact ⟨h1, ry⟩
    · rw [if_neg e, if_neg (fun z => e (h1.trans z))]; exact ⟨h1, h2⟩
theorem KV.put {kvs : List (κ × V)} {vs : List (κ × Value)} (r : KV kvs vs) (k : κ) {y : V} {u : Value} (ry : RelV y u) : KV (putK kvs k y) (stored vs k u) := by
  unfold putK stored
  rw [r.any k]
  by_cases e : (vs.any fun kv => decide (kv.1 = k)) = true
  · rw [if_pos e, if_pos e]; exact r.repl k ry
  · rw [if_neg e, if_neg e]; exact Paired.snoc r ⟨rfl, ry⟩
theorem KV.length {kvs : List (κ × V)} {vs : List (κ × Value)} (r : KV kvs vs) : kvs.length = vs.length := Paired.length r
end


/-! ### a tracked dict, its keys ints and texts or tuples of these -/

/-- raw entries of a dict with tuple keys -/
abbrev KT (H : Hp) : List (List Key × V) → List (List Key × Addr × Value) → Prop := Paired fun p q => p.1 = q.1 ∧ H q.2.1 = some (.tup (p.1.map kV)) ∧ RelV p.2 q.2.2
theorem KT.val {H : Hp} {kvs : List (List Key × V)} {xs : List (List Key × Addr × Value)} (r : KT H kvs xs) (k : List Key) : RelO (valV kvs k) ((atKey xs k).map (·.2)) := by
  induction r with
  | nil => exact True.intro
  | @cons p q ps qs h t ih =>
    obtain ⟨h1, _, h2⟩ := h
    by_cases e : p.1 = k
    · have e' : q.1 = k := h1.symm.trans e
      have b : atKey (q :: qs) k = some q.2 := by simp [atKey, List.find?_cons, e']
      rw [valV_pos e, b]; exact h2
    · have e' : ¬ q.1 = k := fun z => e (h1.trans z)
      have b : atKey (q :: qs) k = atKey qs k := by simp [atKey, List.find?_cons, e']
      rw [valV_neg e, b]; exact ih
theorem KT.repl {H : Hp} {kvs : List (List Key × V)} {xs : List (List Key × Addr × Value)} (r : KT H kvs xs) (k : List Key) {y : V} {u : Value} (ry : RelV y u) :
    KT H (kvs.map fun kv => if kv.1 = k then (kv.1, y) else kv) (xs.map (putAt k u)) := by
  induction r with
  | nil => exact .nil
  | @cons p q ps qs h t ih =>
    rw [List.map_cons, List.map_cons]
    refine .cons ?_ ih
    obtain ⟨h1, h2, h3⟩ := h
    unfold putAt
    by_cases e : p.1 = k
    · rw [if_pos e, if_pos (h1.symm.trans e)]; exact ⟨h1, h2, ry⟩
    · rw [if_neg e, if_neg (fun z => e (h1.trans z))]; exact ⟨h1, h2, h3⟩
theorem KT.put {H : Hp} {kvs : List (List Key × V)} {xs : List (List Key × Addr × Value)} (r : KT H kvs xs) (k : List Key) {b : Addr} {y : V} {u : Value} (hb : H b = some (.tup (k.map kV))) (ry : RelV y u) :
    KT H (putK kvs k y) (storedH xs k b u) := by
  have e : (kvs.any fun kv => decide (kv.1 = k)) = (atKey xs k).isSome := by
    rw [valV_any, (r.val k).isSome_eq, Option.isSome_map]
  unfold putK storedH
  rw [e]
  by_cases q : (atKey xs k).isSome = true
  · rw [if_pos q, if_pos q]; exact r.repl k ry
  · rw [if_neg q, if_neg q]; exact Paired.snoc r ⟨rfl, hb, ry⟩

section
variable {P : Program} {w : World} {H : Hp} {h : Heap} {a : Addr}
end

/-- what the dict at a holds at the key y -/
def DGet (H : Hp) (a : Addr) (y : V) (r : Option V) : Prop :=
  (∃ kvs k, Rd H a (.dK kvs) ∧ y = kV k ∧ r = valV kvs k) ∨ ∃ kvs k b, Rd H a (.dT kvs) ∧ y = .ref b ∧ H b = some (.tup (k.map kV)) ∧ r = valV kvs k
/-- the heap behind a[y] = v -/
def DPut (H : Hp) (a : Addr) (y v : V) (H' : Hp) : Prop :=
  (∃ kvs k, H a = some (.dK kvs) ∧ y = kV k ∧ kvs.length < sizeLine ∧ H' = upd H a (.dK (putK kvs k v))) ∨
  ∃ kvs k b, H a = some (.dT kvs) ∧ y = .ref b ∧ H b = some (.tup (k.map kV)) ∧ kvs.length < sizeLine ∧ H' = upd H a (.dT (putK kvs k v))
theorem DGet.k {H : Hp} {a : Addr} {kvs : List (Key × V)} {k : Key} (e : H a = some (.dK kvs)) : DGet H a (kV k) (valV kvs k) := .inl ⟨kvs, k, .inl e, rfl, rfl⟩
theorem DGet.t {H : Hp} {a b : Addr} {kvs : List (List Key × V)} {k : List Key} (e : H a = some (.dT kvs)) (eb : H b = some (.tup (k.map kV))) : DGet H a (.ref b) (valV kvs k) := .inr ⟨kvs, k, b, .inl e, rfl, eb, rfl⟩
theorem DPut.k {H : Hp} {a : Addr} {kvs : List (Key × V)} {k : Key} {v : V} (e : H a = some (.dK kvs)) (hl : kvs.length < sizeLine) : DPut H a (kV k) v (upd H a (.dK (putK kvs k v))) := .inl ⟨kvs, k, e, rfl, hl, rfl⟩
theorem DPut.t {H : Hp} {a b : Addr} {kvs : List (List Key × V)} {k : List Key} {v : V} (e : H a = some (.dT kvs)) (eb : H b = some (.tup (k.map kV))) (hl : kvs.length < sizeLine) :
    DPut H a (.ref b) v (upd H a (.dT (putK kvs k v))) := .inr ⟨kvs, k, b, e, rfl, eb, hl, rfl⟩


section
variable {X : Cx} {pins : List (Addr × Obj)} {σ : St} {H : Hp} {s : Shared} {a : Addr} {y v : V} {u r : Value} {o : Option V} {A : Around} {E : Value → Shared → Prop}


end

section
variable {X : Cx} {pins : List (Addr × Obj)} {σ : St} {H : Hp} {s : Shared} {a : Addr} {kvs : List (Key × V)} {k : Key} {u : Value} {A : Around} {E : Value → Shared → Prop}
end


/-! ### readings and rules -/
/-- the element of a subscription, not a slice -/
def NoSl (i : Expr) : Prop := ∀ ov iv, subscripted i false ov iv = operate [ov, iv] (getItem ov iv)


/-- d[y] -/
def tDGet (td ty : TE) : TE := fun σ H Q => td σ H fun x H1 => ty σ H1 fun y H2 => ∃ a v, x = .ref a ∧ DGet H2 a y (some v) ∧ Q v H2
/-- y in d, y not in d -/
def tDIn (ty td : TE) : TE := fun σ H Q => ty σ H fun y H1 => td σ H1 fun x H2 => ∃ a o, x = .ref a ∧ DGet H2 a y o ∧ Q (.bl o.isSome) H2
def tDNotIn (ty td : TE) : TE := fun σ H Q => ty σ H fun y H1 => td σ H1 fun x H2 => ∃ a o, x = .ref a ∧ DGet H2 a y o ∧ Q (.bl (!o.isSome)) H2
/-- d[y] = v -/
def sDPut (td ty tv : TE) : TS := fun D σ H => tv σ H fun v H1 => td σ H1 fun x H2 => ty σ H2 fun y H3 => ∃ a H4, x = .ref a ∧ DPut H3 a y v H4 ∧ D.nx σ H4
/-- d[y] op= v -/
def sDAug (td ty tv : TE) (rd : V → V → Hp → VK → Prop) : TS := fun D σ H => td σ H fun x H1 => ty σ H1 fun y H2 => ∃ a v, x = .ref a ∧ DGet H2 a y (some v) ∧
  tv σ H2 fun y2 H3 => rd v y2 H3 fun z H4 => ∃ H5, DPut H4 a y z H5 ∧ D.nx σ H5
/-- del d[y] -/
def sDDel (td ty : TE) : TS := fun D σ H => td σ H fun x H1 => ty σ H1 fun y H2 => ∃ a kvs k, x = .ref a ∧ H2 a = some (.dK kvs) ∧ y = kV k ∧ (valV kvs k).isSome = true ∧ D.nx σ (upd H2 a (.dK (dropK kvs k)))

section
variable {X : Cx} {o i e value : Expr} {pos pos' tpos : Pos} {td ty tv : TE}
end


/-! ### displays -/
/-- {}, to be a dict of the kind that is wanted -/
def tDNewK : TE := fun _ H Q => ∀ p, H p = none → Q (.ref p) (upd H p (.dK []))
def tDNewT : TE := fun _ H Q => ∀ p, H p = none → Q (.ref p) (upd H p (.dT []))
section
variable {X : Cx} {pos : Pos}
end

/-- the pairs of a display, from the left -/
def tPairs : List (TE × TE) → St → Hp → (List (V × V) → Hp → Prop) → Prop
  | [], _, H, Q => Q [] H
  | (tk, tv) :: r, σ, H, Q => tk σ H fun x H1 => tv σ H1 fun y H2 => tPairs r σ H2 fun ps H3 => Q ((x, y) :: ps) H3
abbrev VV : List (V × V) → List (Value × Value) → Prop := Paired fun p q => RelV p.1 q.1 ∧ RelV p.2 q.2
def PPs (X : Cx) (pos : Pos) (keys : List (Option Expr)) (values : List Expr) (trs : List (TE × TE)) : Prop :=
  ∀ (pins : List (Addr × Obj)) (s : Shared) (σ : St) (H : Hp) (Q : List (V × V) → Hp → Prop), Inv X pins σ H s → tPairs trs σ H Q →
    wpAny (model X.prog X.w) X.A (evalPairs (pairTrees keys values X.env pos)) (fun vs s' => ∃ ps H', Inv X pins σ H' s' ∧ VV ps vs ∧ Q ps H') X.xe s

def mergeK (kvs more : List (Key × V)) : List (Key × V) := more.foldl (fun acc kv => putK acc kv.1 kv.2) kvs
/-- {k: v, ..} with keys ints and texts; the new dict stands empty while the pairs are made -/
def tDisp (trs : List (TE × TE)) : TE := fun σ H Q => ∀ p, H p = none → tPairs trs σ (upd H p (.dK [])) fun ps H2 => H2 p = some (.dK []) ∧ ∃ kvs : List (Key × V), ps = kvs.map (fun kv => (kV kv.1, kv.2)) ∧ kvs.length ≤ 15 ∧ Q (.ref p) (upd H2 p (.dK (mergeK [] kvs)))


/-! ### methods -/
/-- a method call o.m(e) of a built-in, with one argument: what must be seen of the text -/
structure M1 (X : Cx) (o : Expr) (m : Str) (apos : Pos) (e : Expr) (cpos : Pos) : Prop where
  base : attributeBase o m X.env (eval o X.env) = eval o X.env
  few : ((backTo cpos (starEach [e] X.env)).all (fun x => !x.1) && (backToKw cpos (keywordEach [] X.env)).all (fun x => x.1.isSome)
    && decide (([e] : List Expr).length + ([] : List Keyword).length + (if ([] : List Keyword).isEmpty then 0 else 1) < 30)) = true
  line : (apos.endLine == cpos.line) = true
  trees : backTo cpos (starEach [e] X.env) = [(false, eval e X.env)]
structure M2 (X : Cx) (o : Expr) (m : Str) (apos : Pos) (e f : Expr) (cpos : Pos) : Prop where
  base : attributeBase o m X.env (eval o X.env) = eval o X.env
  few : ((backTo cpos (starEach [e, f] X.env)).all (fun x => !x.1) && (backToKw cpos (keywordEach [] X.env)).all (fun x => x.1.isSome)
    && decide (([e, f] : List Expr).length + ([] : List Keyword).length + (if ([] : List Keyword).isEmpty then 0 else 1) < 30)) = true
  line : (apos.endLine == cpos.line) = true
  trees : backTo cpos (starEach [e, f] X.env) = [(false, eval e X.env), (false, eval f X.env)]

/-- a is a dict, whatever its keys -/
def IsD (H : Hp) (a : Addr) : Prop := (∃ kvs, Rd H a (.dK kvs)) ∨ ∃ kvs, Rd H a (.dT kvs)

section
variable {X : Cx} {pins : List (Addr × Obj)} {σ : St} {H : Hp} {s : Shared} {a : Addr} {y d : V} {u r : Value} {o : Option V} {A : Around} {E : Value → Shared → Prop}
end

def tDGet1 (td ty : TE) : TE := fun σ H Q => td σ H fun x H1 => ∃ a, x = .ref a ∧ IsD H1 a ∧ ty σ H1 fun y H2 => ∃ o, DGet H2 a y o ∧ Q (o.getD .non) H2
def tDGet2 (td ty tx : TE) : TE := fun σ H Q => td σ H fun x H1 => ∃ a, x = .ref a ∧ IsD H1 a ∧ ty σ H1 fun y H2 => tx σ H2 fun z H3 => ∃ o, DGet H3 a y o ∧ Q (o.getD z) H3
/-- d.pop(k): there; d.pop(k, x): there or not -/
def tDPop1 (td ty : TE) : TE := fun σ H Q => td σ H fun x H1 => ∃ a, x = .ref a ∧ IsD H1 a ∧ ty σ H1 fun y H2 => ∃ kvs k v, H2 a = some (.dK kvs) ∧ y = kV k ∧ valV kvs k = some v ∧ Q v (upd H2 a (.dK (dropK kvs k)))
def tDPop2 (td ty tx : TE) : TE := fun σ H Q => td σ H fun x H1 => ∃ a, x = .ref a ∧ IsD H1 a ∧ ty σ H1 fun y H2 => tx σ H2 fun z H3 => ∃ kvs k, H3 a = some (.dK kvs) ∧ y = kV k ∧
  (∀ v, valV kvs k = some v → Q v (upd H3 a (.dK (dropK kvs k)))) ∧ (valV kvs k = none → Q z H3)
section
variable {X : Cx} {o e f : Expr} {apos cpos : Pos} {td ty tx : TE}
end

/-! ### dict(d): a copy -/
section
variable {X : Cx} {pins : List (Addr × Obj)} {σ : St} {H : Hp} {s : Shared} {a : Addr} {kvs : List (Key × V)} {A : Around} {E : Value → Shared → Prop}
end


section
variable {X : Cx} {pins : List (Addr × Obj)} {σ : St} {H : Hp} {s : Shared} {a : Addr} {y : V} {u : Value} {A : Around} {E : Value → Shared → Prop}
end
end L2

namespace Att
open PySem PySem.W PySem.Calls PyProof.Rows

/-! ### the script -/
theorem ints_of_wellAll {P : Params} {h : Heap} : ∀ (ns : List Int) (vs : List Value), WellAll P h vs (ns.map WData.int) → IntsAre vs ns := by
  intro ns
  induction ns with
  | nil =>
    intro vs w
    rw [List.map_nil] at w
    cases w
    exact .nil
  | cons n ns ih =>
    intro vs w
    rw [List.map_cons] at w
    cases w with
    | cons a b =>
      cases a
      exact .cons _ _ (ih _ b)

theorem script_of {l : OpenLaw} {n : Nat} (hn : l.most = some n) {P : Params} {h : Heap} {args : List WData} {vals : List Value}
    (hpre : l.row.toRowW.claim.pre args = true) (hwl : WellAll P h vals args) :
    ∃ a vs ns, vals = [Value.ref a] ∧ args = [WData.list (ns.map WData.int)] ∧ h.get? a = some { cls := .type "list", data := .seq vs.toArray } ∧ IntsAre vs ns ∧ ns.length ≤ n := by
  have hsh : WShape.hasAll [] args [.list .int] = true := (pre_splitW hpre).1
  have hc : l.pre.holds [] { args := args } = true := (pre_splitW hpre).2
  obtain ⟨d, r, rfl, h1, h2⟩ := hasAllW_cons hsh
  obtain rfl := hasAllW_nil h2
  obtain ⟨xs, rfl, h3⟩ := hasW_list h1
  obtain ⟨ns, rfl⟩ := items_int h3
  have hlen : ns.length ≤ n := by
    unfold OpenLaw.pre at hc
    have h4 : (WTm.not (.lt (.lit (.int (n : Int))) (.len (.arg 0)))).holds [] { args := [.list (ns.map .int)] } = true := by
      have h4 := (holds_andW hc).1
      rw [hn] at h4
      exact h4
    have h5 := condW_of h4 (w_not (w_lt w_lit (w_len_list (w_arg rfl))))
    rw [List.length_map] at h5
    refine Nat.le_of_not_lt fun q => ?_
    have q' : (n : Int) < ((ns.length : Nat) : Int) := by omega
    first
      | (rw [decide_eq_true q'] at h5; exact absurd h5 (by decide))
      | (simp at h5; omega)
  cases hwl with
  | cons w1 w2 =>
    cases w2
    cases w1 with
    | list ho hall => exact ⟨_, _, ns, rfl, rfl, ho, ints_of_wellAll ns _ hall, hlen⟩

theorem post_true (l : OpenLaw) (args : List WData) : l.row.toRowW.claim.post args (.bool true) args = true :=
  postW_of (r := l.row.toRowW) (X := (true == true))
    (show WShape.has [] (.bool true) .bool = true by first | rfl | decide | simp [WShape.has, WShape.arms, WShape.armsAll])
    (show (WTm.eq .res (.lit (.bool true))).value [] { args := args, res := some (.bool true), after := args } = some (.bool (true == true)) from w_eq_bool (w_res rfl) w_lit) rfl

/-! ### the attachment: holds_open's last premise (the goal 'hc' behind k_head) from a wpAny of the law's body -/

/-- the same from a codeAny of the CALL (for a layer whose function contracts speak of calls) -/
theorem attach_call {l : OpenLaw} {n : Nat} {q : Program} {loose : List Str} {XP : (Str → Option Value) → Heap → Prop} {YP : World → Heap → Prop} {d : DefRec}
    (hn : l.most = some n) (hdf : d.params.defaults = [])
    (call : ∀ (w : World) (s₀ s₁ : Shared) (mg mb : Str → Option Value) (fa : Addr) (o : Obj) (pm cd doc : Value) (a : Addr) (vs : List Value) (ns : List Int),
      Ground q loose [] XP w s₀ mg mb s₁.heap → YP w s₁.heap →
      s₁.heap.get? fa = some o → o.data = .func (docDef d.name d.params d.body d.scope pm cd doc) → s₁.heap.CodeRec cd d.name → mg d.name = some (.ref fa) →
      s₁.heap.get? a = some { cls := .type "list", data := .seq vs.toArray } → IntsAre vs ns → ns.length ≤ n → s₁.gens = #[] →
      codeAny (model l.prog w) callerA (.call (.ref fa) ⟨[.ref a], []⟩) (fun r s' => r = .ok (.ret (.bool true)) ∧ OldK s₁.heap s'.heap ∧ s'.os = s₁.os ∧ AllBare s'.gens) s₁) :
    WalkO q loose XP YP l.row.toRowW d [] (fun f vs => PySem.call f vs) := by
  intro w s₀ s₁ mg mb G Y fa o pm cd doc dV kV ho hd hcd hD hmg hg args vals as hpre hlay hrd hwl hlo
  obtain rfl : dV = .none := Dflts.none hD hdf
  obtain rfl : kV = .none := Dflts.noKw hD
  obtain ⟨a, vs, ns, rfl, rfl, hobj, hints, hlen⟩ := script_of hn hpre hwl
  refine enter_call (codeAny_mono (call w s₀ s₁ mg mb fa o pm cd doc a vs ns G Y ho (fd_plain hd) hcd hmg hobj hints hlen hg) fun r s' hq => ?_)
  obtain ⟨rfl, h2, h3, h4⟩ := hq
  exact ⟨.inl ⟨.bool true, .bool true, [], rfl, fun _ => rfl, .bool true, post_true l _, fun _ => ⟨List.Pairwise.nil, fun _ hm => (nomatch hm)⟩⟩, h2, h3, h4⟩


/-! ### rules over ANY heap (no ledger) from facts about the written part K: the library's own take a ledger (News) for what they write -/
section
variable {prog : Program} {w : World} {A : Around} {E : Value → Shared → Prop} {s : Shared} {K : Frag}





/-! the whole heap as the ledger: makes every rule that writes through a ledger a rule over any heap -/
def noObjs (h : Heap) : Heap := { h with objs := #[] }
def ledger (h : Heap) (L d : Addr) : List (Addr × Obj) := (List.range h.objs.size).filterMap fun a => if a = L ∨ a = d then none else (h.get? a).map fun o => (a, o)

end
end Att

namespace L2
open PySem PySem.Spec PyProof.Rows

theorem vals_ints : ∀ {vs : List Value} {ns : List Int}, IntsAre vs ns → Vals (ns.map V.int) vs
  | _, _, .nil => .nil
  | _, _, .cons n t h => .cons ⟨t, rfl⟩ (vals_ints h)

/-- nothing is tracked but the script, known to the object (or it is an object of the module) -/
def Only (H : Hp) : Prop := ∀ b, H b = none ∨ ∃ o xs, H b = some (.frz o (.lst xs))

/-- THE HEAD: the law's promise, at the heap behind the top. F, the promise of the law's def, may use that base is part of the heap (so K.In base, base.Ns mainGlobals mg stand in Mod) -/
theorem law_call {P : Program} {w : World} {K : PySem.W.Frag} {mg mb : Str → Option Value} {CX : CXT} {k : Nat} {fa a : Addr} {fd : FuncData} {x : Str} {sp : Sp} {s₁ : Shared} {vs : List Value} {ns : List Int}
    (KX : K.In s₁.heap) (hns : s₁.heap.Ns mainGlobals mg) (hb : s₁.heap.Ns builtinsNs mb) (hbb : ∀ x : Str, x ≠ "__name__" → mb x = bootBuiltins x) (hlim : s₁.heap.NoLimit) (hg : s₁.gens = #[])
    (ha : s₁.heap.get? a = some { cls := .type "list", data := .seq vs.toArray }) (hi : IntsAre vs ns) (hl : ns.length ≤ sizeLine) (hr : Room k callerA)
    (F : ∀ base : Heap, K.In base → base.Ns mainGlobals mg → FnOk P w K mg base CX k fa fd [x] sp) (hbind : ∀ (s : Shared) (u : Value), BindsTo s fd ⟨[u], []⟩ [(x, u)])
    (hsp : ∀ H : Hp, Only H → SqL K H a (ns.map V.int) → sp [.ref a] H (fun v _ => v = .bl true) fun _ _ _ => False)
    (hCX : ∀ H e s', CX [] H s₁ (fun _ _ _ => False) e s' → False) :
    codeAny (model P w) callerA (.call (.ref fa) ⟨[.ref a], []⟩) (fun r s' => r = .ok (.ret (.bool true)) ∧ OldK s₁.heap s'.heap ∧ s'.os = s₁.os ∧ AllBare s'.gens) s₁ := by
  have rv := vals_ints hi
  have lenV := hi.length
  -- from an abstract heap in which nothing but the script may be tracked
  have core : ∀ H : Hp, Only H → SqL K H a (ns.map V.int) → HOk P w H s₁.heap → (∀ b, H b ≠ none → b = a) → (H a ≠ none → K.lookup a = none) →
      codeAny (model P w) callerA (.call (.ref fa) ⟨[.ref a], []⟩) (fun r s' => r = .ok (.ret (.bool true)) ∧ OldK s₁.heap s'.heap ∧ s'.os = s₁.os ∧ AllBare s'.gens) s₁ := by
    intro H hO hS hok hA hK
    have base_of : ∀ {b : Addr} {o : Obj}, s₁.heap.get? b = some o → H b = none → (hidT s₁.heap H).get? b = some o := fun e n => hidT_get e n
    have noA : ∀ {b : Addr} {o : Obj} {es : Array DictEntry} {ep : Nat}, s₁.heap.get? b = some o → o.data = .dict es ep → H b = none := fun {b o es ep} e d => by
      cases q : H b with
      | none => rfl
      | some u =>
        have e' : b = a := hA b (by rw [q]; simp)
        subst e'
        rw [ha] at e; cases e
        have d' : Data.seq vs.toArray _ = Data.dict es ep := d
        cases d'
    have nsK : ∀ {b : Addr} {m : Str → Option Value}, s₁.heap.Ns b m → (hidT s₁.heap H).Ns b m := fun {b m} ⟨o, es, ep, e, d, r⟩ => ⟨o, es, ep, base_of e (noA e d), d, r⟩
    have hKb : K.In (hidT s₁.heap H) := fun b o e => base_of (KX b o e) (by
      cases q : H b with
      | none => rfl
      | some u =>
        have e' : b = a := hA b (by rw [q]; simp)
        subst e'
        rw [hK (by rw [q]; simp)] at e; cases e)
    have hM : Mod K mg (hidT s₁.heap H) := ⟨hKb, nsK hns, ⟨mb, nsK hb, hbb⟩, let ⟨mc, h1, h2⟩ := hlim; ⟨mc, nsK h1, h2⟩⟩
    have e0 : Env0 P w K mg (hidT s₁.heap H) callerA [] s₁ H := ⟨rfl, hM, fun b o e => of_hidT e, Nat.le_of_eq (hidT_size _ _), trivial, fun b hb => absurd (show b ∈ ([] : List Addr) from hb) (by simp), hok, .of_eq hg⟩
    refine codeAny_mono ((F _ hKb (nsK hns)).run callerA [] s₁ H ⟨[.ref a], []⟩ [.ref a] [.ref a] _ _ hr e0 (hbind s₁ (.ref a)) (.cons rfl .nil) (hsp H hO hS)) fun r s' h => ?_
    cases r with
    | error e => exact (hCX H e s' h).elim
    | ok fl =>
      cases fl with
      | next => exact False.elim h
      | brk => exact False.elim h
      | cont => exact False.elim h
      | ret u =>
        obtain ⟨v, H', os, bare, un, hok', r', q⟩ := h
        have q' : v = .bl true := q
        subst q'
        obtain rfl : u = Value.bool true := r'
        refine ⟨rfl, OldK.of_keep fun b o e => ?_, os, bare⟩
        cases q : H b with
        | none => exact un.keep b o e q (by intro z; exact absurd (show b ∈ ([] : List Addr) from z) (by simp)) (by simp)
        | some u =>
          rcases hO b with z | ⟨ob, xs, z⟩
          · rw [q] at z; cases z
          · have z2 := un.frzs b ob _ z
            obtain ⟨e1, _⟩ := hok b _ z
            obtain ⟨e2, _⟩ := hok' b _ z2
            rw [e] at e1; cases e1
            exact e2
  cases hk : K.lookup a with
  | some o =>
    -- the script is one of the module's own objects
    have e := KX a o hk
    rw [ha] at e
    cases e
    refine core (fun _ => none) (fun _ => .inl rfl) (.inr ⟨_, vs.toArray, _, hk, rfl, rfl, rfl, by rw [List.size_toArray, lenV]; exact hl, by simpa using rv⟩) (fun b u z => by have z' : (none : Option HO) = some u := z; cases z') (fun b z => absurd rfl z) fun z => absurd rfl z
  | none =>
    refine core (fun b => if b = a then some (.frz { cls := .type "list", data := .seq vs.toArray } (.lst (ns.map V.int))) else none) (fun b => ?_) (.inl (.inr ⟨{ cls := .type "list", data := .seq vs.toArray }, if_pos rfl⟩)) (fun b u z => ?_) (fun b z => ?_) fun _ => hk
    · by_cases hb : b = a
      · exact .inr ⟨_, _, if_pos hb⟩
      · exact .inl (if_neg hb)
    · by_cases hb : b = a
      · have z' := (if_pos hb).symm.trans z
        cases z'
        subst hb
        exact ⟨ha, by rw [List.length_map]; exact hl, vs, _, rv, ha⟩
      · have z' := (if_neg hb).symm.trans z
        cases z'
    · by_cases hb : b = a
      · exact hb
      · exact absurd (if_neg hb) z
end L2

namespace L2
open PySem PySem.Spec PyProof.Rows

abbrev KOf {K : PySem.W.Frag} {h : Heap} (_ : K.In h) : PySem.W.Frag := K

/-- the goal that k_head leaves (case hc), from the law's promise. F gives the function object fd (K's own) once, then the promise over every base -/
theorem walk_of {l : PySem.W.OpenLaw} {n k : Nat} {q : Program} {loose : List Str} {XP : (Str → Option Value) → Heap → Prop} {YP : World → Heap → Prop} {d : DefRec} {K : Params → PySem.W.Frag} {CX : World → CXT} {sp : World → Sp} {x : Str}
    (hn : l.most = some n) (hn2 : n ≤ sizeLine) (hdf : d.params.defaults = []) (hr : Room k callerA)
    (hY : ∀ (w : World) (h : Heap), YP w h → (K w.params).In h)
    (F : ∀ (w : World) (mg : Str → Option Value) (fa : Addr) (h : Heap), (K w.params).In h → h.Ns mainGlobals mg → mg d.name = some (.ref fa) →
      ∃ fd : FuncData, (∀ (s : Shared) (u : Value), BindsTo s fd ⟨[u], []⟩ [(x, u)]) ∧
        ∀ base : Heap, (K w.params).In base → base.Ns mainGlobals mg → FnOk l.prog w (K w.params) mg base (CX w) k fa fd [x] (sp w))
    (hsp : ∀ (w : World) (H : Hp) (a : Addr) (ns : List Int), ns.length ≤ n → Only H → SqL (K w.params) H a (ns.map V.int) → sp w [.ref a] H (fun v _ => v = .bl true) fun _ _ _ => False)
    (hCX : ∀ (w : World) (H : Hp) (s : Shared) (e : Value) (s' : Shared), CX w [] H s (fun _ _ _ => False) e s' → False) :
    PySem.W.WalkO q loose XP YP l.row.toRowW d [] (fun f vs => PySem.call f vs) := by
  refine Att.attach_call hn hdf fun w s₀ s₁ mg mb fa o pm cd doc a vs ns G Y ho hd hcd hmg hobj hints hlen hg => ?_
  have KX := hY w _ Y
  obtain ⟨fd, hb, hF⟩ := F w mg fa _ KX G.T.g hmg
  exact law_call KX G.T.g G.T.b G.T.builtins G.T.nolimit hg hobj hints (Nat.le_trans hlen hn2) hr hF hb (fun H hO hS => hsp w H a ns hlen hO hS) fun H e s' => hCX w H s₁ e s'
end L2


/-! SHORT WORDS over the layer: a def of the text, its body, what a loop and a test want. -/
namespace L2
open PySem PySem.Spec PyProof.Rows

/-! ### the text by places -/
/-- the j-th statement of a class's body -/
def inClass (s : Stmt) (j : Nat) : Stmt := match s with
  | .ClassDef _ _ _ body _ _ _ _ _ _ _ => body.getD j (.Pass ⟨0, 0, 0, 0⟩)
  | _ => .Pass ⟨0, 0, 0, 0⟩
def defArgs (s : Stmt) : Arguments := match s with
  | .FunctionDef _ a _ _ _ _ _ _ _ _ => a
  | _ => { posonlyargs := [], args := [], vararg := none, kwonlyargs := [], kw_defaults := [], kwarg := none, defaults := [] }
def defBody (s : Stmt) : List Stmt := match s with
  | .FunctionDef _ _ b _ _ _ _ _ _ _ => b
  | _ => []
def defScope (s : Stmt) : Scope := match s with
  | .FunctionDef _ _ _ _ _ _ sc _ _ _ => sc
  | _ => { kind := .function, names := [], isGenerator := false, isCoroutine := false }

/-! ### no exception leaves a def -/
abbrev CX0 : CXT := fun _ _ _ _ _ _ => False
abbrev E0 : XK := fun _ _ _ => False
theorem pass0 {X : Cx} : Passes CX0 X E0 := fun _ _ _ _ _ _ _ h => h.elim

/-! ### a def (or method) of the text as it stands behind the top -/
structure Fun (K : PySem.W.Frag) (x qual : Str) (st : Stmt) (f : Addr) (fd : FuncData) : Prop where
  ex : ∃ (oc : Value) (od : Option Addr) (kV doc pm : Value) (an : Option Addr) (cdv ct : Value) (osl : Array (Option Value)),
    fd = PySem.W.fnOf x qual (defArgs st) (defBody st) (defScope st) .none kV doc pm an cdv ct ∧ K.lookup f = some ⟨oc, od, .func fd, osl⟩ ∧ PySem.W.codeIn K cdv qual = true
  kp : PySem.W.keepIn K (.ref f) = true
section
variable {P : Program} {w : World} {K : PySem.W.Frag} {mg : Str → Option Value} {base : Heap}
/-- THE RULE for a def: its body as a term of rules, and the reading of that term -/
theorem Fun.ok {x qual : Str} {st : Stmt} {f : Addr} {fd : FuncData} {N ps : List Str} {k : Nat} {sp : Sp} (F : Fun K x qual st f fd) (S : FnScope N ps (defScope st)) (len : ∀ vs H Q E, sp vs H Q E → vs.length = ps.length)
    (hbody : ∀ (cdv : Value) (A : Around) (outer : List Env) (s : Shared) (H : Hp) (vs : List V) (Q : VK) (E : XK), Room k (A.deeper (envOfC qual (defScope st) s.heap.objs.size f cdv)) → sp vs H Q E →
      ∃ t, PSs (cxOf CX0 P w K mg base N qual (defScope st) f cdv A outer s H E).nox (defBody st) t ∧ t { nx := fun _ H' => Q .non H', rt := Q } (start N vs) H) : FnOk P w K mg base CX0 (k + 1) f fd ps sp := by
  obtain ⟨oc, od, kV, doc, pm, an, cdv, ct, osl, rfl, lk, hcd⟩ := F.ex
  refine fn_of lk hcd S len fun A outer s H vs Q E hr hsp => ?_
  obtain ⟨t, h, q⟩ := hbody cdv A outer s H vs Q E hr hsp
  exact ⟨t, h.nox, q⟩
/-- how its arguments bind (no defaults): h is «fun _ _ _ _ _ _ us hl => match us, hl with | [_, _], _ => rfl», one _ a parameter -/
theorem Fun.binds {x qual : Str} {st : Stmt} {f : Addr} {fd : FuncData} {ps : List Str} (F : Fun K x qual st f fd)
    (h : ∀ (kV doc pm : Value) (an : Option Addr) (cdv ct : Value) (us : List Value), us.length = ps.length → bindArgs (PySem.W.fnOf x qual (defArgs st) (defBody st) (defScope st) .none kV doc pm an cdv ct) ⟨us, []⟩ = pure (ps.zip us)) : Binds K fd ps [] := by
  obtain ⟨oc, od, kV, doc, pm, an, cdv, ct, osl, rfl, lk, hcd⟩ := F.ex
  exact .all (h kV doc pm an cdv ct)
theorem fun_mk {x qual : Str} {st : Stmt} {f : Addr} {oc : Value} {od an : Option Addr} {osl : Array (Option Value)} {kV doc pm cdv ct : Value} (l : K.lookup f = some ⟨oc, od, .func (PySem.W.fnOf x qual (defArgs st) (defBody st) (defScope st) .none kV doc pm an cdv ct), osl⟩)
    (c : PySem.W.codeIn K cdv qual = true) (k : PySem.W.keepIn K (.ref f) = true) : Fun K x qual st f (PySem.W.fnOf x qual (defArgs st) (defBody st) (defScope st) .none kV doc pm an cdv ct) := ⟨⟨oc, od, kV, doc, pm, an, cdv, ct, osl, rfl, l, c⟩, k⟩
end

/-! ### expressions in short: the name that stands in the i-th slot -/
section
variable {X : Cx}
end

/-! ### tests -/

/-! ### heaps -/
/-- all that was tracked is as it was -/
def Same (H H' : Hp) : Prop := ∀ b o, H b = some o → H' b = some o
theorem Same.trans {H H1 H2 : Hp} (a : Same H H1) (b : Same H1 H2) : Same H H2 := fun c o h => b c o (a c o h)

end L2

namespace DL
open PySem PySem.Spec PyProof.Rows L2

/-! ### the data layer: values as data, lists that are under way as owned objects -/
/-- an owned object -/
inductive OO where
  | lst (ds : List PyData)
abbrev Mp := Addr → Option OO
def mset (M : Mp) (a : Addr) (o : OO) : Mp := fun b => if b = a then some o else M b
def mdel (M : Mp) (a : Addr) : Mp := fun b => if b = a then none else M b
theorem mset_same {M : Mp} {a : Addr} {o : OO} : mset M a o a = some o := by unfold mset; rw [if_pos rfl]
theorem mset_ne {M : Mp} {a b : Addr} {o : OO} (h : b ≠ a) : mset M a o b = M b := by unfold mset; rw [if_neg h]
theorem mset_mset {M : Mp} {a : Addr} {o u : OO} : mset (mset M a o) a u = mset M a u := by
  funext b; unfold mset; split <;> rfl
theorem mdel_same {M : Mp} {a : Addr} : mdel M a a = none := by unfold mdel; rw [if_pos rfl]
theorem mdel_ne {M : Mp} {a b : Addr} (h : b ≠ a) : mdel M a b = M b := by unfold mdel; rw [if_neg h]

def kD : Key → PyData
  | .inl i => .int i
  | .inr x => .str x

def KTu (K : PySem.W.Frag) (a : Addr) (xs : List V) : Prop :=
  ∃ (o : Obj) (its : Array Value) (n : Nat), K.lookup a = some o ∧ o.cls = .type "tuple" ∧ o.data = .seq its n ∧ its.size ≤ sizeLine ∧ Vals xs its.toList
def KLs (K : PySem.W.Frag) (a : Addr) (xs : List V) : Prop :=
  ∃ (o : Obj) (its : Array Value) (n : Nat), K.lookup a = some o ∧ o.cls = .type "list" ∧ o.dict = none ∧ o.data = .seq its n ∧ its.size ≤ sizeLine ∧ Vals xs its.toList
def TupAt (K : PySem.W.Frag) (M : Mp) (H : Hp) (a : Addr) (xs : List V) : Prop := (M a = none ∧ Rd H a (.tup xs)) ∨ KTu K a xs
def LstAt (K : PySem.W.Frag) (M : Mp) (H : Hp) (a : Addr) (xs : List V) : Prop := (M a = none ∧ Rd H a (.lst xs)) ∨ KLs K a xs
theorem TupAt.sq {K : PySem.W.Frag} {M : Mp} {H : Hp} {a : Addr} {xs : List V} (h : TupAt K M H a xs) : SqT K H a xs := by
  rcases h with ⟨_, h⟩ | h
  · exact .inl h
  · exact .inr h
theorem LstAt.sq {K : PySem.W.Frag} {M : Mp} {H : Hp} {a : Addr} {xs : List V} (h : LstAt K M H a xs) : SqL K H a xs := by
  rcases h with ⟨_, h⟩ | h
  · exact .inl h
  · exact .inr h

mutual
inductive Dt (K : PySem.W.Frag) (M : Mp) (H : Hp) : V → PyData → Prop
  | non : Dt K M H .non .none
  | bl (b : Bool) : Dt K M H (.bl b) (.bool b)
  | int (i : Int) : Dt K M H (.int i) (.int i)
  | str (x : Str) : Dt K M H (.str x) (.str x)
  | tup {a : Addr} {xs : List V} {ds : List PyData} : TupAt K M H a xs → Dts K M H xs ds → Dt K M H (.ref a) (.tuple ds)
  | lst {a : Addr} {xs : List V} {ds : List PyData} : LstAt K M H a xs → Dts K M H xs ds → Dt K M H (.ref a) (.list ds)
  | dK {a : Addr} {kvs : List (Key × V)} {ds : List PyData} : M a = none → H a = some (.dK kvs) → Dts K M H (kvs.map (·.2)) ds → Dt K M H (.ref a) (.dict ((kvs.map fun kv => kD kv.1).zip ds))
  | dT {a : Addr} {kvs : List (List Key × V)} {ds : List PyData} : M a = none → H a = some (.dT kvs) → Dts K M H (kvs.map (·.2)) ds → Dt K M H (.ref a) (.dict ((kvs.map fun kv => PyData.tuple (kv.1.map kD)).zip ds))
  | dX {a b : Addr} {φ : Heap → Prop} {v : V} {dk d : PyData} : M a = none → H a = some (.ext φ) → (a == sysModules) = false →
      (∀ h, φ h → ∃ o es n u, h.get? a = some o ∧ o.cls = .type "dict" ∧ o.data = .dict es n ∧ es.toList.map (·.key) = [.ref b] ∧ es.toList.map (·.val) = [u] ∧ RelV v u) → Dt K M H (.ref b) dk → Dt K M H v d → Dt K M H (.ref a) (.dict [(dk, d)])
inductive Dts (K : PySem.W.Frag) (M : Mp) (H : Hp) : List V → List PyData → Prop
  | nil : Dts K M H [] []
  | cons {x : V} {xs : List V} {d : PyData} {ds : List PyData} : Dt K M H x d → Dts K M H xs ds → Dts K M H (x :: xs) (d :: ds)
end

/-- what is not owned stays, and is not owned later -/
structure Step (M : Mp) (H : Hp) (M' : Mp) (H' : Hp) : Prop where
  keep : ∀ b o, M b = none → H b = some o → H' b = some o
  free : ∀ b o, M b = none → H b = some o → M' b = none
theorem Step.refl {M : Mp} {H : Hp} : Step M H M H := ⟨fun _ _ _ h => h, fun _ _ h _ => h⟩
theorem Step.trans {M M1 M2 : Mp} {H H1 H2 : Hp} (a : Step M H M1 H1) (b : Step M1 H1 M2 H2) : Step M H M2 H2 :=
  ⟨fun c o h1 h2 => b.keep c o (a.free c o h1 h2) (a.keep c o h1 h2), fun c o h1 h2 => b.free c o (a.free c o h1 h2) (a.keep c o h1 h2)⟩
section
variable {K : PySem.W.Frag} {M M' : Mp} {H H' : Hp}
theorem rd_step {a : Addr} {u : HO} (st : Step M H M' H') (hm : M a = none) (h : Rd H a u) : M' a = none ∧ Rd H' a u := by
  rcases h with h | ⟨o, h⟩
  · exact ⟨st.free _ _ hm h, .inl (st.keep _ _ hm h)⟩
  · exact ⟨st.free _ _ hm h, .inr ⟨o, st.keep _ _ hm h⟩⟩
theorem TupAt.step {a : Addr} {xs : List V} (h : TupAt K M H a xs) (st : Step M H M' H') : TupAt K M' H' a xs := by
  rcases h with ⟨h1, h2⟩ | h
  · exact .inl (rd_step st h1 h2)
  · exact .inr h
theorem LstAt.step {a : Addr} {xs : List V} (h : LstAt K M H a xs) (st : Step M H M' H') : LstAt K M' H' a xs := by
  rcases h with ⟨h1, h2⟩ | h
  · exact .inl (rd_step st h1 h2)
  · exact .inr h
mutual
theorem Dt.step (st : Step M H M' H') : ∀ {v : V} {d : PyData}, Dt K M H v d → Dt K M' H' v d
  | _, _, .non => .non
  | _, _, .bl b => .bl b
  | _, _, .int i => .int i
  | _, _, .str x => .str x
  | _, _, .tup h1 h2 => .tup (h1.step st) (Dts.step st h2)
  | _, _, .lst h1 h2 => .lst (h1.step st) (Dts.step st h2)
  | _, _, .dK h0 h1 h2 => .dK (st.free _ _ h0 h1) (st.keep _ _ h0 h1) (Dts.step st h2)
  | _, _, .dT h0 h1 h2 => .dT (st.free _ _ h0 h1) (st.keep _ _ h0 h1) (Dts.step st h2)
  | _, _, .dX h0 h1 h2 h3 h4 h5 => .dX (st.free _ _ h0 h1) (st.keep _ _ h0 h1) h2 h3 (Dt.step st h4) (Dt.step st h5)
theorem Dts.step (st : Step M H M' H') : ∀ {vs : List V} {ds : List PyData}, Dts K M H vs ds → Dts K M' H' vs ds
  | _, _, .nil => .nil
  | _, _, .cons h1 h2 => .cons (Dt.step st h1) (Dts.step st h2)
end
theorem Dts.length : ∀ {vs : List V} {ds : List PyData}, Dts K M H vs ds → vs.length = ds.length
  | _, _, .nil => rfl
  | _, _, .cons _ h => by rw [List.length_cons, List.length_cons, Dts.length h]
theorem Dts.get : ∀ {vs : List V} {ds : List PyData} {i : Nat} {d : PyData}, Dts K M H vs ds → ds[i]? = some d → ∃ v, vs[i]? = some v ∧ Dt K M H v d
  | _, _, _, _, .nil, e => by simp at e
  | _, _, 0, _, .cons h _, e => by simp at e; subst e; exact ⟨_, rfl, h⟩
  | _, _, i + 1, d, .cons _ h, e => by
    obtain ⟨v, h1, h2⟩ := Dts.get (i := i) (d := d) h (by simpa using e)
    exact ⟨v, by simpa using h1, h2⟩
theorem Dts.getV : ∀ {vs : List V} {ds : List PyData} {i : Nat} {v : V}, Dts K M H vs ds → vs[i]? = some v → ∃ d, ds[i]? = some d ∧ Dt K M H v d
  | _, _, _, _, .nil, e => by simp at e
  | _, _, 0, _, .cons h _, e => by simp at e; subst e; exact ⟨_, rfl, h⟩
  | _, _, i + 1, v, .cons _ h, e => by
    obtain ⟨d, h1, h2⟩ := Dts.getV (i := i) (v := v) h (by simpa using e)
    exact ⟨d, by simpa using h1, h2⟩
theorem Dts.append : ∀ {vs ws : List V} {ds es : List PyData}, Dts K M H vs ds → Dts K M H ws es → Dts K M H (vs ++ ws) (ds ++ es)
  | _, _, _, _, .nil, h => h
  | _, _, _, _, .cons h1 h2, h => .cons h1 (Dts.append h2 h)
theorem Dts.take : ∀ {vs : List V} {ds : List PyData} (n : Nat), Dts K M H vs ds → Dts K M H (vs.take n) (ds.take n)
  | _, _, 0, _ => .nil
  | _, _, _ + 1, .nil => .nil
  | _, _, n + 1, .cons h1 h2 => .cons h1 (Dts.take n h2)
theorem Dts.drop : ∀ {vs : List V} {ds : List PyData} (n : Nat), Dts K M H vs ds → Dts K M H (vs.drop n) (ds.drop n)
  | _, _, 0, h => h
  | _, _, _ + 1, .nil => .nil
  | _, _, n + 1, .cons _ h2 => Dts.drop n h2
theorem Dts.set {v : V} {d : PyData} (h : Dt K M H v d) : ∀ {vs : List V} {ds : List PyData} (i : Nat), Dts K M H vs ds → Dts K M H (vs.set i v) (ds.set i d)
  | _, _, _, .nil => .nil
  | _, _, 0, .cons _ t => .cons h t
  | _, _, i + 1, .cons q t => .cons q (Dts.set h i t)
theorem Dts.ints : ∀ (ns : List Int), Dts K M H (ns.map V.int) (ns.map PyData.int)
  | [] => .nil
  | n :: ns => .cons (.int n) (Dts.ints ns)
theorem ofDts_ints : ∀ {vs : List V} {ns : List Int}, Dts K M H vs (ns.map PyData.int) → vs = ns.map V.int
  | vs, [], h => by
    rw [List.map_nil] at h
    cases h
    rfl
  | vs, n :: ns, h => by
    rw [List.map_cons] at h
    cases h with
    | cons h1 h2 =>
      cases h1
      rw [ofDts_ints h2, List.map_cons]
/-- the owned lists are held -/
def DRel (K : PySem.W.Frag) (M : Mp) (H : Hp) : Prop := ∀ a ds, M a = some (.lst ds) → ∃ vs, H a = some (.lst vs) ∧ Dts K M H vs ds
theorem DRel.tracked (r : DRel K M H) {a : Addr} (h : H a = none) : M a = none := by
  cases q : M a with
  | none => rfl
  | some o =>
    cases o with
    | lst ds =>
      obtain ⟨vs, e, _⟩ := r a ds q
      rw [h] at e
      cases e
theorem Step.new {p : Addr} {o : HO} (h : H p = none) : Step M H M (upd H p o) :=
  ⟨fun b u _ e => by rw [upd_ne (ne_of_none e h)]; exact e, fun _ _ h _ => h⟩
theorem DRel.step_same (r : DRel K M H) (st : Step M H M H') (hk : ∀ a vs, M a ≠ none → H a = some (.lst vs) → H' a = some (.lst vs)) : DRel K M H' := fun a ds e => by
  obtain ⟨vs, e1, e2⟩ := r a ds e
  exact ⟨vs, hk a vs (by rw [e]; simp) e1, e2.step st⟩
theorem DRel.new (r : DRel K M H) {p : Addr} {o : HO} (h : H p = none) : DRel K M (upd H p o) :=
  r.step_same (Step.new h) fun a vs _ e => by rw [upd_ne (ne_of_none e h)]; exact e
theorem Step.ownNew {p : Addr} {o : HO} {q : OO} (h : H p = none) : Step M H (mset M p q) (upd H p o) :=
  ⟨fun b u _ e => by rw [upd_ne (ne_of_none e h)]; exact e, fun b u hm e => by rw [mset_ne (ne_of_none e h)]; exact hm⟩
theorem Step.ownPut {p : Addr} {o : HO} {q q' : OO} (h : M p = some q) : Step M H (mset M p q') (upd H p o) := by
  have ne : ∀ b, M b = none → b ≠ p := fun b hb e => by rw [e, h] at hb; cases hb
  exact ⟨fun b u hb e => by rw [upd_ne (ne b hb)]; exact e, fun b u hb e => by rw [mset_ne (ne b hb)]; exact hb⟩
theorem DRel.ownSet (r : DRel K M H) {p : Addr} {vs : List V} {ds : List PyData} (st : Step M H (mset M p (.lst ds)) (upd H p (.lst vs))) (hv : Dts K M H vs ds) :
    DRel K (mset M p (.lst ds)) (upd H p (.lst vs)) := fun a es e => by
  by_cases ha : a = p
  · subst ha
    rw [mset_same] at e
    cases e
    exact ⟨vs, upd_same, hv.step st⟩
  · rw [mset_ne ha] at e
    obtain ⟨ws, e1, e2⟩ := r a es e
    exact ⟨ws, by rw [upd_ne ha]; exact e1, e2.step st⟩
theorem Step.frz {p : Addr} : Step M H (mdel M p) H :=
  ⟨fun _ _ _ h => h, fun b o hb _ => by unfold mdel; split <;> first | rfl | exact hb⟩
theorem DRel.frz (r : DRel K M H) {p : Addr} : DRel K (mdel M p) H := fun a ds e => by
  have hne : a ≠ p := fun z => by rw [z, mdel_same] at e; cases e
  rw [mdel_ne hne] at e
  obtain ⟨vs, e1, e2⟩ := r a ds e
  exact ⟨vs, e1, e2.step Step.frz⟩

/-- a value of the data layer: data; the address of an owned object; a built-in type -/
inductive DV where
  | dat (d : PyData)
  | own (a : Addr)
  | ty (n : String)
def VRel (K : PySem.W.Frag) (M : Mp) (H : Hp) (v : V) : DV → Prop
  | .dat d => Dt K M H v d
  | .own a => v = .ref a
  | .ty n => v = .ty n
theorem VRel.step {v : V} {x : DV} (h : VRel K M H v x) (st : Step M H M' H') : VRel K M' H' v x := by
  cases x with
  | dat d => exact Dt.step st h
  | own a => exact h
  | ty n => exact h
abbrev VRels (K : PySem.W.Frag) (M : Mp) (H : Hp) : List V → List DV → Prop := Paired (VRel K M H)
theorem VRels.step {vs : List V} {xs : List DV} (h : VRels K M H vs xs) (st : Step M H M' H') : VRels K M' H' vs xs := Paired.mapP h fun _ _ q => VRel.step q st
theorem VRels.dats : ∀ {vs : List V} {ds : List PyData}, VRels K M H vs (ds.map DV.dat) → Dts K M H vs ds
  | vs, [], h => by rw [List.map_nil] at h; cases h; exact .nil
  | vs, d :: ds, h => by
    rw [List.map_cons] at h
    cases h with
    | cons h1 h2 => exact .cons h1 (VRels.dats h2)
abbrev DSt := List (Option DV)
structure ERel (K : PySem.W.Frag) (M : Mp) (H : Hp) (σ : L2.St) (Δ : DSt) : Prop where
  len : σ.length = Δ.length
  at' : ∀ (i : Nat) (x : DV), Δ[i]? = some (some x) → ∃ v, σ[i]? = some (some v) ∧ VRel K M H v x
theorem ERel.step {σ : L2.St} {Δ : DSt} (h : ERel K M H σ Δ) (st : Step M H M' H') : ERel K M' H' σ Δ :=
  ⟨h.len, fun i x e => let ⟨v, e1, e2⟩ := h.at' i x e; ⟨v, e1, e2.step st⟩⟩
theorem ERel.set {σ : L2.St} {Δ : DSt} {i : Nat} {v : V} {x : DV} (h : ERel K M H σ Δ) (r : VRel K M H v x) : ERel K M H (σ.set i (some v)) (Δ.set i (some x)) := by
  refine ⟨by rw [List.length_set, List.length_set, h.len], fun j y e => ?_⟩
  by_cases hj : i = j
  · subst hj
    by_cases hl : i < Δ.length
    · rw [List.getElem?_set_self hl] at e
      cases e
      exact ⟨v, List.getElem?_set_self (by rw [h.len]; exact hl), r⟩
    · rw [List.getElem?_eq_none (by rw [List.length_set]; omega)] at e
      cases e
  · rw [List.getElem?_set_ne hj] at e
    rw [List.getElem?_set_ne hj]
    exact h.at' j y e
def startD (N : List Str) (xs : List DV) : DSt := xs.map some ++ List.replicate (N.length - xs.length) none
theorem Paired.getR {α β : Type} {F : α → β → Prop} : ∀ {l : List α} {m : List β} {i : Nat} {b : β}, Paired F l m → m[i]? = some b → ∃ a, l[i]? = some a ∧ F a b
  | _, _, _, _, .nil, e => by simp at e
  | _, _, 0, _, .cons h _, e => by simp at e; subst e; exact ⟨_, rfl, h⟩
  | _, _, i + 1, b, .cons _ h, e => by
    obtain ⟨a, h1, h2⟩ := Paired.getR (i := i) (b := b) h (by simpa using e)
    exact ⟨a, by simpa using h1, h2⟩
theorem ERel.start {N : List Str} {vs : List V} {xs : List DV} (h : VRels K M H vs xs) : ERel K M H (start N vs) (startD N xs) := by
  have hl : vs.length = xs.length := Paired.length h
  refine ⟨by unfold L2.start startD; simp [hl], fun i x e => ?_⟩
  unfold startD at e
  unfold L2.start
  by_cases hi : i < xs.length
  · rw [List.getElem?_append_left (by simpa using hi), List.getElem?_map] at e
    cases q : xs[i]? with
    | none => rw [q] at e; cases e
    | some y =>
      rw [q] at e
      cases e
      obtain ⟨v, h1, h2⟩ := Paired.getR h q
      exact ⟨v, by rw [List.getElem?_append_left (by simpa [hl] using hi), List.getElem?_map, h1]; rfl, h2⟩
  · rw [List.getElem?_append_right (by simpa using hi), List.getElem?_replicate] at e
    split at e <;> cases e
end

/-! ### judgements -/
abbrev DK := DV → Mp → Prop
abbrev DTE := DSt → Mp → DK → Prop
abbrev DTT := DSt → Mp → (Bool → Mp → Prop) → Prop
abbrev DTA := DSt → Mp → (List DV → Mp → Prop) → Prop
structure DEnds where
  nx : DSt → Mp → Prop
  rt : DK
  bk : DSt → Mp → Prop := fun _ _ => False
  ct : DSt → Mp → Prop := fun _ _ => False
abbrev DTS := DEnds → DSt → Mp → Prop

/-- what is reached from M, H by an expression -/
def Rch (K : PySem.W.Frag) (M : Mp) (H : Hp) (Φ : DK) (Q : VK) : Prop := ∀ v H' x M', DRel K M' H' → Step M H M' H' → VRel K M' H' v x → Φ x M' → Q v H'
theorem Rch.step {K : PySem.W.Frag} {M M' : Mp} {H H' : Hp} {Φ : DK} {Q : VK} (h : Rch K M H Φ Q) (st : Step M H M' H') : Rch K M' H' Φ Q := fun v H2 x M2 r s2 q f => h v H2 x M2 r (st.trans s2) q f
theorem Rch.dat {K : PySem.W.Frag} {M M' : Mp} {H H' : Hp} {Φ : DK} {Q : VK} {v : V} {d : PyData} (h : Rch K M H Φ Q) (r : DRel K M' H') (st : Step M H M' H') (hd : Dt K M' H' v d) (f : Φ (.dat d) M') : Q v H' := h v H' (.dat d) M' r st hd f
def DE (X : Cx) (e : Expr) (τ : DTE) : Prop := ∃ t, PE X e t ∧ ∀ σ H Δ M Φ Q, DRel X.K M H → ERel X.K M H σ Δ → τ Δ M Φ → Rch X.K M H Φ Q → t σ H Q
def DT (X : Cx) (e : Expr) (τ : DTT) : Prop := ∃ t, PT X e t ∧ ∀ σ H Δ M Φ (Q : Bool → Hp → Prop), DRel X.K M H → ERel X.K M H σ Δ → τ Δ M Φ →
  (∀ b H' M', DRel X.K M' H' → Step M H M' H' → Φ b M' → Q b H') → t σ H Q
def DW (X : Cx) (e : Expr) (τ : DTT) : Prop := ∃ t, PW X e t ∧ ∀ σ H Δ M Φ (Q : Bool → Hp → Prop), DRel X.K M H → ERel X.K M H σ Δ → τ Δ M Φ →
  (∀ b H' M', DRel X.K M' H' → Step M H M' H' → Φ b M' → Q b H') → t σ H Q
def DA (X : Cx) (es : List Expr) (τ : DTA) : Prop := ∃ t, PA X es t ∧ ∀ σ H Δ M Φ (Q : List V → Hp → Prop), DRel X.K M H → ERel X.K M H σ Δ → τ Δ M Φ →
  (∀ vs H' xs M', DRel X.K M' H' → Step M H M' H' → VRels X.K M' H' vs xs → Φ xs M' → Q vs H') → t σ H Q
structure EndRel (K : PySem.W.Frag) (M : Mp) (H : Hp) (D : DEnds) (E : Ends) : Prop where
  nx : ∀ σ' H' Δ' M', DRel K M' H' → Step M H M' H' → ERel K M' H' σ' Δ' → D.nx Δ' M' → E.nx σ' H'
  rt : Rch K M H D.rt E.rt
  bk : ∀ σ' H' Δ' M', DRel K M' H' → Step M H M' H' → ERel K M' H' σ' Δ' → D.bk Δ' M' → E.bk σ' H'
  ct : ∀ σ' H' Δ' M', DRel K M' H' → Step M H M' H' → ERel K M' H' σ' Δ' → D.ct Δ' M' → E.ct σ' H'
theorem EndRel.step {K : PySem.W.Frag} {M M' : Mp} {H H' : Hp} {D : DEnds} {E : Ends} (h : EndRel K M H D E) (st : Step M H M' H') : EndRel K M' H' D E :=
  ⟨fun a b c d r s => h.nx a b c d r (st.trans s), h.rt.step st, fun a b c d r s => h.bk a b c d r (st.trans s), fun a b c d r s => h.ct a b c d r (st.trans s)⟩
def DS (X : Cx) (st : Stmt) (τ : DTS) : Prop := ∃ t, PS X st t ∧ ∀ σ H Δ M D E, DRel X.K M H → ERel X.K M H σ Δ → τ D Δ M → EndRel X.K M H D E → t E σ H
def DSs (X : Cx) (st : List Stmt) (τ : DTS) : Prop := ∃ t, PSs X st t ∧ ∀ σ H Δ M D E, DRel X.K M H → ERel X.K M H σ Δ → τ D Δ M → EndRel X.K M H D E → t E σ H

section
variable {X : Cx} {a b c : Expr} {ta tb tc : DTE} {pos : Pos}
/-! ### names, constants -/
def dVar (i : Nat) : DTE := fun Δ M Φ => ∃ x, Δ[i]? = some (some x) ∧ Φ x M
def dC (d : PyData) : DTE := fun _ M Φ => Φ (.dat d) M
theorem de_var (i : Nat) {x : Str} {pos : Pos} (hN : X.N[i]? = some x := by rfl) (hv : Vis X.env.scope x := by first | exact Or.inl rfl | exact Or.inr (Or.inl rfl) | exact Or.inr (Or.inr rfl)) (hd : (x == ("__debug__" : Str)) = false := by decide)
    (hcd : (x == ("__classdict__" : Str)) = false := by decide) : DE X (.Name x pos) (dVar i) := by
  refine ⟨_, pe_var hN hv hd hcd, fun σ H Δ M Φ Q r e h k => ?_⟩
  obtain ⟨x, e1, h⟩ := h
  obtain ⟨v, e2, q⟩ := e.at' i x e1
  exact ⟨v, e2, k v H x M r Step.refl q h⟩
theorem de_const {e : Expr} {v : V} {d : PyData} (h : PE X e (tC v)) (q : ∀ M H, Dt X.K M H v d) : DE X e (dC d) :=
  ⟨_, h, fun _ H _ M _ _ r _ h k => k v H (.dat d) M r Step.refl (q M H) h⟩
theorem de_int {i j pos} : DE X (.Constant (.int i) j pos) (dC (.int i)) := de_const pe_int fun _ _ => .int i
theorem de_bl {b j pos} : DE X (.Constant (.bool b) j pos) (dC (.bool b)) := de_const pe_bl fun _ _ => .bl b
theorem de_non {j pos} : DE X (.Constant .none j pos) (dC .none) := de_const pe_non fun _ _ => .non
theorem de_str {x j pos} : DE X (.Constant (.str x) j pos) (dC (.str x)) := de_const pe_str fun _ _ => .str x
theorem de_globI {x : Str} {i : Int} {t : Tok} {pos : Pos} (hg : Gl X x) (hm : X.mg x = some (.int i t)) (hd : (x == ("__debug__" : Str)) = false := by decide) : DE X (.Name x pos) (dC (.int i)) :=
  de_const (pe_glob (v := .int i) hg hm ⟨t, rfl⟩ hd) fun _ _ => .int i
def dTy (n : String) : DTE := fun _ M Φ => Φ (.ty n) M
theorem de_ty {x : Str} {n : String} {pos : Pos} (hg : Gl X x) (hm : X.mg x = none) (hv : bootBuiltins x = some (.type n)) (hn : x ≠ "__name__" := by decide) (hdb : (x == ("__debug__" : Str)) = false := by decide) : DE X (.Name x pos) (dTy n) :=
  ⟨_, pe_bltn (v := .ty n) hg hm hv rfl hn hdb, fun _ H _ M _ _ r _ h k => k (.ty n) H (.ty n) M r Step.refl rfl h⟩
end
end DL

namespace DL
open PySem PySem.Spec PyProof.Rows L2
section
variable {K : PySem.W.Frag} {M M' : Mp} {H H' : Hp} {v : V}
theorem VRel.bool {b : Bool} (h : VRel K M H v (.dat (.bool b))) : v = .bl b := by cases (show Dt K M H v (.bool b) from h); rfl
theorem VRel.int {i : Int} (h : VRel K M H v (.dat (.int i))) : v = .int i := by cases (show Dt K M H v (.int i) from h); rfl
theorem VRel.str {x : Str} (h : VRel K M H v (.dat (.str x))) : v = .str x := by cases (show Dt K M H v (.str x) from h); rfl
theorem VRel.tup {ds : List PyData} (h : VRel K M H v (.dat (.tuple ds))) : ∃ a xs, v = .ref a ∧ TupAt K M H a xs ∧ Dts K M H xs ds := by
  cases (show Dt K M H v (.tuple ds) from h) with
  | tup h1 h2 => exact ⟨_, _, rfl, h1, h2⟩
theorem VRel.lst {ds : List PyData} (h : VRel K M H v (.dat (.list ds))) : ∃ a xs, v = .ref a ∧ LstAt K M H a xs ∧ Dts K M H xs ds := by
  cases (show Dt K M H v (.list ds) from h) with
  | lst h1 h2 => exact ⟨_, _, rfl, h1, h2⟩
/-- a new tuple, a new list that is data at once -/
theorem Dt.newTup {p : Addr} {xs : List V} {ds : List PyData} (r : DRel K M H) (hp : H p = none) (h : Dts K M H xs ds) : Dt K M (upd H p (.tup xs)) (.ref p) (.tuple ds) :=
  .tup (.inl ⟨r.tracked hp, .inl upd_same⟩) (h.step (Step.new hp))
theorem Dt.newLst {p : Addr} {xs : List V} {ds : List PyData} (r : DRel K M H) (hp : H p = none) (h : Dts K M H xs ds) : Dt K M (upd H p (.lst xs)) (.ref p) (.list ds) :=
  .lst (.inl ⟨r.tracked hp, .inl upd_same⟩) (h.step (Step.new hp))
end
def Snd (K : PySem.W.Frag) (t : TE) (τ : DTE) : Prop := ∀ σ H Δ M Φ Q, DRel K M H → ERel K M H σ Δ → τ Δ M Φ → Rch K M H Φ Q → t σ H Q
theorem Snd.bin {K : PySem.W.Frag} {ta tb : TE} {τa τb : DTE} (qa : Snd K ta τa) (qb : Snd K tb τb) {M : Mp} {H : Hp} {σ : L2.St} {Δ : DSt} {S : DV → DV → Mp → Prop} {R : V → V → Hp → Prop} (r : DRel K M H) (e : ERel K M H σ Δ)
    (h : τa Δ M fun x M1 => τb Δ M1 fun y M2 => S x y M2)
    (k : ∀ v u H2 x y M2, DRel K M2 H2 → Step M H M2 H2 → VRel K M2 H2 v x → VRel K M2 H2 u y → S x y M2 → R v u H2) : ta σ H fun v H1 => tb σ H1 fun u H2 => R v u H2 :=
  qa σ H Δ M _ _ r e h fun v H1 x M1 r1 st rv hx => qb σ H1 Δ M1 _ _ r1 (e.step st) hx fun u H2 y M2 r2 st2 ru hy => k v u H2 x y M2 r2 (st.trans st2) (rv.step st2) ru hy

/-! ### operations by data -/
abbrev D2 := DV → DV → Mp → DK → Prop
def OpD (X : Cx) (f : Value → Value → Sem Value) (δ : D2) : Prop := ∃ r : R2, OpR X f r ∧ ∀ v u H x y M Φ Q, DRel X.K M H → VRel X.K M H v x → VRel X.K M H u y → δ x y M Φ → Rch X.K M H Φ Q → r v u H Q
def dOp (δ : D2) (ta tb : DTE) : DTE := fun Δ M Φ => ta Δ M fun x M1 => tb Δ M1 fun y M2 => δ x y M2 Φ
section
variable {X : Cx} {a b c : Expr} {ta tb tc : DTE} {pos : Pos} {op op' : CmpOp} {δ δ' : D2}
theorem Snd.opn {ta' tb' : TE} {r : R2} (ha : Snd X.K ta' ta) (hb : Snd X.K tb' tb) (q : ∀ v u H x y M Φ Q, DRel X.K M H → VRel X.K M H v x → VRel X.K M H u y → δ x y M Φ → Rch X.K M H Φ Q → r v u H Q) : Snd X.K (tOp r ta' tb') (dOp δ ta tb) :=
  fun _ _ _ _ _ _ dr e h k => Snd.bin ha hb dr e h fun v u H2 x y M2 r2 st rv ru hs => q v u H2 x y M2 _ _ r2 rv ru hs (k.step st)
theorem de_op {bop : Operator} (ho : OpD X (binaryOp bop) δ) (ha : DE X a ta) (hb : DE X b tb) : DE X (.BinOp a bop b pos) (dOp δ ta tb) := by
  obtain ⟨ta', pa, qa⟩ := ha
  obtain ⟨tb', pb, qb⟩ := hb
  obtain ⟨r, hr, q⟩ := ho
  exact ⟨_, pe_op hr pa pb, Snd.opn qa qb q⟩
theorem de_cmp (ho : OpD X (compareOp op) δ) (ha : DE X a ta) (hb : DE X b tb) (hm : behindInMarks op b = false := by first | exact nomark _ | rfl) : DE X (.Compare a [op] [b] pos) (dOp δ ta tb) := by
  obtain ⟨ta', pa, qa⟩ := ha
  obtain ⟨tb', pb, qb⟩ := hb
  obtain ⟨r, hr, q⟩ := ho
  exact ⟨_, pe_cmpR hr pa pb hm, Snd.opn qa qb q⟩
def dB (t : DTE) : DTT := fun Δ M Φ => t Δ M fun x M1 => ∃ c, x = .dat (.bool c) ∧ Φ c M1
theorem Snd.test {t : TE} {τ : DTE} (h : Snd X.K t τ) {σ : L2.St} {H : Hp} {Δ : DSt} {M : Mp} {Φ : Bool → Mp → Prop} {Q : Bool → Hp → Prop} (r : DRel X.K M H) (e : ERel X.K M H σ Δ) (hw : dB τ Δ M Φ)
    (k : ∀ b H' M', DRel X.K M' H' → Step M H M' H' → Φ b M' → Q b H') : t σ H fun x H1 => ∃ c, x = .bl c ∧ Q c H1 := by
  refine h σ H Δ M _ _ r e hw fun v H1 x M1 r1 st rv hx => ?_
  obtain ⟨c, rfl, hx⟩ := hx
  exact ⟨c, rv.bool, k c H1 M1 r1 st hx⟩
theorem dt_cmp (ho : OpD X (compareOp op) δ) (ha : DE X a ta) (hb : DE X b tb) (hm : behindInMarks op b = false := by first | exact nomark _ | rfl) : DT X (.Compare a [op] [b] pos) (dB (dOp δ ta tb)) := by
  obtain ⟨ta', pa, qa⟩ := ha
  obtain ⟨tb', pb, qb⟩ := hb
  obtain ⟨r, hr, q⟩ := ho
  exact ⟨_, pt_cmpR hr pa pb hm, fun _ _ _ _ _ _ dr e h k => Snd.test (Snd.opn qa qb q) dr e h k⟩
theorem dt_val {e : Expr} {τ : DTE} (h : DE X e τ) (he : ∀ whole, isTrue e X.env whole = (do let v ← whole; standAt e.pos; holding [v] (truthy v)) := by intro _; rfl) : DT X e (dB τ) := by
  obtain ⟨t, p, q⟩ := h
  exact ⟨_, pt_val p he, fun _ _ _ _ _ _ dr e h k => Snd.test q dr e h k⟩
/-- a op1 b op2 c -/
def dChain (δ δ' : D2) (ta tb tc : DTE) : DTE := fun Δ M Φ => ta Δ M fun x M1 => tb Δ M1 fun y M2 => δ x y M2 fun z M3 => ∃ k, z = .dat (.bool k) ∧ (if k = true then tc Δ M3 fun w' M4 => δ' y w' M4 Φ else Φ (.dat (.bool false)) M3)
theorem Snd.chain {ta' tb' tc' : TE} {r r' : R2} (ha : Snd X.K ta' ta) (hb : Snd X.K tb' tb) (hc : Snd X.K tc' tc) (q : ∀ v u H x y M Φ Q, DRel X.K M H → VRel X.K M H v x → VRel X.K M H u y → δ x y M Φ → Rch X.K M H Φ Q → r v u H Q)
    (q' : ∀ v u H x y M Φ Q, DRel X.K M H → VRel X.K M H v x → VRel X.K M H u y → δ' x y M Φ → Rch X.K M H Φ Q → r' v u H Q) : Snd X.K (tChain r r' ta' tb' tc') (dChain δ δ' ta tb tc) := by
  intro σ H Δ M Φ Q dr e h k
  refine Snd.bin ha hb dr e h fun v u H2 x y M2 r2 st rv ru hs => ?_
  refine q v u H2 x y M2 _ _ r2 rv ru hs fun z H3 zd M3 r3 st3 rz hz => ?_
  obtain ⟨kb, rfl, hz⟩ := hz
  refine ⟨kb, rz.bool, ?_⟩
  cases kb with
  | true =>
    have hz' : tc Δ M3 fun w' M4 => δ' y w' M4 Φ := by simpa using hz
    rw [if_pos rfl]
    refine hc σ H3 Δ M3 _ _ r3 (e.step (st.trans st3)) hz' fun w' H4 wd M4 r4 st4 rw4 hw4 => ?_
    exact q' u w' H4 y wd M4 _ _ r4 (ru.step (st3.trans st4)) rw4 hw4 (k.step (st.trans (st3.trans st4)))
  | false =>
    have hz' : Φ (.dat (.bool false)) M3 := by simpa using hz
    rw [if_neg Bool.false_ne_true]
    exact k.dat r3 (st.trans st3) (Dt.bl false) hz'
theorem de_chain (ho : OpD X (compareOp op) δ) (ho' : OpD X (compareOp op') δ') (ha : DE X a ta) (hb : DE X b tb) (hc : DE X c tc) (hm : lastMarks [op, op'] [b, c] = false := by with_unfolding_all rfl) :
    DE X (.Compare a [op, op'] [b, c] pos) (dChain δ δ' ta tb tc) := by
  obtain ⟨ta', pa, qa⟩ := ha
  obtain ⟨tb', pb, qb⟩ := hb
  obtain ⟨tc', pc, qc⟩ := hc
  obtain ⟨r, hr, q⟩ := ho
  obtain ⟨r', hr', q'⟩ := ho'
  exact ⟨_, pe_chain hr hr' pa pb pc hm, Snd.chain qa qb qc q q'⟩
theorem dt_chain (ho : OpD X (compareOp op) δ) (ho' : OpD X (compareOp op') δ') (ha : DE X a ta) (hb : DE X b tb) (hc : DE X c tc) (hm : lastMarks [op, op'] [b, c] = false := by with_unfolding_all rfl) :
    DT X (.Compare a [op, op'] [b, c] pos) (dB (dChain δ δ' ta tb tc)) := by
  obtain ⟨ta', pa, qa⟩ := ha
  obtain ⟨tb', pb, qb⟩ := hb
  obtain ⟨tc', pc, qc⟩ := hc
  obtain ⟨r, hr, q⟩ := ho
  obtain ⟨r', hr', q'⟩ := ho'
  exact ⟨_, pt_chain hr hr' pa pb pc hm, fun _ _ _ _ _ _ dr e h k => Snd.test (Snd.chain qa qb qc q q') dr e h k⟩
/-! ### and, or, not -/
variable {tA tB' : DTT} {rest : List Expr}
def dAnd (t u : DTT) : DTT := fun Δ M Φ => t Δ M fun c M1 => if c = true then u Δ M1 Φ else Φ false M1
def dOr (t u : DTT) : DTT := fun Δ M Φ => t Δ M fun c M1 => if c = true then Φ true M1 else u Δ M1 Φ
def dNot (t : DTT) : DTT := fun Δ M Φ => t Δ M fun c M1 => Φ (!c) M1
theorem DW.dt {e : Expr} {τ : DTT} (h : DW X e τ) : DT X e τ := by
  obtain ⟨t, p, q⟩ := h
  exact ⟨t, p.pt, q⟩
theorem dw_and1 (ha : DT X a tA) : DW X (.BoolOp .And [a] pos) tA := by
  obtain ⟨t, p, q⟩ := ha
  exact ⟨t, pw_and1 p, q⟩
theorem dw_or1 (ha : DT X a tA) : DW X (.BoolOp .Or [a] pos) tA := by
  obtain ⟨t, p, q⟩ := ha
  exact ⟨t, pw_or1 p, q⟩
theorem dw_and (ha : DT X a tA) (hb : DW X (.BoolOp .And (b :: rest) pos) tB') : DW X (.BoolOp .And (a :: b :: rest) pos) (dAnd tA tB') := by
  obtain ⟨t, p, q⟩ := ha
  obtain ⟨u, p2, q2⟩ := hb
  refine ⟨_, pw_and p p2, fun σ H Δ M Φ Q r e h k => ?_⟩
  refine q σ H Δ M _ _ r e h fun c H1 M1 r1 st hc => ?_
  cases c with
  | true => rw [if_pos rfl]; exact q2 σ H1 Δ M1 Φ Q r1 (e.step st) (by simpa using hc) fun b H2 M2 r2 st2 hb => k b H2 M2 r2 (st.trans st2) hb
  | false => rw [if_neg Bool.false_ne_true]; exact k false H1 M1 r1 st (by simpa using hc)
theorem dw_or (ha : DT X a tA) (hb : DW X (.BoolOp .Or (b :: rest) pos) tB') : DW X (.BoolOp .Or (a :: b :: rest) pos) (dOr tA tB') := by
  obtain ⟨t, p, q⟩ := ha
  obtain ⟨u, p2, q2⟩ := hb
  refine ⟨_, pw_or p p2, fun σ H Δ M Φ Q r e h k => ?_⟩
  refine q σ H Δ M _ _ r e h fun c H1 M1 r1 st hc => ?_
  cases c with
  | false => rw [if_neg Bool.false_ne_true]; exact q2 σ H1 Δ M1 Φ Q r1 (e.step st) (by simpa using hc) fun b H2 M2 r2 st2 hb => k b H2 M2 r2 (st.trans st2) hb
  | true => rw [if_pos rfl]; exact k true H1 M1 r1 st (by simpa using hc)
theorem dt_not (ha : DT X a tA) : DT X (.UnaryOp .Not a pos) (dNot tA) := by
  obtain ⟨t, p, q⟩ := ha
  exact ⟨_, pt_not p, fun σ H Δ M Φ Q r e h k => q σ H Δ M _ _ r e h fun c H1 M1 r1 st hc => k _ H1 M1 r1 st hc⟩
def dAndV (ta tb : DTE) : DTE := fun Δ M Φ => ta Δ M fun x M1 => ∃ c, x = .dat (.bool c) ∧ if c = true then tb Δ M1 Φ else Φ (.dat (.bool false)) M1
def dOrV (ta tb : DTE) : DTE := fun Δ M Φ => ta Δ M fun x M1 => ∃ c, x = .dat (.bool c) ∧ if c = true then Φ (.dat (.bool true)) M1 else tb Δ M1 Φ
def dNotV (ta : DTE) : DTE := fun Δ M Φ => ta Δ M fun x M1 => ∃ c, x = .dat (.bool c) ∧ Φ (.dat (.bool (!c))) M1
theorem de_one {bop} (h : DE X a ta) : DE X (.BoolOp bop [a] pos) ta := by
  obtain ⟨t, p, q⟩ := h
  exact ⟨t, pe_one p, q⟩
theorem de_and (ha : DE X a ta) (hb : DE X (.BoolOp .And (b :: rest) pos) tb) : DE X (.BoolOp .And (a :: b :: rest) pos) (dAndV ta tb) := by
  obtain ⟨t, p, q⟩ := ha
  obtain ⟨u, p2, q2⟩ := hb
  refine ⟨_, pe_and p p2, fun σ H Δ M Φ Q r e h k => ?_⟩
  refine q σ H Δ M _ _ r e h fun v H1 x M1 r1 st rv hx => ?_
  obtain ⟨c, rfl, hx⟩ := hx
  refine ⟨c, rv.bool, ?_⟩
  cases c with
  | true => rw [if_pos rfl]; exact q2 σ H1 Δ M1 Φ Q r1 (e.step st) (by simpa using hx) (k.step st)
  | false => rw [if_neg Bool.false_ne_true]; exact k.dat r1 st (Dt.bl false) (by simpa using hx)
theorem de_not (ha : DE X a ta) : DE X (.UnaryOp .Not a pos) (dNotV ta) := by
  obtain ⟨t, p, q⟩ := ha
  refine ⟨_, pe_not p, fun σ H Δ M Φ Q r e h k => ?_⟩
  refine q σ H Δ M _ _ r e h fun v H1 x M1 r1 st rv hx => ?_
  obtain ⟨c, rfl, hx⟩ := hx
  exact ⟨c, rv.bool, k.dat r1 st (Dt.bl (!c)) hx⟩
def dIf (t : DTT) (ta tb : DTE) : DTE := fun Δ M Φ => t Δ M fun c M1 => if c = true then ta Δ M1 Φ else tb Δ M1 Φ
/-! ### minus -/
def dUnI (g : Int → Int) (ta : DTE) : DTE := fun Δ M Φ => ta Δ M fun x M1 => ∃ i, x = .dat (.int i) ∧ Φ (.dat (.int (g i))) M1
theorem de_neg (ha : DE X a ta) : DE X (.UnaryOp .USub a pos) (dUnI (fun i => -i) ta) := by
  obtain ⟨t, p, q⟩ := ha
  refine ⟨_, pe_un un_neg p, fun σ H Δ M Φ Q r e h k => ?_⟩
  refine q σ H Δ M _ _ r e h fun v H1 x M1 r1 st rv hx => ?_
  obtain ⟨i, rfl, hx⟩ := hx
  exact ⟨i, rv.int, k.dat r1 st (Dt.int (-i)) hx⟩
/-! ### ints -/
def δI (C : Int → Int → Prop) (g : Int → Int → PyData) : D2 := fun x y M Φ => ∃ i j, x = .dat (.int i) ∧ y = .dat (.int j) ∧ C i j ∧ Φ (.dat (g i j)) M
def δI0 (g : Int → Int → PyData) : D2 := fun x y M Φ => ∃ i j, x = .dat (.int i) ∧ y = .dat (.int j) ∧ Φ (.dat (g i j)) M
theorem od_I {f : Value → Value → Sem Value} {C : Int → Int → Prop} {g : Int → Int → Int} (h : OpR X f (rI C fun i j => .int (g i j))) : OpD X f (δI C fun i j => .int (g i j)) :=
  ⟨_, h, fun v u H x y M Φ Q r rv ru ⟨i, j, e1, e2, hc, q⟩ k => by
    subst e1 e2
    exact ⟨i, j, rv.int, ru.int, hc, k.dat r Step.refl (Dt.int _) q⟩⟩
theorem od_I0 {f : Value → Value → Sem Value} {g : Int → Int → Int} (h : OpR X f (rI0 fun i j => .int (g i j))) : OpD X f (δI0 fun i j => .int (g i j)) :=
  ⟨_, h, fun v u H x y M Φ Q r rv ru ⟨i, j, e1, e2, q⟩ k => by
    subst e1 e2
    exact ⟨i, j, rv.int, ru.int, k.dat r Step.refl (Dt.int _) q⟩⟩
theorem od_B0 {f : Value → Value → Sem Value} {g : Int → Int → Bool} (h : OpR X f (rI0 fun i j => .bl (g i j))) : OpD X f (δI0 fun i j => .bool (g i j)) :=
  ⟨_, h, fun v u H x y M Φ Q r rv ru ⟨i, j, e1, e2, q⟩ k => by
    subst e1 e2
    exact ⟨i, j, rv.int, ru.int, k.dat r Step.refl (Dt.bl _) q⟩⟩
theorem od_add : OpD X (binaryOp .Add) (δI0 fun i j => .int (i + j)) := od_I0 op_add
theorem od_sub : OpD X (binaryOp .Sub) (δI0 fun i j => .int (i - j)) := od_I0 op_sub
theorem od_mul : OpD X (binaryOp .Mult) (δI CMul fun i j => .int (i * j)) := od_I op_mul
theorem od_fdiv : OpD X (binaryOp .FloorDiv) (δI CDiv fun i j => .int (i / j)) := od_I op_fdiv
theorem od_mod : OpD X (binaryOp .Mod) (δI (fun _ j => 0 < j) fun i j => .int (i % j)) := od_I op_mod
theorem od_pow : OpD X (binaryOp .Pow) (δI CPow fun i j => .int (i ^ j.toNat)) := od_I op_pow
theorem od_lt : OpD X (compareOp .Lt) (δI0 fun i j => .bool (decide (i < j))) := od_B0 op_lt
theorem od_le : OpD X (compareOp .LtE) (δI0 fun i j => .bool (decide (i ≤ j))) := od_B0 op_le
theorem od_gt : OpD X (compareOp .Gt) (δI0 fun i j => .bool (decide (j < i))) := od_B0 op_gt
theorem od_ge : OpD X (compareOp .GtE) (δI0 fun i j => .bool (decide (j ≤ i))) := od_B0 op_ge
/-! ### is, is not, of truths -/
def δB (g : Bool → Bool → Bool) : D2 := fun x y M Φ => ∃ c d, x = .dat (.bool c) ∧ y = .dat (.bool d) ∧ Φ (.dat (.bool (g c d))) M
theorem od_isnotB : OpD X (compareOp .IsNot) (δB fun c d => c != d) :=
  ⟨fun x y H Q => ∃ c d, x = .bl c ∧ y = .bl d ∧ Q (.bl (c != d)) H, fun pins s σ H x y v u Q I rx ry ⟨c, d, e1, e2, q⟩ => by
    subst e1 e2
    cases rx
    cases ry
    exact isnot_bool ⟨.bl _, H, I, rfl, q⟩, fun v u H x y M Φ Q r rv ru ⟨c, d, e1, e2, q⟩ k => by
    subst e1 e2
    exact ⟨c, d, rv.bool, ru.bool, k.dat r Step.refl (Dt.bl _) q⟩⟩
/-! ### lists and tuples put together -/
def δCatT : D2 := fun x y M Φ => ∃ ds es, x = .dat (.tuple ds) ∧ y = .dat (.tuple es) ∧ ds ≠ [] ∧ ds.length + es.length ≤ sizeLine ∧ Φ (.dat (.tuple (ds ++ es))) M
theorem op_catSq : OpR X (binaryOp .Add) (fun x y H Q => ∃ l b xs zs, x = .ref l ∧ y = .ref b ∧ SqL X.K H l xs ∧ SqL X.K H b zs ∧ xs.length + zs.length ≤ sizeLine ∧ ∀ p, H p = none → Q (.ref p) (upd H p (.lst (xs ++ zs)))) := by
  intro pins s σ H x y v u Q I rx ry h
  obtain ⟨l, b, xs, zs, rfl, rfl, hl, hb, hz, q⟩ := h
  cases rx
  cases ry
  obtain ⟨its, r1, p1, _⟩ := I.list hl
  obtain ⟨its2, r2, p2, _⟩ := I.list hb
  obtain ⟨⟨cls, dd, data, sl⟩, ho, hc, n, hd⟩ := p1.isList
  obtain ⟨⟨cls2, dd2, data2, sl2⟩, ho2, hc2, n2, hd2⟩ := p2.isList
  simp only at hc hd hc2 hd2
  subst hc hd hc2 hd2
  have e : its.toArray ++ its2.toArray = (its ++ its2).toArray := by simp
  have hsz : its.toArray.size + its2.toArray.size ≤ sizeLine := by rw [List.size_toArray, List.size_toArray, ← r1.length, ← r2.length]; exact hz
  refine concat_meets ⟨_, ho, rfl⟩ ⟨_, ho2, rfl⟩ noFill_list_add seq_list_add PySem.F.slot_list_add PySem.F.entry_list_add (PySem.F.args_list_add_2 _ _) (list_addW l b its.toArray its2.toArray n n2 dd dd2 sl sl2 hsz) ⟨ho, ho2, ?_⟩
  rw [e]
  exact ⟨.ref _, _, I.lnew (t' := s.toks) (r1.append r2) (by rw [List.length_append]; exact hz), rfl, q _ I.fresh⟩
/-- a list of two: data; or owned -/
def δCatL : D2 := fun x y M Φ => ∃ ds es, x = .dat (.list ds) ∧ y = .dat (.list es) ∧ ds.length + es.length ≤ sizeLine ∧ Φ (.dat (.list (ds ++ es))) M
def δCatLO : D2 := fun x y M Φ => ∃ ds es, x = .dat (.list ds) ∧ y = .dat (.list es) ∧ ds.length + es.length ≤ sizeLine ∧ ∀ p, M p = none → Φ (.own p) (mset M p (.lst (ds ++ es)))
end

/-! ### argument lists, displays -/
def dNil : DTA := fun _ M Φ => Φ [] M
def dCons (ta : DTE) (tr : DTA) : DTA := fun Δ M Φ => ta Δ M fun x M1 => tr Δ M1 fun xs M2 => Φ (x :: xs) M2
section
variable {X : Cx} {e : Expr} {es : List Expr} {te : DTE} {t : DTA} {pos : Pos}
theorem da_nil : DA X [] dNil := ⟨_, pa_nil, fun _ H _ M _ _ r _ h k => k [] H [] M r Step.refl .nil h⟩
theorem da_cons (ha : DE X e te) (hr : DA X es t) (hs : starEach (e :: es) X.env = (false, eval e X.env) :: starEach es X.env := by rfl) : DA X (e :: es) (dCons te t) := by
  obtain ⟨u, p, q⟩ := ha
  obtain ⟨w, p2, q2⟩ := hr
  refine ⟨_, pa_cons p p2 hs, fun σ H Δ M Φ Q r e h k => ?_⟩
  refine q σ H Δ M _ _ r e h fun v H1 x M1 r1 st rv hx => ?_
  exact q2 σ H1 Δ M1 _ _ r1 (e.step st) hx fun vs H2 xs M2 r2 st2 rvs hxs => k (v :: vs) H2 (x :: xs) M2 r2 (st.trans st2) (.cons (rv.step st2) rvs) hxs
def dTup (t : DTA) : DTE := fun Δ M Φ => t Δ M fun xs M1 => ∃ ds, xs = ds.map DV.dat ∧ ds.length ≤ sizeLine ∧ Φ (.dat (.tuple ds)) M1
def dLst (t : DTA) : DTE := fun Δ M Φ => t Δ M fun xs M1 => ∃ ds, xs = ds.map DV.dat ∧ ds.length ≤ sizeLine ∧ Φ (.dat (.list ds)) M1
def dLstO (t : DTA) : DTE := fun Δ M Φ => t Δ M fun xs M1 => ∃ ds, xs = ds.map DV.dat ∧ ds.length ≤ sizeLine ∧ ∀ p, M1 p = none → Φ (.own p) (mset M1 p (.lst ds))
theorem de_tup {x1} (h : DA X es t) : DE X (.Tuple es x1 pos) (dTup t) := by
  obtain ⟨u, p, q⟩ := h
  refine ⟨_, pe_tup p, fun σ H Δ M Φ Q r e h k => ?_⟩
  refine q σ H Δ M _ _ r e h fun vs H1 xs M1 r1 st rv hx => ?_
  obtain ⟨ds, rfl, hz, hx⟩ := hx
  have hd := rv.dats
  refine ⟨by rw [hd.length]; exact hz, fun p hp => ?_⟩
  exact k.dat (r1.new hp) (st.trans (Step.new hp)) (Dt.newTup r1 hp hd) hx
theorem de_lst (h : DA X es t) : DE X (.List es pos) (dLst t) := by
  obtain ⟨u, p, q⟩ := h
  refine ⟨_, pe_lst p, fun σ H Δ M Φ Q r e h k => ?_⟩
  refine q σ H Δ M _ _ r e h fun vs H1 xs M1 r1 st rv hx => ?_
  obtain ⟨ds, rfl, hz, hx⟩ := hx
  have hd := rv.dats
  refine ⟨by rw [hd.length]; exact hz, fun p hp => ?_⟩
  exact k.dat (r1.new hp) (st.trans (Step.new hp)) (Dt.newLst r1 hp hd) hx
theorem de_lstO (h : DA X es t) : DE X (.List es pos) (dLstO t) := by
  obtain ⟨u, p, q⟩ := h
  refine ⟨_, pe_lst p, fun σ H Δ M Φ Q r e h k => ?_⟩
  refine q σ H Δ M _ _ r e h fun vs H1 xs M1 r1 st rv hx => ?_
  obtain ⟨ds, rfl, hz, hx⟩ := hx
  have hd := rv.dats
  refine ⟨by rw [hd.length]; exact hz, fun p hp => ?_⟩
  exact k _ _ (.own p) _ (r1.ownSet (Step.ownNew hp) hd) (st.trans (Step.ownNew hp)) rfl (hx p (r1.tracked hp))
/-- an owned list becomes data -/
def dFrz (t : DTE) : DTE := fun Δ M Φ => t Δ M fun x M1 => ∃ l ds, x = .own l ∧ M1 l = some (.lst ds) ∧ Φ (.dat (.list ds)) (mdel M1 l)
theorem de_frz (h : DE X e te) : DE X e (dFrz te) := by
  obtain ⟨u, p, q⟩ := h
  refine ⟨u, p, fun σ H Δ M Φ Q r e h k => ?_⟩
  refine q σ H Δ M _ _ r e h fun v H1 x M1 r1 st rv hx => ?_
  obtain ⟨l, ds, rfl, hm, hx⟩ := hx
  obtain ⟨vs, e1, e2⟩ := r1 l ds hm
  cases (show v = .ref l from rv)
  exact k.dat r1.frz (st.trans Step.frz) (Dt.lst (.inl ⟨mdel_same, .inl e1⟩) (e2.step Step.frz)) hx
/-! ### items -/
def δIx : D2 := fun x y M Φ => ∃ ds i d, (x = .dat (.tuple ds) ∨ x = .dat (.list ds) ∨ ∃ l, x = .own l ∧ M l = some (.lst ds)) ∧ y = .dat (.int i) ∧ atI ds i = some d ∧ Φ (.dat d) M
theorem Dts.atI {K : PySem.W.Frag} {M : Mp} {H : Hp} {vs : List V} {ds : List PyData} {i : Int} {d : PyData} (h : Dts K M H vs ds) (e : L2.atI ds i = some d) : ∃ v, L2.atI vs i = some v ∧ Dt K M H v d := by
  unfold L2.atI at e ⊢
  rw [h.length]
  cases q : ixN ds.length i with
  | none => rw [q] at e; cases e
  | some j =>
    rw [q] at e
    exact h.get e
theorem de_ix {a b : Expr} {ta tb : DTE} (ha : DE X a ta) (hb : DE X b tb) (hs : PlainIx b := by intro _ _; rfl) : DE X (.Subscript a b pos) (dOp δIx ta tb) := by
  obtain ⟨ta', pa, qa⟩ := ha
  obtain ⟨tb', pb, qb⟩ := hb
  refine ⟨_, pe_ix ix_seq pa pb hs, Snd.opn qa qb fun v u H x y M Φ Q r rv ru h k => ?_⟩
  obtain ⟨ds, i, d, hx, rfl, hd, q⟩ := h
  cases ru.int
  rcases hx with rfl | rfl | ⟨l, rfl, hm⟩
  · obtain ⟨p, xs, rfl, h1, h2⟩ := rv.tup
    obtain ⟨w', e1, e2⟩ := h2.atI hd
    exact .inr (.inl ⟨p, xs, i, w', rfl, rfl, h1.sq, e1, k.dat r Step.refl e2 q⟩)
  · obtain ⟨p, xs, rfl, h1, h2⟩ := rv.lst
    obtain ⟨w', e1, e2⟩ := h2.atI hd
    exact .inl ⟨p, xs, i, w', rfl, rfl, h1.sq, e1, k.dat r Step.refl e2 q⟩
  · cases (show v = .ref l from rv)
    obtain ⟨vs, g1, g2⟩ := r l ds hm
    obtain ⟨w', e1, e2⟩ := g2.atI hd
    exact .inl ⟨l, vs, i, w', rfl, rfl, SqL.of g1, e1, k.dat r Step.refl e2 q⟩
end

/-! ### calls of built-ins -/
abbrev D1 := List DV → Mp → DK → Prop
def CallD (X : Cx) (f : Value) (δ : D1) : Prop := ∃ r, CallR X f r ∧ ∀ vs H xs M Φ Q, DRel X.K M H → VRels X.K M H vs xs → δ xs M Φ → Rch X.K M H Φ Q → r vs H Q
def dCB (δ : D1) (t : DTA) : DTE := fun Δ M Φ => t Δ M fun xs M1 => δ xs M1 Φ
section
variable {X : Cx} {e : Expr} {es : List Expr} {t : DTA} {pos p : Pos} {x : Str} {id : String} {δ : D1}
theorem de_callB (hc : CallD X (.builtin id) δ) (hg : Gl X x) (hm : X.mg x = none) (hv : bootBuiltins x = some (.builtin id)) (ha : DA X (e :: es) t) (hn : x ≠ "__name__" := by decide) (hdb : (x == ("__debug__" : Str)) = false := by decide)
    (he : starEach (e :: es) X.env = (false, eval e X.env) :: starEach es X.env := by rfl) (hpl : (backTo pos (starEach es X.env)).any (·.1) = false := by rfl) : DE X (.Call (.Name x p) (e :: es) [] pos) (dCB δ t) := by
  obtain ⟨u, p, q⟩ := ha
  obtain ⟨r, hr, qr⟩ := hc
  refine ⟨_, pe_callB hr hg hm hv p hn hdb he hpl, fun σ H Δ M Φ Q r e h k => ?_⟩
  exact q σ H Δ M _ _ r e h fun vs H1 xs M1 r1 st rv hx => qr vs H1 xs M1 _ _ r1 rv hx (k.step st)
theorem de_callTy (hc : CallD X (.type id) δ) (hg : Gl X x) (hm : X.mg x = none) (hv : bootBuiltins x = some (.type id)) (ha : DA X (e :: es) t) (hn : x ≠ "__name__" := by decide) (hdb : (x == ("__debug__" : Str)) = false := by decide)
    (he : starEach (e :: es) X.env = (false, eval e X.env) :: starEach es X.env := by rfl) (hpl : (backTo pos (starEach es X.env)).any (·.1) = false := by rfl) : DE X (.Call (.Name x p) (e :: es) [] pos) (dCB δ t) := by
  obtain ⟨u, p, q⟩ := ha
  obtain ⟨r, hr, qr⟩ := hc
  refine ⟨_, pe_callTy hr hg hm hv p hn hdb he hpl, fun σ H Δ M Φ Q r e h k => ?_⟩
  exact q σ H Δ M _ _ r e h fun vs H1 xs M1 r1 st rv hx => qr vs H1 xs M1 _ _ r1 rv hx (k.step st)
theorem Paired.one {α β : Type} {F : α → β → Prop} {l : List α} {b : β} (h : Paired F l [b]) : ∃ a, l = [a] ∧ F a b := by
  cases h with
  | cons h1 h2 => cases h2; exact ⟨_, rfl, h1⟩
theorem Paired.two {α β : Type} {F : α → β → Prop} {l : List α} {b c : β} (h : Paired F l [b, c]) : ∃ a a', l = [a, a'] ∧ F a b ∧ F a' c := by
  cases h with
  | cons h1 h2 =>
    obtain ⟨a, rfl, h3⟩ := Paired.one h2
    exact ⟨_, a, rfl, h1, h3⟩
def δLen : D1 := fun xs M Φ => ∃ ds, (xs = [.dat (.tuple ds)] ∨ xs = [.dat (.list ds)] ∨ ∃ l, xs = [.own l] ∧ M l = some (.lst ds)) ∧ Φ (.dat (.int ds.length)) M
theorem cd_len : CallD X (.builtin "len") δLen := by
  refine ⟨_, call_len_seq, fun vs H xs M Φ Q r rv h k => ?_⟩
  obtain ⟨ds, hx, q⟩ := h
  have fin : Q (.int ds.length) H := k.dat r Step.refl (Dt.int _) q
  rcases hx with rfl | rfl | ⟨l, rfl, hm⟩
  · obtain ⟨v, rfl, h1⟩ := Paired.one rv
    obtain ⟨p, ys, rfl, g1, g2⟩ := VRel.tup h1
    exact ⟨p, ys, rfl, .inr g1.sq, by rw [g2.length]; exact fin⟩
  · obtain ⟨v, rfl, h1⟩ := Paired.one rv
    obtain ⟨p, ys, rfl, g1, g2⟩ := VRel.lst h1
    exact ⟨p, ys, rfl, .inl g1.sq, by rw [g2.length]; exact fin⟩
  · obtain ⟨v, rfl, h1⟩ := Paired.one rv
    cases (show v = .ref l from h1)
    obtain ⟨ws, g1, g2⟩ := r l ds hm
    exact ⟨l, ws, rfl, .inl (SqL.of g1), by rw [g2.length]; exact fin⟩
def δLenS : D1 := fun xs M Φ => ∃ z : Str, xs = [.dat (.str z)] ∧ z.length ≤ sizeLine ∧ Φ (.dat (.int z.length)) M
theorem cd_lenS : CallD X (.builtin "len") δLenS := by
  refine ⟨_, call_len_str, fun vs H xs M Φ Q r rv h k => ?_⟩
  obtain ⟨z, rfl, hz, q⟩ := h
  obtain ⟨v, rfl, h1⟩ := Paired.one rv
  exact ⟨z, by rw [VRel.str h1], hz, k.dat r Step.refl (Dt.int _) q⟩
def δStrI : D1 := fun xs M Φ => ∃ i : Int, xs = [.dat (.int i)] ∧ i.natAbs.log2 < 1920 ∧ Φ (.dat (.str (toString i))) M
theorem cd_strI : CallD X (.type "str") δStrI := by
  refine ⟨_, call_str_int, fun vs H xs M Φ Q r rv h k => ?_⟩
  obtain ⟨i, rfl, hz, q⟩ := h
  obtain ⟨v, rfl, h1⟩ := Paired.one rv
  exact ⟨i, by rw [VRel.int h1], hz, k.dat r Step.refl (Dt.str _) q⟩
def δAbs : D1 := fun xs M Φ => ∃ i : Int, xs = [.dat (.int i)] ∧ Φ (.dat (.int (if i < 0 then -i else i))) M
theorem cd_abs : CallD X (.builtin "abs") δAbs := by
  refine ⟨_, call_abs, fun vs H xs M Φ Q r rv h k => ?_⟩
  obtain ⟨i, rfl, q⟩ := h
  obtain ⟨v, rfl, h1⟩ := Paired.one rv
  exact ⟨i, by rw [VRel.int h1], k.dat r Step.refl (Dt.int _) q⟩
def δ2I (g : Int → Int → Int) : D1 := fun xs M Φ => ∃ i j : Int, xs = [.dat (.int i), .dat (.int j)] ∧ Φ (.dat (.int (g i j))) M
theorem cd_max2 (hc : X.calm = true) : CallD X (.builtin "max") (δ2I fun i j => max i j) := by
  refine ⟨_, call_max2 hc, fun vs H xs M Φ Q r rv h k => ?_⟩
  obtain ⟨i, j, rfl, q⟩ := h
  obtain ⟨v, u, rfl, h1, h2⟩ := Paired.two rv
  have e : (if j > i then j else i) = max i j := by rw [Int.max_def]; split <;> split <;> omega
  exact ⟨i, j, by rw [VRel.int h1, VRel.int h2], by rw [e]; exact k.dat r Step.refl (Dt.int _) q⟩
theorem cd_min2 (hc : X.calm = true) : CallD X (.builtin "min") (δ2I fun i j => min i j) := by
  refine ⟨_, call_min2 hc, fun vs H xs M Φ Q r rv h k => ?_⟩
  obtain ⟨i, j, rfl, q⟩ := h
  obtain ⟨v, u, rfl, h1, h2⟩ := Paired.two rv
  have e : (if j < i then j else i) = min i j := by rw [Int.min_def]; split <;> split <;> omega
  exact ⟨i, j, by rw [VRel.int h1, VRel.int h2], by rw [e]; exact k.dat r Step.refl (Dt.int _) q⟩
/-- list(t): data -/
def δListOf : D1 := fun xs M Φ => ∃ ds, (xs = [.dat (.tuple ds)] ∨ xs = [.dat (.list ds)]) ∧ Φ (.dat (.list ds)) M
end
end DL

namespace DL
open PySem PySem.Spec PyProof.Rows L2
/-! ### data is read -/
mutual
def hasLst : PyData → Bool
  | .none | .bool _ | .int _ | .str _ => false
  | .list _ => true
  | .tuple xs => hasLstAll xs
  | .dict kvs => hasLstKv kvs
def hasLstAll : List PyData → Bool
  | [] => false
  | x :: xs => hasLst x || hasLstAll xs
def hasLstKv : List (PyData × PyData) → Bool
  | [] => false
  | (k, v) :: r => hasLst k || hasLst v || hasLstKv r
end
theorem hasLstKv_zip : ∀ (ks ds : List PyData), ks.length = ds.length → hasLstKv (ks.zip ds) = false → hasLstAll ds = false
  | [], [], _, _ => by simp [hasLstAll]
  | k :: ks, d :: ds, h, e => by
    rw [List.zip_cons_cons, hasLstKv] at e
    have e' : (hasLst k = false ∧ hasLst d = false) ∧ hasLstKv (ks.zip ds) = false := by simpa using e
    rw [hasLstAll, e'.1.2, hasLstKv_zip ks ds (by simpa using h) e'.2]; rfl
  | [], _ :: _, h, _ => by simp at h
  | _ :: _, [], h, _ => by simp at h
section
variable {X : Cx} {pins : List (Addr × Obj)} {σ : L2.St} {H : Hp} {s : Shared} {M : Mp}
theorem keys_read {h : Heap} {P : Program} {w : World} : ∀ {es : List DictEntry} {kvs : List (Key × Value)}, Pairs (mixKind P w) es kvs → ReadsAll h (es.map (·.key)) (kvs.map fun kv => kD kv.1) []
  | _, _, .nil => .nil
  | _, _, .cons (e := e) (kv := kv) h1 _ h3 => by
    rw [List.map_cons, List.map_cons]
    have hk : Reads h e.key (kD kv.1) [] := by
      rcases keyIs_shape (k := kv.1) (v := e.key) h1 with ⟨i, t, e1, e2⟩ | ⟨x, t, e1, e2⟩
      · rw [e1, e2]; exact .int i t
      · rw [e1, e2]; exact .str x t
    exact .cons (as := []) (bs := []) hk (keys_read h3)
theorem pairs_vals {P : Program} {w : World} : ∀ {es : List DictEntry} {kvs : List (Key × Value)}, Pairs (mixKind P w) es kvs → es.map (·.val) = kvs.map (·.2)
  | _, _, .nil => rfl
  | _, _, .cons h1 h2 h3 => by rw [List.map_cons, List.map_cons, h2, pairs_vals h3]
theorem KV.vals {kvs : List (Key × V)} {vs : List (Key × Value)} (r : KV kvs vs) : Vals (kvs.map (·.2)) (vs.map (·.2)) ∧ (kvs.map fun kv => kD kv.1) = vs.map fun kv => kD kv.1 := by
  unfold KV at r
  induction r with
  | nil => exact ⟨.nil, rfl⟩
  | cons h _ ih => exact ⟨.cons h.2 ih.1, by rw [List.map_cons, List.map_cons, h.1, ih.2]⟩
theorem kV_read {h : Heap} : ∀ {ks : List Key} {us : List Value}, Vals (ks.map kV) us → ReadsAll h us (ks.map kD) []
  | [], _, r => by rw [List.map_nil] at r; cases r; exact .nil
  | k :: ks, _, r => by
    rw [List.map_cons] at r
    cases r with
    | cons r1 r2 =>
      rw [List.map_cons]
      refine .cons (as := []) (bs := []) ?_ (kV_read r2)
      cases k with
      | inl i => obtain ⟨t, rfl⟩ := r1; exact .int i t
      | inr x => obtain ⟨t, rfl⟩ := r1; exact .str x t
theorem KT.read (I : Inv X pins σ H s) {kvs : List (List Key × V)} {xs : List (List Key × Addr × Value)} (r : KT H kvs xs) :
    ReadsAll s.heap (xs.map fun x => Value.ref x.2.1) (kvs.map fun kv => PyData.tuple (kv.1.map kD)) [] ∧ Vals (kvs.map (·.2)) (xs.map fun x => x.2.2) := by
  induction r with
  | nil => exact ⟨.nil, .nil⟩
  | @cons p q ps qs h _ ih =>
    obtain ⟨its, r, ⟨o, ho, hc, n, hd⟩, _⟩ := I.tuple (SqT.of (K := X.K) h.2.1)
    rw [List.map_cons, List.map_cons, List.map_cons, List.map_cons]
    exact ⟨.cons (as := []) (bs := []) (.tuple ho hc hd (by simpa using kV_read r)) ih.1, .cons h.2.2 ih.2⟩
mutual
theorem Dt.reads (I : Inv X pins σ H s) : ∀ {v : V} {d : PyData}, Dt X.K M H v d → ∀ {u : Value}, RelV v u → ∃ as, Reads s.heap u d as ∧ (hasLst d = false → sysModules ∉ as)
  | _, _, .non, _, r => by cases r; exact ⟨[], .none, fun _ h => nomatch h⟩
  | _, _, .bl b, _, r => by cases r; exact ⟨[], .bool b, fun _ h => nomatch h⟩
  | _, _, .int i, _, r => by obtain ⟨t, rfl⟩ := r; exact ⟨[], .int i t, fun _ h => nomatch h⟩
  | _, _, .str x, _, r => by obtain ⟨t, rfl⟩ := r; exact ⟨[], .str x t, fun _ h => nomatch h⟩
  | _, _, .tup h1 h2, _, r => by
    cases r
    obtain ⟨its, rv, ⟨o, ho, hc, n, hd⟩, _⟩ := I.tuple h1.sq
    obtain ⟨as, ra, hs⟩ := Dts.reads I h2 rv
    exact ⟨as, .tuple ho hc hd (by simpa using ra), fun h => hs (by simpa [hasLst] using h)⟩
  | _, _, .lst h1 h2, _, r => by
    cases r
    obtain ⟨its, rv, ⟨o, n, ho, hc, _, hd⟩, _⟩ := I.list h1.sq
    obtain ⟨as, ra, hs⟩ := Dts.reads I h2 rv
    exact ⟨_, .list ho hc hd (by simpa using ra), fun h => by simp [hasLst] at h⟩
  | _, _, .dK (a := a) (kvs := kvs) (ds := ds) h0 h1 h2, _, r => by
    cases r
    obtain ⟨_, hsys, vs, rel, o, es, ep, ho, hc, hd, _, hp, _⟩ := (show ObjOk X.prog X.w H s.heap a (.dK kvs) from I.hok a _ h1)
    obtain ⟨rv, hk⟩ := KV.vals rel
    obtain ⟨bs, rb, hs⟩ := Dts.reads I h2 rv
    have hl : (kvs.map fun kv => kD kv.1).length = ds.length := by rw [List.length_map, ← h2.length, List.length_map]
    refine ⟨a :: [] ++ bs, .dict (as := []) ho hc.1 hd ?_ ?_, fun h => ?_⟩
    · rw [List.map_fst_zip (Nat.le_of_eq hl), hk]
      exact keys_read hp
    · rw [List.map_snd_zip (Nat.le_of_eq hl.symm), pairs_vals hp]
      exact rb
    · have h' : hasLstAll ds = false := hasLstKv_zip _ _ hl (by rw [hasLst] at h; exact h)
      intro hm
      rcases List.mem_cons.mp hm with e | hm
      · rw [← e] at hsys
        simp at hsys
      · exact hs h' hm
  | _, _, .dT (a := a) (kvs := kvs) (ds := ds) h0 h1 h2, _, r => by
    cases r
    obtain ⟨_, hsys, xs, rel, o, es, ep, ho, hc, hd, he, _⟩ := (show ObjOk X.prog X.w H s.heap a (.dT kvs) from I.hok a _ h1)
    obtain ⟨rk, rv⟩ := KT.read I rel
    obtain ⟨bs, rb, hs⟩ := Dts.reads I h2 rv
    have hl : (kvs.map fun kv => PyData.tuple (kv.1.map kD)).length = ds.length := by rw [List.length_map, ← h2.length, List.length_map]
    refine ⟨a :: [] ++ bs, .dict (as := []) ho hc.1 hd ?_ ?_, fun h => ?_⟩
    · rw [List.map_fst_zip (Nat.le_of_eq hl), he, List.map_map]
      exact rk
    · rw [List.map_snd_zip (Nat.le_of_eq hl.symm), he, List.map_map]
      exact rb
    · have h' : hasLstAll ds = false := hasLstKv_zip _ _ hl (by rw [hasLst] at h; exact h)
      intro hm
      rcases List.mem_cons.mp hm with e | hm
      · rw [← e] at hsys
        simp at hsys
      · exact hs h' hm
  | _, _, .dX (a := a) (dk := dk) (d := d) h0 h1 hsys h3 h4 h5, _, r => by
    cases r
    obtain ⟨hφ, _⟩ := (show ObjOk X.prog X.w H s.heap a (.ext _) from I.hok a _ h1)
    obtain ⟨o, es, n, u, ho, hc, hd, ek, ev, ru⟩ := h3 s.heap hφ
    obtain ⟨as, ra, ha⟩ := Dt.reads I h4 (u := .ref _) rfl
    obtain ⟨bs, rb, hb⟩ := Dt.reads I h5 ru
    refine ⟨a :: (as ++ []) ++ (bs ++ []), .dict ho hc hd ?_ ?_, fun h => ?_⟩
    · rw [ek]; exact .cons ra .nil
    · rw [ev]; exact .cons rb .nil
    · have h' : hasLst dk = false ∧ hasLst d = false := by simpa [hasLst, hasLstKv] using h
      intro hm
      rw [List.append_nil, List.append_nil, List.cons_append] at hm
      rcases List.mem_cons.mp hm with e | hm
      · rw [← e] at hsys
        simp at hsys
      · rcases List.mem_append.mp hm with hm | hm
        · exact ha h'.1 hm
        · exact hb h'.2 hm
theorem Dts.reads (I : Inv X pins σ H s) : ∀ {vs : List V} {ds : List PyData}, Dts X.K M H vs ds → ∀ {us : List Value}, Vals vs us → ∃ as, ReadsAll s.heap us ds as ∧ (hasLstAll ds = false → sysModules ∉ as)
  | _, _, .nil, _, r => by cases r; exact ⟨[], .nil, fun _ h => nomatch h⟩
  | _, _, .cons (d := d) (ds := ds) h1 h2, _, r => by
    cases r with
    | cons r1 r2 =>
      obtain ⟨as, ra, ha⟩ := Dt.reads I h1 r1
      obtain ⟨bs, rb, hb⟩ := Dts.reads I h2 r2
      refine ⟨as ++ bs, .cons ra rb, fun h hm => ?_⟩
      have h' : hasLst d = false ∧ hasLstAll ds = false := by simpa [hasLstAll] using h
      rcases List.mem_append.mp hm with hm | hm
      · exact ha h'.1 hm
      · exact hb h'.2 hm
end
end
section
variable {X : Cx}
/-! ### repr -/
theorem call_reprD (hg : X.A.guards = some []) (hu : X.A.units + 100 < cLine) : CallR X (.builtin "repr") (fun xs H Q => ∃ v d M, xs = [v] ∧ Dt X.K M H v d ∧ d.showable = true ∧ (d.hasDict && hasLst d) = false ∧ d.depth ≤ 64 ∧
    d.shown.length ≤ sizeLine ∧ Q (.str d.shown) H) := by
  intro pins s σ H xs us Q I r h
  obtain ⟨v, d, M, rfl, hd, hs, hm, hdp, hz, q⟩ := h
  obtain ⟨u, rfl, ru⟩ := vals1 r
  have ref : ∀ a, u = .ref a → wpAny (model X.prog X.w) X.A (call (.builtin "repr") [u]) (EP X pins σ Q) X.xe s := fun a e => by
    obtain ⟨as, ra, hsm⟩ := hd.reads I ru
    subst e
    refine repr_of_reads' ra hs (fun hx => hsm ?_) hg (by omega) (fun _ _ e => e) (fun h' u tk k => ⟨.str d.shown, H, I.kept k, ⟨_, rfl⟩, q⟩) hz
    rw [hx, Bool.true_and] at hm
    exact hm
  cases hd with
  | non => cases ru; simp only [PyData.shown] at q; exact PySem.P.repr_of_none ⟨.str _, H, I.tok _, ⟨_, rfl⟩, q⟩
  | bl b => cases ru; simp only [PyData.shown] at q; exact PySem.P.repr_of_bool ⟨.str _, H, I.tok _, ⟨_, rfl⟩, q⟩
  | int i => obtain ⟨t, rfl⟩ := ru; simp only [PyData.shown] at q; exact PySem.P.repr_of_int (by simpa [PyData.showable] using hs) ⟨.str _, H, I.tok _, ⟨_, rfl⟩, q⟩
  | str x => obtain ⟨t, rfl⟩ := ru; simp only [PyData.shown] at q hz; exact PySem.P.repr_of_str ⟨.str _, H, I.tok _, ⟨_, rfl⟩, q⟩ hz
  | tup _ _ => exact ref _ ru
  | lst _ _ => exact ref _ ru
  | dK _ _ _ => exact ref _ ru
  | dT _ _ _ => exact ref _ ru
  | dX _ _ _ _ _ _ => exact ref _ ru
/-- data whose text can be shown -/
structure Shw (d : PyData) : Prop where
  s : d.showable = true
  m : (d.hasDict && hasLst d) = false
  dp : d.depth ≤ 64
  z : d.shown.length ≤ sizeLine
def δRepr : D1 := fun xs M Φ => ∃ d, xs = [.dat d] ∧ Shw d ∧ Φ (.dat (.str d.shown)) M
theorem cd_repr {k : Nat} (hr : Room k X.A) : CallD X (.builtin "repr") δRepr := by
  refine ⟨_, call_reprD hr.gd (by have := hr.un; omega), fun vs H xs M Φ Q r rv h k => ?_⟩
  obtain ⟨d, rfl, hs, q⟩ := h
  obtain ⟨v, rfl, h1⟩ := Paired.one rv
  exact ⟨v, d, M, rfl, h1, hs.s, hs.m, hs.dp, hs.z, k.dat r Step.refl (Dt.str _) q⟩
/-! ### isinstance -/
def tyN : PyData → String
  | .none => "NoneType"
  | .bool _ => "bool"
  | .int _ => "int"
  | .str _ => "str"
  | .list _ => "list"
  | .tuple _ => "tuple"
  | .dict _ => "dict"
theorem call_isiD : CallR X (.builtin "isinstance") (fun xs H Q => ∃ v d M T b, xs = [v, .ty T] ∧ Dt X.K M H v d ∧ PySem.W.kitOne X.K (.type (tyN d)) (.type T) = some b ∧ Q (.bl b) H) := by
  intro pins s σ H xs us Q I r h
  obtain ⟨v, d, M, T, b, rfl, hd, e, q⟩ := h
  obtain ⟨u, w', rfl, ru, rt⟩ := vals2 r
  cases (show w' = Value.type T from rt)
  have fin : ∀ tk, EP X pins σ Q (.bool b) { s with toks := tk } := fun tk => ⟨.bl b, H, I.tok tk, rfl, q⟩
  cases hd with
  | non => cases ru; exact PySem.W.kia_one PySem.W.kitx_none I.kIn True.intro e (fun z => nomatch z) fin
  | bl y => cases ru; exact PySem.W.kia_one PySem.W.kitx_bool I.kIn True.intro e (fun z => nomatch z) fin
  | int i => obtain ⟨t, rfl⟩ := ru; exact PySem.W.kia_one PySem.W.kitx_int I.kIn True.intro e (fun z => nomatch z) fin
  | str y => obtain ⟨t, rfl⟩ := ru; exact PySem.W.kia_one PySem.W.kitx_str I.kIn True.intro e (fun z => nomatch z) fin
  | tup h1 _ =>
    cases ru
    obtain ⟨_, _, ⟨o, ho, hc, _⟩, _⟩ := I.tuple h1.sq
    exact PySem.W.kia_one PySem.W.kitx_tuple I.kIn ⟨o, ho, hc⟩ e (fun z => nomatch z) fin
  | lst h1 _ =>
    cases ru
    obtain ⟨_, _, ⟨o, n, ho, hc, _⟩, _⟩ := I.list h1.sq
    exact PySem.W.kia_one PySem.W.kitx_list I.kIn ⟨o, ho, hc⟩ e (fun z => nomatch z) fin
  | dK _ h1 _ =>
    cases ru
    obtain ⟨_, _, vs, _, p⟩ := (show ObjOk X.prog X.w H s.heap _ (.dK _) from I.hok _ _ h1)
    obtain ⟨o, es, ep, g1, g2, _⟩ := p
    exact PySem.W.kia_one PySem.W.kitx_dict I.kIn ⟨o, g1, g2.1⟩ e (fun z => nomatch z) fin
  | dT _ h1 _ =>
    cases ru
    obtain ⟨_, _, xs, _, o, es, ep, g1, g2, _⟩ := (show ObjOk X.prog X.w H s.heap _ (.dT _) from I.hok _ _ h1)
    exact PySem.W.kia_one PySem.W.kitx_dict I.kIn ⟨o, g1, g2.1⟩ e (fun z => nomatch z) fin
  | dX _ h1 _ h3 _ _ =>
    cases ru
    obtain ⟨hφ, _⟩ := (show ObjOk X.prog X.w H s.heap _ (.ext _) from I.hok _ _ h1)
    obtain ⟨o, es, n, u, ho, hc, _⟩ := h3 s.heap hφ
    exact PySem.W.kia_one PySem.W.kitx_dict I.kIn ⟨o, ho, hc⟩ e (fun z => nomatch z) fin
def isTyp (T : String) (d : PyData) : Bool := tyN d == T || (T == "int" && tyN d == "bool")
theorem kit_int (K : PySem.W.Frag) (d : PyData) : PySem.W.kitOne K (.type (tyN d)) (.type "int") = some (isTyp "int" d) := by cases d <;> rfl
theorem kit_bool (K : PySem.W.Frag) (d : PyData) : PySem.W.kitOne K (.type (tyN d)) (.type "bool") = some (isTyp "bool" d) := by cases d <;> rfl
theorem kit_tuple (K : PySem.W.Frag) (d : PyData) : PySem.W.kitOne K (.type (tyN d)) (.type "tuple") = some (isTyp "tuple" d) := by cases d <;> rfl
def δIsi (T : String) : D1 := fun xs M Φ => ∃ d, xs = [.dat d, .ty T] ∧ Φ (.dat (.bool (isTyp T d))) M
theorem cd_isi {T : String} (ht : ∀ d, PySem.W.kitOne X.K (.type (tyN d)) (.type T) = some (isTyp T d)) : CallD X (.builtin "isinstance") (δIsi T) := by
  refine ⟨_, call_isiD, fun vs H xs M Φ Q r rv h k => ?_⟩
  obtain ⟨d, rfl, q⟩ := h
  obtain ⟨v, u, rfl, h1, h2⟩ := Paired.two rv
  cases (show u = .ty T from h2)
  exact ⟨v, d, M, T, _, rfl, h1, ht d, k.dat r Step.refl (Dt.bl _) q⟩
/-! ### ==, != -/
theorem op_eqD (hu : X.A.units + 64 < cLine) : OpR X (compareOp .Eq) (fun x y H Q => ∃ M d e, Dt X.K M H x d ∧ Dt X.K M H y e ∧ d.canLay0 = true ∧ e.canLay0 = true ∧ min d.depth e.depth ≤ 64 ∧ Q (.bl (PyData.eqv d e)) H) := by
  intro pins s σ H x y v u Q I rx ry h
  obtain ⟨M, d, e, h1, h2, c1, c2, hdp, q⟩ := h
  obtain ⟨as, ra, _⟩ := h1.reads I rx
  obtain ⟨bs, rb, _⟩ := h2.reads I ry
  exact PySem.SeqAt.compareEq_reads ra rb c1 c2 (by omega) ⟨.bl _, H, I, rfl, q⟩
theorem op_neD (hu : X.A.units + 64 < cLine) : OpR X (compareOp .NotEq) (fun x y H Q => ∃ M d e, Dt X.K M H x d ∧ Dt X.K M H y e ∧ d.canLay0 = true ∧ e.canLay0 = true ∧ min d.depth e.depth ≤ 64 ∧ Q (.bl (!PyData.eqv d e)) H) := by
  intro pins s σ H x y v u Q I rx ry h
  obtain ⟨M, d, e, h1, h2, c1, c2, hdp, q⟩ := h
  obtain ⟨as, ra, _⟩ := h1.reads I rx
  obtain ⟨bs, rb, _⟩ := h2.reads I ry
  exact PySem.SeqAt.compareNe_reads ra rb c1 c2 (by omega) ⟨.bl _, H, I, rfl, q⟩
def δEq : D2 := fun x y M Φ => ∃ d e, x = .dat d ∧ y = .dat e ∧ d.canLay0 = true ∧ e.canLay0 = true ∧ min d.depth e.depth ≤ 64 ∧ Φ (.dat (.bool (PyData.eqv d e))) M
def δNe : D2 := fun x y M Φ => ∃ d e, x = .dat d ∧ y = .dat e ∧ d.canLay0 = true ∧ e.canLay0 = true ∧ min d.depth e.depth ≤ 64 ∧ Φ (.dat (.bool (!PyData.eqv d e))) M
theorem od_eq {k : Nat} (hr : Room k X.A) : OpD X (compareOp .Eq) δEq :=
  ⟨_, op_eqD hr.units, fun v u H x y M Φ Q r rv ru ⟨d, e, e1, e2, c1, c2, hdp, q⟩ k => by
    subst e1 e2
    exact ⟨M, d, e, rv, ru, c1, c2, hdp, k.dat r Step.refl (Dt.bl _) q⟩⟩
theorem od_ne {k : Nat} (hr : Room k X.A) : OpD X (compareOp .NotEq) δNe :=
  ⟨_, op_neD hr.units, fun v u H x y M Φ Q r rv ru ⟨d, e, e1, e2, c1, c2, hdp, q⟩ k => by
    subst e1 e2
    exact ⟨M, d, e, rv, ru, c1, c2, hdp, k.dat r Step.refl (Dt.bl _) q⟩⟩
/-! != of texts (any size) -/
def δNeS : D2 := fun x y M Φ => ∃ s t : Str, x = .dat (.str s) ∧ y = .dat (.str t) ∧ Φ (.dat (.bool (!decide (s = t)))) M
def δEqS : D2 := fun x y M Φ => ∃ s t : Str, x = .dat (.str s) ∧ y = .dat (.str t) ∧ Φ (.dat (.bool (decide (s = t)))) M
theorem od_eqS : OpD X (compareOp .Eq) δEqS :=
  ⟨_, op_eq, fun v u H x y M Φ Q r rv ru ⟨s, t, e1, e2, q⟩ k => by
    subst e1 e2
    have q' : Q (.bl (decide (s = t))) H := k.dat r Step.refl (Dt.bl _) q
    refine ⟨by rw [rv.str, ru.str]; rfl, ?_⟩
    rw [rv.str, ru.str, dec_str, Bool.beq_eq_decide_eq]
    exact q'⟩
/-! ### slices of tuples -/
abbrev DTO := DSt → Mp → (Option Int → Mp → Prop) → Prop
def DO (X : Cx) (e : Option Expr) (τ : DTO) : Prop := ∃ t, PO X e t ∧ ∀ σ H Δ M Φ (Q : Option Int → Hp → Prop), DRel X.K M H → ERel X.K M H σ Δ → τ Δ M Φ → (∀ o H' M', DRel X.K M' H' → Step M H M' H' → Φ o M' → Q o H') → t σ H Q
def dNoPart : DTO := fun _ M Φ => Φ none M
def dPart (t : DTE) : DTO := fun Δ M Φ => t Δ M fun x M1 => ∃ i, x = .dat (.int i) ∧ Φ (some i) M1
theorem do_none : DO X none dNoPart := ⟨_, po_none, fun _ H _ M _ _ r _ h k => k none H M r Step.refl h⟩
theorem do_some {e : Expr} {te : DTE} (h : DE X e te) : DO X (some e) (dPart te) := by
  obtain ⟨t, p, q⟩ := h
  refine ⟨_, po_some p, fun σ H Δ M Φ Q r e h k => ?_⟩
  refine q σ H Δ M _ _ r e h fun v H1 x M1 r1 st rv hx => ?_
  obtain ⟨i, rfl, hx⟩ := hx
  exact ⟨i, rv.int, k _ H1 M1 r1 st hx⟩
def cutD (xs : List PyData) (lo hi : Option Int) : List PyData := (xs.drop (HT.sIx xs.length 0 lo)).take (HT.sIx xs.length xs.length hi - HT.sIx xs.length 0 lo)
theorem Dts.cut {K : PySem.W.Frag} {M : Mp} {H : Hp} {vs : List V} {ds : List PyData} (h : Dts K M H vs ds) (lo hi : Option Int) : Dts K M H (cutV vs lo hi) (cutD ds lo hi) := by
  unfold cutV cutD
  rw [h.length]
  exact (h.drop _).take _
def dSlT (te : DTE) (tl th : DTO) : DTE := fun Δ M Φ => te Δ M fun x M1 => tl Δ M1 fun l M2 => th Δ M2 fun u M3 => ∃ ds, x = .dat (.tuple ds) ∧ ¬ (HT.sIx ds.length 0 l = 0 ∧ HT.sIx ds.length ds.length u = ds.length) ∧ Φ (.dat (.tuple (cutD ds l u))) M3
theorem de_sliceT {e : Expr} {te : DTE} {lo hi : Option Expr} {tl th : DTO} {p2 pos : Pos} (he : DE X e te) (hl : DO X lo tl) (hu : DO X hi th) : DE X (.Subscript e (.Slice lo hi none p2) pos) (dSlT te tl th) := by
  obtain ⟨t1, p1, q1⟩ := he
  obtain ⟨t2, p2, q2⟩ := hl
  obtain ⟨t3, p3, q3⟩ := hu
  refine ⟨_, pe_slice sl_tup p1 p2 p3, fun σ H Δ M Φ Q r e h k => ?_⟩
  refine q1 σ H Δ M _ _ r e h fun v H1 x M1 r1 st rv hx => ?_
  refine q2 σ H1 Δ M1 _ _ r1 (e.step st) hx fun l H2 M2 r2 st2 hl => ?_
  refine q3 σ H2 Δ M2 _ _ r2 (e.step (st.trans st2)) hl fun u H3 M3 r3 st3 hu => ?_
  obtain ⟨ds, rfl, hw, hu⟩ := hu
  obtain ⟨a, xs, rfl, h1, h2⟩ := (rv.step (st2.trans st3)).tup
  refine ⟨a, xs, rfl, h1.sq, by rw [h2.length]; exact hw, fun p hp => ?_⟩
  exact k.dat (r3.new hp) ((st.trans (st2.trans st3)).trans (Step.new hp)) (Dt.newTup r3 hp (h2.cut l u)) hu
end
end DL

namespace DL
open PySem PySem.Spec PyProof.Rows L2
/-! ### statements -/
def dNext : DTS := fun D Δ M => D.nx Δ M
def dSeq (t u : DTS) : DTS := fun D Δ M => t { D with nx := u D } Δ M
section
variable {X : Cx} {st : Stmt} {rest : List Stmt} {t u : DTS} {e : Expr} {te : DTE} {pos : Pos}
theorem dss_nil : DSs X [] dNext := ⟨_, pss_nil, fun σ H Δ M D E r e h k => k.nx σ H Δ M r Step.refl e h⟩
theorem dss_cons (h1 : DS X st t) (h2 : DSs X rest u) : DSs X (st :: rest) (dSeq t u) := by
  obtain ⟨t1, p1, q1⟩ := h1
  obtain ⟨t2, p2, q2⟩ := h2
  refine ⟨_, pss_cons p1 p2, fun σ H Δ M D E r e h k => ?_⟩
  refine q1 σ H Δ M { D with nx := u D } { E with nx := t2 E } r e h ⟨fun σ' H' Δ' M' r' st' e' hn => ?_, k.rt, k.bk, k.ct⟩
  exact q2 σ' H' Δ' M' D E r' e' hn (k.step st')
theorem dss_one (h1 : DS X st t) : DSs X [st] t := by
  obtain ⟨t1, p1, q1⟩ := h1
  exact ⟨_, pss_one p1, q1⟩
def dBreak : DTS := fun D Δ M => D.bk Δ M
def dCont : DTS := fun D Δ M => D.ct Δ M
def dDrop (te : DTE) : DTS := fun D Δ M => te Δ M fun _ M1 => D.nx Δ M1
theorem ds_expr (he : DE X e te) (hs : swapsWith e none pos.line X.env = pure false := by rfl) : DS X (.Expr e pos) (dDrop te) := by
  obtain ⟨t, p, q⟩ := he
  refine ⟨_, ps_expr p hs, fun σ H Δ M D E r e h k => ?_⟩
  exact q σ H Δ M _ _ r e h fun v H1 x M1 r1 st rv hx => k.nx σ H1 Δ M1 r1 st (e.step st) hx
def dRet (te : DTE) : DTS := fun D Δ M => te Δ M D.rt
theorem ds_ret (he : DE X e te) : DS X (.Return (some e) pos) (dRet te) := by
  obtain ⟨t, p, q⟩ := he
  exact ⟨_, ps_ret p, fun σ H Δ M D E r e h k => q σ H Δ M _ _ r e h k.rt⟩
def dRetN : DTS := fun D _ M => D.rt (.dat .none) M
def dIfS (c : DTT) (t u : DTS) : DTS := fun D Δ M => c Δ M fun b M1 => if b = true then t D Δ M1 else u D Δ M1
theorem ds_if {c : Expr} {a b : List Stmt} {tc : DTT} (hc : DT X c tc) (ha : DSs X a t) (hb : DSs X b u) : DS X (.If c a b pos) (dIfS tc t u) := by
  obtain ⟨t0, p0, q0⟩ := hc
  obtain ⟨t1, p1, q1⟩ := ha
  obtain ⟨t2, p2, q2⟩ := hb
  refine ⟨_, ps_if p0 p1 p2, fun σ H Δ M D E r e h k => ?_⟩
  refine q0 σ H Δ M _ _ r e h fun c H1 M1 r1 st hc => ?_
  cases c with
  | true => rw [if_pos rfl]; exact q1 σ H1 Δ M1 D E r1 (e.step st) (by simpa using hc) (k.step st)
  | false => rw [if_neg Bool.false_ne_true]; exact q2 σ H1 Δ M1 D E r1 (e.step st) (by simpa using hc) (k.step st)
/-! ### targets -/
abbrev DTG := DV → DSt → Mp → (DSt → Mp → Prop) → Prop
abbrev DTGs := List DV → DSt → Mp → (DSt → Mp → Prop) → Prop
def DG (X : Cx) (tg : Expr) (τ : DTG) : Prop := ∃ t, PG X tg t ∧ ∀ v σ H x Δ M Φ (Q : L2.St → Hp → Prop), DRel X.K M H → ERel X.K M H σ Δ → VRel X.K M H v x → τ x Δ M Φ →
  (∀ σ' H' Δ' M', DRel X.K M' H' → Step M H M' H' → ERel X.K M' H' σ' Δ' → Φ Δ' M' → Q σ' H') → t v σ H Q
def DGs (X : Cx) (ts : List Expr) (τ : DTGs) : Prop := ∃ t, PGs X ts t ∧ ∀ vs σ H xs Δ M Φ (Q : L2.St → Hp → Prop), DRel X.K M H → ERel X.K M H σ Δ → VRels X.K M H vs xs → τ xs Δ M Φ →
  (∀ σ' H' Δ' M', DRel X.K M' H' → Step M H M' H' → ERel X.K M' H' σ' Δ' → Φ Δ' M' → Q σ' H') → t vs σ H Q
def dgName (i : Nat) : DTG := fun x Δ M Φ => Φ (Δ.set i (some x)) M
theorem dg_name (i : Nat) {x : Str} (hN : X.N.Nodup) (hi : X.N[i]? = some x := by rfl) (hx : Loc X.env.scope x := by first | exact Or.inl rfl | exact Or.inr rfl) (hf : X.fn x = true ∨ X.env.scope.names.lookup x = some .local := by first | exact .inl rfl | exact .inr rfl | assumption) :
    DG X (.Name x pos) (dgName i) :=
  ⟨_, pg_name hN hi hx hf, fun v σ H x Δ M Φ Q r e rv h k => k _ H _ M r Step.refl (e.set rv) h⟩
def dgNil : DTGs := fun xs Δ M Φ => xs = [] ∧ Φ Δ M
def dgCons (t : DTG) (u : DTGs) : DTGs := fun xs Δ M Φ => ∃ x r, xs = x :: r ∧ t x Δ M fun Δ' M' => u r Δ' M' Φ
theorem dgs_nil : DGs X [] dgNil := ⟨_, pgs_nil, fun vs σ H xs Δ M Φ Q r e rv ⟨h1, h2⟩ k => by
  subst h1
  cases rv
  exact ⟨rfl, k σ H Δ M r Step.refl e h2⟩⟩
theorem dgs_cons {es : List Expr} {t : DTG} {u : DTGs} (h1 : DG X e t) (h2 : DGs X es u)
    (hs : (assignEach (e :: es) X.env).map (·.2) = assign e X.env :: (assignEach es X.env).map (·.2) := by rfl) : DGs X (e :: es) (dgCons t u) := by
  obtain ⟨t1, p1, q1⟩ := h1
  obtain ⟨t2, p2, q2⟩ := h2
  refine ⟨_, pgs_cons p1 p2 hs, fun vs σ H xs Δ M Φ Q r e rv ⟨x, xr, e1, h⟩ k => ?_⟩
  subst e1
  cases rv with
  | cons ra rr =>
    refine ⟨_, _, rfl, q1 _ σ H x Δ M _ _ r e ra h fun σ' H' Δ' M' r' st e' h' => ?_⟩
    exact q2 _ σ' H' xr Δ' M' Φ Q r' e' (VRels.step rr st) h' fun σ2 H2 Δ2 M2 r2 st2 e2 hΦ => k σ2 H2 Δ2 M2 r2 (st.trans st2) e2 hΦ
def dgTup (n : Nat) (t : DTGs) : DTG := fun x Δ M Φ => ∃ ds, x = .dat (.tuple ds) ∧ ds.length = n ∧ t (ds.map DV.dat) Δ M Φ
theorem Dts.vrels {K : PySem.W.Frag} {M : Mp} {H : Hp} : ∀ {vs : List V} {ds : List PyData}, Dts K M H vs ds → VRels K M H vs (ds.map DV.dat)
  | _, _, .nil => .nil
  | _, _, .cons h1 h2 => .cons h1 (Dts.vrels h2)
theorem dg_tup {es : List Expr} {k : Nat} {t : DTGs} {n : Nat} (hc : X.calm = true) (h : DGs X es t) (hn : (assignEach es X.env).length = n := by rfl) (hst : (assignEach es X.env).findIdx? (·.1) = none := by rfl) : DG X (.Tuple es k pos) (dgTup n t) := by
  obtain ⟨t1, p1, q1⟩ := h
  refine ⟨_, pg_tup hc p1 hn hst, fun v σ H x Δ M Φ Q r e rv ⟨ds, e1, hl, h⟩ k => ?_⟩
  subst e1
  obtain ⟨a, xs, rfl, h1, h2⟩ := rv.tup
  exact ⟨a, xs, rfl, h1.sq, by rw [h2.length]; exact hl, q1 xs σ H _ Δ M Φ Q r e h2.vrels h k⟩
/-- l[i] = v of an owned list -/
def dgSub (to ti : DTE) : DTG := fun x Δ M Φ => to Δ M fun o M1 => ti Δ M1 fun i M2 => ∃ l ds k j d, o = .own l ∧ i = .dat (.int k) ∧ x = .dat d ∧ M2 l = some (.lst ds) ∧ ixN ds.length k = some j ∧ Φ Δ (mset M2 l (.lst (ds.set j d)))
theorem dg_sub {o i : Expr} {to ti : DTE} (ho : DE X o to) (hi : DE X i ti)
    (ha : ∀ v, assign (.Subscript o i pos) X.env v = (do
      let ov ← holding [v] (eval o X.env)
      let iv ← holding [v, ov] (eval i X.env)
      standAt pos
      holding [v, ov, iv] (setItem ov iv v)
      release [v, ov, iv] []) := by intro _; rfl) : DG X (.Subscript o i pos) (dgSub to ti) := by
  obtain ⟨t1, p1, q1⟩ := ho
  obtain ⟨t2, p2, q2⟩ := hi
  refine ⟨_, pg_sub p1 p2 set_list ha, fun v σ H x Δ M Φ Q r e rv h k => ?_⟩
  refine Snd.bin q1 q2 r e h fun w1 w2 H2 o' i' M2 r2 st ro ri hs => ?_
  obtain ⟨l, ds, kk, j, d, rfl, rfl, rfl, hm, hj, hΦ⟩ := hs
  obtain ⟨vs, g1, g2⟩ := r2 l ds hm
  cases (show w1 = .ref l from ro)
  have rv2 : Dt X.K M2 H2 v d := Dt.step st rv
  have st2 : Step M2 H2 (mset M2 l (.lst (ds.set j d))) (upd H2 l (.lst (vs.set j v))) := Step.ownPut hm
  refine ⟨l, vs, kk, j, rfl, ri.int, g1, by rw [g2.length]; exact hj, ?_⟩
  exact k σ _ Δ _ (r2.ownSet st2 (g2.set rv2 j)) (st.trans st2) (e.step (st.trans st2)) hΦ
def dAsg (te : DTE) (g : DTG) : DTS := fun D Δ M => te Δ M fun x M1 => g x Δ M1 D.nx
theorem ds_asg {tg : Expr} {g : DTG} (he : DE X e te) (hg : DG X tg g) (hs : swapsWithSole [tg] e pos.line X.env = pure false := by rfl) (hw : swappedStores [tg] e X.env = pure none := by rfl)
    (h1 : (assignEach [tg] X.env).map (·.2) = [assign tg X.env] := by rfl) : DS X (.Assign [tg] e pos) (dAsg te g) := by
  obtain ⟨t1, p1, q1⟩ := he
  obtain ⟨t2, p2, q2⟩ := hg
  refine ⟨_, ps_asg p1 p2 hs hw h1, fun σ H Δ M D E r e h k => ?_⟩
  refine q1 σ H Δ M _ _ r e h fun v H1 x M1 r1 st rv hx => ?_
  exact q2 v σ H1 x Δ M1 _ _ r1 (e.step st) rv hx fun σ' H' Δ' M' r' st' e' hn => k.nx σ' H' Δ' M' r' (st.trans st') e' hn
theorem ds_set (i : Nat) {x : Str} {pos' : Pos} (hN : X.N.Nodup) (he : DE X e te) (hi : X.N[i]? = some x := by rfl) (hx : Loc X.env.scope x := by first | exact Or.inl rfl | exact Or.inr rfl) (hs : swapsWith e (some (.Name x pos')) pos.line X.env = pure false := by rfl)
    (hf : X.fn x = true ∨ X.env.scope.names.lookup x = some .local := by first | exact .inl rfl | exact .inr rfl | assumption) : DS X (.Assign [.Name x pos'] e pos) (dAsg te (dgName i)) := by
  obtain ⟨t1, p1, q1⟩ := he
  refine ⟨_, ps_set hN hi hx p1 hs hf, fun σ H Δ M D E r e h k => ?_⟩
  refine q1 σ H Δ M _ _ r e h fun v H1 x M1 r1 st rv hx => ?_
  exact k.nx _ H1 _ M1 r1 st ((e.step st).set rv) hx
/-- l.append(e) of an owned list -/
def dAppend (to te : DTE) : DTE := fun Δ M Φ => to Δ M fun x M1 => ∃ l, x = .own l ∧ (∃ o, M1 l = some o) ∧ te Δ M1 fun y M2 => ∃ ds d, y = .dat d ∧ M2 l = some (.lst ds) ∧ ds.length < sizeLine ∧ Φ (.dat .none) (mset M2 l (.lst (ds ++ [d])))
theorem de_append {o : Expr} {to : DTE} {apos cpos : Pos} (ho : DE X o to) (he : DE X e te) (hbase : attributeBase o "append" X.env (eval o X.env) = eval o X.env := by rfl)
    (hfew : ((backTo cpos (starEach [e] X.env)).all (fun x => !x.1) && (backToKw cpos (keywordEach [] X.env)).all (fun x => x.1.isSome)
      && decide ([e].length + ([] : List Keyword).length + (if ([] : List Keyword).isEmpty then 0 else 1) < 30)) = true := by rfl)
    (hline : (apos.endLine == cpos.line) = true := by rfl) (hs : starEach [e] X.env = (false, eval e X.env) :: starEach [] X.env := by rfl) (hplain : (backTo cpos (starEach [] X.env)).any (·.1) = false := by rfl) :
    DE X (.Call (.Attribute o "append" apos) [e] [] cpos) (dAppend to te) := by
  obtain ⟨t1, p1, q1⟩ := ho
  obtain ⟨t2, p2, q2⟩ := he
  refine ⟨_, pe_bm PySem.F.plainAttrs_list PySem.F.slot_list_append PySem.F.type_list_append mt_append p1 (pa_cons p2 pa_nil hs) hbase hfew hline hs hplain, fun σ H Δ M Φ Q r e h k => ?_⟩
  refine q1 σ H Δ M _ _ r e h fun v H1 x M1 r1 st rv hx => ?_
  obtain ⟨l, rfl, ⟨oo, ho⟩, hx⟩ := hx
  cases (show v = .ref l from rv)
  have ty : tyV X.K "list" (.ref l) H1 := by
    cases oo with
    | lst ds =>
      obtain ⟨vs, g1, _⟩ := r1 l ds ho
      exact .inl ⟨rfl, vs, SqL.of g1⟩
  refine ⟨ty, q2 σ H1 Δ M1 _ _ r1 (e.step st) hx fun w H2 y M2 r2 st2 rw2 hy => ?_⟩
  obtain ⟨ds, d, rfl, hm, hz, hy⟩ := hy
  obtain ⟨vs, g1, g2⟩ := r2 l ds hm
  have st3 : Step M2 H2 (mset M2 l (.lst (ds ++ [d]))) (upd H2 l (.lst (vs ++ [w]))) := Step.ownPut hm
  refine ⟨l, vs, w, rfl, rfl, g1, by rw [g2.length]; exact hz, ?_⟩
  exact k.dat (r2.ownSet st3 (g2.append (.cons rw2 .nil))) (st.trans (st2.trans st3)) Dt.non hy
end
/-! ### for -/
section
variable {X : Cx} {tg iter : Expr} {body : List Stmt} {g : DTG} {tb : DTS} {pos : Pos}
/-- the turns over the items ds, by what holds between two turns -/
def Turns (g : DTG) (tb : DTS) (D : DEnds) (ds : List PyData) (Δ : DSt) (M : Mp) : Prop :=
  ∃ J : Nat → DSt → Mp → Prop, J 0 Δ M ∧ (∀ i d Δ M, ds[i]? = some d → J i Δ M → g (.dat d) Δ M fun Δ2 M2 => tb { D with nx := J (i + 1), ct := J (i + 1), bk := D.nx } Δ2 M2) ∧ ∀ Δ M, J ds.length Δ M → D.nx Δ M
def dForL (te : DTE) (g : DTG) (tb : DTS) : DTS := fun D Δ M => te Δ M fun x M1 => ∃ ds, x = .dat (.list ds) ∧ Turns g tb D ds Δ M1
def dForT (te : DTE) (g : DTG) (tb : DTS) : DTS := fun D Δ M => te Δ M fun x M1 => ∃ ds, x = .dat (.tuple ds) ∧ Turns g tb D ds Δ M1
theorem ds_forL {te : DTE} (he : DE X iter te) (hg : DG X tg g) (hb : DSs X body tb) (hp : PassesOwn (model X.prog X.w) X.A X.env X.xe) (hc : X.calm = true) (hs : ∀ x, foldedSetIterable iter X.env x = pure x := by intro _; rfl) :
    DS X (.For tg iter body [] pos) (dForL te g tb) := by
  obtain ⟨t1, p1, q1⟩ := he
  obtain ⟨t2, p2, q2⟩ := hg
  obtain ⟨t3, p3, q3⟩ := hb
  refine ⟨_, ps_for hp hc (pi_list p1) p2 p3 hs, fun σ H Δ M D E r e h k => ?_⟩
  refine q1 σ H Δ M _ _ r e h fun v H1 x M1 r1 st rv hx => ?_
  obtain ⟨ds, rfl, J, j0, jt, jd⟩ := hx
  obtain ⟨a, xs, rfl, h1, h2⟩ := rv.lst
  refine ⟨a, rfl, ⟨xs, h1.sq⟩, for_list (xs := xs) (fun i σ H => ∃ Δ M, DRel X.K M H ∧ Step M1 H1 M H ∧ ERel X.K M H σ Δ ∧ J i Δ M) ⟨Δ, M1, r1, Step.refl, e.step st, j0⟩
    (fun i σ H _ ⟨Δ, M, _, st', _, _⟩ => (h1.step st').sq) (fun i y σ H hi ⟨Δ, M, r', st', e', j⟩ => ?_) (fun σ H ⟨Δ, M, r', st', e', j⟩ => ?_)⟩
  · obtain ⟨d, hd, hy⟩ := h2.getV hi
    refine q2 y σ H (.dat d) Δ M _ _ r' e' (Dt.step st' hy) (jt i d Δ M hd j) fun σ2 H2 Δ2 M2 r2 st2 e2 hb2 => ?_
    refine q3 σ2 H2 Δ2 M2 _ _ r2 e2 hb2 ?_
    have s12 : Step M1 H1 M2 H2 := st'.trans st2
    exact ⟨fun σ' H' Δ' M' a b c d => ⟨Δ', M', a, s12.trans b, c, d⟩, k.rt.step (st.trans s12), fun σ' H' Δ' M' a b c d => k.nx σ' H' Δ' M' a ((st.trans s12).trans b) c d,
      fun σ' H' Δ' M' a b c d => ⟨Δ', M', a, s12.trans b, c, d⟩⟩
  · rw [h2.length] at j
    exact k.nx σ H Δ M r' (st.trans st') e' (jd Δ M j)
theorem ds_forT {te : DTE} (he : DE X iter te) (hg : DG X tg g) (hb : DSs X body tb) (hp : PassesOwn (model X.prog X.w) X.A X.env X.xe) (hc : X.calm = true) (hs : ∀ x, foldedSetIterable iter X.env x = pure x := by intro _; rfl) :
    DS X (.For tg iter body [] pos) (dForT te g tb) := by
  obtain ⟨t1, p1, q1⟩ := he
  obtain ⟨t2, p2, q2⟩ := hg
  obtain ⟨t3, p3, q3⟩ := hb
  refine ⟨_, ps_for hp hc (pi_tup p1) p2 p3 hs, fun σ H Δ M D E r e h k => ?_⟩
  refine q1 σ H Δ M _ _ r e h fun v H1 x M1 r1 st rv hx => ?_
  obtain ⟨ds, rfl, J, j0, jt, jd⟩ := hx
  obtain ⟨a, xs, rfl, h1, h2⟩ := rv.tup
  refine ⟨a, rfl, ⟨xs, h1.sq⟩, for_tup (xs := xs) (fun i σ H => ∃ Δ M, DRel X.K M H ∧ Step M1 H1 M H ∧ ERel X.K M H σ Δ ∧ J i Δ M) ⟨Δ, M1, r1, Step.refl, e.step st, j0⟩
    (fun i σ H _ ⟨Δ, M, _, st', _, _⟩ => (h1.step st').sq) (fun i y σ H hi ⟨Δ, M, r', st', e', j⟩ => ?_) (fun σ H ⟨Δ, M, r', st', e', j⟩ => ?_)⟩
  · obtain ⟨d, hd, hy⟩ := h2.getV hi
    refine q2 y σ H (.dat d) Δ M _ _ r' e' (Dt.step st' hy) (jt i d Δ M hd j) fun σ2 H2 Δ2 M2 r2 st2 e2 hb2 => ?_
    refine q3 σ2 H2 Δ2 M2 _ _ r2 e2 hb2 ?_
    have s12 : Step M1 H1 M2 H2 := st'.trans st2
    exact ⟨fun σ' H' Δ' M' a b c d => ⟨Δ', M', a, s12.trans b, c, d⟩, k.rt.step (st.trans s12), fun σ' H' Δ' M' a b c d => k.nx σ' H' Δ' M' a ((st.trans s12).trans b) c d,
      fun σ' H' Δ' M' a b c d => ⟨Δ', M', a, s12.trans b, c, d⟩⟩
  · rw [h2.length] at j
    exact k.nx σ H Δ M r' (st.trans st') e' (jd Δ M j)
/-- for x in range(n): the turns' ints are lo + i, i below n -/
def TurnsR (g : DTG) (tb : DTS) (D : DEnds) (lo : Int) (n : Nat) (Δ : DSt) (M : Mp) : Prop :=
  ∃ J : Nat → DSt → Mp → Prop, J 0 Δ M ∧ (∀ i Δ M, i < n → J i Δ M → g (.dat (.int (lo + i))) Δ M fun Δ2 M2 => tb { D with nx := J (i + 1), ct := J (i + 1), bk := D.nx } Δ2 M2) ∧ ∀ Δ M, J n Δ M → D.nx Δ M
theorem turnsR {g' : TG} {tb' : TS} {lo : Int} {n : Nat} (q2 : ∀ v σ H x Δ M Φ (Q : L2.St → Hp → Prop), DRel X.K M H → ERel X.K M H σ Δ → VRel X.K M H v x → g x Δ M Φ →
    (∀ σ' H' Δ' M', DRel X.K M' H' → Step M H M' H' → ERel X.K M' H' σ' Δ' → Φ Δ' M' → Q σ' H') → g' v σ H Q)
    (q3 : ∀ σ H Δ M D E, DRel X.K M H → ERel X.K M H σ Δ → tb D Δ M → EndRel X.K M H D E → tb' E σ H) {D : DEnds} {E : Ends} {σ : L2.St} {H : Hp} {Δ : DSt} {M : Mp} (r : DRel X.K M H) (e : ERel X.K M H σ Δ) (h : TurnsR g tb D lo n Δ M) (k : EndRel X.K M H D E) :
    ∃ W : Nat → Nat → L2.St → Hp → Prop, (∃ m, W 0 m σ H) ∧ ∀ i m σ H, W i m σ H →
      ((Itr lo n).stop i H ∧ E.nx σ H) ∨ ((Itr lo n).go i H ∧ ∃ N : L2.St → Hp → Prop, (∀ σ' H', N σ' H' → ∃ m', m' < m ∧ W (i + 1) m' σ' H') ∧ ∀ x H', (Itr lo n).yld i H x H' → g' x σ H' fun σ2 H2 => tb' { E with nx := N, ct := N, bk := E.nx } σ2 H2) := by
  obtain ⟨J, j0, jt, jd⟩ := h
  refine for_range (fun i σ' H' => ∃ Δ' M', DRel X.K M' H' ∧ Step M H M' H' ∧ ERel X.K M' H' σ' Δ' ∧ J i Δ' M') ⟨Δ, M, r, Step.refl, e, j0⟩ (fun i σ1 H1 hi ⟨Δ1, M1, r', st', e', j⟩ => ?_) (fun σ1 H1 ⟨Δ1, M1, r', st', e', j⟩ => ?_)
  · refine q2 _ σ1 H1 (.dat (.int (lo + i))) Δ1 M1 _ _ r' e' (Dt.int _) (jt i Δ1 M1 hi j) fun σ2 H2 Δ2 M2 r2 st2 e2 hb2 => ?_
    refine q3 σ2 H2 Δ2 M2 _ _ r2 e2 hb2 ?_
    have s12 : Step M H M2 H2 := st'.trans st2
    exact ⟨fun σ' H' Δ' M' a b c d => ⟨Δ', M', a, s12.trans b, c, d⟩, k.rt.step s12, fun σ' H' Δ' M' a b c d => k.nx σ' H' Δ' M' a (s12.trans b) c d,
      fun σ' H' Δ' M' a b c d => ⟨Δ', M', a, s12.trans b, c, d⟩⟩
  · exact k.nx σ1 H1 Δ1 M1 r' st' e' (jd Δ1 M1 j)
def dForR1 (ta : DTA) (g : DTG) (tb : DTS) : DTS := fun D Δ M => ta Δ M fun xs M1 => ∃ j : Int, xs = [.dat (.int j)] ∧ -(2 ^ 62) ≤ j ∧ j < 2 ^ 62 ∧ TurnsR g tb D 0 j.toNat Δ M1
theorem ds_forR1 {a : Expr} {ta : DTA} {p p2 : Pos} (hg0 : Gl X "range") (hm : X.mg "range" = none) (ha : DA X [a] ta) (hg : DG X tg g) (hb : DSs X body tb) (hp : PassesOwn (model X.prog X.w) X.A X.env X.xe) (hc : X.calm = true)
    (hs : starEach [a] X.env = [(false, eval a X.env)] := by rfl) (hs2 : ∀ x, foldedSetIterable (.Call (.Name "range" p) [a] [] p2) X.env x = pure x := by intro _; rfl) : DS X (.For tg (.Call (.Name "range" p) [a] [] p2) body [] pos) (dForR1 ta g tb) := by
  obtain ⟨t1, p1, q1⟩ := ha
  obtain ⟨t2, p2, q2⟩ := hg
  obtain ⟨t3, p3, q3⟩ := hb
  refine ⟨_, ps_for hp hc (pi_range1 hg0 hm p1 hs) p2 p3 hs2, fun σ H Δ M D E r e h k => ?_⟩
  refine q1 σ H Δ M _ _ r e h fun vs H1 xs M1 r1 st rv hx => ?_
  obtain ⟨j, rfl, h1, h2, hx⟩ := hx
  obtain ⟨v, rfl, hv⟩ := Paired.one rv
  exact ⟨j, by rw [VRel.int hv], h1, h2, turnsR q2 q3 r1 (e.step st) hx (k.step st)⟩
def dForR2 (ta : DTA) (g : DTG) (tb : DTS) : DTS := fun D Δ M => ta Δ M fun xs M1 => ∃ i j : Int, xs = [.dat (.int i), .dat (.int j)] ∧ (-(2 ^ 62) ≤ i ∧ i < 2 ^ 62 ∧ -(2 ^ 62) ≤ j ∧ j < 2 ^ 62) ∧ TurnsR g tb D i (j - i).toNat Δ M1
end
/-! ### own defs -/
abbrev DSp := List DV → Mp → DK → Prop
def lift (K : PySem.W.Frag) (S : DSp) : Sp := fun vs H Q _ => ∃ xs M Φ, DRel K M H ∧ VRels K M H vs xs ∧ S xs M Φ ∧ Rch K M H Φ Q
def dCall (S : DSp) (t : DTA) : DTE := fun Δ M Φ => t Δ M fun xs M1 => S xs M1 Φ
section
variable {X : Cx} {CX : CXT} {k : Nat} {f : Addr} {fd : FuncData} {ps : List Str} {S : DSp} {E : XK} {x : Str} {p pos : Pos} {e : Expr} {es : List Expr} {t : DTA}
theorem de_call (F : FnOk X.prog X.w X.K X.mg X.base CX k f fd ps (lift X.K S)) (hr : Room k X.A) (hg : Gl X x) (hm : X.mg x = some (.ref f)) (hk : PySem.W.keepIn X.K (.ref f) = true) (hb : Binds X.K fd ps []) (hx : Passes CX X E)
    (ha : DA X (e :: es) t) (hdb : (x == ("__debug__" : Str)) = false := by decide) (he : starEach (e :: es) X.env = (false, eval e X.env) :: starEach es X.env := by rfl) (hpl : (backTo pos (starEach es X.env)).any (·.1) = false := by rfl) :
    DE X (.Call (.Name x p) (e :: es) [] pos) (dCall S t) := by
  obtain ⟨t1, p1, q1⟩ := ha
  refine ⟨_, pe_call F hr hg hm hk hb .nil hx p1 hdb he hpl, fun σ H Δ M Φ Q r e h k => ?_⟩
  refine q1 σ H Δ M _ _ r e h fun vs H1 xs M1 r1 st rv hx => ?_
  show lift X.K S (vs ++ []) H1 Q E
  rw [List.append_nil]
  exact ⟨xs, M1, Φ, r1, rv, hx, k.step st⟩
end
section
variable {P : Program} {w : World} {K : PySem.W.Frag} {mg : Str → Option Value} {base : Heap}
/-- THE RULE for a def by data -/
theorem okD {x qual : Str} {st : Stmt} {f : Addr} {fd : FuncData} {N ps : List Str} {k : Nat} {S : DSp} (F : Fun K x qual st f fd) (Sc : FnScope N ps (defScope st)) (len : ∀ xs M Φ, S xs M Φ → xs.length = ps.length)
    (hbody : ∀ (cdv : Value) (A : Around) (outer : List Env) (s : Shared) (H : Hp) (E : XK), Room k (A.deeper (envOfC qual (defScope st) s.heap.objs.size f cdv)) →
      ∃ τ, DSs (cxOf CX0 P w K mg base N qual (defScope st) f cdv A outer s H E).nox (defBody st) τ ∧ ∀ xs M Φ, S xs M Φ → τ { nx := fun _ M' => Φ (.dat .none) M', rt := Φ } (startD N xs) M) : FnOk P w K mg base CX0 (k + 1) f fd ps (lift K S) := by
  refine F.ok Sc (fun vs H Q E h => ?_) fun cdv A outer s H vs Q E hr h => ?_
  · obtain ⟨xs, M, Φ, _, rv, hs, _⟩ := h
    rw [Paired.length rv]
    exact len xs M Φ hs
  · obtain ⟨xs, M, Φ, r, rv, hs, kk⟩ := h
    obtain ⟨τ, ⟨t, p, q⟩, hτ⟩ := hbody cdv A outer s H E hr
    refine ⟨t, p, q (start N vs) H (startD N xs) M _ _ r (ERel.start rv) (hτ xs M Φ hs) ⟨fun σ' H' Δ' M' r' st' e' hn => ?_, kk, fun _ _ _ _ _ _ _ h => h.elim, fun _ _ _ _ _ _ _ h => h.elim⟩⟩
    exact kk.dat r' st' Dt.non hn
end
end DL

namespace DL
open PySem PySem.Spec PyProof.Rows L2
/-! ### dict displays of names and constants -/
section
variable {X : Cx} {k v : Expr} {pos : Pos}
/-- an expression that neither reads nor changes the heap -/
def At (X : Cx) (e : Expr) (τ : DTE) : Prop := ∃ t, PE X e t ∧ ∀ σ H Δ M Φ, ERel X.K M H σ Δ → τ Δ M Φ → ∃ v x, VRel X.K M H v x ∧ Φ x M ∧ ∀ (H' : Hp) (Q : VK), Q v H' → t σ H' Q
def dDict0 : DTE := fun _ M Φ => Φ (.dat (.dict [])) M
def dDict1 (tk tv : DTE) : DTE := fun Δ M Φ => tk Δ M fun x M1 => tv Δ M1 fun y M2 => ∃ k d, x = .dat (kD k) ∧ y = .dat d ∧ Φ (.dat (.dict [(kD k, d)])) M2
def dDict2 (tk tv tk' tv' : DTE) : DTE := fun Δ M Φ => tk Δ M fun x M1 => tv Δ M1 fun y M2 => tk' Δ M2 fun x' M3 => tv' Δ M3 fun y' M4 => ∃ k d k' d', x = .dat (kD k) ∧ y = .dat d ∧ x' = .dat (kD k') ∧ y' = .dat d' ∧ k ≠ k' ∧ Φ (.dat (.dict [(kD k, d), (kD k', d')])) M4
/-- what is true of the one object at a: a dict with one pair -/
def OneD (a b : Addr) (v : V) (h : Heap) : Prop := ∃ o es n u, h.get? a = some o ∧ o.cls = .type "dict" ∧ o.data = .dict es n ∧ es.toList.map (·.key) = [.ref b] ∧ es.toList.map (·.val) = [u] ∧ RelV v u
def dDict1T (tk tv : DTE) : DTE := fun Δ M Φ => tk Δ M fun x M1 => tv Δ M1 fun y M2 => ∃ (ks : List Key) (d : PyData), x = .dat (.tuple (ks.map kD)) ∧ y = .dat d ∧ Φ (.dat (.dict [(.tuple (ks.map kD), d)])) M2
end
end DL

namespace DL
open PySem PySem.Spec PyProof.Rows L2
/-! ### how long a shown text is -/
mutual
def cost : PyData → Nat
  | .none => 4
  | .bool _ => 5
  | .int _ => 1921
  | .str x => (reprText x).length
  | .list xs => costAll xs + 2
  | .tuple xs => costAll xs + 3
  | .dict kvs => costKv kvs + 2
def costAll : List PyData → Nat
  | [] => 0
  | x :: xs => cost x + 2 + costAll xs
def costKv : List (PyData × PyData) → Nat
  | [] => 0
  | (k, v) :: r => cost k + 2 + cost v + 2 + costKv r
end
theorem textFrom_up : ∀ (ts : List Str) (k : Nat) (acc : Str), (textFrom k acc ts).length ≤ acc.length + piled ts
  | [], k, acc => Nat.le_add_right _ _
  | t :: r, k, acc => by
    have h := textFrom_up r (k + 1) (acc ++ (if k > 0 then ", " else "" : String) ++ t)
    have e : (acc ++ (if k > 0 then ", " else "" : String) ++ t).length = acc.length + (if k > 0 then 2 else 0) + t.length := by
      rw [strLen_append, strLen_append]
      split <;> rfl
    have d1 : (if k > 0 then 2 else 0 : Nat) ≤ 2 := by split <;> omega
    rw [e] at h
    rw [piled_cons]
    show (textFrom (k + 1) _ r).length ≤ _
    omega
theorem join_up (ts : List Str) : (Str.join ", " ts).length ≤ piled ts := by
  by_cases h : ts = []
  · subst h; exact Nat.le_of_eq rfl
  · have := join_length_add ts h
    omega
mutual
theorem shown_cost : ∀ d : PyData, d.showable = true → d.shown.length ≤ cost d
  | .none, _ => by simp only [PyData.shown, cost]; exact Nat.le_of_eq rfl
  | .bool b, _ => by
    simp only [PyData.shown, cost]
    cases b
    · exact Nat.le_of_eq rfl
    · exact (by decide : 4 ≤ 5)
  | .int i, h => by
    simp only [PyData.shown, cost]
    exact int_text_len_1921 (by simpa [PyData.showable] using h)
  | .str x, _ => by simp only [PyData.shown, cost]; exact Nat.le_refl _
  | .list xs, h => by
    have h1 := shownAll_cost xs (by simpa [PyData.showable] using h)
    have h2 := textFrom_up (PyData.shownAll xs) 0 "["
    have e1 : ((("[" : String) : Str)).length = 1 := rfl
    have e2 : ((("]" : String) : Str)).length = 1 := rfl
    simp only [PyData.shown, cost]
    unfold listText
    rw [strLen_append, e2]
    rw [e1] at h2
    omega
  | .tuple xs, h => by
    have h1 := shownAll_cost xs (by simpa [PyData.showable] using h)
    have h2 := join_up (PyData.shownAll xs)
    have e1 : ((("(" : String) : Str)).length = 1 := rfl
    have e3 : (((if (PyData.shownAll xs).length == 1 then ",)" else ")" : String) : Str)).length ≤ 2 := by split <;> decide
    simp only [PyData.shown, cost]
    unfold tupleText
    rw [strLen_append, strLen_append, e1]
    omega
  | .dict kvs, h => by
    have h1 := shownKv_cost kvs (by simpa [PyData.showable] using h)
    have h2 := join_up (PyData.shownKv kvs)
    have e : (dictText (PyData.shownKv kvs)).length = 1 + (Str.join ", " (PyData.shownKv kvs)).length + 1 := by
      unfold dictText
      rw [strLen_append, strLen_append]; rfl
    simp only [PyData.shown, cost]
    omega
theorem shownAll_cost : ∀ xs : List PyData, PyData.showableAll xs = true → piled (PyData.shownAll xs) ≤ costAll xs
  | [], _ => by simp only [PyData.shownAll, costAll]; exact Nat.le_of_eq rfl
  | x :: xs, h => by
    have h' : x.showable = true ∧ PyData.showableAll xs = true := by simpa [PyData.showableAll] using h
    have h1 := shown_cost x h'.1
    have h2 := shownAll_cost xs h'.2
    simp only [PyData.shownAll, costAll]
    rw [piled_cons]
    omega
theorem shownKv_cost : ∀ kvs : List (PyData × PyData), PyData.showableKv kvs = true → piled (PyData.shownKv kvs) ≤ costKv kvs
  | [], _ => by simp only [PyData.shownKv, costKv]; exact Nat.le_of_eq rfl
  | (k, v) :: r, h => by
    have h' : (k.showable = true ∧ v.showable = true) ∧ PyData.showableKv r = true := by simpa [PyData.showableKv] using h
    have h1 := shown_cost k h'.1.1
    have h2 := shown_cost v h'.1.2
    have h3 := shownKv_cost r h'.2
    have e : ((k.shown ++ ": " ++ v.shown : Str)).length = k.shown.length + 2 + v.shown.length := by rw [strLen_append, strLen_append]; rfl
    simp only [PyData.shownKv, costKv]
    rw [piled_cons, e]
    omega
end
theorem Shw.of {d : PyData} (s : d.showable = true) (m : (d.hasDict && hasLst d) = false) (dp : d.depth ≤ 64) (z : cost d ≤ 1000000) : Shw d :=
  ⟨s, m, dp, Nat.le_trans (shown_cost d s) (Nat.le_trans z (by rw [sizeLine_eq]; decide))⟩
/-! ### the law's own start; what the top holds of a def -/
structure Own (K : PySem.W.Frag) (mg : Str → Option Value) (x : Str) (st : Stmt) (ps : List Str) (f : Addr) (fd : FuncData) : Prop where
  F : Fun K x x st f fd
  m : mg x = some (.ref f)
  b : Binds K fd ps []
def spLaw : DSp := fun xs M Φ => ∃ ns : List Int, xs = [.dat (.list (ns.map PyData.int))] ∧ ns.length ≤ 63 ∧ ∀ M', Φ (.dat (.bool true)) M'
theorem law_start {K : PySem.W.Frag} {H : Hp} {a : Addr} {ns : List Int} (hl : ns.length ≤ 63) (_ : Only H) (hS : SqL K H a (ns.map V.int)) : lift K spLaw [.ref a] H (fun v _ => v = .bl true) fun _ _ _ => False := by
  refine ⟨[.dat (.list (ns.map PyData.int))], fun _ => none, fun x _ => x = .dat (.bool true), (show DRel K (fun _ => none) H from fun b ds e => by cases e), Paired.cons (Dt.lst ?_ (Dts.ints ns)) Paired.nil, ⟨ns, rfl, hl, fun _ => rfl⟩, fun v H' x M' _ _ rv hx => ?_⟩
  · rcases hS with h | h
    · exact .inl ⟨rfl, h⟩
    · exact .inr h
  · subst hx
    exact rv.bool
end DL

namespace DL
open PySem PySem.Spec PyProof.Rows L2
/-! ### for the readings -/
theorem ex_dats {a : PyData} {xs : List DV} {P : List PyData → Prop} : (∃ ds, DV.dat a :: xs = ds.map DV.dat ∧ P ds) ↔ ∃ ds, xs = ds.map DV.dat ∧ P (a :: ds) := by
  constructor
  · rintro ⟨ds, e, h⟩
    cases ds with
    | nil => simp at e
    | cons d ds =>
      rw [List.map_cons, List.cons.injEq, DV.dat.injEq] at e
      obtain ⟨rfl, e⟩ := e
      exact ⟨ds, e, h⟩
  · rintro ⟨ds, e, h⟩
    exact ⟨a :: ds, by rw [List.map_cons, e], h⟩
theorem ex_dats0 {P : List PyData → Prop} : (∃ ds, [] = ds.map DV.dat ∧ P ds) ↔ P [] := by
  constructor
  · rintro ⟨ds, e, h⟩
    cases ds with
    | nil => exact h
    | cons d ds => simp at e
  · intro h
    exact ⟨[], rfl, h⟩
theorem atI_0 {α : Type} {a : α} {l : List α} : atI (a :: l) 0 = some a := atI_nat (j := 0) rfl
theorem atI_1 {α : Type} {a b : α} {l : List α} : atI (a :: b :: l) 1 = some b := atI_nat (j := 1) rfl
theorem atI_2 {α : Type} {a b c : α} {l : List α} : atI (a :: b :: c :: l) 2 = some c := atI_nat (j := 2) rfl
theorem atI_3 {α : Type} {a b c d : α} {l : List α} : atI (a :: b :: c :: d :: l) 3 = some d := atI_nat (j := 3) rfl
theorem atI_mem {α : Type} {l : List α} {i : Int} (h0 : 0 ≤ i) (h1 : i < l.length) : ∃ d, atI l i = some d ∧ d ∈ l := by
  have hl : i.toNat < l.length := by omega
  refine ⟨l[i.toNat], ?_, List.getElem_mem hl⟩
  have q : atI l ((i.toNat : Nat) : Int) = some l[i.toNat] := atI_nat (by simp [hl])
  rw [show ((i.toNat : Nat) : Int) = i by omega] at q
  exact q
theorem ixN_30 : ixN 3 0 = some 0 := rfl
theorem ixN_31 : ixN 3 1 = some 1 := rfl
theorem ixN_32 : ixN 3 2 = some 2 := rfl
theorem at_ints {ns : List Int} {j : Int} (h0 : 0 ≤ j) (h1 : j < ns.length) : ∃ c : Int, atI (ns.map PyData.int) j = some (.int c) := by
  obtain ⟨d, e, hm⟩ := atI_mem (l := ns.map PyData.int) h0 (by rw [List.length_map]; exact h1)
  obtain ⟨c, _, rfl⟩ := List.mem_map.mp hm
  exact ⟨c, e⟩
theorem mod_b (x : Int) {m : Int} (h : 0 < m) : 0 ≤ x % m ∧ x % m < m := ⟨Int.emod_nonneg _ (by omega), Int.emod_lt_of_pos _ h⟩
def sp1 (f : PyData → Bool) : DSp := fun xs M Φ => ∃ d, xs = [.dat d] ∧ Φ (.dat (.bool (f d))) M
theorem cp10 (k : Int) (h : 0 ≤ k ∧ k ≤ 1000000) : CPow 10 k := ⟨h.1, h.2, by decide⟩
theorem mset_eta {M : Mp} {a : Addr} {o : OO} (h : M a = some o) : mset M a o = M := by
  funext b
  unfold mset
  split
  · rename_i e; rw [e, h]
  · rfl
theorem mdel_mset {M : Mp} {a : Addr} {o : OO} (h : M a = none) : mdel (mset M a o) a = M := by
  funext b
  unfold mdel mset
  split
  · rename_i e; rw [e, h]
  · rfl
theorem ex_kD_int {x : Int} {P : Key → Prop} : (∃ k, PyData.int x = kD k ∧ P k) ↔ P (.inl x) := by
  constructor
  · rintro ⟨k, e, h⟩
    cases k with
    | inl i => cases (show PyData.int x = .int i from e); exact h
    | inr s => cases (show PyData.int x = .str s from e)
  · intro h; exact ⟨.inl x, rfl, h⟩
theorem ex_kD_str {x : Str} {P : Key → Prop} : (∃ k, PyData.str x = kD k ∧ P k) ↔ P (.inr x) := by
  constructor
  · rintro ⟨k, e, h⟩
    cases k with
    | inl i => cases (show PyData.str x = .int i from e)
    | inr s => cases (show PyData.str x = .str s from e); exact h
  · intro h; exact ⟨.inr x, rfl, h⟩
theorem ex_kDs {x : Int} {l : List PyData} {P : List Key → Prop} : (∃ ks, PyData.int x :: l = ks.map kD ∧ P ks) ↔ ∃ ks, l = ks.map kD ∧ P (.inl x :: ks) := by
  constructor
  · rintro ⟨ks, e, h⟩
    cases ks with
    | nil => simp at e
    | cons k ks =>
      rw [List.map_cons, List.cons.injEq] at e
      obtain ⟨e1, e2⟩ := e
      cases k with
      | inl i => cases (show PyData.int x = .int i from e1); exact ⟨ks, e2, h⟩
      | inr s => cases (show PyData.int x = .str s from e1)
  · rintro ⟨ks, e, h⟩
    exact ⟨.inl x :: ks, by rw [List.map_cons, e]; rfl, h⟩
theorem ex_kDs0 {P : List Key → Prop} : (∃ ks, [] = ks.map kD ∧ P ks) ↔ P [] := by
  constructor
  · rintro ⟨ks, e, h⟩
    cases ks with
    | nil => exact h
    | cons k ks => simp at e
  · intro h; exact ⟨[], rfl, h⟩
theorem kD_inl (x : Int) : kD (.inl x) = .int x := rfl
theorem kD_inr (x : Str) : kD (.inr x) = .str x := rfl
theorem cases_true {p : Prop} [Decidable p] {A B : Prop} (h1 : p → A) (h2 : ¬ p → B) : if decide p = true then A else B := by
  by_cases h : p
  · rw [decide_eq_true h, if_pos rfl]; exact h1 h
  · rw [decide_eq_false h, if_neg Bool.false_ne_true]; exact h2 h
end DL

namespace DL
open PySem PySem.Spec PyProof.Rows L2
/-! ### comprehensions: the closure -/
def clos (env : Env) : List (Str × NameKind) → List (Str × Addr) → List (Str × Addr)
  | [], cs => cs
  | (n, k) :: r, cs => clos env r (if (k == NameKind.free) = true then (n, (env.cells.lookup n).getD 0) :: cs else cs)
theorem forIn_clos {env : Env} (f : Str × NameKind → List (Str × Addr) → Sem (ForInStep (List (Str × Addr)))) : ∀ (l : List (Str × NameKind)) (cs : List (Str × Addr)),
    (∀ y ∈ l, ∀ cs, f y cs = pure (.yield (if (y.2 == NameKind.free) = true then (y.1, (env.cells.lookup y.1).getD 0) :: cs else cs))) → forIn l cs f = pure (clos env l cs)
  | [], cs, _ => by rw [List.forIn_nil]; rfl
  | (n, k) :: r, cs, h => by
    rw [List.forIn_cons, h _ List.mem_cons_self, pure_bind]
    exact forIn_clos f r _ fun y hy => h y (List.mem_cons_of_mem _ hy)
theorem closureFor_clos {scope : Scope} {env : Env} (h : ∀ y ∈ scope.names, y.2 = .free → ∃ c, env.cells.lookup y.1 = some c) : closureFor scope env = pure (clos env scope.names []) := by
  simp only [closureFor]
  rw [forIn_clos (env := env) _ scope.names [] (fun y hy cs => by
    obtain ⟨n, k⟩ := y
    by_cases hk : k = .free
    · subst hk
      obtain ⟨c, e⟩ := h _ hy rfl
      have e' : env.cells.lookup n = some c := e
      simp only [beq_self_eq_true, if_true, cellOf, e', Option.getD_some, pure_bind]
    · have : (k == NameKind.free) = false := by simpa using hk
      simp only [this, Bool.false_eq_true, if_false])]
  rfl
theorem clos_mem {env : Env} : ∀ {l : List (Str × NameKind)} {cs : List (Str × Addr)} {x : Str} {c : Addr}, (x, c) ∈ clos env l cs → (x, c) ∈ cs ∨ ((x, NameKind.free) ∈ l ∧ c = (env.cells.lookup x).getD 0)
  | [], _, _, _, h => .inl h
  | (n, k) :: r, cs, x, c, h => by
    rcases clos_mem (l := r) h with h | ⟨h1, h2⟩
    · by_cases hk : k = .free
      · subst hk
        rw [if_pos (by simp)] at h
        rcases List.mem_cons.mp h with h | h
        · cases h
          exact .inr ⟨List.mem_cons_self, rfl⟩
        · exact .inl h
      · have : (k == NameKind.free) = false := by simpa using hk
        rw [if_neg (by rw [this]; exact Bool.false_ne_true)] at h
        exact .inl h
    · exact .inr ⟨List.mem_cons_of_mem _ h1, h2⟩
theorem clos_key {env : Env} : ∀ {l : List (Str × NameKind)} {cs : List (Str × Addr)} {x : Str}, ((x, NameKind.free) ∈ l ∨ ∃ c, (x, c) ∈ cs) → ∃ c, (x, c) ∈ clos env l cs
  | [], _, _, h => h.elim (fun z => nomatch z) id
  | (n, k) :: r, cs, x, h => by
    refine clos_key (l := r) ?_
    rcases h with h | ⟨c, h⟩
    · rcases List.mem_cons.mp h with h | h
      · cases h
        exact .inr ⟨_, by rw [if_pos (by simp)]; exact List.mem_cons_self⟩
      · exact .inl h
    · refine .inr ⟨c, ?_⟩
      split
      · exact List.mem_cons_of_mem _ h
      · exact h
theorem look_of_mem {β : Type} : ∀ {l : List (Str × β)} {x : Str} {c : β}, (x, c) ∈ l → ∃ c', l.lookup x = some c'
  | [], _, _, h => nomatch h
  | (n, d) :: r, x, c, h => by
    rw [List.lookup_cons]
    cases e : x == n with
    | true => exact ⟨d, rfl⟩
    | false =>
      rcases List.mem_cons.mp h with h | h
      · cases h
        simp at e
      · exact look_of_mem h
theorem clos_lookup {env : Env} {names : List (Str × NameKind)} (hf : ∀ y ∈ names, y.2 = .free → ∃ c, env.cells.lookup y.1 = some c) {x : Str} {c : Addr} (h : (clos env names []).lookup x = some c) :
    env.cells.lookup x = some c ∧ (x, NameKind.free) ∈ names := by
  rcases clos_mem (PySem.mem_of_lookup h) with h | ⟨h1, h2⟩
  · exact nomatch h
  · obtain ⟨c', e⟩ := hf _ h1 rfl
    have e' : env.cells.lookup x = some c' := e
    rw [e', Option.getD_some] at h2
    subst h2
    exact ⟨e', h1⟩
theorem clos_has {env : Env} {names : List (Str × NameKind)} (hf : ∀ y ∈ names, y.2 = .free → ∃ c, env.cells.lookup y.1 = some c) {x : Str} (h : (x, NameKind.free) ∈ names) : ∃ c, (clos env names []).lookup x = some c ∧ env.cells.lookup x = some c := by
  obtain ⟨c, hm⟩ := clos_key (env := env) (cs := []) (.inl h)
  obtain ⟨c', e⟩ := look_of_mem hm
  exact ⟨c', e, (clos_lookup hf e).1⟩
/-! ### the block's context -/
def compCx (X : Cx) (scope : Scope) (C : Addr) (N : List Str) (ex : List Addr) (s : Shared) (H : Hp) : Cx :=
  { X with N := N, s₀ := s, H₀ := H, env := compEnvC scope (clos X.env scope.names []) C X.env, outer := X.stack, ex := ex, fn := fun _ => false, pn := [], xe := fun _ _ => False }
def capSt (ix : List (Option Nat)) (σ : L2.St) : L2.St := ix.map fun o => o.bind fun i => (σ[i]?).join
def capD (ix : List (Option Nat)) (Δ : DSt) : DSt := ix.map fun o => o.bind fun i => (Δ[i]?).join
structure CompOk (X : Cx) (scope : Scope) (N : List Str) (ix : List (Option Nat)) : Prop where
  kind : scope.kind = .function
  cellF : ∀ y ∈ scope.names, y.2 ≠ .cell
  names : ∀ y ∈ scope.names, y.2 = .local → scope.names.lookup y.1 = some .local
  free : ∀ y ∈ scope.names, y.2 = .free → X.env.kindOf y.1 = some .cell
  len : N.length = ix.length
  cap : ∀ (j : Nat) (x : Str) (i : Nat), N[j]? = some x → ix[j]? = some (some i) → X.N[i]? = some x ∧ (x, NameKind.free) ∈ scope.names ∧ (relabel scope X.env).names.lookup x = some .cell
theorem capSt_get {ix : List (Option Nat)} {σ : L2.St} {j : Nat} {v : V} (h : (capSt ix σ)[j]? = some (some v)) : ∃ i, ix[j]? = some (some i) ∧ σ[i]? = some (some v) := by
  unfold capSt at h
  rw [List.getElem?_map] at h
  cases e : ix[j]? with
  | none => rw [e] at h; cases h
  | some o =>
    rw [e] at h
    cases o with
    | none => simp at h
    | some i =>
      refine ⟨i, rfl, ?_⟩
      have h' : (σ[i]?).join = some v := by simpa using h
      cases q : σ[i]? with
      | none => rw [q] at h'; cases h'
      | some o' => rw [q] at h'; exact congrArg some h'
theorem ERel.cap {K : PySem.W.Frag} {M : Mp} {H : Hp} {σ : L2.St} {Δ : DSt} (h : ERel K M H σ Δ) (ix : List (Option Nat)) : ERel K M H (capSt ix σ) (capD ix Δ) := by
  refine ⟨by unfold capSt capD; rw [List.length_map, List.length_map], fun j x e => ?_⟩
  unfold capD at e
  rw [List.getElem?_map] at e
  cases q : ix[j]? with
  | none => rw [q] at e; cases e
  | some o =>
    rw [q] at e
    cases o with
    | none => simp at e
    | some i =>
      have e' : (Δ[i]?).join = some x := by simpa using e
      have e2 : Δ[i]? = some (some x) := by
        cases q2 : Δ[i]? with
        | none => rw [q2] at e'; cases e'
        | some o' => rw [q2] at e'; exact congrArg some e'
      obtain ⟨v, hv, rv⟩ := h.at' i x e2
      refine ⟨v, ?_, rv⟩
      unfold capSt
      rw [List.getElem?_map, q]
      simp [hv]
section
variable {X : Cx} {pins : List (Addr × Obj)} {σ : L2.St} {H2 : Hp} {s2 : Shared} {scope : Scope} {N : List Str} {ix : List (Option Nat)} {C : Addr} {fp : List Addr}
theorem hfOf (ok : CompOk X scope N ix) (I2 : Inv X pins σ H2 s2) : ∀ y ∈ scope.names, y.2 = .free → ∃ c, X.env.cells.lookup y.1 = some c := fun y hy hk => I2.ok.has y.1 (.inl (ok.free y hy hk))
theorem comp_cx_ok (ok : CompOk X scope N ix) (I2 : Inv X pins σ H2 s2) (f2 : ∀ b ∈ fp, FpOk X pins H2 b) (ex : ∀ b ∈ fp, ∃ o, s2.heap.get? b = some o) (hC : s2.heap.objs.size ≤ C) : (compCx X scope C N fp s2 H2).Ok := by
  have hf := hfOf ok I2
  refine ⟨I2.ok.mod, ok.kind, I2.ok.glob, I2.ok.blt, hC, fun x y c h1 h2 => I2.ok.inj x y c (clos_lookup hf h1).1 (clos_lookup hf h2).1, fun x hx => ?_, fun x c h => absurd h Bool.false_ne_true, I2.ok.hd, I2.ok.frames, .inl rfl, fun b hb => ?_, fun b o e => I2.bs b o e, Nat.le_trans I2.ok.bsz I2.sz,
    fun b o e hb => ?_, fun b hb z => ?_, I2.stack, I2.stkFree⟩
  · have hx' : (relabel scope X.env).names.lookup x = some .cell ∨ (relabel scope X.env).names.lookup x = some .free := hx
    have key : (x, NameKind.free) ∈ scope.names := by
      have go : ∀ k', (relabel scope X.env).names.lookup x = some k' → (k' = .cell ∨ k' = .free) → (x, NameKind.free) ∈ scope.names := fun k' e hk => by
        have hm := PySem.mem_of_lookup e
        obtain ⟨⟨n, k⟩, hn, q⟩ := List.mem_map.mp hm
        by_cases hr : (k == NameKind.free && X.env.scope.kind == .function && X.env.kindOf n == some .cell) = true
        · have q' : (n, NameKind.cell) = (x, k') := by rw [← q]; simp [hr]
          cases q'
          have : k = .free := by simp only [Bool.and_eq_true] at hr; simpa using hr.1.1
          subst this
          exact hn
        · have q' : (n, k) = (x, k') := by rw [← q]; simp [hr]
          cases q'
          rcases hk with rfl | rfl
          · exact absurd rfl (ok.cellF _ hn)
          · exact hn
      rcases hx' with h | h
      · exact go _ h (.inl rfl)
      · exact go _ h (.inr rfl)
    obtain ⟨c, h1, _⟩ := clos_has hf key
    exact ⟨c, h1⟩
  · obtain ⟨o, e⟩ := ex b hb
    exact ⟨Nat.ne_of_lt (Nat.lt_of_lt_of_le (Heap.lt_size e) hC), fun x c h => (f2 b hb).2.2.2.2.1 x c (clos_lookup hf h).1⟩
  · rcases (f2 b hb).2.2.2.1 with z | z
    · exact I2.ok.noex b o e z
    · exact absurd (Nat.lt_of_lt_of_le (Heap.lt_size e) (Nat.le_trans I2.ok.bsz z)) (Nat.lt_irrefl _)
  · rcases List.mem_cons.mp (I2.stkSub b z) with z | z
    · exact (f2 b hb).2.1 z
    · exact (f2 b hb).2.2.1 z
/-- the captured names, as long as the cells stand -/
theorem comp_loc (ok : CompOk X scope N ix) (I2 : Inv X pins σ H2 s2) (f2 : ∀ b ∈ fp, FpOk X pins H2 b) {s : Shared} {H : Hp} {m : Str → Option Value} (u : Un (frs X.stack) fp H2 H s2.heap s.heap) :
    ∀ (i : Nat) (x : Str) (v : V), N[i]? = some x → (capSt ix σ)[i]? = some (some v) → ∃ w, RelV v w ∧ Look (compCx X scope C N fp s2 H2).env s.heap m x w := fun j x v hN hv => by
  obtain ⟨i, hi, hs⟩ := capSt_get hv
  obtain ⟨hx, hm, hr⟩ := ok.cap j x i hN hi
  have hk : X.env.kindOf x = some .cell := ok.free _ hm rfl
  obtain ⟨m0, _, hl⟩ := I2.loc
  obtain ⟨w, r, l⟩ := hl i x v hx hs (.inr (.inl hk))
  refine ⟨w, r, .inr ⟨.inl hr, ?_⟩⟩
  rcases l with ⟨z, _⟩ | ⟨_, c, e, hc⟩
  · rw [hk] at z; cases z
  · obtain ⟨c', h1, h2⟩ := clos_has (hfOf ok I2) hm
    rw [e] at h2
    cases h2
    refine ⟨c, h1, ?_⟩
    obtain ⟨o, ho, hd⟩ := hc
    obtain ⟨sl, q⟩ := u.any ho (I2.freeC x c e) fun z => (f2 c z).2.2.2.2.1 x c e rfl
    exact ⟨_, q, hd⟩
end
end DL

namespace DL
open PySem PySem.Spec PyProof.Rows L2
section
variable {prog : Program} {w : World} {A : Around} {R : Result → Shared → Prop} {s : Shared}
theorem compLoop_any {elt target iter : Expr} {ifs : List Expr} {scope : Scope} {pos : Pos} {it acc : Value} {env : Env} (I : Nat → Shared → Prop)
    (turn : ∀ n s, I n s → wpAny (model prog w) A (pyNext it) (fun r s₁ => match r with
      | none => R (.ok .next) s₁
      | some v => wpAny (model prog w) A (letOwnedTupleGo target it v) (fun _ s₁' => wpAny (model prog w) A (assign target env v) (fun _ s₂ =>
          wpAny (model prog w) A (forIn ifs true fun c r => if r = true then do let ok ← isTrue c env (eval c env); pure (ForInStep.yield ok) else pure (ForInStep.yield r)) (fun ok s₃ =>
            if ok = true then wpAny (model prog w) A (eval elt env) (fun x s₄ =>
              wpAny (model prog w) A (call (.builtin "list.append") [acc, x]) (fun _ s₅ => ∃ m, m < n ∧ I m s₅) (fun _ _ => False) s₄) (fun _ _ => False) s₃
            else ∃ m, m < n ∧ I m s₃) (fun _ _ => False) s₂) (fun _ _ => False) s₁') (fun _ _ => False) s₁) (fun _ _ => False) s)
    (n : Nat) (h : I n s) : codeAny (model prog w) A (.compLoop (.ListComp elt [⟨target, iter, ifs, 0⟩] scope pos) 0 it acc env) R s := by
  refine codeAny_loop rfl I (fun n s hI => ?_) n h
  show wpAny _ A ((compTurn (.ListComp elt [⟨target, iter, ifs, 0⟩] scope pos) 0 it acc env).onRaise (fun x => do noteFrame x env; theTreesLotGoes x)) _ _ s
  refine wpAny_noted ?_
  rw [compTurn_list]
  refine wpAny_bind (wpAny_standAt (wpAny_bind (wpAny_mono (turn n s hI) (fun r s₁ h₁ => ?_) fun _ _ h' => h'.elim)))
  cases r with
  | none => exact wpAny_pure h₁
  | some v =>
    refine wpAny_bind (wpAny_mono h₁ (fun _ s₁' h₁' => ?_) fun _ _ h' => h'.elim)
    refine wpAny_bind (wpAny_mono h₁' (fun _ s₂ h₂ => wpAny_bind (wpAny_mono h₂ (fun ok s₃ h₃ => ?_) fun _ _ h' => h'.elim)) fun _ _ h' => h'.elim)
    cases ok with
    | false => exact wpAny_pure ⟨rfl, h₃⟩
    | true =>
      exact wpAny_bind (wpAny_bind (wpAny_mono h₃ (fun x s₄ h₄ => wpAny_bind (wpAny_mono h₄ (fun _ s₅ h₅ => wpAny_pure (wpAny_pure ⟨rfl, h₅⟩)) fun _ _ h' => h'.elim)) fun _ _ h' => h'.elim))
end
/-! ### what is walked -/
def Yl (K : PySem.W.Frag) (J : It) (ds : List PyData) (M : Mp) (H : Hp) : Prop := ∀ M2 H2, Step M H M2 H2 → ∀ i,
  (i < ds.length → J.go i H2 ∧ ∀ x H', J.yld i H2 x H' → H' = H2 ∧ ∃ d, ds[i]? = some d ∧ Dt K M2 H2 x d) ∧ (ds.length ≤ i → J.stop i H2)
abbrev DSrc := DSt → Mp → (List PyData → Mp → Prop) → Prop
def DI (X : Cx) (tg iter : Expr) (src : DSrc) : Prop := ∃ wi, PI X tg iter wi ∧ ∀ σ H Δ M Ψ (R : It → Hp → Prop), DRel X.K M H → ERel X.K M H σ Δ → src Δ M Ψ →
  (∀ J H' M' ds, DRel X.K M' H' → Step M H M' H' → Yl X.K J ds M' H' → Ψ ds M' → R J H') → wi σ H R
section
variable {X : Cx} {tg iter : Expr}
def srcL (te : DTE) : DSrc := fun Δ M Ψ => te Δ M fun x M1 => ∃ ds, x = .dat (.list ds) ∧ Ψ ds M1
def srcT (te : DTE) : DSrc := fun Δ M Ψ => te Δ M fun x M1 => ∃ ds, x = .dat (.tuple ds) ∧ Ψ ds M1
theorem di_list {te : DTE} (he : DE X iter te) : DI X tg iter (srcL te) := by
  obtain ⟨t, p, q⟩ := he
  refine ⟨_, pi_list p, fun σ H Δ M Ψ R dr er h k => ?_⟩
  refine q σ H Δ M _ _ dr er h fun v H1 x M1 r1 st rv hx => ?_
  obtain ⟨ds, rfl, hΨ⟩ := hx
  obtain ⟨a, xs, rfl, h1, h2⟩ := rv.lst
  refine ⟨a, rfl, ⟨xs, h1.sq⟩, k _ H1 M1 ds r1 st (fun M2 H2 st2 i => ⟨fun hi => ?_, fun hi => ?_⟩) hΨ⟩
  · have hx : i < xs.length := by rw [h2.length]; exact hi
    refine ⟨⟨xs, xs[i], (h1.step st2).sq, by simp [hx]⟩, fun x H' y => ?_⟩
    obtain ⟨e, y⟩ := y
    obtain ⟨d, hd, hy⟩ := (h2.step st2).getV (y xs (h1.step st2).sq)
    exact ⟨e, d, hd, hy⟩
  · exact ⟨xs, (h1.step st2).sq, by rw [h2.length]; exact hi⟩
theorem di_tup {te : DTE} (he : DE X iter te) : DI X tg iter (srcT te) := by
  obtain ⟨t, p, q⟩ := he
  refine ⟨_, pi_tup p, fun σ H Δ M Ψ R dr er h k => ?_⟩
  refine q σ H Δ M _ _ dr er h fun v H1 x M1 r1 st rv hx => ?_
  obtain ⟨ds, rfl, hΨ⟩ := hx
  obtain ⟨a, xs, rfl, h1, h2⟩ := rv.tup
  refine ⟨a, rfl, ⟨xs, h1.sq⟩, k _ H1 M1 ds r1 st (fun M2 H2 st2 i => ⟨fun hi => ?_, fun hi => ?_⟩) hΨ⟩
  · have hx : i < xs.length := by rw [h2.length]; exact hi
    refine ⟨⟨xs, xs[i], (h1.step st2).sq, by simp [hx]⟩, fun x H' y => ?_⟩
    obtain ⟨e, y⟩ := y
    obtain ⟨d, hd, hy⟩ := (h2.step st2).getV (y xs (h1.step st2).sq)
    exact ⟨e, d, hd, hy⟩
  · exact ⟨xs, (h1.step st2).sq, by rw [h2.length]; exact hi⟩
def rngD (lo : Int) (n : Nat) : List PyData := (List.range n).map fun (i : Nat) => PyData.int (lo + (i : Int))
theorem rngD_len (lo : Int) (n : Nat) : (rngD lo n).length = n := by unfold rngD; rw [List.length_map, List.length_range]
theorem rngD_get {lo : Int} {n i : Nat} (h : i < n) : (rngD lo n)[i]? = some (.int (lo + (i : Int))) := by
  unfold rngD
  rw [List.getElem?_map, List.getElem?_range h]
  rfl
theorem yl_range {K : PySem.W.Frag} {M : Mp} {H : Hp} (lo : Int) (n : Nat) : Yl K (Itr lo n) (rngD lo n) M H := fun M2 H2 st2 i => by
  rw [rngD_len]
  refine ⟨fun hi => ⟨hi, fun x H' y => ?_⟩, fun hi => hi⟩
  obtain ⟨e, y⟩ := y
  subst y
  exact ⟨e, _, rngD_get hi, Dt.int _⟩
def srcR1 (ta : DTA) : DSrc := fun Δ M Ψ => ta Δ M fun xs M1 => ∃ j : Int, xs = [.dat (.int j)] ∧ -(2 ^ 62) ≤ j ∧ j < 2 ^ 62 ∧ Ψ (rngD 0 j.toNat) M1
theorem di_range1 {a : Expr} {ta : DTA} {p p2 : Pos} (hg0 : Gl X "range") (hm : X.mg "range" = none) (ha : DA X [a] ta) (hs : starEach [a] X.env = [(false, eval a X.env)] := by rfl) : DI X tg (.Call (.Name "range" p) [a] [] p2) (srcR1 ta) := by
  obtain ⟨t1, p1, q1⟩ := ha
  refine ⟨_, pi_range1 hg0 hm p1 hs, fun σ H Δ M Ψ R dr er h k => ?_⟩
  refine q1 σ H Δ M _ _ dr er h fun vs H1 xs M1 r1 st rv hx => ?_
  obtain ⟨j, rfl, h1, h2, hΨ⟩ := hx
  obtain ⟨v, rfl, hv⟩ := Paired.one rv
  exact ⟨j, by rw [VRel.int hv], h1, h2, k _ H1 M1 _ r1 st (yl_range 0 j.toNat) hΨ⟩
def srcR2 (ta : DTA) : DSrc := fun Δ M Ψ => ta Δ M fun xs M1 => ∃ i j : Int, xs = [.dat (.int i), .dat (.int j)] ∧ (-(2 ^ 62) ≤ i ∧ i < 2 ^ 62 ∧ -(2 ^ 62) ≤ j ∧ j < 2 ^ 62) ∧ Ψ (rngD i (j - i).toNat) M1
theorem di_range2 {a b : Expr} {ta : DTA} {p p2 : Pos} (hg0 : Gl X "range") (hm : X.mg "range" = none) (ha : DA X [a, b] ta) (hs : starEach [a, b] X.env = [(false, eval a X.env), (false, eval b X.env)] := by rfl) (hs2 : starEach [b] X.env = [(false, eval b X.env)] := by rfl) :
    DI X tg (.Call (.Name "range" p) [a, b] [] p2) (srcR2 ta) := by
  obtain ⟨t1, p1, q1⟩ := ha
  refine ⟨_, pi_range2 hg0 hm p1 hs hs2, fun σ H Δ M Ψ R dr er h k => ?_⟩
  refine q1 σ H Δ M _ _ dr er h fun vs H1 xs M1 r1 st rv hx => ?_
  obtain ⟨i, j, rfl, h1, hΨ⟩ := hx
  obtain ⟨v, u, rfl, hv, hu⟩ := Paired.two rv
  exact ⟨i, j, by rw [VRel.int hv, VRel.int hu], h1, k _ H1 M1 _ r1 st (yl_range i (j - i).toNat) hΨ⟩
end
/-! ### the comprehension -/
/-- what is done of the list that comes: data, or an owned one -/
def dEnd (ow : Bool) (Φ : DK) (acc : List PyData) (M : Mp) : Prop := if ow = true then ∀ p, M p = none → Φ (.own p) (mset M p (.lst acc)) else Φ (.dat (.list acc)) M
def dComp (ow : Bool) (src : DSrc) (ix : List (Option Nat)) (g : DTG) (tc : DTT) (te : DTE) : DTE := fun Δ M Φ => src Δ M fun ds M1 => ds.length ≤ sizeLine ∧ ∃ J : Nat → List PyData → Mp → Prop, J 0 [] M1 ∧
  (∀ i d acc M', ds[i]? = some d → J i acc M' → g (.dat d) (capD ix Δ) M' fun Δ2 M2 => tc Δ2 M2 fun b M3 => if b = true then te Δ2 M3 fun y M4 => ∃ e, y = .dat e ∧ J (i + 1) (acc ++ [e]) M4 else J (i + 1) acc M3) ∧
  ∀ acc M', J ds.length acc M' → dEnd ow Φ acc M'
/-- the tests of a clause: none, or one -/
def DTs (X : Cx) (ifs : List Expr) (τ : DTT) : Prop := ∀ (pins : List (Addr × Obj)) (s : Shared) (σ : L2.St) (H : Hp) (Δ : DSt) (M : Mp) (Φ : Bool → Mp → Prop), L2.Inv X pins σ H s → DRel X.K M H → ERel X.K M H σ Δ → τ Δ M Φ →
  wpAny (model X.prog X.w) X.A (forIn ifs true fun c r => if r = true then do let ok ← isTrue c X.env (eval c X.env); pure (ForInStep.yield ok) else pure (ForInStep.yield r))
    (fun b s' => ∃ H' M', L2.Inv X pins σ H' s' ∧ DRel X.K M' H' ∧ Step M H M' H' ∧ Φ b M') X.xe s
def tcNo : DTT := fun _ M Φ => Φ true M
theorem dts_nil {X : Cx} : DTs X [] tcNo := fun pins s σ H Δ M Φ I dr er h => wpAny_tests_nil ⟨H, M, I, dr, Step.refl, h⟩
theorem dts_one {X : Cx} {c : Expr} {τ : DTT} (hc : DT X c τ) : DTs X [c] τ := fun pins s σ H Δ M Φ I dr er h => by
  obtain ⟨t, p, q⟩ := hc
  refine wpAny_tests_one (thn (p pins s σ H (fun b H' => ∃ M', DRel X.K M' H' ∧ Step M H M' H' ∧ Φ b M') I (q σ H Δ M Φ _ dr er h fun b H' M' a c d => ⟨M', a, c, d⟩)) fun b s' h => ?_)
  obtain ⟨H', I', M', a, c, d⟩ := h
  exact ⟨H', M', I', a, c, d⟩
end DL

namespace DL
open PySem PySem.Spec PyProof.Rows L2
section
variable {X : Cx}
/-- the ends of a comprehension: how what comes is used -/
abbrev CompSrc (ds : List PyData) (M1 : Mp) (Δ : DSt) (ix : List (Option Nat)) (g : DTG) (tc : DTT) (te : DTE) (ψ : List PyData → Mp → Prop) : Prop := ds.length ≤ sizeLine ∧ ∃ J : Nat → List PyData → Mp → Prop, J 0 [] M1 ∧
  (∀ i d acc M', ds[i]? = some d → J i acc M' → g (.dat d) (capD ix Δ) M' fun Δ2 M2 => tc Δ2 M2 fun b M3 => if b = true then te Δ2 M3 fun y M4 => ∃ e, y = .dat e ∧ J (i + 1) (acc ++ [e]) M4 else J (i + 1) acc M3) ∧ ∀ acc M', J ds.length acc M' → ψ acc M'
set_option maxHeartbeats 2000000 in
theorem comp_core {elt tg iter : Expr} {ifs : List Expr} {scope : Scope} {pos ps : Pos} {src : DSrc} {N : List Str} {ix : List (Option Nat)} {g : DTG} {tc : DTT} {te : DTE} {use : Option (Value → Sem Unit)} {QQ : Value → Shared → Prop} {ψ : List PyData → Mp → Prop} (ok : CompOk X scope N ix) (hi : DI X tg iter src)
    (hg : ∀ C ex s H, DG (compCx X scope C N ex s H) tg g) (ht : ∀ C ex s H, DTs (compCx X scope C N ex s H) ifs tc) (he : ∀ C ex s H, DE (compCx X scope C N ex s H) elt te) (hc : X.calm = true)
    (hs : ∀ x, foldedSetIterable iter X.env x = pure x) {σ : L2.St} {H : Hp} {Δ : DSt} {M : Mp} {pins : List (Addr × Obj)} {s : Shared} (dr : DRel X.K M H) (er : ERel X.K M H σ Δ) (h : src Δ M fun ds M1 => CompSrc ds M1 Δ ix g tc te ψ) (I : L2.Inv X pins σ H s)
    (hfin : ∀ (s4 : Shared) (C D : Addr) (H' : Hp) (M' : Mp) (vs : List V) (acc : List PyData), L2.Inv X pins σ (upd H' D (.lst vs)) s4 → H' D = none → DRel X.K M' H' → Step M H M' H' → Dts X.K M' H' vs acc → ψ acc M' → (∃ m, s4.heap.Ns C m) → FpOk X pins (upd H' D (.lst vs)) C →
      compPost (model X.prog X.w) X.A X.xe use QQ (.ref D) C (.ok .next) s4) :
    wpAny (model X.prog X.w) X.A (comprehension (.ListComp elt [⟨tg, iter, ifs, 0⟩] scope pos) scope X.env ps (newList []) false (eval iter X.env) use) QQ X.xe s := by
  obtain ⟨wi, pi, qi⟩ := hi
  refine wpAny_comprehension_free (use := use) (cl := clos X.env scope.names []) rfl hs (closureFor_clos (hfOf ok I)) ok.kind ok.names ?_
  show wpAny _ _ (eval iter X.env) _ _ s
  refine thn (pi pins s σ H (fun J H' => ∃ M' ds, DRel X.K M' H' ∧ Step M H M' H' ∧ Yl X.K J ds M' H' ∧ ds.length ≤ sizeLine ∧ ∃ W : Nat → List PyData → Mp → Prop, W 0 [] M' ∧
      (∀ i d acc M', ds[i]? = some d → W i acc M' → g (.dat d) (capD ix Δ) M' fun Δ2 M2 => tc Δ2 M2 fun b M3 => if b = true then te Δ2 M3 fun y M4 => ∃ e, y = .dat e ∧ W (i + 1) (acc ++ [e]) M4 else W (i + 1) acc M3) ∧
      ∀ acc M', W ds.length acc M' → ψ acc M') I (qi σ H Δ M _ _ dr er h fun J H' M' ds a b c d => ⟨M', ds, a, b, c, d⟩)) fun x s1 h1 => thn h1 fun itv s2 h2 => ?_
  obtain ⟨it, fp, tn, J, H2, e, I2, T, st2, f2, M1, ds, dr1, stp, yl, hz, W, w0, wt, wd⟩ := h2
  subst e
  have exo : ∀ b ∈ fp, ∃ o, s2.heap.get? b = some o := fun b hb => let ⟨o, q, _⟩ := T.obj 0 _ st2 b hb; ⟨o, q⟩
  refine wpAny_newObj_type (wpAny_newFunctionEnv ok.cellF (by intro y hy; simp at hy) (fun h₁ hns₁ hsb₁ => ?_) ok.kind)
  dsimp only at hns₁ hsb₁ ⊢
  generalize hH2 : s2.heap.push { cls := .type "list", dict := none, data := .seq ([] : List Value).toArray } = HH at hns₁ hsb₁ ⊢
  have hC : HH.objs.size = s2.heap.objs.size + 1 := by rw [← hH2, Heap.size_push]
  have hDC : s2.heap.objs.size ≠ HH.objs.size := by rw [hC]; exact Nat.ne_of_lt (Nat.lt_succ_self _)
  have hCle : s2.heap.objs.size ≤ HH.objs.size := by rw [hC]; exact Nat.le_succ _
  have below : ∀ b, b < s2.heap.objs.size → b ≠ HH.objs.size ∧ b ≠ s2.heap.objs.size := fun b hb => ⟨by rw [hC]; exact Nat.ne_of_lt (Nat.lt_succ_of_lt hb), Nat.ne_of_lt hb⟩
  have old : ∀ b o, s2.heap.get? b = some o → h₁.get? b = some o := fun b o e => hsb₁.extBut b o (below b (Heap.lt_size e)).1 (Heap.get?_push_of_some _ (hH2 ▸ Heap.get?_push_of_some _ e))
  have hacc : h₁.get? s2.heap.objs.size = some { cls := .type "list", data := .seq ([] : List Value).toArray } := hsb₁.extBut _ _ hDC (Heap.get?_push_of_some _ (hH2 ▸ Heap.get?_push_size _ rfl))
  generalize hCC : HH.objs.size = C at *
  generalize hDD : s2.heap.objs.size = D at hDC hacc below hCle
  have hDs : s2.heap.objs.size ≤ D := Nat.le_of_eq hDD
  have hCs : s2.heap.objs.size ≤ C := by rw [hDD]; exact hCle
  have fD : ∀ b ∈ fp, b ≠ D ∧ b ≠ C := fun b hb => by
    obtain ⟨o, q⟩ := exo b hb
    exact ⟨(below b (by rw [← hDD]; exact Heap.lt_size q)).2, (below b (by rw [← hDD]; exact Heap.lt_size q)).1⟩
  -- the block's context
  have okY : (compCx X scope C N fp s2 H2).Ok := comp_cx_ok ok I2 f2 exo hCs
  have fsD : ∀ b ∈ frs X.stack, b < s2.heap.objs.size := fun b hb => by
    obtain ⟨_, o, ho, _⟩ := I2.stack.mem hb
    exact Heap.lt_size ho
  have cellD : ∀ x c, (compCx X scope C N fp s2 H2).env.cells.lookup x = some c → c < s2.heap.objs.size ∧ H2 c = none := fun x c e => by
    have e' := (clos_lookup (hfOf ok I2) e).1
    obtain ⟨v, q⟩ := I2.cell x c e'
    exact ⟨q.lt, I2.freeC x c e'⟩
  have fpY : ∀ {H' : Hp} {ps : List (Addr × Obj)}, (∀ b ∈ fp, H' b = none) → (∀ p ∈ ps, p.1 = D) → ∀ b ∈ fp, FpOk (compCx X scope C N fp s2 H2) ps H' b := fun {H' ps} hn hp b hb =>
    ⟨hn b hb, (fD b hb).2, okY.exfs b hb, .inl hb, (okY.exf b hb).2, fun p hp' z => by
      have q : p ∈ ps := hp'
      rw [hp p q] at z
      exact (fD b hb).1 z.symm⟩
  have onlyD : ∀ (o : Obj), ∀ p ∈ [(D, o)], p.1 = D := fun o p hp => by
    have q : p = (D, o) := by simpa using hp
    rw [q]
  -- the frame is made anew at each turn's end
  have reloc : ∀ {ps : List (Addr × Obj)} {σ' : L2.St} {H' : Hp} {s' : Shared} {o : Obj}, L2.Inv (compCx X scope C N fp s2 H2) ps σ' H' s' → s'.heap.get? D = some o → H' D = none → (∀ v, o.data ≠ .cell v) →
      L2.Inv (compCx X scope C N fp s2 H2) [(D, o)] (capSt ix σ) H' s' := fun {ps σ' H' s' o} J' hD hn hd => by
    obtain ⟨m, hm, _⟩ := J'.loc
    refine ⟨J'.ok, J'.os, J'.bare, J'.base, ⟨m, hm, fun i x v a b _ => comp_loc ok I2 f2 J'.base i x v a b⟩, J'.cell, J'.free, J'.freeC, fun p hp => ?_, J'.hok, ?_⟩
    · have q : p = (D, o) := by
        have z : p ∈ ([] : List (Addr × Obj)) ++ [(D, o)] := hp
        simpa using z
      subst q
      exact ⟨hD, hn, hDC, fun z => absurd (fsD D z) (Nat.not_lt.mpr hDs), hd⟩
    · show (capSt ix σ).length = N.length
      unfold capSt
      rw [List.length_map, ok.len]
  have start : L2.Inv (compCx X scope C N fp s2 H2) [(D, { cls := .type "list", data := .seq ([] : List Value).toArray })] (capSt ix σ) H2 { s2 with heap := h₁, toks := s2.toks + ([] : List (Str × Value)).length } := by
    refine ⟨okY, rfl, I2.bare, Un.kept old, ⟨_, hns₁, fun i x v a b _ => comp_loc ok I2 f2 (Un.kept old) i x v a b⟩, fun x c e => ?_, I2.hok.fresh hCs, fun x c e => (cellD x c e).2, fun p hp => ?_, I2.hok.kept old, ?_⟩
    · obtain ⟨v, o, ho, hd⟩ := I2.cell x c (clos_lookup (hfOf ok I2) e).1
      exact ⟨v, o, old c o ho, hd⟩
    · have q : p = (D, { cls := .type "list", data := .seq ([] : List Value).toArray }) := by
        have z : p ∈ ([] : List (Addr × Obj)) ++ [(D, { cls := .type "list", data := .seq ([] : List Value).toArray })] := hp
        simpa using z
      subst q
      exact ⟨hacc, I2.hok.fresh hDs, hDC, fun z => absurd (fsD D z) (Nat.not_lt.mpr hDs), fun v z => nomatch z⟩
    · show (capSt ix σ).length = N.length
      unfold capSt
      rw [List.length_map, ok.len]
  have loop : ∀ s₃ : Shared, s₃ = { s2 with heap := h₁, toks := s2.toks + ([] : List (Str × Value)).length } →
      codeAny (model X.prog X.w) X.A (.compLoop (.ListComp elt [⟨tg, iter, ifs, 0⟩] scope pos) 0 (.ref it) (.ref D) (compEnvC scope (clos X.env scope.names []) C X.env)) (compPost (model X.prog X.w) X.A X.xe use QQ (.ref D) C) s₃ := by
    rintro s₃ rfl
    refine compLoop_any (fun n s' => ∃ (i : Nat) (acc : List PyData) (vs : List V) (its : List Value) (nn : Nat) (H' : Hp) (M' : Mp), L2.Inv (compCx X scope C N fp s2 H2) [(D, { cls := .type "list", data := .seq its.toArray nn })] (capSt ix σ) H' s' ∧
      tn i s'.heap ∧ (∀ b ∈ fp, H' b = none) ∧ DRel X.K M' H' ∧ Step M1 H2 M' H' ∧ Vals vs its ∧ Dts X.K M' H' vs acc ∧ W i acc M' ∧ i ≤ ds.length ∧ acc.length ≤ i ∧ n = ds.length - i) ?_ ds.length
      ⟨0, [], [], [], 0, H2, M1, start, T.keep _ _ _ st2 (fun b _ o e => old b o e), fun b hb => (f2 b hb).1, dr1, Step.refl, .nil, .nil, w0, Nat.zero_le _, Nat.le_refl _, rfl⟩
    rintro n s' ⟨i, acc, vs, its, nn, H', M', IY, ti, fr, dr', stp', rv, rd, wi', hil, hal, rfl⟩
    have pinD := IY.pin (D, { cls := .type "list", data := .seq its.toArray nn }) (by simp)
    have fok := fpY (ps := [(D, { cls := .type "list", data := .seq its.toArray nn })]) fr (onlyD _)
    obtain ⟨ygo, ystop⟩ := yl M' H' stp' i
    by_cases hlt : i < ds.length
    · obtain ⟨jgo, jyl⟩ := ygo hlt
      refine thn (T.item (compCx X scope C N fp s2 H2) rfl rfl rfl hc i _ s' (capSt ix σ) H' (fun _ _ => False) IY fok ti jgo) fun r s4 ⟨u, hr, h4⟩ => ?_
      subst hr
      refine thn h4 fun _ s5 ⟨x, H5, I5, r5, y5, st5, fr5⟩ => ?_
      obtain ⟨e5, d, hd, hxd⟩ := jyl x H5 y5
      subst e5
      have I5' := I5.pinned (fpY (ps := [(D, { cls := .type "list", data := .seq its.toArray nn })]) fr5 (onlyD _)) (T.obj _ _ st5)
      obtain ⟨tg', pg, qg⟩ := hg C fp s2 H2
      refine thn (pg _ s5 (capSt ix σ) H5 x u (fun σ6 H6 => ∃ Δ6 M6, DRel X.K M6 H6 ∧ Step M' H5 M6 H6 ∧ ERel X.K M6 H6 σ6 Δ6 ∧ tc Δ6 M6 fun b M3 => if b = true then te Δ6 M3 fun y M4 => ∃ e, y = .dat e ∧ W (i + 1) (acc ++ [e]) M4 else W (i + 1) acc M3) I5' r5
        (qg x (capSt ix σ) H5 (.dat d) (capD ix Δ) M' _ _ dr' ((er.step (stp.trans stp')).cap ix) hxd (wt i d acc M' hd wi') fun σ6 H6 Δ6 M6 a b c d => ⟨Δ6, M6, a, b, c, d⟩)) fun _ s6 ⟨σ6, H6, I6, Δ6, M6, dr6, stp6, er6, q6⟩ => ?_
      refine thn (ht C fp s2 H2 _ s6 σ6 H6 Δ6 M6 _ I6 dr6 er6 q6) fun b s7 ⟨H7, M7, I7, dr7, stp7, q7⟩ => ?_
      have keepD : ∀ {σz : L2.St} {Hz : Hp} {sz : Shared}, L2.Inv (compCx X scope C N fp s2 H2) ([(D, { cls := .type "list", data := .seq its.toArray nn })] ++ pinsAt fp s5.heap) σz Hz sz →
          sz.heap.get? D = some { cls := .type "list", data := .seq its.toArray nn } ∧ Hz D = none ∧ tn (i + 1) sz.heap ∧ ∀ b ∈ fp, Hz b = none := fun {σz Hz sz} Iz => by
        have a := Iz.pin (D, { cls := .type "list", data := .seq its.toArray nn }) (by simp)
        refine ⟨a.1, a.2.1, T.keep _ _ _ st5 fun b hb o e => (Iz.pin (b, o) (List.mem_append_right _ (List.mem_append_right _ (mem_pinsAt hb e)))).1, fun b hb => ?_⟩
        obtain ⟨o, e, _⟩ := T.obj _ _ st5 b hb
        exact (Iz.pin (b, o) (List.mem_append_right _ (List.mem_append_right _ (mem_pinsAt hb e)))).2.1
      cases b with
      | false =>
        have q7' : W (i + 1) acc M7 := by simpa using q7
        obtain ⟨a1, a2, a3, a4⟩ := keepD I7
        have st17 : Step M' H5 M7 H7 := stp6.trans stp7
        exact ⟨ds.length - (i + 1), by omega, i + 1, acc, vs, its, nn, H7, M7, reloc I7 a1 a2 (fun v z => nomatch z), a3, a4, dr7, stp'.trans st17, rv, rd.step st17, q7', hlt, by omega, rfl⟩
      | true =>
        have q7' : te Δ6 M7 fun y M4 => ∃ e, y = .dat e ∧ W (i + 1) (acc ++ [e]) M4 := by simpa using q7
        obtain ⟨te', pe', qe'⟩ := he C fp s2 H2
        refine thn (pe' _ s7 σ6 H7 (fun v H8 => ∃ e M8, DRel X.K M8 H8 ∧ Step M7 H7 M8 H8 ∧ Dt X.K M8 H8 v e ∧ W (i + 1) (acc ++ [e]) M8) I7 (qe' σ6 H7 Δ6 M7 _ _ dr7 (er6.step stp7) q7' fun v H8 x8 M8 a b c d => by
          obtain ⟨e, rfl, w8⟩ := d
          exact ⟨e, M8, a, b, c, w8⟩)) fun y s8 ⟨v, H8, I8, r8, e, M8, dr8, stp8, dv8, w8⟩ => ?_
        obtain ⟨a1, a2, a3, a4⟩ := keepD I8
        have st18 : Step M' H5 M8 H8 := stp6.trans (stp7.trans stp8)
        have lv := rv.length
        have ld := rd.length
        refine call_meets PySem.F.slot_list_append ⟨_, a1, rfl⟩ PySem.F.entry_list_append (PySem.F.args_list_append_2 _ _) (PySem.list_append D its.toArray nn y (by rw [List.size_toArray]; omega)) ⟨a1, ?_⟩
        have q := PySem.IsL.update a1 (·.push y)
        have I8' : L2.Inv (compCx X scope C N fp s2 H2) [] σ6 H8 s8 := I8.pins_of fun p hp => nomatch hp
        have I9 := I8'.turned (it := D) (h' := s8.heap.update D (Obj.mapSeq (·.push y))) (t' := s8.toks) (fun b o hb hu => (Heap.get?_update_other s8.heap (Obj.mapSeq (·.push y)) (Ne.symm hb)).trans hu) a2 hDC (.inr hDs)
          (fun x c e z => absurd (z ▸ (cellD x c e).1) (Nat.not_lt.mpr hDs)) (fun p hp => by have z : p ∈ ([] : List (Addr × Obj)) ++ [] := hp; simp at z)
        have ea : (its.toArray.push y) = (its ++ [y]).toArray := by simp
        rw [ea] at q
        refine ⟨ds.length - (i + 1), by omega, i + 1, acc ++ [e], vs ++ [v], its ++ [y], _, H8, M8, reloc I9 q a2 (fun v z => nomatch z), T.keep _ _ _ a3 (fun b hb o e => (Heap.get?_update_other s8.heap (Obj.mapSeq (·.push y)) (Ne.symm (fD b hb).1)).trans e), a4, dr8, stp'.trans st18,
          rv.append (.cons r8 .nil), (rd.step st18).append (.cons dv8 .nil), w8, hlt, by rw [List.length_append, List.length_singleton]; omega, rfl⟩
    · have hie : i = ds.length := by omega
      refine thn (T.done (compCx X scope C N fp s2 H2) rfl rfl rfl hc i _ s' (capSt ix σ) H' (fun _ _ => False) IY fok ti (ystop (by omega))) fun r s4 ⟨hr, I4⟩ => ?_
      subst hr
      obtain ⟨m4, hm4, _⟩ := I4.loc
      have pD := I4.pin (D, { cls := .type "list", data := .seq its.toArray nn }) (by simp)
      have hCn : H' C = none := I4.free
      have hDn : H' D = none := pD.2.1
      -- the list that was made is tracked from here on
      have hok4 : HOk X.prog X.w (upd H' D (.lst vs)) s4.heap := fun b u e => by
        by_cases hb : b = D
        · subst hb
          rw [upd_same] at e
          cases e
          exact ⟨by have := rv.length; have := rd.length; omega, its, nn, rv, pD.1⟩
        · rw [upd_ne hb] at e
          refine (I4.hok b u e).stay (fun c v hc' q => q) (fun c q => ?_) fun c xs q => ?_
          · rw [upd_ne (ne_of_none q pD.2.1)]; exact q
          · rw [upd_ne (ne_of_none q pD.2.1)]; exact q
      have bu : Un (frs X.stack) fp H2 H' s2.heap s4.heap := I4.base
      have un4 : Un (frs X.stack) fp H2 (upd H' D (.lst vs)) s2.heap s4.heap := by
        have nD : ∀ b o, s2.heap.get? b = some o → b ≠ D ∧ b ≠ C := fun b o e => ⟨fun z => absurd (z ▸ Heap.lt_size e) (Nat.not_lt.mpr hDs), fun z => absurd (z ▸ Heap.lt_size e) (Nat.not_lt.mpr hCs)⟩
        refine ⟨fun b o e n hb hx => bu.keep b o e n hb hx, fun b o e n hb hx => bu.slot b o e n hb hx, fun b o e n hx => by rw [upd_ne (nD b o e).1]; exact bu.free b o e n hx, fun b o e hx => bu.there b o e hx, fun b xs e => ?_, fun b o xs e => ?_, fun b ps e => ?_⟩
        · have q := bu.tups b xs e
          rw [upd_ne (ne_of_none q pD.2.1)]; exact q
        · have q := bu.frzs b o xs e
          rw [upd_ne (ne_of_none q pD.2.1)]; exact q
        · obtain ⟨mo, q⟩ := bu.tbls b ps e
          exact ⟨mo, by rw [upd_ne (ne_of_none q pD.2.1)]; exact q⟩
      have os4 : s4.os = s2.os := I4.os
      have IX : L2.Inv X pins σ (upd H' D (.lst vs)) s4 := I2.call' (s' := s4) os4 un4 hok4 I4.bare fun b hb => ⟨(f2 b hb).2.2.2.1, (f2 b hb).2.1, (f2 b hb).2.2.2.2.1, (f2 b hb).2.2.2.2.2⟩
      subst hie
      exact hfin s4 C D H' M' vs acc IX hDn dr' (stp.trans stp') rd (wd acc M' wi') ⟨m4, hm4⟩ (I2.fpOk hCs (by rw [upd_ne (Ne.symm hDC)]; exact hCn))
  have hst₁ : tn 0 h₁ := T.keep _ _ _ st2 fun b _ o e => old b o e
  exact codeAny_compStart_list (loop _ rfl) (T.self _ 0 _ _ _ hst₁ (loop _ rfl))
theorem ns_pin {h h' : Heap} {C : Addr} {m : Str → Option Value} (n : h.Ns C m) (k : ∀ o, h.get? C = some o → h'.get? C = some o) : h'.Ns C m := by
  obtain ⟨o, es, ep, ho, r⟩ := n
  exact ⟨o, es, ep, k o ho, r⟩
theorem gone {pins : List (Addr × Obj)} {σ : L2.St} {H : Hp} {s : Shared} {C : Addr} {h' : Heap} (I : L2.Inv X pins σ H s) (f : FpOk X pins H C) (hsb : Heap.SameBut C s.heap h') : L2.Inv X pins σ H { s with heap := h' } :=
  I.turned (t' := s.toks) (fun b o hb e => hsb.extBut b o hb e) f.1 f.2.1 f.2.2.2.1 f.2.2.2.2.1 f.2.2.2.2.2
theorem end_of {ow : Bool} {Φ : DK} {Q : VK} {M M' : Mp} {H H' : Hp} {D : Addr} {vs : List V} {acc : List PyData} (dr' : DRel X.K M' H') (st : Step M H M' H') (rd : Dts X.K M' H' vs acc) (hDn : H' D = none) (fin : dEnd ow Φ acc M') (k : Rch X.K M H Φ Q) : Q (.ref D) (upd H' D (.lst vs)) := by
  cases ow with
  | true =>
    have fin' : ∀ p, M' p = none → Φ (.own p) (mset M' p (.lst acc)) := by simpa [dEnd] using fin
    exact k _ _ (.own D) _ (dr'.ownSet (Step.ownNew hDn) rd) (st.trans (Step.ownNew hDn)) rfl (fin' D (dr'.tracked hDn))
  | false =>
    have fin' : Φ (.dat (.list acc)) M' := by simpa [dEnd] using fin
    exact k.dat (dr'.new hDn) (st.trans (Step.new hDn)) (Dt.newLst dr' hDn rd) fin'
theorem de_comp (ow : Bool) {elt tg iter : Expr} {ifs : List Expr} {scope : Scope} {pos : Pos} {src : DSrc} {N : List Str} {ix : List (Option Nat)} {g : DTG} {tc : DTT} {te : DTE} (ok : CompOk X scope N ix) (hi : DI X tg iter src)
    (hg : ∀ C ex s H, DG (compCx X scope C N ex s H) tg g) (ht : ∀ C ex s H, DTs (compCx X scope C N ex s H) ifs tc) (he : ∀ C ex s H, DE (compCx X scope C N ex s H) elt te) (hc : X.calm = true)
    (hs : ∀ x, foldedSetIterable iter X.env x = pure x := by intro _; rfl) : DE X (.ListComp elt [⟨tg, iter, ifs, 0⟩] scope pos) (dComp ow src ix g tc te) := by
  refine ⟨fun σ H Q => ∀ pins s, L2.Inv X pins σ H s → wpAny (model X.prog X.w) X.A (eval (.ListComp elt [⟨tg, iter, ifs, 0⟩] scope pos) X.env) (EP X pins σ Q) X.xe s, fun pins s σ H Q I h => h pins s I, fun σ H Δ M Φ Q dr er h k pins s I => ?_⟩
  rw [eval_ListComp]
  refine comp_core (ψ := dEnd ow Φ) ok hi hg ht he hc hs dr er h I fun s4 C D H' M' vs acc IX hDn dr' st rd fin hm f => ?_
  obtain ⟨m, hm⟩ := hm
  exact ⟨m, hm, fun h' hsb => ⟨.ref D, _, gone IX f hsb, rfl, end_of dr' st rd hDn fin k⟩⟩
/-- name = [.. for ..]: the name is bound while the block still stands -/
theorem ds_setC (i : Nat) (ow : Bool) {x : Str} {pos' spos : Pos} (hN : X.N.Nodup) {elt tg iter : Expr} {ifs : List Expr} {scope : Scope} {pos : Pos} {src : DSrc} {N : List Str} {ix : List (Option Nat)} {g : DTG} {tc : DTT} {te : DTE} (ok : CompOk X scope N ix) (hi : DI X tg iter src)
    (hg : ∀ C ex s H, DG (compCx X scope C N ex s H) tg g) (ht : ∀ C ex s H, DTs (compCx X scope C N ex s H) ifs tc) (he : ∀ C ex s H, DE (compCx X scope C N ex s H) elt te) (hc : X.calm = true)
    (hs : ∀ x, foldedSetIterable iter X.env x = pure x := by intro _; rfl) (hin : X.N[i]? = some x := by rfl) (hx : Loc X.env.scope x := by first | exact Or.inl rfl | exact Or.inr rfl)
    (hsw : swapsWith (.ListComp elt [⟨tg, iter, ifs, 0⟩] scope pos) (some (.Name x pos')) spos.line X.env = pure true := by rfl)
    (hf : X.fn x = true ∨ X.env.scope.names.lookup x = some .local := by first | exact .inl rfl | exact .inr rfl | assumption) :
    DS X (.Assign [.Name x pos'] (.ListComp elt [⟨tg, iter, ifs, 0⟩] scope pos) spos) (dAsg (dComp ow src ix g tc te) (dgName i)) := by
  refine ⟨fun E σ H => ∀ pins s, L2.Inv X pins σ H s → wpAny (model X.prog X.w) X.A (exec (.Assign [.Name x pos'] (.ListComp elt [⟨tg, iter, ifs, 0⟩] scope pos) spos) X.env) (SP X pins E) X.xe s, fun pins s σ H E I h => h pins s I, fun σ H Δ M D E dr er h k pins s I => ?_⟩
  rw [exec_Assign_Name_used _ _ _ _ hsw]
  refine wpAny_bind (wpAny_standAt (wpAny_bind ?_))
  show wpAny _ _ (do let _ ← comprehension (.ListComp elt [⟨tg, iter, ifs, 0⟩] scope pos) scope X.env _ (newList []) false (eval iter X.env) (some (assign (.Name x pos') X.env))) _ _ s
  refine wpAny_bind (wpAny_mono (comp_core (QQ := fun _ s' => SP X pins E .next s') (use := some (assign (.Name x pos') X.env)) (ψ := dEnd ow fun y M1 => D.nx (Δ.set i (some y)) M1) ok hi hg ht he hc hs dr er h I fun s4 C DD H' M' vs acc IX hDn dr' st rd fin hm f => ?_)
    (fun _ s' hq => wpAny_pure (wpAny_pure hq)) fun _ _ e => e)
  obtain ⟨m, hm⟩ := hm
  have hm0 := hm
  obtain ⟨oC, es, ep, hoC, hr1, hr2⟩ := hm0
  have IP : L2.Inv X (pins ++ [(C, oC)]) σ (upd H' DD (.lst vs)) s4 := IX.pins_of fun p hp => by
    rcases List.mem_append.mp hp with hp | hp
    · exact IX.pin p (List.mem_append_right _ hp)
    · rw [List.mem_singleton.mp hp]
      exact ⟨hoC, f.1, f.2.1, f.2.2.1, fun v z => nomatch (hr1.symm.trans z)⟩
  have nxt : ∀ Q' : L2.St → Hp → Prop, (Q' (σ.set i (some (.ref DD))) (upd H' DD (.lst vs))) → wpAny (model X.prog X.w) X.A (assign (.Name x pos') X.env (.ref DD)) (fun _ s' => ∃ σ' H', L2.Inv X (pins ++ [(C, oC)]) σ' H' s' ∧ Q' σ' H') X.xe s4 := fun Q' hq =>
    pg_name (pos := pos') hN hin hx hf _ s4 σ _ (.ref DD) (.ref DD) Q' IP rfl hq
  have kq : E.nx (σ.set i (some (.ref DD))) (upd H' DD (.lst vs)) := by
    cases ow with
    | true =>
      have fin' : ∀ p, M' p = none → D.nx (Δ.set i (some (.own p))) (mset M' p (.lst acc)) := by simpa [dEnd] using fin
      have st2 : Step M H (mset M' DD (.lst acc)) (upd H' DD (.lst vs)) := st.trans (Step.ownNew hDn)
      exact k.nx _ _ _ _ (dr'.ownSet (Step.ownNew hDn) rd) st2 ((er.step st2).set (v := .ref DD) (x := .own DD) rfl) (fin' DD (dr'.tracked hDn))
    | false =>
      have fin' : D.nx (Δ.set i (some (.dat (.list acc)))) M' := by simpa [dEnd] using fin
      have st2 : Step M H M' (upd H' DD (.lst vs)) := st.trans (Step.new hDn)
      exact k.nx _ _ _ _ (dr'.new hDn) st2 ((er.step st2).set (v := .ref DD) (x := .dat (.list acc)) (Dt.newLst dr' hDn rd)) fin'
  show wpAny _ _ (assign (.Name x pos') X.env (.ref DD)) _ _ s4
  refine thn (nxt (fun σ' H' => σ' = σ.set i (some (.ref DD)) ∧ E.nx σ' H') ⟨rfl, kq⟩) fun _ s5 ⟨σ5, H5, I5, _, q5⟩ => ?_
  have p5 := I5.pin (C, oC) (by simp)
  refine ⟨m, ns_pin hm fun o ho => ?_, fun h' hsb => ⟨σ5, H5, ?_, q5⟩⟩
  · rw [hoC] at ho
    cases ho
    exact p5.1
  · have I6 : L2.Inv X pins σ5 H5 s5 := I5.pins_of fun p hp => I5.pin p (List.mem_append_right _ (List.mem_append_left _ hp))
    exact gone I6 ⟨p5.2.1, f.2⟩ hsb
end
end DL

namespace DL
open PySem PySem.Spec PyProof.Rows L2
section
variable {X : Cx}
/-! ### lists of ints: sorted, min, max -/
/-- a list of ints: data, or owned -/
def IntsOf (xs : List DV) (M : Mp) (ns : List Int) : Prop := xs = [.dat (.list (ns.map PyData.int))] ∨ ∃ l, xs = [.own l] ∧ M l = some (.lst (ns.map PyData.int))
theorem IntsOf.sq {M : Mp} {H : Hp} {vs : List V} {xs : List DV} {ns : List Int} (h : IntsOf xs M ns) (r : DRel X.K M H) (rv : VRels X.K M H vs xs) : ∃ p, vs = [.ref p] ∧ SqL X.K H p (ns.map V.int) := by
  rcases h with rfl | ⟨l, rfl, hm⟩
  · obtain ⟨v, rfl, h1⟩ := Paired.one rv
    obtain ⟨p, ys, rfl, g1, g2⟩ := VRel.lst h1
    rw [ofDts_ints g2] at g1
    exact ⟨p, rfl, g1.sq⟩
  · obtain ⟨v, rfl, h1⟩ := Paired.one rv
    cases (show v = .ref l from h1)
    obtain ⟨ws, g1, g2⟩ := r l _ hm
    rw [ofDts_ints g2] at g1
    exact ⟨l, rfl, SqL.of g1⟩
def δSortI : D1 := fun xs M Φ => ∃ ns : List Int, IntsOf xs M ns ∧ ns.length < 64 ∧ ∀ ns' : List Int, ns'.Perm ns → ns'.Pairwise (· ≤ ·) → Φ (.dat (.list (ns'.map PyData.int))) M
theorem call_minI (hc : X.calm = true) : CallR X (.builtin "min") (fun xs H Q => ∃ (p : Addr) (ns : List Int), xs = [.ref p] ∧ SqL X.K H p (ns.map V.int) ∧ 0 < ns.length ∧ ∀ m ∈ ns, (∀ a ∈ ns, m ≤ a) → Q (.int m) H) := by
  intro pins s σ H xs us Q I r h
  obtain ⟨p, ns, rfl, hq, h0, q⟩ := h
  obtain ⟨u, rfl, rx⟩ := vals1 r
  cases rx
  obtain ⟨its, rv, pl, hz⟩ := I.list hq
  have hi : IntsAre its ns := intsAre_of rv
  obtain ⟨xs, e⟩ := hi.allInts.items
  have hns : ns = xs.toList.map (·.1) := by rw [← hi.numsOf, ← nums_intItems, ← e]
  have hsz : 0 < xs.size := by
    have h3 := h0; rw [hns, List.length_map, Array.length_toList] at h3; exact h3
  have hl := pl.isList
  rw [e] at hl
  refine min_intList (I.ok.hd hc) hl hsz fun v h' tk hv hk => ?_
  obtain ⟨t, rfl⟩ := intItems_at hv
  obtain ⟨h1, h2⟩ := argBest_lt (numAt xs) (xs.size - 1)
  refine ⟨.int _, H, I.kept hk, ⟨t, rfl⟩, q _ ?_ fun a ha => ?_⟩
  · rw [hns, numAt_eq]; exact getD_mem (by rw [List.length_map, Array.length_toList]; omega)
  · rw [hns] at ha
    obtain ⟨j, hj, rfl⟩ := mem_getD ha
    rw [List.length_map, Array.length_toList] at hj
    rw [← numAt_eq]; exact h2 j (by omega)
theorem call_maxI (hc : X.calm = true) : CallR X (.builtin "max") (fun xs H Q => ∃ (p : Addr) (ns : List Int), xs = [.ref p] ∧ SqL X.K H p (ns.map V.int) ∧ 0 < ns.length ∧ ∀ m ∈ ns, (∀ a ∈ ns, a ≤ m) → Q (.int m) H) := by
  intro pins s σ H xs us Q I r h
  obtain ⟨p, ns, rfl, hq, h0, q⟩ := h
  obtain ⟨u, rfl, rx⟩ := vals1 r
  cases rx
  obtain ⟨its, rv, pl, hz⟩ := I.list hq
  have hi : IntsAre its ns := intsAre_of rv
  obtain ⟨xs, e⟩ := hi.allInts.items
  have hns : ns = xs.toList.map (·.1) := by rw [← hi.numsOf, ← nums_intItems, ← e]
  have hsz : 0 < xs.size := by
    have h3 := h0; rw [hns, List.length_map, Array.length_toList] at h3; exact h3
  have hl := pl.isList
  rw [e] at hl
  refine max_intList (I.ok.hd hc) hl hsz fun v h' tk hv hk => ?_
  obtain ⟨t, rfl⟩ := intItems_at hv
  obtain ⟨h1, h2⟩ := argBest_gt (numAt xs) (xs.size - 1)
  refine ⟨.int _, H, I.kept hk, ⟨t, rfl⟩, q _ ?_ fun a ha => ?_⟩
  · rw [hns, numAt_eq]; exact getD_mem (by rw [List.length_map, Array.length_toList]; omega)
  · rw [hns] at ha
    obtain ⟨j, hj, rfl⟩ := mem_getD ha
    rw [List.length_map, Array.length_toList] at hj
    rw [← numAt_eq]; exact h2 j (by omega)
def δMinI : D1 := fun xs M Φ => ∃ ns : List Int, IntsOf xs M ns ∧ 0 < ns.length ∧ ∀ m ∈ ns, (∀ a ∈ ns, m ≤ a) → Φ (.dat (.int m)) M
def δMaxI : D1 := fun xs M Φ => ∃ ns : List Int, IntsOf xs M ns ∧ 0 < ns.length ∧ ∀ m ∈ ns, (∀ a ∈ ns, a ≤ m) → Φ (.dat (.int m)) M
theorem cd_minI (hc : X.calm = true) : CallD X (.builtin "min") δMinI := by
  refine ⟨_, call_minI hc, fun vs H xs M Φ Q r rv h k => ?_⟩
  obtain ⟨ns, hx, h0, q⟩ := h
  obtain ⟨p, rfl, hs⟩ := hx.sq r rv
  exact ⟨p, ns, rfl, hs, h0, fun m a b => k.dat r Step.refl (Dt.int m) (q m a b)⟩
theorem cd_maxI (hc : X.calm = true) : CallD X (.builtin "max") δMaxI := by
  refine ⟨_, call_maxI hc, fun vs H xs M Φ Q r rv h k => ?_⟩
  obtain ⟨ns, hx, h0, q⟩ := h
  obtain ⟨p, rfl, hs⟩ := hx.sq r rv
  exact ⟨p, ns, rfl, hs, h0, fun m a b => k.dat r Step.refl (Dt.int m) (q m a b)⟩
/-- max of three -/
theorem Paired.three {α β : Type} {F : α → β → Prop} {l : List α} {b c d : β} (h : Paired F l [b, c, d]) : ∃ a a' a'', l = [a, a', a''] ∧ F a b ∧ F a' c ∧ F a'' d := by
  cases h with
  | cons h1 h2 =>
    obtain ⟨a, a', rfl, h3, h4⟩ := Paired.two h2
    exact ⟨_, a, a', rfl, h1, h3, h4⟩
def δ3I (g : Int → Int → Int → Int) : D1 := fun xs M Φ => ∃ i j l : Int, xs = [.dat (.int i), .dat (.int j), .dat (.int l)] ∧ Φ (.dat (.int (g i j l))) M
theorem call_max3 (hc : X.calm = true) : CallR X (.builtin "max") (fun xs H Q => ∃ i j l, xs = [.int i, .int j, .int l] ∧ Q (.int (max i (max j l))) H) := by
  intro pins s σ H xs us Q I r h
  obtain ⟨i, j, l, rfl, q⟩ := h
  obtain ⟨u, hu⟩ : ∃ u, us = u := ⟨us, rfl⟩
  cases r with
  | cons r1 r2 =>
    obtain ⟨u2, u3, rfl, r3, r4⟩ := vals2 r2
    obtain ⟨t1, rfl⟩ := r1
    obtain ⟨t2, rfl⟩ := r3
    obtain ⟨t3, rfl⟩ := r4
    refine max_three_ints (I.ok.hd hc) fun h' tk k => ⟨.int (max i (max j l)), H, I.kept k, ?_, q⟩
    by_cases c1 : j > i
    · rw [if_pos c1]
      by_cases c2 : l > j
      · rw [if_pos c2]; exact ⟨t3, by rw [show max i (max j l) = l by omega]⟩
      · rw [if_neg c2]; exact ⟨t2, by rw [show max i (max j l) = j by omega]⟩
    · rw [if_neg c1]
      by_cases c2 : l > i
      · rw [if_pos c2]; exact ⟨t3, by rw [show max i (max j l) = l by omega]⟩
      · rw [if_neg c2]; exact ⟨t1, by rw [show max i (max j l) = i by omega]⟩
theorem cd_max3 (hc : X.calm = true) : CallD X (.builtin "max") (δ3I fun i j l => max i (max j l)) := by
  refine ⟨_, call_max3 hc, fun vs H xs M Φ Q r rv h k => ?_⟩
  obtain ⟨i, j, l, rfl, q⟩ := h
  obtain ⟨v, u, w', rfl, h1, h2, h3⟩ := Paired.three rv
  exact ⟨i, j, l, by rw [VRel.int h1, VRel.int h2, VRel.int h3], k.dat r Step.refl (Dt.int _) q⟩
/-! ### tuple(l) -/
def δTupOf : D1 := fun xs M Φ => ∃ ds, (xs = [.dat (.list ds)] ∨ xs = [.dat (.tuple ds)] ∨ ∃ l, xs = [.own l] ∧ M l = some (.lst ds)) ∧ Φ (.dat (.tuple ds)) M
theorem cd_tupleOf : CallD X (.type "tuple") δTupOf := by
  refine ⟨_, call_tuple_of, fun vs H xs M Φ Q r rv h k => ?_⟩
  obtain ⟨ds, hx, q⟩ := h
  rcases hx with rfl | rfl | ⟨l, rfl, hm⟩
  · obtain ⟨v, rfl, h1⟩ := Paired.one rv
    obtain ⟨p, ys, rfl, g1, g2⟩ := VRel.lst h1
    exact ⟨p, ys, rfl, .inl ⟨g1.sq, fun l hl => k.dat (r.new hl) (Step.new hl) (Dt.newTup r hl g2) q⟩⟩
  · obtain ⟨v, rfl, h1⟩ := Paired.one rv
    obtain ⟨p, ys, rfl, g1, g2⟩ := VRel.tup h1
    exact ⟨p, ys, rfl, .inr ⟨g1.sq, k.dat r Step.refl (Dt.tup g1 g2) q⟩⟩
  · obtain ⟨v, rfl, h1⟩ := Paired.one rv
    cases (show v = .ref l from h1)
    obtain ⟨ws, g1, g2⟩ := r l _ hm
    exact ⟨l, ws, rfl, .inl ⟨SqL.of g1, fun l hl => k.dat (r.new hl) (Step.new hl) (Dt.newTup r hl g2) q⟩⟩
/-! ### in -/
def δIn : D2 := fun x y M Φ => ∃ d ds, x = .dat d ∧ (y = .dat (.list ds) ∨ y = .dat (.tuple ds)) ∧ d.canLay0 = true ∧ PyData.canLayAll0 ds = true ∧ d.depth ≤ 64 ∧ Φ (.dat (.bool (ds.any fun e => PyData.eqv e d))) M
/-! ### l.extend(m), both owned -/
def dExtend (to te : DTE) : DTE := fun Δ M Φ => to Δ M fun x M1 => ∃ l, x = .own l ∧ (∃ o, M1 l = some o) ∧ te Δ M1 fun y M2 => ∃ b ds es, y = .own b ∧ b ≠ l ∧ M2 l = some (.lst ds) ∧ M2 b = some (.lst es) ∧ ds.length + es.length ≤ sizeLine ∧ Φ (.dat .none) (mdel (mset M2 l (.lst (ds ++ es))) b)
theorem de_extend {o e : Expr} {to te : DTE} {apos cpos : Pos} (ho : DE X o to) (he : DE X e te) (hbase : attributeBase o "extend" X.env (eval o X.env) = eval o X.env := by rfl)
    (hfew : ((backTo cpos (starEach [e] X.env)).all (fun x => !x.1) && (backToKw cpos (keywordEach [] X.env)).all (fun x => x.1.isSome)
      && decide ([e].length + ([] : List Keyword).length + (if ([] : List Keyword).isEmpty then 0 else 1) < 30)) = true := by rfl)
    (hline : (apos.endLine == cpos.line) = true := by rfl) (hs : starEach [e] X.env = (false, eval e X.env) :: starEach [] X.env := by rfl) (hplain : (backTo cpos (starEach [] X.env)).any (·.1) = false := by rfl) :
    DE X (.Call (.Attribute o "extend" apos) [e] [] cpos) (dExtend to te) := by
  obtain ⟨t1, p1, q1⟩ := ho
  obtain ⟨t2, p2, q2⟩ := he
  refine ⟨_, pe_bm PySem.F.plainAttrs_list PySem.F.slot_list_extend PySem.F.type_list_extend mt_extend p1 (pa_cons p2 pa_nil hs) hbase hfew hline hs hplain, fun σ H Δ M Φ Q r e h k => ?_⟩
  refine q1 σ H Δ M _ _ r e h fun v H1 x M1 r1 st rv hx => ?_
  obtain ⟨l, rfl, ⟨oo, ho⟩, hx⟩ := hx
  cases (show v = .ref l from rv)
  have ty : tyV X.K "list" (.ref l) H1 := by
    cases oo with
    | lst ds =>
      obtain ⟨vs, g1, _⟩ := r1 l ds ho
      exact .inl ⟨rfl, vs, SqL.of g1⟩
  refine ⟨ty, q2 σ H1 Δ M1 _ _ r1 (e.step st) hx fun w H2 y M2 r2 st2 rw2 hy => ?_⟩
  obtain ⟨b, ds, es, rfl, hne, hm, hb, hz, hy⟩ := hy
  cases (show w = .ref b from rw2)
  obtain ⟨vs, g1, g2⟩ := r2 l ds hm
  obtain ⟨ws, g3, g4⟩ := r2 b es hb
  have st3 : Step M2 H2 (mset M2 l (.lst (ds ++ es))) (upd H2 l (.lst (vs ++ ws))) := Step.ownPut hm
  refine ⟨l, b, vs, ws, rfl, rfl, g1, g3, by rw [g2.length, g4.length]; exact hz, ?_⟩
  exact k.dat (r2.ownSet st3 (g2.append g4)).frz (st.trans (st2.trans (st3.trans Step.frz))) Dt.non hy
/-! ### for x in range(a, b) -/
theorem ds_forR2 {tg a b : Expr} {body : List Stmt} {g : DTG} {tb : DTS} {pos : Pos} {ta : DTA} {p p2 : Pos} (hg0 : Gl X "range") (hm : X.mg "range" = none) (ha : DA X [a, b] ta) (hg : DG X tg g) (hb : DSs X body tb) (hp : PassesOwn (model X.prog X.w) X.A X.env X.xe) (hc : X.calm = true)
    (hs : starEach [a, b] X.env = [(false, eval a X.env), (false, eval b X.env)] := by rfl) (hs' : starEach [b] X.env = [(false, eval b X.env)] := by rfl) (hs2 : ∀ x, foldedSetIterable (.Call (.Name "range" p) [a, b] [] p2) X.env x = pure x := by intro _; rfl) :
    DS X (.For tg (.Call (.Name "range" p) [a, b] [] p2) body [] pos) (dForR2 ta g tb) := by
  obtain ⟨t1, p1, q1⟩ := ha
  obtain ⟨t2, p2, q2⟩ := hg
  obtain ⟨t3, p3, q3⟩ := hb
  refine ⟨_, ps_for hp hc (pi_range2 hg0 hm p1 hs hs') p2 p3 hs2, fun σ H Δ M D E r e h k => ?_⟩
  refine q1 σ H Δ M _ _ r e h fun vs H1 xs M1 r1 st rv hx => ?_
  obtain ⟨i, j, rfl, h1, hx⟩ := hx
  obtain ⟨v, u, rfl, hv, hu⟩ := Paired.two rv
  exact ⟨i, j, by rw [VRel.int hv, VRel.int hu], h1, turnsR q2 q3 r1 (e.step st) hx (k.step st)⟩
/-! ### slices of lists -/
def dSlL (te : DTE) (tl th : DTO) : DTE := fun Δ M Φ => te Δ M fun x M1 => tl Δ M1 fun l M2 => th Δ M2 fun u M3 => ∃ ds, x = .dat (.list ds) ∧ Φ (.dat (.list (cutD ds l u))) M3
theorem de_sliceL {e : Expr} {te : DTE} {lo hi : Option Expr} {tl th : DTO} {p2 pos : Pos} (he : DE X e te) (hl : DO X lo tl) (hu : DO X hi th) : DE X (.Subscript e (.Slice lo hi none p2) pos) (dSlL te tl th) := by
  obtain ⟨t1, p1, q1⟩ := he
  obtain ⟨t2, p2, q2⟩ := hl
  obtain ⟨t3, p3, q3⟩ := hu
  refine ⟨_, pe_slice sl_list p1 p2 p3, fun σ H Δ M Φ Q r e h k => ?_⟩
  refine q1 σ H Δ M _ _ r e h fun v H1 x M1 r1 st rv hx => ?_
  refine q2 σ H1 Δ M1 _ _ r1 (e.step st) hx fun l H2 M2 r2 st2 hl => ?_
  refine q3 σ H2 Δ M2 _ _ r2 (e.step (st.trans st2)) hl fun u H3 M3 r3 st3 hu => ?_
  obtain ⟨ds, rfl, hu⟩ := hu
  obtain ⟨a, xs, rfl, h1, h2⟩ := (rv.step (st2.trans st3)).lst
  refine ⟨a, xs, rfl, h1.sq, fun p hp => ?_⟩
  exact k.dat (r3.new hp) ((st.trans (st2.trans st3)).trans (Step.new hp)) (Dt.newLst r3 hp (h2.cut l u)) hu
/-! ### a comprehension's names, checked -/
def relabelS (scope sc : Scope) : List (Str × NameKind) := scope.names.map fun (n, k) => if (k == .free && sc.kind == .function && sc.names.lookup n == some .cell) then (n, .cell) else (n, k)
def capOk (sc : Scope) (XN : List Str) (scope : Scope) (N : List Str) (ix : List (Option Nat)) (j : Nat) : Bool :=
  match N[j]?, ix[j]? with
  | some x, some (some i) => decide (XN[i]? = some x) && (decide ((x, NameKind.free) ∈ scope.names) && decide ((relabelS scope sc).lookup x = some .cell))
  | _, _ => true
theorem compOk_of {sc : Scope} {XN : List Str} {scope : Scope} {N : List Str} {ix : List (Option Nat)} (hsc : X.env.scope = sc) (hN : X.N = XN)
    (h : scope.kind = .function ∧ (∀ y ∈ scope.names, y.2 ≠ .cell) ∧ (∀ y ∈ scope.names, y.2 = .local → scope.names.lookup y.1 = some .local) ∧ (∀ y ∈ scope.names, y.2 = .free → sc.names.lookup y.1 = some .cell) ∧ N.length = ix.length ∧
      ∀ j ∈ List.range N.length, capOk sc XN scope N ix j = true) : CompOk X scope N ix := by
  obtain ⟨h1, h2, h3, h4, h5, h6⟩ := h
  subst hsc hN
  refine ⟨h1, h2, h3, h4, h5, fun j x i hx hi => ?_⟩
  have hj : j < N.length := (List.getElem?_eq_some_iff.mp hx).1
  have q := h6 j (List.mem_range.mpr hj)
  unfold capOk at q
  rw [hx, hi] at q
  simp only [Bool.and_eq_true, decide_eq_true_eq] at q
  exact ⟨q.1, q.2.1, q.2.2⟩
end
end DL

namespace DL
open PySem PySem.Spec PyProof.Rows L2
/-! ### maps after a list was taken in; lists by turns -/
theorem ext_map {M : Mp} {p b : Addr} {o o2 o3 : OO} (h : mset M p o b = none) : mdel (mset (mset (mset M p o) b o2) p o3) b = mset M p o3 := by
  have hne : b ≠ p := fun e => by rw [e, mset_same] at h; cases h
  rw [mset_ne hne] at h
  funext c
  unfold mdel mset
  by_cases h1 : c = b
  · rw [if_pos h1, if_neg (by rw [h1]; exact hne), h1, h]
  · rw [if_neg h1]
    by_cases h2 : c = p
    · rw [if_pos h2, if_pos h2]
    · rw [if_neg h2, if_neg h1, if_neg h2, if_neg h2]
theorem fresh_ne {M : Mp} {p b : Addr} {o : OO} (h : mset M p o b = none) : b ≠ p := fun e => by rw [e, mset_same] at h; cases h
theorem take_snoc {α β : Type} {l : List α} {i : Nat} {a : α} (f : α → β) (h : l[i]? = some a) : (l.take i).map f ++ [f a] = (l.take (i + 1)).map f := by
  rw [List.take_add_one, h, List.map_append]
  rfl
theorem take_flat {α β : Type} {l : List α} {i : Nat} {a : α} (f : α → List β) (h : l[i]? = some a) : (l.take i).flatMap f ++ f a = (l.take (i + 1)).flatMap f := by
  rw [List.take_add_one, h, List.flatMap_append]
  simp
theorem map_get {α β : Type} {l : List α} {f : α → β} {i : Nat} {b : β} (h : (l.map f)[i]? = some b) : ∃ a, l[i]? = some a ∧ f a = b := by
  rw [List.getElem?_map] at h
  cases q : l[i]? with
  | none => rw [q] at h; cases h
  | some a => rw [q] at h; exact ⟨a, rfl, by simpa using h⟩
theorem rngD_inv {lo : Int} {n i : Nat} {d : PyData} (h : (rngD lo n)[i]? = some d) : i < n ∧ d = .int (lo + (i : Int)) := by
  have hi : i < n := by
    have := (List.getElem?_eq_some_iff.mp h).1
    rwa [rngD_len] at this
  rw [rngD_get hi] at h
  cases h
  exact ⟨hi, rfl⟩
theorem flat_len {α β : Type} (f : α → List β) (n : Nat) : ∀ l : List α, (∀ a ∈ l, (f a).length ≤ n) → (l.flatMap f).length ≤ l.length * n
  | [], _ => by simp
  | a :: l, h => by
    have h1 := h a List.mem_cons_self
    have h2 := flat_len f n l fun b hb => h b (List.mem_cons_of_mem _ hb)
    rw [List.flatMap_cons, List.length_append, List.length_cons, Nat.succ_mul]
    omega
/-! ### what is owned and no more used is let go -/
def gc (Φ : DK) : DK := fun x M => ∃ ps : List Addr, Φ x (ps.foldl mdel M)
theorem gc_go {K : PySem.W.Frag} {M : Mp} {H : Hp} {Φ : DK} {Q : VK} (k : Rch K M H Φ Q) {v : V} {H' : Hp} {x : DV} : ∀ (ps : List Addr) (M' : Mp), DRel K M' H' → Step M H M' H' → VRel K M' H' v x → Φ x (ps.foldl mdel M') → Q v H'
  | [], M', r, st, rv, f => k v H' x M' r st rv f
  | p :: ps, M', r, st, rv, f => gc_go k ps (mdel M' p) r.frz (st.trans Step.frz) (rv.step Step.frz) f
theorem gc_rch {K : PySem.W.Frag} {M : Mp} {H : Hp} {Φ : DK} {Q : VK} (k : Rch K M H Φ Q) : Rch K M H (gc Φ) Q := fun _ _ _ M' r st rv ⟨ps, f⟩ => gc_go k ps M' r st rv f
theorem okG {P : Program} {w : World} {K : PySem.W.Frag} {mg : Str → Option Value} {base : Heap} {x qual : Str} {st : Stmt} {f : Addr} {fd : FuncData} {N ps : List Str} {k : Nat} {S : DSp} (F : Fun K x qual st f fd) (Sc : FnScope N ps (defScope st)) (len : ∀ xs M Φ, S xs M Φ → xs.length = ps.length)
    (hbody : ∀ (cdv : Value) (A : Around) (outer : List Env) (s : Shared) (H : Hp) (E : XK), Room k (A.deeper (envOfC qual (defScope st) s.heap.objs.size f cdv)) →
      ∃ τ, DSs (cxOf CX0 P w K mg base N qual (defScope st) f cdv A outer s H E).nox (defBody st) τ ∧ ∀ xs M Φ, S xs M Φ → τ { nx := fun _ M' => gc Φ (.dat .none) M', rt := gc Φ } (startD N xs) M) : FnOk P w K mg base CX0 (k + 1) f fd ps (lift K S) := by
  refine F.ok Sc (fun vs H Q E h => ?_) fun cdv A outer s H vs Q E hr h => ?_
  · obtain ⟨xs, M, Φ, _, rv, hs, _⟩ := h
    rw [Paired.length rv]
    exact len xs M Φ hs
  · obtain ⟨xs, M, Φ, r, rv, hs, kk⟩ := h
    obtain ⟨τ, ⟨t, p, q⟩, hτ⟩ := hbody cdv A outer s H E hr
    refine ⟨t, p, q (start N vs) H (startD N xs) M _ _ r (ERel.start rv) (hτ xs M Φ hs) ⟨fun σ' H' Δ' M' r' st' e' hn => ?_, gc_rch kk, fun _ _ _ _ _ _ _ h => h.elim, fun _ _ _ _ _ _ _ h => h.elim⟩⟩
    exact (gc_rch kk).dat r' st' Dt.non hn
theorem gc_one {Φ : DK} {x : DV} {M : Mp} {p : Addr} {o : OO} (hp : M p = none) (h : Φ x M) : gc Φ x (mset M p o) := ⟨[p], by
  show Φ x (mdel (mset M p o) p)
  rw [mdel_mset hp]; exact h⟩
theorem atI_4 {α : Type} {a b c d e : α} {l : List α} : atI (a :: b :: c :: d :: e :: l) 4 = some e := atI_nat (j := 4) rfl
theorem atI_5 {α : Type} {a b c d e f : α} {l : List α} : atI (a :: b :: c :: d :: e :: f :: l) 5 = some f := atI_nat (j := 5) rfl
/-! ### plain data can be shown -/
theorem log2_lt' {n k : Nat} (h : n < 2 ^ k) (hk : 0 < k) : n.log2 < k := by
  by_cases h0 : n = 0
  · subst h0; simpa using hk
  · exact (Nat.log2_lt h0).mpr h
def Mid (i : Int) : Prop := -(10 ^ 70) ≤ i ∧ i ≤ 10 ^ 70
theorem Mid.show {i : Int} (h : Mid i) : (PyData.int i).showable = true := by
  have h1 : i.natAbs.log2 < 240 := log2_lt' (by unfold Mid at h; omega) (by decide)
  simp only [PyData.showable, decide_eq_true_eq]
  omega
theorem shwI {i : Int} (h : Mid i) : Shw (.int i) := Shw.of h.show (by simp [PyData.hasDict]) (by simp [PyData.depth]) (by simp [cost])
theorem shwB (b : Bool) : Shw (.bool b) := Shw.of (by simp [PyData.showable]) (by simp [PyData.hasDict]) (by simp [PyData.depth]) (by simp [cost])
end DL

namespace DL
open PySem PySem.Spec PyProof.Rows L2
section
variable {X : Cx}
/-! ### sum of an int list -/
theorem call_sumI (hc : X.calm = true) : CallR X (.builtin "sum") (fun xs H Q => ∃ (p : Addr) (ns : List Int), xs = [.ref p] ∧ SqL X.K H p (ns.map V.int) ∧ Q (.int ns.sum) H) := by
  intro pins s σ H xs us Q I r h
  obtain ⟨p, ns, rfl, hq, q⟩ := h
  obtain ⟨u, rfl, rx⟩ := vals1 r
  cases rx
  obtain ⟨its, rv, pl, hz⟩ := I.list hq
  have hi : IntsAre its ns := intsAre_of rv
  obtain ⟨xs, e⟩ := hi.allInts.items
  have hns : ns = xs.toList.map (·.1) := by rw [← hi.numsOf, ← nums_intItems, ← e]
  have hl := pl.isList
  rw [e] at hl
  refine sum_intListG (I.ok.hd hc) hl fun h' tk t' hk => ?_
  have e2 : preSum (numAt xs) xs.size = ns.sum := by
    rw [preSum_eq, List.take_of_length_le (by simp), hns]
  rw [e2]
  exact ⟨.int _, H, I.kept hk, ⟨_, rfl⟩, q⟩
def δSumI : D1 := fun xs M Φ => ∃ ns : List Int, IntsOf xs M ns ∧ Φ (.dat (.int ns.sum)) M
theorem cd_sum (hc : X.calm = true) : CallD X (.builtin "sum") δSumI := by
  refine ⟨_, call_sumI hc, fun vs H xs M Φ Q r rv h k => ?_⟩
  obtain ⟨ns, hx, q⟩ := h
  obtain ⟨p, rfl, hs⟩ := hx.sq r rv
  exact ⟨p, ns, rfl, hs, k.dat r Step.refl (Dt.int _) q⟩
/-! ### all, any of a list of truths -/
theorem bools_get : ∀ {bs : List Bool} {us : List Value}, Vals (bs.map V.bl) us → ∀ (i : Nat) (v : Value), us[i]? = some v → ∃ b, bs[i]? = some b ∧ v = .bool b
  | [], _, r, i, v, e => by rw [List.map_nil] at r; cases r; simp at e
  | b :: bs, _, r, i, v, e => by
    rw [List.map_cons] at r
    cases r with
    | cons r1 r2 =>
      cases i with
      | zero =>
        simp at e
        subst e
        exact ⟨b, rfl, r1⟩
      | succ i => simpa using bools_get r2 i v (by simpa using e)
theorem range_all' (bs : List Bool) : ((List.range bs.length).all fun i => (bs[i]?).getD true) = bs.all id := by
  rw [Bool.eq_iff_iff, List.all_eq_true, List.all_eq_true]
  constructor
  · intro h b hb
    obtain ⟨i, hi, e⟩ := List.getElem_of_mem hb
    have q := h i (List.mem_range.mpr hi)
    rw [List.getElem?_eq_getElem hi, Option.getD_some, e] at q
    exact q
  · intro h i hi
    have hi' := List.mem_range.mp hi
    rw [List.getElem?_eq_getElem hi', Option.getD_some]
    exact h _ (List.getElem_mem hi')
theorem range_any' (bs : List Bool) : ((List.range bs.length).any fun i => (bs[i]?).getD false) = bs.any id := by
  rw [Bool.eq_iff_iff, List.any_eq_true, List.any_eq_true]
  constructor
  · rintro ⟨i, hi, e⟩
    have hi' := List.mem_range.mp hi
    rw [List.getElem?_eq_getElem hi', Option.getD_some] at e
    exact ⟨_, List.getElem_mem hi', e⟩
  · rintro ⟨b, hb, e⟩
    obtain ⟨i, hi, rfl⟩ := List.getElem_of_mem hb
    exact ⟨i, List.mem_range.mpr hi, by rw [List.getElem?_eq_getElem hi, Option.getD_some]; exact e⟩
theorem iter_kept {s : Shared} {h' : Heap} {o : Obj} (hk : ∀ b x, b ∉ [s.heap.objs.size] → (s.heap.push o).get? b = some x → h'.get? b = some x) : ∀ b x, s.heap.get? b = some x → h'.get? b = some x :=
  fun b x e => hk b x (fun hm => absurd (Heap.lt_size e) (by rw [List.mem_singleton.mp hm]; exact Nat.lt_irrefl _)) (Heap.get?_push_of_some _ e)
theorem call_allB (hc : X.calm = true) : CallR X (.builtin "all") (fun xs H Q => ∃ (p : Addr) (bs : List Bool), xs = [.ref p] ∧ SqL X.K H p (bs.map V.bl) ∧ Q (.bl (bs.all id)) H) := by
  intro pins s σ H xs us Q I r h
  obtain ⟨p, bs, rfl, hq, q⟩ := h
  obtain ⟨u, rfl, rx⟩ := vals1 r
  cases rx
  obtain ⟨its, rv, pl, hz⟩ := I.list hq
  have hl := pl.isList
  have hlt : p < s.heap.objs.size := by obtain ⟨_, e, _⟩ := hl; exact Heap.lt_size e
  refine call_all_walk (wpAny_pyIter_list hl ?_)
  refine ⟨s.heap.objs.size, [s.heap.objs.size, p], [s.heap.objs.size], its.toArray.size, _, _, fun i => (bs[i]?).getD true, rfl, Walks.list (A := X.A.in1) (I.ok.hd hc) _ p (Nat.ne_of_lt hlt) its.toArray,
    ⟨⟨_, Heap.get?_push_size _ rfl, rfl, rfl⟩, hl.push _⟩, fun i v s' Q' E' hP hQ => ?_, fun h' tk hk => ?_⟩
  · obtain ⟨b, e, rfl⟩ := bools_get rv i v (by simpa using hP)
    simp only [e, Option.getD_some] at hQ
    exact wpAny_truthy_bool hQ
  · have e : ((List.range its.toArray.size).all fun i => (bs[i]?).getD true) = bs.all id := by
      have hln := rv.length
      rw [List.length_map] at hln
      rw [List.size_toArray, ← hln]; exact range_all' bs
    rw [e]
    exact ⟨.bl _, H, I.kept (iter_kept hk), rfl, q⟩
theorem call_anyB (hc : X.calm = true) : CallR X (.builtin "any") (fun xs H Q => ∃ (p : Addr) (bs : List Bool), xs = [.ref p] ∧ SqL X.K H p (bs.map V.bl) ∧ Q (.bl (bs.any id)) H) := by
  intro pins s σ H xs us Q I r h
  obtain ⟨p, bs, rfl, hq, q⟩ := h
  obtain ⟨u, rfl, rx⟩ := vals1 r
  cases rx
  obtain ⟨its, rv, pl, hz⟩ := I.list hq
  have hl := pl.isList
  have hlt : p < s.heap.objs.size := by obtain ⟨_, e, _⟩ := hl; exact Heap.lt_size e
  refine call_any_walk (wpAny_pyIter_list hl ?_)
  refine ⟨s.heap.objs.size, [s.heap.objs.size, p], [s.heap.objs.size], its.toArray.size, _, _, fun i => (bs[i]?).getD false, rfl, Walks.list (A := X.A.in1) (I.ok.hd hc) _ p (Nat.ne_of_lt hlt) its.toArray,
    ⟨⟨_, Heap.get?_push_size _ rfl, rfl, rfl⟩, hl.push _⟩, fun i v s' Q' E' hP hQ => ?_, fun h' tk hk => ?_⟩
  · obtain ⟨b, e, rfl⟩ := bools_get rv i v (by simpa using hP)
    simp only [e, Option.getD_some] at hQ
    exact wpAny_truthy_bool hQ
  · have e : ((List.range its.toArray.size).any fun i => (bs[i]?).getD false) = bs.any id := by
      have hln := rv.length
      rw [List.length_map] at hln
      rw [List.size_toArray, ← hln]; exact range_any' bs
    rw [e]
    exact ⟨.bl _, H, I.kept (iter_kept hk), rfl, q⟩
theorem ofDts_bools {K : PySem.W.Frag} {M : Mp} {H : Hp} : ∀ {vs : List V} {bs : List Bool}, Dts K M H vs (bs.map PyData.bool) → vs = bs.map V.bl
  | vs, [], h => by
    rw [List.map_nil] at h
    cases h
    rfl
  | vs, n :: ns, h => by
    rw [List.map_cons] at h
    cases h with
    | cons h1 h2 =>
      cases h1
      rw [ofDts_bools h2, List.map_cons]
def δAllB : D1 := fun xs M Φ => ∃ bs : List Bool, xs = [.dat (.list (bs.map PyData.bool))] ∧ Φ (.dat (.bool (bs.all id))) M
def δAnyB : D1 := fun xs M Φ => ∃ bs : List Bool, xs = [.dat (.list (bs.map PyData.bool))] ∧ Φ (.dat (.bool (bs.any id))) M
theorem cd_all (hc : X.calm = true) : CallD X (.builtin "all") δAllB := by
  refine ⟨_, call_allB hc, fun vs H xs M Φ Q r rv h k => ?_⟩
  obtain ⟨bs, rfl, q⟩ := h
  obtain ⟨v, rfl, h1⟩ := Paired.one rv
  obtain ⟨p, ys, rfl, g1, g2⟩ := VRel.lst h1
  rw [ofDts_bools g2] at g1
  exact ⟨p, bs, rfl, g1.sq, k.dat r Step.refl (Dt.bl _) q⟩
theorem cd_any (hc : X.calm = true) : CallD X (.builtin "any") δAnyB := by
  refine ⟨_, call_anyB hc, fun vs H xs M Φ Q r rv h k => ?_⟩
  obtain ⟨bs, rfl, q⟩ := h
  obtain ⟨v, rfl, h1⟩ := Paired.one rv
  obtain ⟨p, ys, rfl, g1, g2⟩ := VRel.lst h1
  rw [ofDts_bools g2] at g1
  exact ⟨p, bs, rfl, g1.sq, k.dat r Step.refl (Dt.bl _) q⟩
/-! ### int of a truth -/
def δIntB : D1 := fun xs M Φ => ∃ b : Bool, xs = [.dat (.bool b)] ∧ Φ (.dat (.int (if b = true then 1 else 0))) M
theorem cd_int : CallD X (.type "int") δIntB := by
  refine ⟨_, call_int1, fun vs H xs M Φ Q r rv h k => ?_⟩
  obtain ⟨b, rfl, q⟩ := h
  obtain ⟨v, rfl, h1⟩ := Paired.one rv
  cases (show v = .bl b from VRel.bool h1)
  exact .inr ⟨b, rfl, k.dat r Step.refl (Dt.int _) q⟩
/-! ### a, b = x, y -/
def dPar (i j : Nat) (ta : DTA) : DTS := fun D Δ M => ta Δ M fun xs M1 => ∃ x y, xs = [x, y] ∧ D.nx ((Δ.set i (some x)).set j (some y)) M1
theorem ds_par (i j : Nat) {x y : Str} {a b : Expr} {ta : DTA} {px py pt : Pos} {kt k2 pt2} {pos : Pos} (hc : X.calm = true) (hN : X.N.Nodup) (ha : DA X [a, b] ta) (hij : i ≠ j := by decide) (hi : X.N[i]? = some x := by rfl) (hj : X.N[j]? = some y := by rfl)
    (hx : X.env.scope.names.lookup x = some .local := by rfl) (hy : X.env.scope.names.lookup y = some .local := by rfl)
    (hw : swappedStores [.Tuple [.Name x px, .Name y py] kt pt] (.Tuple [a, b] k2 pt2) X.env = pure (some [x, y]) := by rfl)
    (hs : swapsWithSole [.Tuple [.Name x px, .Name y py] kt pt] (.Tuple [a, b] k2 pt2) pos.line X.env = pure false := by rfl) :
    DS X (.Assign [.Tuple [.Name x px, .Name y py] kt pt] (.Tuple [a, b] k2 pt2) pos) (dPar i j ta) := by
  obtain ⟨t1, p1, q1⟩ := ha
  refine ⟨_, ps_par hc hN hi hj hij hx hy p1 hw hs, fun σ H Δ M D E r e h k => ?_⟩
  refine q1 σ H Δ M _ _ r e h fun vs H1 xs M1 r1 st rv hx => ?_
  obtain ⟨x, y, rfl, hx⟩ := hx
  obtain ⟨v, u, rfl, h1, h2⟩ := Paired.two rv
  exact ⟨v, u, rfl, k.nx _ H1 _ M1 r1 st (((e.step st).set h1).set h2) hx⟩
/-! ### lists read, data or owned -/
def LsOf (x : DV) (M : Mp) (ds : List PyData) : Prop := x = .dat (.list ds) ∨ ∃ l, x = .own l ∧ M l = some (.lst ds)
theorem LsOf.sq {x : DV} {M : Mp} {H : Hp} {v : V} {ds : List PyData} (h : LsOf x M ds) (r : DRel X.K M H) (rv : VRel X.K M H v x) : ∃ p ys, v = .ref p ∧ SqL X.K H p ys ∧ Dts X.K M H ys ds := by
  rcases h with rfl | ⟨l, rfl, hm⟩
  · obtain ⟨p, ys, rfl, g1, g2⟩ := VRel.lst rv
    exact ⟨p, ys, rfl, g1.sq, g2⟩
  · cases (show v = .ref l from rv)
    obtain ⟨ws, g1, g2⟩ := r l _ hm
    exact ⟨l, ws, rfl, SqL.of g1, g2⟩
def δCatS : D2 := fun x y M Φ => ∃ ds es, LsOf x M ds ∧ LsOf y M es ∧ ds.length + es.length ≤ sizeLine ∧ Φ (.dat (.list (ds ++ es))) M
theorem od_catS : OpD X (binaryOp .Add) δCatS := by
  refine ⟨_, op_catSq, fun v u H x y M Φ Q r rv ru h k => ?_⟩
  obtain ⟨ds, es, hx, hy, hz, q⟩ := h
  obtain ⟨a, xs, rfl, h1, h2⟩ := hx.sq r rv
  obtain ⟨b, ys, rfl, h3, h4⟩ := hy.sq r ru
  exact ⟨a, b, xs, ys, rfl, rfl, h1, h3, by rw [h2.length, h4.length]; exact hz, fun p hp => k.dat (r.new hp) (Step.new hp) (Dt.newLst r hp (h2.append h4)) q⟩
def dSlS (te : DTE) (tl th : DTO) : DTE := fun Δ M Φ => te Δ M fun x M1 => tl Δ M1 fun l M2 => th Δ M2 fun u M3 => ∃ ds, LsOf x M3 ds ∧ Φ (.dat (.list (cutD ds l u))) M3
theorem de_sliceS {e : Expr} {te : DTE} {lo hi : Option Expr} {tl th : DTO} {p2 pos : Pos} (he : DE X e te) (hl : DO X lo tl) (hu : DO X hi th) : DE X (.Subscript e (.Slice lo hi none p2) pos) (dSlS te tl th) := by
  obtain ⟨t1, p1, q1⟩ := he
  obtain ⟨t2, p2, q2⟩ := hl
  obtain ⟨t3, p3, q3⟩ := hu
  refine ⟨_, pe_slice sl_list p1 p2 p3, fun σ H Δ M Φ Q r e h k => ?_⟩
  refine q1 σ H Δ M _ _ r e h fun v H1 x M1 r1 st rv hx => ?_
  refine q2 σ H1 Δ M1 _ _ r1 (e.step st) hx fun l H2 M2 r2 st2 hl => ?_
  refine q3 σ H2 Δ M2 _ _ r2 (e.step (st.trans st2)) hl fun u H3 M3 r3 st3 hu => ?_
  obtain ⟨ds, hd, hu⟩ := hu
  obtain ⟨a, xs, rfl, h1, h2⟩ := hd.sq r3 (rv.step (st2.trans st3))
  refine ⟨a, xs, rfl, h1, fun p hp => ?_⟩
  exact k.dat (r3.new hp) ((st.trans (st2.trans st3)).trans (Step.new hp)) (Dt.newLst r3 hp (h2.cut l u)) hu
/-! ### list(range(a, b)) -/
theorem vals_of_get : ∀ (xs : List V) (us : List Value), xs.length = us.length → (∀ (k : Nat) (v : V) (u : Value), xs[k]? = some v → us[k]? = some u → RelV v u) → Vals xs us
  | [], [], _, _ => .nil
  | x :: xs, u :: us, hl, h => .cons (h 0 x u rfl rfl) (vals_of_get xs us (by simpa using hl) fun k v u hv hu => h (k + 1) v u (by simpa using hv) (by simpa using hu))
  | [], _ :: _, hl, _ => by simp at hl
  | _ :: _, [], hl, _ => by simp at hl
def rngV (lo : Int) (n : Nat) : List V := (List.range n).map fun (i : Nat) => V.int (lo + (i : Int))
theorem pe_listR2 {a b : Expr} {ta : TA} {p p1 p2 pos : Pos} (hc : X.calm = true) (hgl : Gl X "list") (hml : X.mg "list" = none) (hbl : bootBuiltins "list" = some (.type "list")) (hg : Gl X "range") (hm : X.mg "range" = none) (ha : PA X [a, b] ta)
    (hs : starEach [a, b] X.env = [(false, eval a X.env), (false, eval b X.env)] := by rfl) (hs2 : starEach [b] X.env = [(false, eval b X.env)] := by rfl)
    (hs3 : starEach [.Call (.Name "range" p) [a, b] [] p2] X.env = (false, eval (.Call (.Name "range" p) [a, b] [] p2) X.env) :: starEach [] X.env := by rfl) :
    PE X (.Call (.Name "list" p1) [.Call (.Name "range" p) [a, b] [] p2] [] pos) (fun σ H Q => ta σ H fun vs H1 => ∃ i j : Int, vs = [.int i, .int j] ∧ (-(2 ^ 62) ≤ i ∧ i < 2 ^ 62 ∧ -(2 ^ 62) ≤ j ∧ j < 2 ^ 62) ∧ (j - i).toNat ≤ 16777216 ∧ ∀ l, H1 l = none → Q (.ref l) (upd H1 l (.lst (rngV i (j - i).toNat)))) := by
  intro pins s σ H Q I h
  refine wpAny_Call_Name_kw (ld_blt I hgl hml hbl (PyProof.Rows.callWith_type1 ?_ hs3 rfl))
  rw [hs3]
  show wpAny _ _ (spliced ((false, eval (.Call (.Name "range" p) [a, b] [] p2) X.env) :: backTo pos (starEach [] X.env))) _ _ s
  refine Calls.spliced_cons ?_
  refine wpAny_Call_Name_kw (ld_blt I hg hm boot_range (PyProof.Rows.callWith_type1 (thn (ha p2 pins s σ H _ I h) fun us s1 ⟨vs, H1, I1, r1, q1⟩ => ?_) (by rw [hs, hs2]) (by rw [hs2]; rfl)))
  obtain ⟨i, j, e, ⟨q1, q2, q3, q4⟩, q5, q⟩ := q1
  subst e
  cases r1 with
  | cons r rr =>
    cases rr with
    | cons r' rr =>
      cases rr
      obtain ⟨t, rfl⟩ := r
      obtain ⟨t', rfl⟩ := r'
      refine call_range_2 (Calls.spliced_nil ?_)
      have I2 := I1.kept (t' := s1.toks + 1) (h' := s1.heap.push { cls := .type "range", data := .fields #[.int i t, .int j t', .int 1 s1.toks] }) fun b o e => Heap.get?_push_of_some _ e
      have hn : Builtin.Range.rangeSize i j 1 = (((j - i).toNat : Nat) : Int) := by rw [rangeSize_one]; split <;> omega
      refine call_list_range (I.ok.hd hc) (IsRange.new ..) (small_one q1 q2 q3 q4) hn (by omega) fun h' tk acc' c' hk hS' hacc => ?_
      have hnl := I2.hok.fresh (Nat.le_refl _)
      refine ⟨.ref _, _, I2.laid (t' := tk) (a := _) (o := .lst (rngV i (j - i).toNat)) hk (Nat.le_refl _) ?_, rfl, q _ hnl⟩
      refine ⟨by unfold rngV; rw [List.length_map, List.length_range, sizeLine_eq]; exact q5, acc'.toList, c', vals_of_get _ _ (by unfold rngV; rw [List.length_map, List.length_range, Array.length_toList, hacc.1]) fun k v u hv hu => ?_, by simpa using hS'⟩
      obtain ⟨tk', rfl⟩ := hacc.2 k u (by simpa using hu)
      unfold rngV at hv
      rw [List.getElem?_map] at hv
      cases hr : (List.range (j - i).toNat)[k]? with
      | none => rw [hr] at hv; cases hv
      | some k' =>
        rw [hr] at hv
        have ek : k' = k := by
          have := List.getElem?_eq_some_iff.mp hr
          obtain ⟨_, e⟩ := this
          simpa using e.symm
        subst ek
        cases hv
        exact ⟨tk', by rw [Int.mul_one]⟩
def dListR2 (ta : DTA) : DTE := fun Δ M Φ => ta Δ M fun xs M1 => ∃ i j : Int, xs = [.dat (.int i), .dat (.int j)] ∧ (-(2 ^ 62) ≤ i ∧ i < 2 ^ 62 ∧ -(2 ^ 62) ≤ j ∧ j < 2 ^ 62) ∧ (j - i).toNat ≤ 16777216 ∧ Φ (.dat (.list (rngD i (j - i).toNat))) M1
theorem dts_rng {K : PySem.W.Frag} {M : Mp} {H : Hp} (i : Int) (n : Nat) : Dts K M H (rngV i n) (rngD i n) := by
  unfold rngV rngD
  have h := Dts.ints (K := K) (M := M) (H := H) ((List.range n).map fun (k : Nat) => i + (k : Int))
  rwa [List.map_map, List.map_map] at h
theorem de_listR2 {a b : Expr} {ta : DTA} {p p1 p2 pos : Pos} (hc : X.calm = true) (hgl : Gl X "list") (hml : X.mg "list" = none) (hbl : bootBuiltins "list" = some (.type "list")) (hg : Gl X "range") (hm : X.mg "range" = none) (ha : DA X [a, b] ta)
    (hs : starEach [a, b] X.env = [(false, eval a X.env), (false, eval b X.env)] := by rfl) (hs2 : starEach [b] X.env = [(false, eval b X.env)] := by rfl)
    (hs3 : starEach [.Call (.Name "range" p) [a, b] [] p2] X.env = (false, eval (.Call (.Name "range" p) [a, b] [] p2) X.env) :: starEach [] X.env := by rfl) :
    DE X (.Call (.Name "list" p1) [.Call (.Name "range" p) [a, b] [] p2] [] pos) (dListR2 ta) := by
  obtain ⟨t1, pp1, qq1⟩ := ha
  refine ⟨_, pe_listR2 hc hgl hml hbl hg hm pp1 hs hs2 hs3, fun σ H Δ M Φ Q r e h k => ?_⟩
  refine qq1 σ H Δ M _ _ r e h fun vs H1 xs M1 r1 st rv hx => ?_
  obtain ⟨i, j, rfl, h1, h2, hx⟩ := hx
  obtain ⟨v, u, rfl, hv, hu⟩ := Paired.two rv
  exact ⟨i, j, by rw [VRel.int hv, VRel.int hu], h1, h2, fun l hl => k.dat (r1.new hl) (st.trans (Step.new hl)) (Dt.newLst r1 hl (dts_rng i _)) hx⟩
/-! ### x += e of ints -/
def dAug (i : Nat) (te : DTE) (f : Int → Int → Int) : DTS := fun D Δ M => ∃ a : Int, Δ[i]? = some (some (.dat (.int a))) ∧ te Δ M fun x M1 => ∃ b : Int, x = .dat (.int b) ∧ D.nx (Δ.set i (some (.dat (.int (f a b))))) M1
theorem ds_aug (i : Nat) {x : Str} {e : Expr} {te : DTE} {op : Operator} {f : Int → Int → Int} {pos' pos : Pos} (hN : X.N.Nodup) (he : DE X e te) (ho : PIp X op (ipI f)) (hi : X.N[i]? = some x := by rfl) (hx : Loc X.env.scope x := by first | exact Or.inl rfl | exact Or.inr rfl)
    (hf : X.fn x = true ∨ X.env.scope.names.lookup x = some .local := by first | exact .inl rfl | exact .inr rfl | assumption) : DS X (.AugAssign (.Name x pos') op e pos) (dAug i te f) := by
  obtain ⟨t1, p1, q1⟩ := he
  refine ⟨_, ps_aug hN hi hx p1 ho hf, fun σ H Δ M D E r e h k => ?_⟩
  obtain ⟨a, ea, h⟩ := h
  obtain ⟨v, ev, rv⟩ := e.at' i _ ea
  cases (show v = .int a from VRel.int rv)
  refine ⟨.int a, ev, q1 σ H Δ M _ _ r e h fun u H1 x M1 r1 st ru hx => ?_⟩
  obtain ⟨b, rfl, hx⟩ := hx
  cases (show u = .int b from VRel.int ru)
  exact ⟨a, b, rfl, rfl, k.nx _ H1 _ M1 r1 st ((e.step st).set (x := .dat (.int (f a b))) (show VRel X.K M1 H1 (.int (f a b)) (.dat (.int (f a b))) from Dt.int _)) hx⟩
end
end DL

namespace DL
open PySem PySem.Spec PyProof.Rows L2
/-! ### pairs of whole numbers: which goes first -/
def PrAt (h : Heap) (v : Value) (q : Int × Int) : Prop := ∃ a o n t u, v = .ref a ∧ h.get? a = some o ∧ o.cls = .type "tuple" ∧ o.data = .seq #[.int q.1 t, .int q.2 u] n
def ltP (p q : Int × Int) : Bool := if p.1 = q.1 then decide (p.2 < q.2) else decide (p.1 < q.1)
section
variable {prog : Program} {w : World} {A : Around} {E : Value → Shared → Prop} {s : Shared}
end
section
variable {prog : Program} {w : World} {A : Around} {R : Result → Shared → Prop} {I : Addr} {fp wr : List Addr} {n : Nat} {P : Nat → Value → Prop} {St : Nat → Heap → Prop}
/-- as CmpOf, of what an earlier heap holds -/
def CmpAt (prog : Program) (w : World) (A : Around) (h0 : Heap) (P : Nat → Value → Prop) (bt : Nat → Nat → Bool) : Prop :=
  ∀ i j x y (s : Shared) (Q : Value → Shared → Prop) (E : Value → Shared → Prop), (∀ b o, h0.get? b = some o → s.heap.get? b = some o) → P i x → P j y → Q (.bool (bt i j)) s → wpAny (model prog w) A (richCompare .Lt x y) Q E s
end
section
variable {prog : Program} {w : World} {A : Around} {E : Value → Shared → Prop} {s : Shared}
end
section
variable {X : Cx}
/-! ### // by a wider number -/
def CDivB (i j : Int) : Prop := 0 < j ∧ j.natAbs.log2 < 9000
/-! ### min of pairs -/
def prD (q : Int × Int) : PyData := .tuple [.int q.1, .int q.2]
def δMinP : D1 := fun xs M Φ => ∃ qs : List (Int × Int), xs = [.dat (.list (qs.map prD))] ∧ 0 < qs.length ∧ ∀ q ∈ qs, (∀ r ∈ qs, ltP r q = false) → Φ (.dat (prD q)) M
end
end DL

namespace My
open PySem PySem.Spec PyProof.Rows L2 DL
set_option maxHeartbeats 8000000
def top (i : Nat) : Stmt := PySem.Challenge.pw_landsentered_k05_spots_of_shapes.main.body.getD i (.Pass ⟨0, 0, 0, 0⟩)
abbrev s_is_whole : Stmt := top 2
abbrev s_is_short : Stmt := top 3
abbrev s_is_any_spot : Stmt := top 5
abbrev s_is_spot : Stmt := top 6
abbrev s_is_box : Stmt := top 7
abbrev s_has_spots : Stmt := top 8
abbrev s_has : Stmt := top 9
abbrev s_steps_to : Stmt := top 10
abbrev s_steps_between : Stmt := top 11
abbrev s_gap : Stmt := top 12
abbrev s_common : Stmt := top 13
abbrev s_cut_out : Stmt := top 14
abbrev s_left_over : Stmt := top 15
abbrev s_spots_in : Stmt := top 16
abbrev s_is_shape : Stmt := top 19
abbrev s_is_chain : Stmt := top 20
abbrev s_lies_in : Stmt := top 21
abbrev s_size : Stmt := top 22
abbrev s_take : Stmt := top 24
abbrev s_wide : Stmt := top 25
abbrev s_same : Stmt := top 26
abbrev s_boxes : Stmt := top 27
abbrev s_stretched : Stmt := top 28
abbrev s_stretch : Stmt := top 29
abbrev s_ring : Stmt := top 30
abbrev s_l_has : Stmt := top 31
abbrev s_span : Stmt := top 32
abbrev s_right : Stmt := top 33
abbrev s_law : Stmt := top 34
theorem sc_is_whole : FnScope ["thing"] ["thing"] (defScope s_is_whole) := ⟨rfl, rfl, rfl, by decide +kernel, rfl, by decide +kernel, by decide +kernel⟩
theorem sc_is_short : FnScope ["thing"] ["thing"] (defScope s_is_short) := ⟨rfl, rfl, rfl, by decide +kernel, rfl, by decide +kernel, by decide +kernel⟩
theorem sc_is_any_spot : FnScope ["thing"] ["thing"] (defScope s_is_any_spot) := ⟨rfl, rfl, rfl, by decide +kernel, rfl, by decide +kernel, by decide +kernel⟩
theorem sc_is_spot : FnScope ["thing"] ["thing"] (defScope s_is_spot) := ⟨rfl, rfl, rfl, by decide +kernel, rfl, by decide +kernel, by decide +kernel⟩
theorem sc_is_box : FnScope ["thing"] ["thing"] (defScope s_is_box) := ⟨rfl, rfl, rfl, by decide +kernel, rfl, by decide +kernel, by decide +kernel⟩
theorem sc_has_spots : FnScope ["box"] ["box"] (defScope s_has_spots) := ⟨rfl, rfl, rfl, by decide +kernel, rfl, by decide +kernel, by decide +kernel⟩
theorem sc_has : FnScope ["box", "spot"] ["box", "spot"] (defScope s_has) := ⟨rfl, rfl, rfl, by decide +kernel, rfl, by decide +kernel, by decide +kernel⟩
theorem sc_steps_to : FnScope ["box", "spot"] ["box", "spot"] (defScope s_steps_to) := ⟨rfl, rfl, rfl, by decide +kernel, rfl, by decide +kernel, by decide +kernel⟩
theorem sc_steps_between : FnScope ["one", "other"] ["one", "other"] (defScope s_steps_between) := ⟨rfl, rfl, rfl, by decide +kernel, rfl, by decide +kernel, by decide +kernel⟩
theorem sc_gap : FnScope ["one", "other", "way"] ["one", "other", "way"] (defScope s_gap) := ⟨rfl, rfl, rfl, by decide +kernel, rfl, by decide +kernel, by decide +kernel⟩
theorem sc_common : FnScope ["one", "other", "low", "high"] ["one", "other"] (defScope s_common) := ⟨rfl, rfl, rfl, by decide +kernel, rfl, by decide +kernel, by decide +kernel⟩
theorem sc_cut_out : FnScope ["one", "other", "middle", "left", "right", "below", "above"] ["one", "other"] (defScope s_cut_out) := ⟨rfl, rfl, rfl, by decide +kernel, rfl, by decide +kernel, by decide +kernel⟩
theorem sc_left_over : FnScope ["box", "others", "pieces", "other", "rest", "piece"] ["box", "others"] (defScope s_left_over) := ⟨rfl, rfl, rfl, by decide +kernel, rfl, by decide +kernel, by decide +kernel⟩
theorem sc_spots_in : FnScope ["box"] ["box"] (defScope s_spots_in) := ⟨rfl, rfl, rfl, by decide +kernel, rfl, by decide +kernel, by decide +kernel⟩
theorem sc_is_shape : FnScope ["thing"] ["thing"] (defScope s_is_shape) := ⟨rfl, rfl, rfl, by decide +kernel, rfl, by decide +kernel, by decide +kernel⟩
theorem sc_is_chain : FnScope ["boxes"] ["boxes"] (defScope s_is_chain) := ⟨rfl, rfl, rfl, by decide +kernel, rfl, by decide +kernel, by decide +kernel⟩
theorem sc_lies_in : FnScope ["shape", "spot"] ["shape", "spot"] (defScope s_lies_in) := ⟨rfl, rfl, rfl, by decide +kernel, rfl, by decide +kernel, by decide +kernel⟩
theorem sc_size : FnScope ["shape", "total", "k"] ["shape"] (defScope s_size) := ⟨rfl, rfl, rfl, by decide +kernel, rfl, by decide +kernel, by decide +kernel⟩
theorem sc_take : FnScope ["_law_pen", "_law_many", "_law_at", "_law_cell", "_law_one", "_law_two", "_law_digit"] ["_law_pen", "_law_many"] (defScope s_take) := ⟨rfl, rfl, rfl, by decide +kernel, rfl, by decide +kernel, by decide +kernel⟩
theorem sc_wide : FnScope ["_law_pen", "_law_many", "_law_found", "_law_k"] ["_law_pen", "_law_many"] (defScope s_wide) := ⟨rfl, rfl, rfl, by decide +kernel, rfl, by decide +kernel, by decide +kernel⟩
theorem sc_same : FnScope ["_law_found", "_law_due"] ["_law_found", "_law_due"] (defScope s_same) := ⟨rfl, rfl, rfl, by decide +kernel, rfl, by decide +kernel, by decide +kernel⟩
theorem sc_boxes : FnScope ["_law_pen", "_law_most", "_law_low", "_law_found", "_law_k", "_law_wide_here", "_law_first", "_law_last"] ["_law_pen", "_law_most"] (defScope s_boxes) := ⟨rfl, rfl, rfl, by decide +kernel, rfl, by decide +kernel, by decide +kernel⟩
theorem sc_stretched : FnScope ["_law_boxes_here", "_law_by", "_law_off", "_law_found", "_law_low", "_law_high", "_law_first"] ["_law_boxes_here", "_law_by", "_law_off"] (defScope s_stretched) := ⟨rfl, rfl, rfl, by decide +kernel, rfl, by decide +kernel, by decide +kernel⟩
theorem sc_stretch : FnScope ["_law_pen", "_law_by", "_law_off"] ["_law_pen"] (defScope s_stretch) := ⟨rfl, rfl, rfl, by decide +kernel, rfl, by decide +kernel, by decide +kernel⟩
theorem sc_ring : FnScope ["_law_pen", "_law_found", "_law_x", "_law_y", "_law_wide_here", "_law_high"] ["_law_pen"] (defScope s_ring) := ⟨rfl, rfl, rfl, by decide +kernel, rfl, by decide +kernel, by decide +kernel⟩
theorem sc_l_has : FnScope ["_law_boxes_here", "_law_x", "_law_y", "_law_found", "_law_low", "_law_high"] ["_law_boxes_here", "_law_x", "_law_y"] (defScope s_l_has) := ⟨rfl, rfl, rfl, by decide +kernel, rfl, by decide +kernel, by decide +kernel⟩
theorem sc_span : FnScope ["_law_boxes_here", "_law_w"] ["_law_boxes_here", "_law_w"] (defScope s_span) := ⟨rfl, rfl, rfl, by decide +kernel, rfl, by decide +kernel, by decide +kernel⟩
theorem sc_right : FnScope ["_law_pen", "_law_boxes_here", "_law_by", "_law_off", "_law_total", "_law_small", "_law_great", "_law_x", "_law_y", "_law_due", "_law_near"] ["_law_pen", "_law_boxes_here", "_law_by", "_law_off"] (defScope s_right) := ⟨rfl, rfl, rfl, by decide +kernel, rfl, by decide +kernel, by decide +kernel⟩
theorem sc_law : FnScope ["_law_script", "_law_pen", "_law_k", "_law_boxes_here", "_law_by", "_law_off"] ["_law_script"] (defScope s_law) := ⟨rfl, rfl, rfl, by decide +kernel, rfl, by decide +kernel, by decide +kernel⟩
theorem bt_abs : bootBuiltins "abs" = some (.builtin "abs") := by decide +kernel
theorem bt_all : bootBuiltins "all" = some (.builtin "all") := by decide +kernel
theorem bt_any : bootBuiltins "any" = some (.builtin "any") := by decide +kernel
theorem bt_bool : bootBuiltins "bool" = some (.type "bool") := by decide +kernel
theorem bt_int : bootBuiltins "int" = some (.type "int") := by decide +kernel
theorem bt_isinstance : bootBuiltins "isinstance" = some (.builtin "isinstance") := by decide +kernel
theorem bt_len : bootBuiltins "len" = some (.builtin "len") := by decide +kernel
theorem bt_list : bootBuiltins "list" = some (.type "list") := by decide +kernel
theorem bt_max : bootBuiltins "max" = some (.builtin "max") := by decide +kernel
theorem bt_min : bootBuiltins "min" = some (.builtin "min") := by decide +kernel
theorem bt_range : bootBuiltins "range" = some (.type "range") := by decide +kernel
theorem bt_repr : bootBuiltins "repr" = some (.builtin "repr") := by decide +kernel
theorem bt_str : bootBuiltins "str" = some (.type "str") := by decide +kernel
theorem bt_sum : bootBuiltins "sum" = some (.builtin "sum") := by decide +kernel
theorem bt_tuple : bootBuiltins "tuple" = some (.type "tuple") := by decide +kernel
/-- what the top holds -/
structure Tx (K : PySem.W.Frag) (mg : Str → Option Value) where
  f_is_whole : Addr
  d_is_whole : FuncData
  o_is_whole : Own K mg "is_whole" s_is_whole ["thing"] f_is_whole d_is_whole
  f_is_short : Addr
  d_is_short : FuncData
  o_is_short : Own K mg "is_short" s_is_short ["thing"] f_is_short d_is_short
  f_is_any_spot : Addr
  d_is_any_spot : FuncData
  o_is_any_spot : Own K mg "is_any_spot" s_is_any_spot ["thing"] f_is_any_spot d_is_any_spot
  f_is_spot : Addr
  d_is_spot : FuncData
  o_is_spot : Own K mg "is_spot" s_is_spot ["thing"] f_is_spot d_is_spot
  f_is_box : Addr
  d_is_box : FuncData
  o_is_box : Own K mg "is_box" s_is_box ["thing"] f_is_box d_is_box
  f_has_spots : Addr
  d_has_spots : FuncData
  o_has_spots : Own K mg "has_spots" s_has_spots ["box"] f_has_spots d_has_spots
  f_has : Addr
  d_has : FuncData
  o_has : Own K mg "has" s_has ["box", "spot"] f_has d_has
  f_steps_to : Addr
  d_steps_to : FuncData
  o_steps_to : Own K mg "steps_to" s_steps_to ["box", "spot"] f_steps_to d_steps_to
  f_steps_between : Addr
  d_steps_between : FuncData
  o_steps_between : Own K mg "steps_between" s_steps_between ["one", "other"] f_steps_between d_steps_between
  f_gap : Addr
  d_gap : FuncData
  o_gap : Own K mg "gap" s_gap ["one", "other", "way"] f_gap d_gap
  f_common : Addr
  d_common : FuncData
  o_common : Own K mg "common" s_common ["one", "other"] f_common d_common
  f_cut_out : Addr
  d_cut_out : FuncData
  o_cut_out : Own K mg "cut_out" s_cut_out ["one", "other"] f_cut_out d_cut_out
  f_left_over : Addr
  d_left_over : FuncData
  o_left_over : Own K mg "left_over" s_left_over ["box", "others"] f_left_over d_left_over
  f_spots_in : Addr
  d_spots_in : FuncData
  o_spots_in : Own K mg "spots_in" s_spots_in ["box"] f_spots_in d_spots_in
  f_is_shape : Addr
  d_is_shape : FuncData
  o_is_shape : Own K mg "is_shape" s_is_shape ["thing"] f_is_shape d_is_shape
  f_is_chain : Addr
  d_is_chain : FuncData
  o_is_chain : Own K mg "is_chain" s_is_chain ["boxes"] f_is_chain d_is_chain
  f_lies_in : Addr
  d_lies_in : FuncData
  o_lies_in : Own K mg "lies_in" s_lies_in ["shape", "spot"] f_lies_in d_lies_in
  f_size : Addr
  d_size : FuncData
  o_size : Own K mg "size" s_size ["shape"] f_size d_size
  f_take : Addr
  d_take : FuncData
  o_take : Own K mg "_law_take" s_take ["_law_pen", "_law_many"] f_take d_take
  f_wide : Addr
  d_wide : FuncData
  o_wide : Own K mg "_law_wide" s_wide ["_law_pen", "_law_many"] f_wide d_wide
  f_same : Addr
  d_same : FuncData
  o_same : Own K mg "_law_same" s_same ["_law_found", "_law_due"] f_same d_same
  f_boxes : Addr
  d_boxes : FuncData
  o_boxes : Own K mg "_law_boxes" s_boxes ["_law_pen", "_law_most"] f_boxes d_boxes
  f_stretched : Addr
  d_stretched : FuncData
  o_stretched : Own K mg "_law_stretched" s_stretched ["_law_boxes_here", "_law_by", "_law_off"] f_stretched d_stretched
  f_stretch : Addr
  d_stretch : FuncData
  o_stretch : Own K mg "_law_stretch" s_stretch ["_law_pen"] f_stretch d_stretch
  f_ring : Addr
  d_ring : FuncData
  o_ring : Own K mg "_law_ring" s_ring ["_law_pen"] f_ring d_ring
  f_l_has : Addr
  d_l_has : FuncData
  o_l_has : Own K mg "_law_has" s_l_has ["_law_boxes_here", "_law_x", "_law_y"] f_l_has d_l_has
  f_span : Addr
  d_span : FuncData
  o_span : Own K mg "_law_span" s_span ["_law_boxes_here", "_law_w"] f_span d_span
  f_right : Addr
  d_right : FuncData
  o_right : Own K mg "_law_right" s_right ["_law_pen", "_law_boxes_here", "_law_by", "_law_off"] f_right d_right
  f_law : Addr
  d_law : FuncData
  o_law : Own K mg "law" s_law ["_law_script"] f_law d_law
  n_abs : mg "abs" = none
  n_all : mg "all" = none
  n_any : mg "any" = none
  n_bool : mg "bool" = none
  n_int : mg "int" = none
  n_isinstance : mg "isinstance" = none
  n_len : mg "len" = none
  n_list : mg "list" = none
  n_max : mg "max" = none
  n_min : mg "min" = none
  n_range : mg "range" = none
  n_repr : mg "repr" = none
  n_str : mg "str" = none
  n_sum : mg "sum" = none
  n_tuple : mg "tuple" = none
  t_MOST : Tok
  g_MOST : mg "MOST" = some (.int 999999999999 t_MOST)
  t_MOST_BOXES : Tok
  g_MOST_BOXES : mg "MOST_BOXES" = some (.int 6 t_MOST_BOXES)
local macro_rules | `(tactic| walk_at "rd") => `(tactic| simp (config := { maxSteps := 10000000 }) only [dSeq, dNext, dRet, dRetN, dIfS, dAsg, dDrop, dgName, dgTup, dgCons, dgNil, dgSub, dVar, dC, dTy, dOp, dB, dChain, dAnd, dOr, dNot, dAndV, dOrV, dNotV, dIf, dUnI, δI, δI0, δB, δCatT, δCatL, δCatLO,
  dNil, dCons, dTup, dLst, dLstO, dFrz, δIx, dCB, δLen, δLenS, δStrI, δAbs, δ2I, δ3I, δListOf, δTupOf, δIn, δSortI, δMinI, δMaxI, δSumI, δAllB, δAnyB, δIntB, δCatS, dSlS, dListR2, dPar, dAug, dForT, dExtend, dEnd, srcL, srcT, srcR1, srcR2, dForR2, dComp, tcNo, capD, Option.bind_some, Option.bind_none, Option.join_some, Option.join_none, Option.getD_some, δRepr, δIsi, δEq, δNe, δNeS, δEqS, dSlT, dSlL, dNoPart, dPart, dCall, dForL, dForR1, dDict0, dDict1, dDict2, dDict1T, dAppend, startD,
  ex_dats, ex_dats0, ex_kD_int, ex_kD_str, ex_kDs, ex_kDs0, kD_inl, kD_inr, ne_eq, not_false_eq_true, PyData.canLayAll0, PyData.depthAll, Bool.and_self, Nat.max_self, Nat.zero_max, Nat.max_zero, atI_0, atI_1, atI_2, atI_3, ixN_30, ixN_31, ixN_32, exists_and_left, exists_eq_left, exists_eq_left', exists_eq, exists_eq', Option.some.injEq, DV.dat.injEq, DV.own.injEq, DV.ty.injEq, PyData.int.injEq, PyData.bool.injEq, PyData.str.injEq, PyData.tuple.injEq, PyData.list.injEq, OO.lst.injEq,
  List.cons.injEq, List.getElem?_cons_zero, List.getElem?_cons_succ, List.set_cons_zero, List.set_cons_succ, List.map_cons, List.map_nil, List.length_cons, List.length_nil, List.replicate, List.cons_append, List.nil_append, sp1, reduceCtorEq, false_and, and_false, false_or, or_false, true_and, and_true, exists_false, exists_const,
  Nat.reduceAdd, Nat.reduceSub, Nat.zero_add, mset_same, mset_mset, if_true, if_false, Bool.not_true, Bool.not_false, Bool.false_eq_true, eq_self, PyData.canLay0, PyData.depth, Nat.min_self, Nat.zero_le, Int.reduceToNat, Int.reducePow, Int.reduceSub, Int.reduceMul, Int.reduceAdd, Int.reduceNeg, and_assoc, sizeLine_eq, Nat.reduceLeDiff])
/-! ### the program's own tests, by data -/
def isWholeD : PyData → Bool
  | .int _ => true
  | _ => false
def isShortD : PyData → Bool
  | .int i => decide (-999999999999 ≤ i) && decide (i ≤ 999999999999)
  | _ => false
def isSpotD : PyData → Bool
  | .tuple [a, b] => isShortD a && isShortD b
  | _ => false
def isBoxD : PyData → Bool
  | .tuple [.tuple [.int x, .int y], .tuple [.int x', .int y']] => isShortD (.int x) && isShortD (.int y) && (isShortD (.int x') && isShortD (.int y')) && (decide (x ≤ x') && decide (y ≤ y'))
  | _ => false
/-- the pen: the script, a place, what is left of a great number -/
def PenO (o : OO) : Prop := ∃ (ns : List Int) (i b : Int), ns.length ≤ 63 ∧ 0 ≤ i ∧ o = .lst [.list (ns.map PyData.int), .int i, .int b]
def Pen (M : Mp) (p : Addr) : Prop := ∃ o, PenO o ∧ M p = some o
def spTake : DSp := fun xs M Φ => ∃ (p : Addr) (m : Int), xs = [.own p, .dat (.int m)] ∧ 0 < m ∧ m < 1073741824 ∧ Pen M p ∧ ∀ r o, 0 ≤ r → r < m → PenO o → Φ (.dat (.int r)) (mset M p o)
def spWide : DSp := fun xs M Φ => ∃ (p : Addr) (m : Int), xs = [.own p, .dat (.int m)] ∧ 0 < m ∧ m.natAbs.log2 < 1920 ∧ Pen M p ∧ ∀ r o, 0 ≤ r → r < m → PenO o → Φ (.dat (.int r)) (mset M p o)
/-- a number, a spot, a box is drawn -/
def Sh (x : Int) : Prop := -999999999999 ≤ x ∧ x ≤ 999999999999

def spHas : DSp := fun xs M Φ => ∃ x y x' y' : Int, xs = [.dat (.tuple [.tuple [.int x, .int y], .tuple [.int x', .int y']])] ∧ Φ (.dat (.bool (decide (x ≤ x') && decide (y ≤ y')))) M
/-! ### the steps -/
def ab (i : Int) : Int := if i < 0 then -i else i
def cheb (x y x' y' : Int) : Int := max (ab (x - x')) (ab (y - y'))
def gp (a b a' b' : Int) : Int := max 0 (max (a' - b) (a - b'))
def btw (x y X Y x' y' X' Y' : Int) : Int := max (gp x X x' X') (gp y Y y' Y')
def bx (x y X Y : Int) : PyData := .tuple [.tuple [.int x, .int y], .tuple [.int X, .int Y]]
def spGap : DSp := fun xs M Φ => ∃ x y X Y x' y' X' Y' w : Int, xs = [.dat (.tuple [.tuple [.int x, .int y], .tuple [.int X, .int Y]]), .dat (.tuple [.tuple [.int x', .int y'], .tuple [.int X', .int Y']]), .dat (.int w)] ∧
  ((w = 0 ∧ Φ (.dat (.int (gp x X x' X'))) M) ∨ (w = 1 ∧ Φ (.dat (.int (gp y Y y' Y'))) M))
def spBetween : DSp := fun xs M Φ => ∃ x y X Y x' y' X' Y' : Int, xs = [.dat (.tuple [.tuple [.int x, .int y], .tuple [.int X, .int Y]]), .dat (.tuple [.tuple [.int x', .int y'], .tuple [.int X', .int Y']])] ∧ Φ (.dat (.int (btw x y X Y x' y' X' Y'))) M
def spTo : DSp := fun xs M Φ => ∃ x y X Y x' y' : Int, xs = [.dat (.tuple [.tuple [.int x, .int y], .tuple [.int X, .int Y]]), .dat (.tuple [.int x', .int y'])] ∧ Φ (.dat (.int (btw x y X Y x' y' x' y'))) M
def spHasB : DSp := fun xs M Φ => ∃ x y X Y x' y' : Int, xs = [.dat (.tuple [.tuple [.int x, .int y], .tuple [.int X, .int Y]]), .dat (.tuple [.int x', .int y'])] ∧ Φ (.dat (.bool (decide (btw x y X Y x' y' x' y' = 0)))) M
theorem rd_between {x y X Y x' y' X' Y' : Int} {M : Mp} {Φ : DK} : spBetween [.dat (.tuple [.tuple [.int x, .int y], .tuple [.int X, .int Y]]), .dat (.tuple [.tuple [.int x', .int y'], .tuple [.int X', .int Y']])] M Φ ↔ Φ (.dat (.int (btw x y X Y x' y' X' Y'))) M := by
  constructor
  · rintro ⟨_, _, _, _, _, _, _, _, e, h⟩
    cases e
    exact h
  · exact fun h => ⟨x, y, X, Y, x', y', X', Y', rfl, h⟩
theorem rd_to {x y X Y x' y' : Int} {M : Mp} {Φ : DK} : spTo [.dat (.tuple [.tuple [.int x, .int y], .tuple [.int X, .int Y]]), .dat (.tuple [.int x', .int y'])] M Φ ↔ Φ (.dat (.int (btw x y X Y x' y' x' y'))) M := by
  constructor
  · rintro ⟨_, _, _, _, _, _, e, h⟩
    cases e
    exact h
  · exact fun h => ⟨x, y, X, Y, x', y', rfl, h⟩
theorem rd_has {x y X Y x' y' : Int} {M : Mp} {Φ : DK} : spHasB [.dat (.tuple [.tuple [.int x, .int y], .tuple [.int X, .int Y]]), .dat (.tuple [.int x', .int y'])] M Φ ↔ Φ (.dat (.bool (decide (btw x y X Y x' y' x' y' = 0)))) M := by
  constructor
  · rintro ⟨_, _, _, _, _, _, e, h⟩
    cases e
    exact h
  · exact fun h => ⟨x, y, X, Y, x', y', rfl, h⟩
/-! ### boxes -/
structure B4 where
  x : Int
  y : Int
  X : Int
  Y : Int
def bD (b : B4) : PyData := .tuple [.tuple [.int b.x, .int b.y], .tuple [.int b.X, .int b.Y]]
theorem bD_mk (x y X Y : Int) : bD ⟨x, y, X, Y⟩ = .tuple [.tuple [.int x, .int y], .tuple [.int X, .int Y]] := rfl
def apartB (a b : B4) : Int := btw a.x a.y a.X a.Y b.x b.y b.X b.Y
def hasB (b : B4) (u v : Int) : Bool := decide (b.x ≤ u ∧ u ≤ b.X ∧ b.y ≤ v ∧ v ≤ b.Y)
def okB (b : B4) : Bool := decide (b.x ≤ b.X) && decide (b.y ≤ b.Y)
def cut4 (a b : B4) : List B4 :=
  let mx := max a.x b.x
  let my := max a.y b.y
  let mX := min a.X b.X
  let mY := min a.Y b.Y
  [⟨a.x, a.y, mx - 1, a.Y⟩, ⟨mX + 1, a.y, a.X, a.Y⟩, ⟨mx, a.y, mX, my - 1⟩, ⟨mx, mY + 1, mX, a.Y⟩]
def cutB (a b : B4) : List B4 := if 0 < apartB a b then [a] else (cut4 a b).filter okB
def leftB (a : B4) (bs : List B4) : List B4 := bs.foldl (fun ps b => ps.flatMap fun p => cutB p b) [a]
def spotsB (b : B4) : Int := (b.X - b.x + 1) * (b.Y - b.y + 1)
def Near (b : B4) : Prop := (-(10 ^ 15) ≤ b.x ∧ b.x ≤ 10 ^ 15) ∧ (-(10 ^ 15) ≤ b.y ∧ b.y ≤ 10 ^ 15) ∧ (-(10 ^ 15) ≤ b.X ∧ b.X ≤ 10 ^ 15) ∧ (-(10 ^ 15) ≤ b.Y ∧ b.Y ≤ 10 ^ 15)
def spCommon : DSp := fun xs M Φ => ∃ a b : B4, xs = [.dat (bD a), .dat (bD b)] ∧ Φ (.dat (bD ⟨max a.x b.x, max a.y b.y, min a.X b.X, min a.Y b.Y⟩)) M
def spCut : DSp := fun xs M Φ => ∃ a b : B4, xs = [.dat (bD a), .dat (bD b)] ∧ ∀ p, M p = none → Φ (.own p) (mset M p (.lst ((cutB a b).map bD)))
def spLeft : DSp := fun xs M Φ => ∃ (a : B4) (bs : List B4), xs = [.dat (bD a), .dat (.tuple (bs.map bD))] ∧ bs.length ≤ 6 ∧ Φ (.dat (.list ((leftB a bs).map bD))) M
def spSpotsIn : DSp := fun xs M Φ => ∃ a : B4, xs = [.dat (bD a)] ∧ Near a ∧ Φ (.dat (.int (spotsB a))) M
def spLies : DSp := fun xs M Φ => ∃ (bs : List B4) (u v : Int), xs = [.dat (.tuple (bs.map bD)), .dat (.tuple [.int u, .int v])] ∧ bs.length ≤ 6 ∧ Φ (.dat (.bool (bs.any fun b => hasB b u v))) M
def sizeUp (bs : List B4) (i : Nat) : Int := ((List.range i).map fun k => ((leftB (bs.getD k ⟨0, 0, 0, 0⟩) (bs.take k)).map spotsB).sum).sum
def Good (bs : List B4) : Prop := ∀ b ∈ bs, okB b = true ∧ Near b
def spSize : DSp := fun xs M Φ => ∃ bs : List B4, xs = [.dat (.tuple (bs.map bD))] ∧ bs.length ≤ 6 ∧ Good bs ∧ Φ (.dat (.int (sizeUp bs bs.length))) M
def Chain (bs : List B4) : Prop := ∀ (k : Nat) (a b : B4), bs[k]? = some a → bs[k + 1]? = some b → apartB a b ≤ 1
def spChain : DSp := fun xs M Φ => ∃ bs : List B4, xs = [.dat (.tuple (bs.map bD))] ∧ bs.length ≤ 6 ∧ Chain bs ∧ Φ (.dat (.bool true)) M
def spIsShape : DSp := fun xs M Φ => ∃ bs : List B4, xs = [.dat (.tuple (bs.map bD))] ∧ 1 ≤ bs.length ∧ bs.length ≤ 6 ∧ Chain bs ∧ (∀ b ∈ bs, isBoxD (bD b) = true) ∧ Φ (.dat (.bool true)) M
def spSame : DSp := fun xs M Φ => ∃ d, xs = [.dat d, .dat d] ∧ Shw d ∧ d.canLay0 = true ∧ Φ (.dat (.bool true)) M
theorem rd_same {d e : PyData} {M : Mp} {Φ : DK} : spSame [.dat d, .dat e] M Φ ↔ d = e ∧ Shw d ∧ d.canLay0 = true ∧ Φ (.dat (.bool true)) M := by
  constructor
  · rintro ⟨_, q, h⟩
    cases q
    exact ⟨rfl, h⟩
  · rintro ⟨rfl, h⟩
    exact ⟨d, rfl, h⟩
theorem rd_hasS {x y X Y : Int} {M : Mp} {Φ : DK} : spHas [.dat (.tuple [.tuple [.int x, .int y], .tuple [.int X, .int Y]])] M Φ ↔ Φ (.dat (.bool (decide (x ≤ X) && decide (y ≤ Y)))) M := by
  constructor
  · rintro ⟨_, _, _, _, e, h⟩
    cases e
    exact h
  · exact fun h => ⟨x, y, X, Y, rfl, h⟩
theorem rd_common {x y X Y x' y' X' Y' : Int} {M : Mp} {Φ : DK} : spCommon [.dat (.tuple [.tuple [.int x, .int y], .tuple [.int X, .int Y]]), .dat (.tuple [.tuple [.int x', .int y'], .tuple [.int X', .int Y']])] M Φ ↔
    Φ (.dat (.tuple [.tuple [.int (max x x'), .int (max y y')], .tuple [.int (min X X'), .int (min Y Y')]])) M := by
  constructor
  · rintro ⟨⟨x, y, X, Y⟩, ⟨x', y', X', Y'⟩, e, h⟩
    unfold bD at e
    cases e
    exact h
  · exact fun h => ⟨⟨x, y, X, Y⟩, ⟨x', y', X', Y'⟩, rfl, h⟩
local macro_rules | `(tactic| walk_at "rk") => `(tactic| simp (config := { maxSteps := 10000000 }) only [dSeq, dNext, dRet, dRetN, dIfS, dAsg, dDrop, dgName, dgTup, dgCons, dgNil, dgSub, dVar, dC, dTy, dOp, dB, dChain, dAnd, dOr, dNot, dAndV, dOrV, dNotV, dIf, dUnI, δI, δI0, δB, δCatT, δCatL, δCatLO,
  dNil, dCons, dTup, dLst, dLstO, dFrz, δIx, dCB, δLen, δLenS, δStrI, δAbs, δ2I, δ3I, δListOf, δTupOf, δIn, δSortI, δMinI, δMaxI, δSumI, δAllB, δAnyB, δIntB, δCatS, dSlS, dListR2, dPar, dAug, dForT, dExtend, dEnd, srcL, srcT, srcR1, srcR2, dForR2, dComp, tcNo, capD, Option.bind_some, Option.bind_none, Option.join_some, Option.join_none, Option.getD_some, δRepr, δIsi, δEq, δNe, δNeS, δEqS, dSlT, dSlL, dNoPart, dPart, dCall, dForL, dForR1, dDict0, dDict1, dDict2, dDict1T, dAppend, startD,
  ex_dats, ex_dats0, ex_kD_int, ex_kD_str, ex_kDs, ex_kDs0, kD_inl, kD_inr, ne_eq, not_false_eq_true, PyData.canLayAll0, PyData.depthAll, Bool.and_self, Nat.max_self, Nat.zero_max, Nat.max_zero, atI_0, atI_1, atI_2, atI_3, ixN_30, ixN_31, ixN_32, exists_and_left, exists_eq_left, exists_eq_left', exists_eq, exists_eq', Option.some.injEq, DV.dat.injEq, DV.own.injEq, DV.ty.injEq, PyData.int.injEq, PyData.bool.injEq, PyData.str.injEq, PyData.tuple.injEq, PyData.list.injEq, OO.lst.injEq,
  List.cons.injEq, List.getElem?_cons_zero, List.getElem?_cons_succ, List.set_cons_zero, List.set_cons_succ, List.map_cons, List.map_nil, List.length_cons, List.length_nil, List.replicate, List.cons_append, List.nil_append, sp1, reduceCtorEq, false_and, and_false, false_or, or_false, true_and, and_true, exists_false, exists_const,
  Nat.reduceAdd, Nat.reduceSub, Nat.zero_add, mset_same, mset_mset, if_true, if_false, Bool.not_true, Bool.not_false, Bool.false_eq_true, eq_self, PyData.canLay0, PyData.depth, Nat.min_self, Nat.zero_le, Int.reduceToNat, Int.reducePow, Int.reduceSub, Int.reduceMul, Int.reduceAdd, Int.reduceNeg, and_assoc, sizeLine_eq, Nat.reduceLeDiff, atI_4, atI_5, rd_between, rd_to, rd_has, rd_hasS, rd_common, rd_same, bD_mk])
/-! ### lists of boxes -/
theorem take_filter {α : Type} {l : List α} {i : Nat} {q : α} (f : α → Bool) (h : l[i]? = some q) : (l.take (i + 1)).filter f = (l.take i).filter f ++ (if f q = true then [q] else []) := by
  rw [List.take_add_one, h, List.filter_append]
  cases e : f q <;> simp [e]
theorem cut_len4 (a b : B4) : (cutB a b).length ≤ 4 := by
  unfold cutB
  split
  · simp
  · exact Nat.le_trans (List.length_filter_le _ _) (Nat.le_refl 4)
theorem fold_len : ∀ (bs ps : List B4), (bs.foldl (fun ps b => ps.flatMap fun p => cutB p b) ps).length ≤ ps.length * 4 ^ bs.length
  | [], ps => by simp
  | b :: bs, ps => by
    have h1 := flat_len (fun p => cutB p b) 4 ps fun p _ => cut_len4 p b
    have h2 := fold_len bs (ps.flatMap fun p => cutB p b)
    rw [List.foldl_cons, List.length_cons, Nat.pow_succ]
    refine Nat.le_trans h2 (Nat.le_trans (Nat.mul_le_mul_right _ h1) ?_)
    rw [Nat.mul_assoc, Nat.mul_comm 4]
    exact Nat.le_refl _
theorem leftB_len (a : B4) (bs : List B4) (h : bs.length ≤ 6) : (leftB a bs).length ≤ 4096 := by
  have h1 := fold_len bs [a]
  rw [List.length_singleton, Nat.one_mul] at h1
  have h2 : 4 ^ bs.length ≤ 4 ^ 6 := Nat.pow_le_pow_right (by decide) h
  exact Nat.le_trans h1 (Nat.le_trans h2 (by decide))
theorem leftB_snoc {a b : B4} {bs : List B4} {i : Nat} (h : bs[i]? = some b) : leftB a (bs.take (i + 1)) = (leftB a (bs.take i)).flatMap fun p => cutB p b := by
  unfold leftB
  rw [List.take_add_one, h, List.foldl_append]
  rfl
theorem cutD_take {ds : List PyData} {i : Nat} (h : i ≤ ds.length) : DL.cutD ds none (some (i : Int)) = ds.take i := by
  unfold DL.cutD
  rw [HT.sIx_none, HT.sIx_nat, List.drop_zero, Nat.min_eq_left h, Nat.sub_zero]
theorem hasB_btw (b : B4) (u v : Int) : decide (btw b.x b.y b.X b.Y u v u v = 0) = hasB b u v := by
  unfold hasB btw gp
  rw [Bool.eq_iff_iff, decide_eq_true_eq, decide_eq_true_eq]
  omega
/-- q lies within p -/
def Sub (q p : B4) : Prop := okB q = true ∧ p.x ≤ q.x ∧ q.X ≤ p.X ∧ p.y ≤ q.y ∧ q.Y ≤ p.Y
theorem Sub.trans {a b c : B4} (h : Sub a b) (k : Sub b c) : Sub a c := by
  unfold Sub at *
  exact ⟨h.1, by omega⟩
theorem cut_sub {a b q : B4} (ha : okB a = true) (h : q ∈ cutB a b) : Sub q a := by
  unfold cutB at h
  split at h
  · rw [List.mem_singleton.mp h]
    exact ⟨ha, by omega⟩
  · rename_i h0
    obtain ⟨h1, h2⟩ := List.mem_filter.mp h
    refine ⟨h2, ?_⟩
    unfold apartB btw gp at h0
    unfold okB at ha h2
    simp only [Bool.and_eq_true, decide_eq_true_eq] at ha h2
    unfold cut4 at h1
    simp only [List.mem_cons, List.not_mem_nil, or_false] at h1
    rcases h1 with rfl | rfl | rfl | rfl
    all_goals (dsimp only at h2 ⊢; omega)
theorem fold_sub {a : B4} : ∀ (bs ps : List B4), (∀ p ∈ ps, Sub p a) → ∀ q ∈ bs.foldl (fun ps b => ps.flatMap fun p => cutB p b) ps, Sub q a
  | [], ps, h, q, hq => h q hq
  | b :: bs, ps, h, q, hq => by
    rw [List.foldl_cons] at hq
    refine fold_sub bs _ (fun p hp => ?_) q hq
    obtain ⟨p', hp', hc⟩ := List.mem_flatMap.mp hp
    exact (cut_sub (h p' hp').1 hc).trans (h p' hp')
theorem left_sub {a q : B4} {bs : List B4} (ha : okB a = true) (h : q ∈ leftB a bs) : Sub q a :=
  fold_sub bs [a] (fun p hp => by rw [List.mem_singleton.mp hp]; exact ⟨ha, by omega⟩) q h
theorem Sub.near {q p : B4} (h : Sub q p) (k : Near p) : Near q := by
  unfold Sub okB at h
  unfold Near at *
  simp only [Bool.and_eq_true, decide_eq_true_eq] at h
  omega
section
variable {P : Program} {w : World} {K : PySem.W.Frag} {mg : Str → Option Value} {base : Heap}
theorem ok_is_whole (T : Tx K mg) : FnOk P w K mg base CX0 1 T.f_is_whole T.d_is_whole ["thing"] (lift K (sp1 isWholeD)) := by
  refine okD T.o_is_whole.F sc_is_whole (fun xs M Φ ⟨d, e, _⟩ => by rw [e]; rfl) fun cdv A outer s H E hr => ⟨_, (dss_one (ds_ret (de_and (de_callB (cd_isi (kit_int _)) rfl T.n_isinstance bt_isinstance (da_cons (de_var 0) (da_cons (de_ty rfl T.n_int bt_int) da_nil))) (de_one (de_not (de_callB (cd_isi (kit_bool _)) rfl T.n_isinstance bt_isinstance (da_cons (de_var 0) (da_cons (de_ty rfl T.n_bool bt_bool) da_nil)))))))), fun xs M Φ ⟨d, e, h⟩ => ?_⟩
  subst e
  walk_at "rd"
  cases d <;> simpa [isTyp, tyN, isWholeD] using h
theorem ok_is_short (T : Tx K mg) : FnOk P w K mg base CX0 2 T.f_is_short T.d_is_short ["thing"] (lift K (sp1 isShortD)) := by
  have G_is_whole : FnOk P w K mg base CX0 1 T.f_is_whole T.d_is_whole ["thing"] (lift K (sp1 isWholeD)) := ok_is_whole T
  refine okD T.o_is_short.F sc_is_short (fun xs M Φ ⟨d, e, _⟩ => by rw [e]; rfl) fun cdv A outer s H E hr => ⟨_, (dss_one (ds_ret (de_and (de_call G_is_whole (hr.mono (by decide)) rfl T.o_is_whole.m T.o_is_whole.F.kp T.o_is_whole.b pass0 (da_cons (de_var 0) da_nil)) (de_one (de_chain od_le od_le (de_neg (de_globI rfl T.g_MOST)) (de_var 0) (de_globI rfl T.g_MOST)))))), fun xs M Φ ⟨d, e, h⟩ => ?_⟩
  subst e
  walk_at "rd"
  cases d with
  | int i =>
    simp only [isWholeD, PyData.int.injEq, exists_eq_left', if_true]
    refine cases_true (fun h1 => ?_) (fun h1 => ?_)
    · simpa [isShortD, h1] using h
    · simpa [isShortD, h1] using h
  | _ => simpa [isWholeD, isShortD] using h
theorem isSpotD_ne {ds : List PyData} (h : ds.length ≠ 2) : isSpotD (.tuple ds) = false := by
  match ds, h with
  | [], _ => rfl
  | [_], _ => rfl
  | [_, _], h => exact absurd rfl h
  | _ :: _ :: _ :: _, _ => rfl
theorem two_of {ds : List PyData} (h : ds.length = 2) : ∃ a b, ds = [a, b] := by
  match ds, h with
  | [a, b], _ => exact ⟨a, b, rfl⟩
theorem eqv2 (n : Nat) : (PyData.int (n : Int)).eqv (.int 2) = decide (n = 2) := by
  simp only [PyData.eqv]
  by_cases h : n = 2
  · subst h; rfl
  · rw [decide_eq_false h]
    exact beq_eq_false_iff_ne.mpr (by omega)
def isAnyD : PyData → Bool
  | .tuple [a, b] => isWholeD a && isWholeD b
  | _ => false
theorem isAnyD_ne {ds : List PyData} (h : ds.length ≠ 2) : isAnyD (.tuple ds) = false := by
  match ds, h with
  | [], _ => rfl
  | [_], _ => rfl
  | [_, _], h => exact absurd rfl h
  | _ :: _ :: _ :: _, _ => rfl
theorem ok_is_any_spot (T : Tx K mg) : FnOk P w K mg base CX0 2 T.f_is_any_spot T.d_is_any_spot ["thing"] (lift K (sp1 isAnyD)) := by
  have G_is_whole : FnOk P w K mg base CX0 1 T.f_is_whole T.d_is_whole ["thing"] (lift K (sp1 isWholeD)) := ok_is_whole T
  refine okD T.o_is_any_spot.F sc_is_any_spot (fun xs M Φ ⟨d, e, _⟩ => by rw [e]; rfl) fun cdv A outer s H E hr => ⟨_, (dss_one (ds_ret (de_and (de_callB (cd_isi (kit_tuple _)) rfl T.n_isinstance bt_isinstance (da_cons (de_var 0) (da_cons (de_ty rfl T.n_tuple bt_tuple) da_nil))) (de_and (de_cmp (od_eq hr) (de_callB cd_len rfl T.n_len bt_len (da_cons (de_var 0) da_nil)) de_int) (de_and (de_call G_is_whole (hr.mono (by decide)) rfl T.o_is_whole.m T.o_is_whole.F.kp T.o_is_whole.b pass0 (da_cons (de_ix (de_var 0) de_int) da_nil)) (de_one (de_call G_is_whole (hr.mono (by decide)) rfl T.o_is_whole.m T.o_is_whole.F.kp T.o_is_whole.b pass0 (da_cons (de_ix (de_var 0) de_int) da_nil)))))))), fun xs M Φ ⟨d, e, h⟩ => ?_⟩
  subst e
  walk_at "rd"
  cases d with
  | tuple ds =>
    rw [if_pos (show isTyp "tuple" (.tuple ds) = true from rfl)]
    walk_at "rd"
    rw [eqv2]
    refine cases_true (fun h1 => ?_) (fun h1 => ?_)
    · obtain ⟨a, b, rfl⟩ := two_of h1
      walk_at "rd"
      cases q : isWholeD a with
      | true =>
        walk_at "rd"
        simpa [isAnyD, q] using h
      | false =>
        walk_at "rd"
        simpa [isAnyD, q] using h
    · rw [isAnyD_ne h1] at h
      exact h
  | _ => simpa [isTyp, tyN, isAnyD] using h
theorem any_of {d : PyData} (h : isAnyD d = true) : ∃ x y : Int, d = .tuple [.int x, .int y] := by
  cases d with
  | tuple ds =>
    by_cases hl : ds.length = 2
    · obtain ⟨a, b, rfl⟩ := two_of hl
      have h' : isWholeD a = true ∧ isWholeD b = true := by simpa [isAnyD] using h
      cases a with
      | int x => cases b with
        | int y => exact ⟨x, y, rfl⟩
        | _ => simp [isWholeD] at h'
      | _ => simp [isWholeD] at h'
    · rw [isAnyD_ne hl] at h
      cases h
  | _ => simp [isAnyD] at h
theorem spot_any {d : PyData} (h : isAnyD d = false) : isSpotD d = false := by
  cases d with
  | tuple ds =>
    by_cases hl : ds.length = 2
    · obtain ⟨a, b, rfl⟩ := two_of hl
      have h' : (isWholeD a && isWholeD b) = false := h
      cases a with
      | int x => cases b with
        | int y => simp [isWholeD] at h'
        | _ => simp [isSpotD, isShortD]
      | _ => simp [isSpotD, isShortD]
    · exact isSpotD_ne hl
  | _ => simp [isSpotD]
theorem ok_is_spot (T : Tx K mg) : FnOk P w K mg base CX0 3 T.f_is_spot T.d_is_spot ["thing"] (lift K (sp1 isSpotD)) := by
  have G_is_short : FnOk P w K mg base CX0 2 T.f_is_short T.d_is_short ["thing"] (lift K (sp1 isShortD)) := ok_is_short T
  have G_is_any_spot : FnOk P w K mg base CX0 2 T.f_is_any_spot T.d_is_any_spot ["thing"] (lift K (sp1 isAnyD)) := ok_is_any_spot T
  refine okD T.o_is_spot.F sc_is_spot (fun xs M Φ ⟨d, e, _⟩ => by rw [e]; rfl) fun cdv A outer s H E hr => ⟨_, (dss_one (ds_ret (de_and (de_call G_is_any_spot (hr.mono (by decide)) rfl T.o_is_any_spot.m T.o_is_any_spot.F.kp T.o_is_any_spot.b pass0 (da_cons (de_var 0) da_nil)) (de_and (de_call G_is_short (hr.mono (by decide)) rfl T.o_is_short.m T.o_is_short.F.kp T.o_is_short.b pass0 (da_cons (de_ix (de_var 0) de_int) da_nil)) (de_one (de_call G_is_short (hr.mono (by decide)) rfl T.o_is_short.m T.o_is_short.F.kp T.o_is_short.b pass0 (da_cons (de_ix (de_var 0) de_int) da_nil))))))), fun xs M Φ ⟨d, e, h⟩ => ?_⟩
  subst e
  walk_at "rd"
  cases q0 : isAnyD d with
  | true =>
    obtain ⟨x, y, rfl⟩ := any_of q0
    rw [if_pos rfl]
    walk_at "rd"
    cases q : isShortD (.int x) with
    | true =>
      walk_at "rd"
      simpa [isSpotD, q] using h
    | false =>
      walk_at "rd"
      simpa [isSpotD, q] using h
  | false =>
    rw [spot_any q0] at h
    rw [if_neg Bool.false_ne_true]
    exact h
theorem ok_has_spots (T : Tx K mg) : FnOk P w K mg base CX0 1 T.f_has_spots T.d_has_spots ["box"] (lift K spHas) := by
  refine okD T.o_has_spots.F sc_has_spots (fun xs M Φ ⟨x, y, x', y', e, _⟩ => by rw [e]; rfl) fun cdv A outer s H E hr => ⟨_, (dss_one (ds_ret (de_and (de_cmp od_le (de_ix (de_ix (de_var 0) de_int) de_int) (de_ix (de_ix (de_var 0) de_int) de_int)) (de_one (de_cmp od_le (de_ix (de_ix (de_var 0) de_int) de_int) (de_ix (de_ix (de_var 0) de_int) de_int)))))), fun xs M Φ ⟨x, y, x', y', e, h⟩ => ?_⟩
  subst e
  walk_at "rd"
  refine cases_true (fun h1 => ?_) (fun h1 => ?_)
  · simpa [h1] using h
  · simpa [h1] using h
theorem isBoxD_ne {ds : List PyData} (h : ds.length ≠ 2) : isBoxD (.tuple ds) = false := by
  match ds, h with
  | [], _ => rfl
  | [a], _ => unfold isBoxD; split <;> first | rfl | (rename_i e; simp at e)
  | [_, _], h => exact absurd rfl h
  | _ :: _ :: _ :: _, _ => unfold isBoxD; split <;> first | rfl | (rename_i e; simp at e)
theorem short_int {d : PyData} (h : isShortD d = true) : ∃ i : Int, d = .int i ∧ -999999999999 ≤ i ∧ i ≤ 999999999999 := by
  cases d with
  | int i =>
    have h' : -999999999999 ≤ i ∧ i ≤ 999999999999 := by simpa [isShortD] using h
    exact ⟨i, rfl, h'.1, h'.2⟩
  | _ => simp [isShortD] at h
theorem spot_of {d : PyData} (h : isSpotD d = true) : ∃ x y : Int, d = .tuple [.int x, .int y] ∧ isShortD (.int x) = true ∧ isShortD (.int y) = true := by
  cases d with
  | tuple ds =>
    by_cases hl : ds.length = 2
    · obtain ⟨a, b, rfl⟩ := two_of hl
      have h' : isShortD a = true ∧ isShortD b = true := by simpa [isSpotD] using h
      obtain ⟨x, rfl, _⟩ := short_int h'.1
      obtain ⟨y, rfl, _⟩ := short_int h'.2
      exact ⟨x, y, rfl, h'.1, h'.2⟩
    · rw [isSpotD_ne hl] at h
      cases h
  | _ => simp [isSpotD] at h
theorem isBoxD_two (a b : PyData) (h : isBoxD (.tuple [a, b]) = true) : isSpotD a = true ∧ isSpotD b = true := by
  unfold isBoxD at h
  split at h
  · rename_i e
    simp only [PyData.tuple.injEq, List.cons.injEq, and_true] at e
    obtain ⟨rfl, rfl⟩ := e
    simp only [Bool.and_eq_true] at h
    simp only [isSpotD, Bool.and_eq_true]
    exact ⟨h.1.1, h.1.2⟩
  · cases h
theorem ok_is_box (T : Tx K mg) : FnOk P w K mg base CX0 4 T.f_is_box T.d_is_box ["thing"] (lift K (sp1 isBoxD)) := by
  have G_is_spot : FnOk P w K mg base CX0 3 T.f_is_spot T.d_is_spot ["thing"] (lift K (sp1 isSpotD)) := ok_is_spot T
  have G_has_spots : FnOk P w K mg base CX0 1 T.f_has_spots T.d_has_spots ["box"] (lift K spHas) := ok_has_spots T
  refine okD T.o_is_box.F sc_is_box (fun xs M Φ ⟨d, e, _⟩ => by rw [e]; rfl) fun cdv A outer s H E hr => ⟨_, (dss_cons (ds_if (DW.dt (dw_or (dt_not (dt_val (de_callB (cd_isi (kit_tuple _)) rfl T.n_isinstance bt_isinstance (da_cons (de_var 0) (da_cons (de_ty rfl T.n_tuple bt_tuple) da_nil))))) (dw_or1 (dt_cmp (od_ne hr) (de_callB cd_len rfl T.n_len bt_len (da_cons (de_var 0) da_nil)) de_int)))) (dss_one (ds_ret de_bl)) dss_nil)
  (dss_one (ds_ret (de_and (de_call G_is_spot (hr.mono (by decide)) rfl T.o_is_spot.m T.o_is_spot.F.kp T.o_is_spot.b pass0 (da_cons (de_ix (de_var 0) de_int) da_nil)) (de_and (de_call G_is_spot (hr.mono (by decide)) rfl T.o_is_spot.m T.o_is_spot.F.kp T.o_is_spot.b pass0 (da_cons (de_ix (de_var 0) de_int) da_nil)) (de_one (de_call G_has_spots (hr.mono (by decide)) rfl T.o_has_spots.m T.o_has_spots.F.kp T.o_has_spots.b pass0 (da_cons (de_var 0) da_nil)))))))), fun xs M Φ ⟨d, e, h⟩ => ?_⟩
  subst e
  walk_at "rd"
  cases d with
  | tuple ds =>
    rw [if_neg (show ¬ (!isTyp "tuple" (.tuple ds)) = true from Bool.false_ne_true)]
    walk_at "rd"
    rw [eqv2]
    by_cases h1 : ds.length = 2
    · rw [decide_eq_true h1, if_neg (by decide)]
      obtain ⟨a, b, rfl⟩ := two_of h1
      walk_at "rd"
      cases q : isSpotD a with
      | true =>
        walk_at "rd"
        cases q2 : isSpotD b with
        | true =>
          walk_at "rd"
          obtain ⟨x, y, rfl, sx, sy⟩ := spot_of q
          obtain ⟨x', y', rfl, sx', sy'⟩ := spot_of q2
          refine ⟨x, y, x', y', rfl, ?_⟩
          simpa [isBoxD, sx, sy, sx', sy'] using h
        | false =>
          walk_at "rd"
          have e : isBoxD (.tuple [a, b]) = false := by
            cases e : isBoxD (.tuple [a, b]) with
            | false => rfl
            | true => rw [(isBoxD_two a b e).2] at q2; cases q2
          rw [e] at h
          exact h
      | false =>
        walk_at "rd"
        have e : isBoxD (.tuple [a, b]) = false := by
          cases e : isBoxD (.tuple [a, b]) with
          | false => rfl
          | true => rw [(isBoxD_two a b e).1] at q; cases q
        rw [e] at h
        exact h
    · rw [decide_eq_false h1, if_pos (by decide)]
      rw [isBoxD_ne h1] at h
      exact h
  | _ => simpa [isTyp, tyN, isBoxD] using h
local macro_rules | `(tactic| walk_at "mix") => `(tactic| refine ⟨by decide, .inl (by decide), .inr (by decide), by decide, .inl (by omega), .inl (by decide), .inl (by decide), by decide, by decide, .inl (by omega), by decide, ⟨by decide, by decide⟩, by assumption, ?_⟩)
theorem ok_take (T : Tx K mg) : FnOk P w K mg base CX0 1 T.f_take T.d_take ["_law_pen", "_law_many"] (lift K spTake) := by
  refine okD T.o_take.F sc_take (fun xs M Φ ⟨p, m, e, _⟩ => by rw [e]; rfl) fun cdv A outer s H E hr => ⟨_, (dss_cons (ds_if (dt_cmp od_gt (de_ix (de_var 0) de_int) de_int) (dss_cons (ds_set 6 sc_take.nd (de_op od_mod (de_ix (de_var 0) de_int) (de_var 1)))
  (dss_cons (ds_asg (de_op od_fdiv (de_ix (de_var 0) de_int) (de_var 1)) (dg_sub (de_var 0) de_int))
  (dss_one (ds_ret (de_var 6))))) dss_nil)
  (dss_cons (ds_set 2 sc_take.nd (de_ix (de_var 0) de_int))
  (dss_cons (ds_asg (de_op od_add (de_var 2) de_int) (dg_sub (de_var 0) de_int))
  (dss_cons (ds_set 3 sc_take.nd de_int)
  (dss_cons (ds_if (dt_cmp od_gt (de_callB cd_len rfl T.n_len bt_len (da_cons (de_ix (de_var 0) de_int) da_nil)) de_int) (dss_one (ds_set 3 sc_take.nd (de_ix (de_ix (de_var 0) de_int) (de_op od_mod (de_var 2) (de_callB cd_len rfl T.n_len bt_len (da_cons (de_ix (de_var 0) de_int) da_nil)))))) dss_nil)
  (dss_cons (ds_if (DW.dt (dw_and (dt_cmp od_lt (de_var 2) (de_callB cd_len rfl T.n_len bt_len (da_cons (de_ix (de_var 0) de_int) da_nil))) (dw_and1 (dt_cmp od_ge (de_callB cd_abs rfl T.n_abs bt_abs (da_cons (de_var 3) da_nil)) (de_op od_pow de_int de_int))))) (dss_cons (ds_asg (de_op od_fdiv (de_callB cd_abs rfl T.n_abs bt_abs (da_cons (de_var 3) da_nil)) (de_var 1)) (dg_sub (de_var 0) de_int))
  (dss_one (ds_ret (de_op od_mod (de_callB cd_abs rfl T.n_abs bt_abs (da_cons (de_var 3) da_nil)) (de_var 1))))) dss_nil)
  (dss_cons (ds_set 4 sc_take.nd (de_op od_mod (de_op od_mul (de_op od_add (de_op od_add (de_op od_mod (de_var 3) de_int) (de_op od_mul de_int (de_var 2))) de_int) de_int) de_int))
  (dss_cons (ds_set 5 sc_take.nd (de_op od_mod (de_op od_add (de_op od_add (de_op od_mul (de_var 4) (de_var 4)) (de_op od_mul de_int (de_var 4))) (de_op od_mul de_int (de_var 2))) de_int))
  (dss_one (ds_ret (de_op od_mod (de_op od_fdiv (de_op od_mod (de_op od_mul (de_var 5) (de_op od_add (de_op od_mod (de_var 5) de_int) de_int)) de_int) de_int) (de_var 1)))))))))))), fun xs M Φ ⟨p, m, e, h0, h1, ⟨o, ⟨ns, i, b, hn, hi, eo⟩, hp⟩, h⟩ => ?_⟩
  subst e
  subst eo
  walk_at "rd"
  simp only [hp]
  walk_at "rd"
  have fin : ∀ (x i b : Int), 0 ≤ i → Φ (.dat (.int (x % m))) (mset M p (.lst [.list (ns.map PyData.int), .int i, .int b])) := fun x i b hi => h _ _ (mod_b x h0).1 (mod_b x h0).2 ⟨ns, i, b, hn, hi, rfl⟩
  refine cases_true (fun hb => ?_) (fun hb => ?_)
  · exact ⟨h0, ⟨h0, h1⟩, fin _ _ _ hi⟩
  · rw [List.length_map]
    refine cases_true (fun hl => ?_) (fun hl => ?_)
    · have hm := mod_b i hl
      obtain ⟨c, hc⟩ := at_ints (ns := ns) hm.1 hm.2
      refine ⟨hl, _, hc, ?_⟩
      walk_at "rd"
      refine cases_true (fun h2 => ?_) (fun h2 => ?_)
      · refine ⟨cp10 _ (by decide), cases_true (fun h3 => ?_) (fun h3 => ?_)⟩
        · exact ⟨⟨h0, h1⟩, h0, fin _ _ _ (by omega)⟩
        · walk_at "mix"
          exact fin _ _ _ (by omega)
      · walk_at "mix"
        exact fin _ _ _ (by omega)
    · refine cases_true (fun h2 => ?_) (fun h2 => ?_)
      · refine ⟨cp10 _ (by decide), cases_true (fun h3 => ?_) (fun h3 => ?_)⟩
        · exact ⟨⟨h0, h1⟩, h0, fin _ _ _ (by omega)⟩
        · walk_at "mix"
          exact fin _ _ _ (by omega)
      · walk_at "mix"
        exact fin _ _ _ (by omega)
theorem log2_lt {n k : Nat} (h : n < 2 ^ k) (hk : 0 < k) : n.log2 < k := by
  by_cases h0 : n = 0
  · subst h0; simpa using hk
  · exact (Nat.log2_lt h0).mpr h
theorem log60 {n : Nat} (h : n < 2 ^ 200) : n.log2 < 1920 := Nat.lt_of_lt_of_le (log2_lt h (by decide)) (by decide)
theorem Pen.mset {M : Mp} {p : Addr} {o : OO} (h : PenO o) : Pen (mset M p o) p := ⟨o, h, mset_same⟩
theorem ok_wide (T : Tx K mg) : FnOk P w K mg base CX0 2 T.f_wide T.d_wide ["_law_pen", "_law_many"] (lift K spWide) := by
  have G_take : FnOk P w K mg base CX0 1 T.f_take T.d_take ["_law_pen", "_law_many"] (lift K spTake) := ok_take T
  refine okD T.o_wide.F sc_wide (fun xs M Φ ⟨p, m, e, _⟩ => by rw [e]; rfl) fun cdv A outer s H E hr => ⟨_, (dss_cons (ds_if (dt_cmp od_lt (de_var 1) (de_op od_pow de_int de_int)) (dss_one (ds_ret (de_call G_take (hr.mono (by decide)) rfl T.o_take.m T.o_take.F.kp T.o_take.b pass0 (da_cons (de_var 0) (da_cons (de_var 1) da_nil))))) dss_nil)
  (dss_cons (ds_set 2 sc_wide.nd de_int)
  (dss_cons (ds_forR1 rfl T.n_range (da_cons (de_op od_add (de_op od_fdiv (de_callB cd_lenS rfl T.n_len bt_len (da_cons (de_callTy cd_strI rfl T.n_str bt_str (da_cons (de_var 1) da_nil)) da_nil)) de_int) de_int) da_nil) (dg_name 3 sc_wide.nd) (dss_one (ds_set 2 sc_wide.nd (de_op od_add (de_op od_mul (de_var 2) (de_op od_pow de_int de_int)) (de_call G_take (hr.mono (by decide)) rfl T.o_take.m T.o_take.F.kp T.o_take.b pass0 (da_cons (de_var 0) (da_cons (de_op od_pow de_int de_int) da_nil)))))) PassesOwn.never rfl)
  (dss_one (ds_ret (de_op od_mod (de_var 2) (de_var 1))))))), fun xs M Φ ⟨p, m, e, h0, h1, hp, h⟩ => ?_⟩
  subst e
  walk_at "rd"
  refine ⟨cp10 _ (by decide), cases_true (fun h2 => ?_) (fun h2 => ?_)⟩
  · exact ⟨p, m, rfl, h0, by omega, hp, h⟩
  · have hz := int_text_len_1921 h1
    obtain ⟨o0, ho0, e0⟩ := hp
    refine ⟨h1, by omega, ⟨by decide, by decide⟩, by omega, by omega, ?_⟩
    refine ⟨fun i Δ M' => ∃ (v : Int) (o : OO) (kk : Option DV), Δ = [some (.own p), some (.dat (.int m)), some (.dat (.int v)), kk] ∧ 0 ≤ v ∧ PenO o ∧ M' = DL.mset M p o, ⟨0, o0, none, rfl, Int.le_refl 0, ho0, (mset_eta e0).symm⟩, ?_, ?_⟩
    · rintro i Δ M' hi ⟨v, o, kk, rfl, hv, ho, rfl⟩
      walk_at "rd"
      refine ⟨cp10 _ (by decide), .inr (by decide), cp10 _ (by decide), p, _, rfl, by decide, by decide, Pen.mset ho, fun r o2 h3 h4 ho2 => ?_⟩
      walk_at "rd"
      exact ⟨by omega, o2, ho2, rfl⟩
    · rintro Δ M' ⟨v, o, kk, rfl, hv, ho, rfl⟩
      walk_at "rd"
      exact ⟨h0, h _ _ (mod_b v h0).1 (mod_b v h0).2 ho⟩
theorem ok_gap (T : Tx K mg) : FnOk P w K mg base CX0 1 T.f_gap T.d_gap ["one", "other", "way"] (lift K spGap) := by
  refine okD T.o_gap.F sc_gap (fun xs M Φ ⟨x, y, X, Y, x', y', X', Y', v, e, _⟩ => by rw [e]; rfl) fun cdv A outer s H E hr => ⟨_, (dss_one (ds_ret (de_callB (cd_max3 rfl) rfl T.n_max bt_max (da_cons de_int (da_cons (de_op od_sub (de_ix (de_ix (de_var 1) de_int) (de_var 2)) (de_ix (de_ix (de_var 0) de_int) (de_var 2))) (da_cons (de_op od_sub (de_ix (de_ix (de_var 0) de_int) (de_var 2)) (de_ix (de_ix (de_var 1) de_int) (de_var 2))) da_nil)))))), fun xs M Φ ⟨x, y, X, Y, x', y', X', Y', v, e, h⟩ => ?_⟩
  subst e
  rcases h with ⟨rfl, h⟩ | ⟨rfl, h⟩
  · walk_at "rd"
    exact h
  · walk_at "rd"
    exact h
theorem ok_steps_between (T : Tx K mg) : FnOk P w K mg base CX0 2 T.f_steps_between T.d_steps_between ["one", "other"] (lift K spBetween) := by
  have G_gap : FnOk P w K mg base CX0 1 T.f_gap T.d_gap ["one", "other", "way"] (lift K spGap) := ok_gap T
  refine okD T.o_steps_between.F sc_steps_between (fun xs M Φ ⟨x, y, X, Y, x', y', X', Y', e, _⟩ => by rw [e]; rfl) fun cdv A outer s H E hr => ⟨_, (dss_one (ds_ret (de_callB (cd_max2 rfl) rfl T.n_max bt_max (da_cons (de_call G_gap (hr.mono (by decide)) rfl T.o_gap.m T.o_gap.F.kp T.o_gap.b pass0 (da_cons (de_var 0) (da_cons (de_var 1) (da_cons de_int da_nil)))) (da_cons (de_call G_gap (hr.mono (by decide)) rfl T.o_gap.m T.o_gap.F.kp T.o_gap.b pass0 (da_cons (de_var 0) (da_cons (de_var 1) (da_cons de_int da_nil)))) da_nil))))), fun xs M Φ ⟨x, y, X, Y, x', y', X', Y', e, h⟩ => ?_⟩
  subst e
  walk_at "rd"
  refine ⟨x, y, X, Y, x', y', X', Y', 0, rfl, .inl ⟨rfl, ?_⟩⟩
  refine ⟨x, y, X, Y, x', y', X', Y', 1, rfl, .inr ⟨rfl, ?_⟩⟩
  walk_at "rd"
  exact h
theorem ok_steps_to (T : Tx K mg) : FnOk P w K mg base CX0 3 T.f_steps_to T.d_steps_to ["box", "spot"] (lift K spTo) := by
  have G_steps_between : FnOk P w K mg base CX0 2 T.f_steps_between T.d_steps_between ["one", "other"] (lift K spBetween) := ok_steps_between T
  refine okD T.o_steps_to.F sc_steps_to (fun xs M Φ ⟨x, y, X, Y, x', y', e, _⟩ => by rw [e]; rfl) fun cdv A outer s H E hr => ⟨_, (dss_one (ds_ret (de_call G_steps_between (hr.mono (by decide)) rfl T.o_steps_between.m T.o_steps_between.F.kp T.o_steps_between.b pass0 (da_cons (de_var 0) (da_cons (de_tup (da_cons (de_var 1) (da_cons (de_var 1) da_nil))) da_nil))))), fun xs M Φ ⟨x, y, X, Y, x', y', e, h⟩ => ?_⟩
  subst e
  walk_at "rd"
  exact ⟨x, y, X, Y, x', y', x', y', rfl, h⟩
theorem eqvI (i j : Int) : (PyData.int i).eqv (.int j) = decide (i = j) := by
  simp only [PyData.eqv]
  rw [Bool.beq_eq_decide_eq]
theorem ok_has (T : Tx K mg) : FnOk P w K mg base CX0 4 T.f_has T.d_has ["box", "spot"] (lift K spHasB) := by
  have G_steps_to : FnOk P w K mg base CX0 3 T.f_steps_to T.d_steps_to ["box", "spot"] (lift K spTo) := ok_steps_to T
  refine okD T.o_has.F sc_has (fun xs M Φ ⟨x, y, X, Y, x', y', e, _⟩ => by rw [e]; rfl) fun cdv A outer s H E hr => ⟨_, (dss_one (ds_ret (de_cmp (od_eq hr) (de_call G_steps_to (hr.mono (by decide)) rfl T.o_steps_to.m T.o_steps_to.F.kp T.o_steps_to.b pass0 (da_cons (de_var 0) (da_cons (de_var 1) da_nil))) de_int))), fun xs M Φ ⟨x, y, X, Y, x', y', e, h⟩ => ?_⟩
  subst e
  walk_at "rd"
  refine ⟨x, y, X, Y, x', y', rfl, ?_⟩
  walk_at "rd"
  rw [eqvI]
  exact h
theorem ok_common (T : Tx K mg) : FnOk P w K mg base CX0 1 T.f_common T.d_common ["one", "other"] (lift K spCommon) := by
  refine okD T.o_common.F sc_common (fun xs M Φ ⟨a, b, e, _⟩ => by rw [e]; rfl) fun cdv A outer s H E hr => ⟨_, (dss_cons (ds_set 2 sc_common.nd (de_tup (da_cons (de_callB (cd_max2 rfl) rfl T.n_max bt_max (da_cons (de_ix (de_ix (de_var 0) de_int) de_int) (da_cons (de_ix (de_ix (de_var 1) de_int) de_int) da_nil))) (da_cons (de_callB (cd_max2 rfl) rfl T.n_max bt_max (da_cons (de_ix (de_ix (de_var 0) de_int) de_int) (da_cons (de_ix (de_ix (de_var 1) de_int) de_int) da_nil))) da_nil))))
  (dss_cons (ds_set 3 sc_common.nd (de_tup (da_cons (de_callB (cd_min2 rfl) rfl T.n_min bt_min (da_cons (de_ix (de_ix (de_var 0) de_int) de_int) (da_cons (de_ix (de_ix (de_var 1) de_int) de_int) da_nil))) (da_cons (de_callB (cd_min2 rfl) rfl T.n_min bt_min (da_cons (de_ix (de_ix (de_var 0) de_int) de_int) (da_cons (de_ix (de_ix (de_var 1) de_int) de_int) da_nil))) da_nil))))
  (dss_one (ds_ret (de_tup (da_cons (de_var 2) (da_cons (de_var 3) da_nil))))))), fun xs M Φ ⟨a, b, e, h⟩ => ?_⟩
  subst e
  unfold bD
  walk_at "rk"
  exact h
theorem ok_spots_in (T : Tx K mg) : FnOk P w K mg base CX0 1 T.f_spots_in T.d_spots_in ["box"] (lift K spSpotsIn) := by
  refine okD T.o_spots_in.F sc_spots_in (fun xs M Φ ⟨a, e, _⟩ => by rw [e]; rfl) fun cdv A outer s H E hr => ⟨_, (dss_one (ds_ret (de_op od_mul (de_op od_add (de_op od_sub (de_ix (de_ix (de_var 0) de_int) de_int) (de_ix (de_ix (de_var 0) de_int) de_int)) de_int) (de_op od_add (de_op od_sub (de_ix (de_ix (de_var 0) de_int) de_int) (de_ix (de_ix (de_var 0) de_int) de_int)) de_int)))), fun xs M Φ ⟨a, e, hn, h⟩ => ?_⟩
  subst e
  unfold bD
  walk_at "rk"
  exact ⟨.inl (by unfold Near at hn; omega), h⟩
theorem ok_cut_out (T : Tx K mg) : FnOk P w K mg base CX0 3 T.f_cut_out T.d_cut_out ["one", "other"] (lift K spCut) := by
  have G_steps_between : FnOk P w K mg base CX0 2 T.f_steps_between T.d_steps_between ["one", "other"] (lift K spBetween) := ok_steps_between T
  have G_common : FnOk P w K mg base CX0 1 T.f_common T.d_common ["one", "other"] (lift K spCommon) := ok_common T
  have G_has_spots : FnOk P w K mg base CX0 1 T.f_has_spots T.d_has_spots ["box"] (lift K spHas) := ok_has_spots T
  refine okD T.o_cut_out.F sc_cut_out (fun xs M Φ ⟨a, b, e, _⟩ => by rw [e]; rfl) fun cdv A outer s H E hr => ⟨_, (dss_cons (ds_if (dt_cmp od_gt (de_call G_steps_between (hr.mono (by decide)) rfl T.o_steps_between.m T.o_steps_between.F.kp T.o_steps_between.b pass0 (da_cons (de_var 0) (da_cons (de_var 1) da_nil))) de_int) (dss_one (ds_ret (de_lstO (da_cons (de_var 0) da_nil)))) dss_nil)
  (dss_cons (ds_set 2 sc_cut_out.nd (de_call G_common (hr.mono (by decide)) rfl T.o_common.m T.o_common.F.kp T.o_common.b pass0 (da_cons (de_var 0) (da_cons (de_var 1) da_nil))))
  (dss_cons (ds_set 3 sc_cut_out.nd (de_tup (da_cons (de_ix (de_var 0) de_int) (da_cons (de_tup (da_cons (de_op od_sub (de_ix (de_ix (de_var 2) de_int) de_int) de_int) (da_cons (de_ix (de_ix (de_var 0) de_int) de_int) da_nil))) da_nil))))
  (dss_cons (ds_set 4 sc_cut_out.nd (de_tup (da_cons (de_tup (da_cons (de_op od_add (de_ix (de_ix (de_var 2) de_int) de_int) de_int) (da_cons (de_ix (de_ix (de_var 0) de_int) de_int) da_nil))) (da_cons (de_ix (de_var 0) de_int) da_nil))))
  (dss_cons (ds_set 5 sc_cut_out.nd (de_tup (da_cons (de_tup (da_cons (de_ix (de_ix (de_var 2) de_int) de_int) (da_cons (de_ix (de_ix (de_var 0) de_int) de_int) da_nil))) (da_cons (de_tup (da_cons (de_ix (de_ix (de_var 2) de_int) de_int) (da_cons (de_op od_sub (de_ix (de_ix (de_var 2) de_int) de_int) de_int) da_nil))) da_nil))))
  (dss_cons (ds_set 6 sc_cut_out.nd (de_tup (da_cons (de_tup (da_cons (de_ix (de_ix (de_var 2) de_int) de_int) (da_cons (de_op od_add (de_ix (de_ix (de_var 2) de_int) de_int) de_int) da_nil))) (da_cons (de_tup (da_cons (de_ix (de_ix (de_var 2) de_int) de_int) (da_cons (de_ix (de_ix (de_var 0) de_int) de_int) da_nil))) da_nil))))
  (dss_one (ds_ret (de_comp true (compOk_of (sc := defScope s_cut_out) (XN := ["one", "other", "middle", "left", "right", "below", "above"]) (N := ["piece"]) (ix := [none]) rfl rfl (by decide +kernel)) (di_list (de_lst (da_cons (de_var 3) (da_cons (de_var 4) (da_cons (de_var 5) (da_cons (de_var 6) da_nil)))))) (fun C ex s H => (dg_name 0 (show List.Nodup (["piece"] : List Str) by decide +kernel))) (fun C ex s H => (dts_one (dt_val (de_call G_has_spots (hr.mono (by decide)) rfl T.o_has_spots.m T.o_has_spots.F.kp T.o_has_spots.b pass0 (da_cons (de_var 0) da_nil))))) (fun C ex s H => (de_var 0)) rfl))))))))), fun xs M Φ ⟨a, b, e, h⟩ => ?_⟩
  subst e
  obtain ⟨x, y, X, Y⟩ := a
  obtain ⟨x', y', X', Y'⟩ := b
  unfold bD
  walk_at "rk"
  refine cases_true (fun hk => ?_) (fun hk => ?_)
  · intro p hp
    have h' := h p hp
    rw [show cutB ⟨x, y, X, Y⟩ ⟨x', y', X', Y'⟩ = [⟨x, y, X, Y⟩] from if_pos hk] at h'
    exact h'
  · have ec : cutB ⟨x, y, X, Y⟩ ⟨x', y', X', Y'⟩ = (cut4 ⟨x, y, X, Y⟩ ⟨x', y', X', Y'⟩).filter okB := if_neg hk
    refine ⟨fun i acc M' => acc = (((cut4 ⟨x, y, X, Y⟩ ⟨x', y', X', Y'⟩).take i).filter okB).map bD ∧ M' = M, ⟨rfl, rfl⟩, ?_, ?_⟩
    · rintro i d acc M' hd ⟨rfl, rfl⟩
      have hd' : ((cut4 ⟨x, y, X, Y⟩ ⟨x', y', X', Y'⟩).map bD)[i]? = some d := hd
      obtain ⟨q, eq, rfl⟩ := map_get hd'
      obtain ⟨a, b, c, e⟩ := q
      refine ⟨a, b, c, e, rfl, _, rfl, ?_⟩
      cases hok : (decide (a ≤ c) && decide (b ≤ e)) with
      | true =>
        rw [if_pos rfl]
        refine ⟨?_, rfl⟩
        rw [take_filter okB eq, show okB ⟨a, b, c, e⟩ = true from hok, if_pos rfl, List.map_append]
        rfl
      | false =>
        rw [if_neg Bool.false_ne_true]
        refine ⟨?_, rfl⟩
        rw [take_filter okB eq, show okB ⟨a, b, c, e⟩ = false from hok, if_neg Bool.false_ne_true, List.append_nil]
    · rintro acc M' ⟨rfl, rfl⟩
      rw [ec] at h
      exact h
theorem ok_left_over (T : Tx K mg) : FnOk P w K mg base CX0 4 T.f_left_over T.d_left_over ["box", "others"] (lift K spLeft) := by
  have G_cut_out : FnOk P w K mg base CX0 3 T.f_cut_out T.d_cut_out ["one", "other"] (lift K spCut) := ok_cut_out T
  refine okD T.o_left_over.F sc_left_over (fun xs M Φ ⟨a, bs, e, _⟩ => by rw [e]; rfl) fun cdv A outer s H E hr => ⟨_, (dss_cons (ds_set 2 sc_left_over.nd (de_lst (da_cons (de_var 0) da_nil)))
  (dss_cons (ds_forT (de_var 1) (dg_name 3 sc_left_over.nd) (dss_cons (ds_set 4 sc_left_over.nd (de_lstO da_nil))
  (dss_cons (ds_forL (de_var 2) (dg_name 5 sc_left_over.nd) (dss_one (ds_expr (de_extend (de_var 4) (de_call G_cut_out (hr.mono (by decide)) rfl T.o_cut_out.m T.o_cut_out.F.kp T.o_cut_out.b pass0 (da_cons (de_var 5) (da_cons (de_var 3) da_nil)))))) PassesOwn.never rfl)
  (dss_one (ds_set 2 sc_left_over.nd (de_frz (de_var 4)))))) PassesOwn.never rfl)
  (dss_one (ds_ret (de_var 2))))), fun xs M Φ ⟨a, bs, e, hl, h⟩ => ?_⟩
  subst e
  walk_at "rk"
  refine ⟨fun i Δ M' => ∃ k3 k4 k5, Δ = [some (.dat (bD a)), some (.dat (.tuple (bs.map bD))), some (.dat (.list ((leftB a (bs.take i)).map bD))), k3, k4, k5] ∧ M' = M, ⟨none, none, none, rfl, rfl⟩, ?_, ?_⟩
  · rintro i d Δ M' hd ⟨k3, k4, k5, rfl, rfl⟩
    obtain ⟨b, eb, rfl⟩ := map_get hd
    have len := leftB_len a (bs.take i) (by rw [List.length_take]; omega)
    walk_at "rk"
    intro q hq
    refine ⟨fun j Δ M2 => ∃ k5, Δ = [some (.dat (bD a)), some (.dat (.tuple (bs.map bD))), some (.dat (.list ((leftB a (bs.take i)).map bD))), some (.dat (bD b)), some (.own q), k5] ∧ M2 = mset M' q (.lst ((((leftB a (bs.take i)).take j).flatMap fun p => cutB p b).map bD)), ⟨k5, rfl, rfl⟩, ?_, ?_⟩
    · rintro j d Δ M2 hd2 ⟨k5, rfl, rfl⟩
      obtain ⟨p, ep, rfl⟩ := map_get hd2
      walk_at "rk"
      refine ⟨p, b, rfl, fun c hc => ?_⟩
      refine ⟨c, rfl, fresh_ne hc, _, (mset_ne (Ne.symm (fresh_ne hc))).trans mset_same, _, mset_same, ?_, ?_⟩
      · have h1 := flat_len (fun p => cutB p b) 4 ((leftB a (bs.take i)).take j) fun p _ => cut_len4 p b
        have h2 := cut_len4 p b
        rw [List.length_take] at h1
        rw [List.length_map, List.length_map]
        omega
      · rw [ext_map hc, ← List.map_append, take_flat (fun p => cutB p b) ep]
    · rintro Δ M2 ⟨k5, rfl, rfl⟩
      rw [List.length_map, List.take_length]
      walk_at "rk"
      exact ⟨by rw [leftB_snoc eb], mdel_mset hq⟩
  · rintro Δ M' ⟨k3, k4, k5, rfl, rfl⟩
    rw [List.length_map, List.take_length]
    walk_at "rk"
    exact h
theorem ok_lies_in (T : Tx K mg) : FnOk P w K mg base CX0 5 T.f_lies_in T.d_lies_in ["shape", "spot"] (lift K spLies) := by
  have G_has : FnOk P w K mg base CX0 4 T.f_has T.d_has ["box", "spot"] (lift K spHasB) := ok_has T
  refine okD T.o_lies_in.F sc_lies_in (fun xs M Φ ⟨bs, u, v, e, _⟩ => by rw [e]; rfl) fun cdv A outer s H E hr => ⟨_, (dss_one (ds_ret (de_callB (cd_any rfl) rfl T.n_any bt_any (da_cons (de_comp false (compOk_of (sc := defScope s_lies_in) (XN := ["shape", "spot"]) (N := ["box", "spot"]) (ix := [none, some 1]) rfl rfl (by decide +kernel)) (di_tup (de_var 0)) (fun C ex s H => (dg_name 0 (show List.Nodup (["box", "spot"] : List Str) by decide +kernel))) (fun C ex s H => dts_nil) (fun C ex s H => (de_call G_has (hr.mono (by decide)) rfl T.o_has.m T.o_has.F.kp T.o_has.b pass0 (da_cons (de_var 0) (da_cons (de_var 1) da_nil)))) rfl) da_nil)))), fun xs M Φ ⟨bs, u, v, e, hl, h⟩ => ?_⟩
  subst e
  walk_at "rk"
  refine ⟨by rw [List.length_map]; omega, fun i acc M' => acc = ((bs.take i).map fun b => hasB b u v).map PyData.bool ∧ M' = M, ⟨rfl, rfl⟩, ?_, ?_⟩
  · rintro i d acc M' hd ⟨rfl, rfl⟩
    obtain ⟨b, eb, rfl⟩ := map_get hd
    refine ⟨b.x, b.y, b.X, b.Y, u, v, rfl, _, rfl, ?_, rfl⟩
    rw [hasB_btw, ← take_snoc _ eb, List.map_append]
    rfl
  · rintro acc M' ⟨rfl, rfl⟩
    refine ⟨_, rfl, ?_⟩
    rw [List.length_map, List.take_length, List.any_map]
    exact h
theorem ok_size (T : Tx K mg) : FnOk P w K mg base CX0 5 T.f_size T.d_size ["shape"] (lift K spSize) := by
  have G_left_over : FnOk P w K mg base CX0 4 T.f_left_over T.d_left_over ["box", "others"] (lift K spLeft) := ok_left_over T
  have G_spots_in : FnOk P w K mg base CX0 1 T.f_spots_in T.d_spots_in ["box"] (lift K spSpotsIn) := ok_spots_in T
  refine okD T.o_size.F sc_size (fun xs M Φ ⟨bs, e, _⟩ => by rw [e]; rfl) fun cdv A outer s H E hr => ⟨_, (dss_cons (ds_set 1 sc_size.nd de_int)
  (dss_cons (ds_forR1 rfl T.n_range (da_cons (de_callB cd_len rfl T.n_len bt_len (da_cons (de_var 0) da_nil)) da_nil) (dg_name 2 sc_size.nd) (dss_one (ds_aug 1 sc_size.nd (de_callB (cd_sum rfl) rfl T.n_sum bt_sum (da_cons (de_comp false (compOk_of (sc := defScope s_size) (XN := ["shape", "total", "k"]) (N := ["piece"]) (ix := [none]) rfl rfl (by decide +kernel)) (di_list (de_call G_left_over (hr.mono (by decide)) rfl T.o_left_over.m T.o_left_over.F.kp T.o_left_over.b pass0 (da_cons (de_ix (de_var 0) (de_var 2)) (da_cons (de_sliceT (de_var 0) do_none (do_some (de_var 2))) da_nil)))) (fun C ex s H => (dg_name 0 (show List.Nodup (["piece"] : List Str) by decide +kernel))) (fun C ex s H => dts_nil) (fun C ex s H => (de_call G_spots_in (hr.mono (by decide)) rfl T.o_spots_in.m T.o_spots_in.F.kp T.o_spots_in.b pass0 (da_cons (de_var 0) da_nil))) rfl) da_nil)) ip_add)) PassesOwn.never rfl)
  (dss_one (ds_ret (de_var 1))))), fun xs M Φ ⟨bs, e, hl, hg, h⟩ => ?_⟩
  subst e
  walk_at "rk"
  refine ⟨by omega, by rw [List.length_map]; omega, ?_⟩
  refine ⟨fun i Δ M' => ∃ k2, Δ = [some (.dat (.tuple (bs.map bD))), some (.dat (.int (sizeUp bs i))), k2] ∧ M' = M, ⟨none, rfl, rfl⟩, ?_, ?_⟩
  · rintro i Δ M' hi ⟨k2, rfl, rfl⟩
    have hi' : i < bs.length := by rw [List.length_map] at hi; omega
    obtain ⟨b, eb⟩ : ∃ b, bs[i]? = some b := ⟨bs[i], by simp [hi']⟩
    have hb := hg b (List.mem_of_getElem? eb)
    have len := leftB_len b (bs.take i) (by rw [List.length_take]; omega)
    walk_at "rk"
    simp only [Int.zero_add]
    refine ⟨bD b, atI_nat (by rw [List.getElem?_map, eb]; rfl), ?_, b, bs.take i, ?_, by rw [List.length_take]; omega, _, rfl, by rw [List.length_map]; omega,
      fun j acc M2 => acc = (((leftB b (bs.take i)).take j).map spotsB).map PyData.int ∧ M2 = M', ⟨rfl, rfl⟩, ?_, ?_⟩
    · rw [HT.sIx_nat, List.length_map]
      omega
    · rw [cutD_take (by rw [List.length_map]; omega), List.map_take]
    · rintro j d acc M2 hd ⟨rfl, rfl⟩
      obtain ⟨p, ep, rfl⟩ := map_get hd
      refine ⟨p, rfl, (left_sub hb.1 (List.mem_of_getElem? ep)).near hb.2, _, rfl, ?_, rfl⟩
      rw [← take_snoc _ ep, List.map_append]
      rfl
    · rintro acc M2 ⟨rfl, rfl⟩
      refine ⟨_, .inl rfl, ?_, rfl⟩
      rw [List.length_map, List.take_length]
      unfold sizeUp
      rw [List.range_succ, List.map_append, List.sum_append, List.map_singleton, List.sum_singleton, List.getD_eq_getElem?_getD, eb]
      rfl
  · rintro Δ M' ⟨k2, rfl, rfl⟩
    rw [List.length_map] 
    walk_at "rk"
    exact h
theorem ok_is_chain (T : Tx K mg) : FnOk P w K mg base CX0 3 T.f_is_chain T.d_is_chain ["boxes"] (lift K spChain) := by
  have G_steps_between : FnOk P w K mg base CX0 2 T.f_steps_between T.d_steps_between ["one", "other"] (lift K spBetween) := ok_steps_between T
  refine okD T.o_is_chain.F sc_is_chain (fun xs M Φ ⟨bs, e, _⟩ => by rw [e]; rfl) fun cdv A outer s H E hr => ⟨_, (dss_one (ds_ret (de_callB (cd_all rfl) rfl T.n_all bt_all (da_cons (de_comp false (compOk_of (sc := defScope s_is_chain) (XN := ["boxes"]) (N := ["k", "boxes"]) (ix := [none, some 0]) rfl rfl (by decide +kernel)) (di_range2 rfl T.n_range (da_cons de_int (da_cons (de_callB cd_len rfl T.n_len bt_len (da_cons (de_var 0) da_nil)) da_nil))) (fun C ex s H => (dg_name 0 (show List.Nodup (["k", "boxes"] : List Str) by decide +kernel))) (fun C ex s H => dts_nil) (fun C ex s H => (de_cmp od_le (de_call G_steps_between (hr.mono (by decide)) rfl T.o_steps_between.m T.o_steps_between.F.kp T.o_steps_between.b pass0 (da_cons (de_ix (de_var 1) (de_op od_sub (de_var 0) de_int)) (da_cons (de_ix (de_var 1) (de_var 0)) da_nil))) de_int)) rfl) da_nil)))), fun xs M Φ ⟨bs, e, hl, hc, h⟩ => ?_⟩
  subst e
  walk_at "rk"
  refine ⟨by decide, by decide, by omega, by rw [List.length_map]; omega, by rw [rngD_len, List.length_map]; omega, fun i acc M' => acc = (List.replicate i true).map PyData.bool ∧ M' = M, ⟨rfl, rfl⟩, ?_, ?_⟩
  · rintro i d acc M' hd ⟨rfl, rfl⟩
    obtain ⟨hi, rfl⟩ := rngD_inv hd
    rw [List.length_map] at hi
    obtain ⟨a, ea⟩ : ∃ a, bs[i]? = some a := ⟨bs[i]'(by omega), by simp⟩
    obtain ⟨b, eb⟩ : ∃ b, bs[i + 1]? = some b := ⟨bs[i + 1]'(by omega), by simp⟩
    have e1 : (1 + (i : Int) - 1) = (i : Int) := by omega
    have e2 : (1 + (i : Int)) = ((i + 1 : Nat) : Int) := by omega
    refine ⟨_, rfl, bD a, by rw [e1]; exact atI_nat (by rw [List.getElem?_map, ea]; rfl), _, rfl, bD b, by rw [e2]; exact atI_nat (by rw [List.getElem?_map, eb]; rfl), a.x, a.y, a.X, a.Y, b.x, b.y, b.X, b.Y, rfl, _, rfl, ?_, rfl⟩
    rw [decide_eq_true (show btw a.x a.y a.X a.Y b.x b.y b.X b.Y ≤ 1 from hc i a b ea eb), List.replicate_succ', List.map_append]
    rfl
  · rintro acc M' ⟨rfl, rfl⟩
    refine ⟨_, rfl, ?_⟩
    have ht : ∀ n, (List.replicate n true).all id = true := fun n => by simp
    rw [ht]
    exact h
theorem ok_is_shape (T : Tx K mg) : FnOk P w K mg base CX0 5 T.f_is_shape T.d_is_shape ["thing"] (lift K spIsShape) := by
  have G_is_chain : FnOk P w K mg base CX0 3 T.f_is_chain T.d_is_chain ["boxes"] (lift K spChain) := ok_is_chain T
  have G_is_box : FnOk P w K mg base CX0 4 T.f_is_box T.d_is_box ["thing"] (lift K (sp1 isBoxD)) := ok_is_box T
  refine okD T.o_is_shape.F sc_is_shape (fun xs M Φ ⟨bs, e, _⟩ => by rw [e]; rfl) fun cdv A outer s H E hr => ⟨_, (dss_cons (ds_if (DW.dt (dw_or (dt_not (dt_val (de_callB (cd_isi (kit_tuple _)) rfl T.n_isinstance bt_isinstance (da_cons (de_var 0) (da_cons (de_ty rfl T.n_tuple bt_tuple) da_nil))))) (dw_or1 (dt_not (dt_chain od_le od_le de_int (de_callB cd_len rfl T.n_len bt_len (da_cons (de_var 0) da_nil)) (de_globI rfl T.g_MOST_BOXES)))))) (dss_one (ds_ret de_bl)) dss_nil)
  (dss_one (ds_ret (de_and (de_callB (cd_all rfl) rfl T.n_all bt_all (da_cons (de_comp false (compOk_of (sc := defScope s_is_shape) (XN := ["thing"]) (N := ["box"]) (ix := [none]) rfl rfl (by decide +kernel)) (di_tup (de_var 0)) (fun C ex s H => (dg_name 0 (show List.Nodup (["box"] : List Str) by decide +kernel))) (fun C ex s H => dts_nil) (fun C ex s H => (de_call G_is_box (hr.mono (by decide)) rfl T.o_is_box.m T.o_is_box.F.kp T.o_is_box.b pass0 (da_cons (de_var 0) da_nil))) rfl) da_nil)) (de_one (de_call G_is_chain (hr.mono (by decide)) rfl T.o_is_chain.m T.o_is_chain.F.kp T.o_is_chain.b pass0 (da_cons (de_var 0) da_nil))))))), fun xs M Φ ⟨bs, e, h1, h2, hc, hb, h⟩ => ?_⟩
  subst e
  walk_at "rk"
  rw [if_neg (show ¬ (!isTyp "tuple" (.tuple (bs.map bD))) = true from Bool.false_ne_true), List.length_map, if_pos (by rw [decide_eq_true_eq]; omega), if_neg (by simp; omega)]
  refine ⟨by omega, fun i acc M' => acc = (List.replicate i true).map PyData.bool ∧ M' = M, ⟨rfl, rfl⟩, ?_, ?_⟩
  · rintro i d acc M' hd ⟨rfl, rfl⟩
    obtain ⟨b, eb, rfl⟩ := map_get hd
    rw [hb b (List.mem_of_getElem? eb)]
    refine ⟨?_, rfl⟩
    rw [List.replicate_succ', List.map_append]
    rfl
  · rintro acc M' ⟨rfl, rfl⟩
    refine ⟨_, rfl, ?_⟩
    rw [if_pos (by simp)]
    exact ⟨bs, rfl, h2, hc, h⟩
def Small (bs : List B4) : Prop := ∀ b ∈ bs, okB b = true ∧ (-100 ≤ b.x ∧ b.x ≤ 100) ∧ (-100 ≤ b.y ∧ b.y ≤ 100) ∧ (-100 ≤ b.X ∧ b.X ≤ 100) ∧ (-100 ≤ b.Y ∧ b.Y ≤ 100)
def strB (f ox oy : Int) (b : B4) : B4 := ⟨b.x * f + ox, b.y * f + oy, b.X * f + f - 1 + ox, b.Y * f + f - 1 + oy⟩
def spBoxes : DSp := fun xs M Φ => ∃ (p : Addr), xs = [.own p, .dat (.int 6)] ∧ Pen M p ∧ ∀ bs M', 1 ≤ bs.length → bs.length ≤ 6 → Chain bs → Small bs → Pen M' p → Φ (.dat (.list (bs.map bD))) M'
def spRing : DSp := fun xs M Φ => ∃ (p : Addr), xs = [.own p] ∧ Pen M p ∧ ∀ bs M', 1 ≤ bs.length → bs.length ≤ 6 → Chain bs → Small bs → Pen M' p → Φ (.dat (.list (bs.map bD))) M'
def Shf (f ox oy : Int) : Prop := 1 ≤ f ∧ f ≤ 10 ^ 10 ∧ -(10 ^ 11) ≤ ox ∧ ox ≤ 10 ^ 11 ∧ -(10 ^ 11) ≤ oy ∧ oy ≤ 10 ^ 11
def spStretched : DSp := fun xs M Φ => ∃ (bs : List B4) (f ox oy : Int), xs = [.dat (.list (bs.map bD)), .dat (.int f), .dat (.tuple [.int ox, .int oy])] ∧ bs.length ≤ 6 ∧ Small bs ∧ Φ (.dat (.tuple ((bs.map (strB f ox oy)).map bD))) M
def spStretch : DSp := fun xs M Φ => ∃ (p : Addr), xs = [.own p] ∧ Pen M p ∧ ∀ f ox oy o, Shf f ox oy → PenO o → Φ (.dat (.tuple [.int f, .tuple [.int ox, .int oy]])) (mset M p o)
def spHasL : DSp := fun xs M Φ => ∃ (bs : List B4) (u v : Int), xs = [.dat (.list (bs.map bD)), .dat (.int u), .dat (.int v)] ∧ Φ (.dat (.bool (bs.any fun b => hasB b u v))) M
def IsMin (m : Int) (l : List Int) : Prop := m ∈ l ∧ ∀ a ∈ l, m ≤ a
def IsMax (m : Int) (l : List Int) : Prop := m ∈ l ∧ ∀ a ∈ l, a ≤ m
theorem IsMin.eq {m n : Int} {l : List Int} (h : IsMin m l) (k : IsMin n l) : m = n := Int.le_antisymm (h.2 n k.1) (k.2 m h.1)
theorem IsMax.eq {m n : Int} {l : List Int} (h : IsMax m l) (k : IsMax n l) : m = n := Int.le_antisymm (k.2 m h.1) (h.2 n k.1)
theorem ex_min : ∀ {l : List Int}, l ≠ [] → ∃ m, IsMin m l
  | [], h => absurd rfl h
  | [a], _ => ⟨a, List.mem_singleton.mpr rfl, fun b hb => by rw [List.mem_singleton.mp hb]; exact Int.le_refl _⟩
  | a :: b :: l, _ => by
    obtain ⟨m, h1, h2⟩ := ex_min (l := b :: l) (by simp)
    by_cases h : a ≤ m
    · exact ⟨a, List.mem_cons_self, fun c hc => (List.mem_cons.mp hc).elim (fun e => by rw [e]; exact Int.le_refl _) fun z => Int.le_trans h (h2 c z)⟩
    · exact ⟨m, List.mem_cons_of_mem _ h1, fun c hc => (List.mem_cons.mp hc).elim (fun e => by omega) fun z => h2 c z⟩
theorem ex_max : ∀ {l : List Int}, l ≠ [] → ∃ m, IsMax m l
  | [], h => absurd rfl h
  | [a], _ => ⟨a, List.mem_singleton.mpr rfl, fun b hb => by rw [List.mem_singleton.mp hb]; exact Int.le_refl _⟩
  | a :: b :: l, _ => by
    obtain ⟨m, h1, h2⟩ := ex_max (l := b :: l) (by simp)
    by_cases h : m ≤ a
    · exact ⟨a, List.mem_cons_self, fun c hc => (List.mem_cons.mp hc).elim (fun e => by rw [e]; exact Int.le_refl _) fun z => Int.le_trans (h2 c z) h⟩
    · exact ⟨m, List.mem_cons_of_mem _ h1, fun c hc => (List.mem_cons.mp hc).elim (fun e => by omega) fun z => h2 c z⟩
def spSpan : DSp := fun xs M Φ => ∃ (bs : List B4) (w : Int), xs = [.dat (.list (bs.map bD)), .dat (.int w)] ∧ 1 ≤ bs.length ∧ bs.length ≤ 6 ∧ Small bs ∧
  ((w = 0 ∧ ∀ lo n, -200 ≤ lo → lo ≤ 200 → n ≤ 300 → (∀ b ∈ bs, lo ≤ b.x ∧ b.X < lo + (n : Nat)) → Φ (.dat (.list (rngD lo n))) M) ∨ (w = 1 ∧ ∀ lo n, -200 ≤ lo → lo ≤ 200 → n ≤ 300 → (∀ b ∈ bs, lo ≤ b.y ∧ b.Y < lo + (n : Nat)) → IsMin (lo + 2) (bs.map B4.y) → IsMax (lo + (n : Nat) - 3) (bs.map B4.Y) → Φ (.dat (.list (rngD lo n))) M))
def spRight : DSp := fun xs M Φ => ∃ (p : Addr) (bs : List B4) (f ox oy : Int), xs = [.own p, .dat (.list (bs.map bD)), .dat (.int f), .dat (.tuple [.int ox, .int oy])] ∧ Pen M p ∧ 1 ≤ bs.length ∧ bs.length ≤ 6 ∧ Small bs ∧ Shf f ox oy ∧ ∀ M', Pen M' p → Φ (.dat (.bool true)) M'
theorem ok_same (T : Tx K mg) : FnOk P w K mg base CX0 1 T.f_same T.d_same ["_law_found", "_law_due"] (lift K spSame) := by
  refine okD T.o_same.F sc_same (fun xs M Φ ⟨d, e, _⟩ => by rw [e]; rfl) fun cdv A outer s H E hr => ⟨_, (dss_one (ds_ret (de_and (de_cmp (od_eq hr) (de_var 0) (de_var 1)) (de_one (de_cmp od_eqS (de_callB (cd_repr hr) rfl T.n_repr bt_repr (da_cons (de_var 0) da_nil)) (de_callB (cd_repr hr) rfl T.n_repr bt_repr (da_cons (de_var 1) da_nil))))))), fun xs M Φ ⟨d, e, hs, hc, h⟩ => ?_⟩
  subst e
  walk_at "rd"
  rw [PySem.SeqAt.eqv_refl d hc, if_pos rfl]
  exact ⟨hc, hc, hs.dp, hs, hs, by simpa using h⟩
theorem Pen.ne {M : Mp} {p q : Addr} (h : Pen M p) (hq : M q = none) : p ≠ q := fun e => by
  obtain ⟨o, _, ho⟩ := h
  rw [e, hq] at ho
  cases ho
theorem Pen.put {M : Mp} {p q : Addr} {o : OO} (h : Pen M p) (hq : p ≠ q) : Pen (DL.mset M q o) p := by
  obtain ⟨o', h1, h2⟩ := h
  exact ⟨o', h1, by rw [mset_ne hq]; exact h2⟩
theorem Pen.del {M : Mp} {p q : Addr} (h : Pen M p) (hq : p ≠ q) : Pen (DL.mdel M q) p := by
  obtain ⟨o', h1, h2⟩ := h
  exact ⟨o', h1, by rw [mdel_ne hq]; exact h2⟩
def chainL : List B4 → Prop
  | a :: b :: r => apartB a b ≤ 1 ∧ chainL (b :: r)
  | _ => True
theorem chain_of : ∀ {l : List B4}, chainL l → Chain l
  | [], _, k, a, b, ha, hb => by simp at ha
  | [x], _, k, a, b, ha, hb => by simp at hb
  | x :: y :: r, h, 0, a, b, ha, hb => by
    have h' : apartB x y ≤ 1 ∧ chainL (y :: r) := h
    simp at ha hb
    subst ha hb
    exact h'.1
  | x :: y :: r, h, k + 1, a, b, ha, hb => by
    have h' : apartB x y ≤ 1 ∧ chainL (y :: r) := h
    exact chain_of h'.2 k a b (by simpa using ha) (by simpa using hb)
theorem chain_snoc {cs : List B4} {l b : B4} (h : Chain (cs ++ [l])) (hb : apartB l b ≤ 1) : Chain (cs ++ [l] ++ [b]) := fun k a c ha hc => by
  by_cases hk : k + 1 < (cs ++ [l]).length
  · rw [List.getElem?_append_left (by omega)] at ha
    rw [List.getElem?_append_left hk] at hc
    exact h k a c ha hc
  · have hl : k + 1 < (cs ++ [l] ++ [b]).length := (List.getElem?_eq_some_iff.mp hc).1
    rw [List.length_append, List.length_append, List.length_singleton, List.length_singleton] at hl
    rw [List.length_append, List.length_singleton] at hk
    have ek : k = cs.length := by omega
    subst ek
    simp at ha hc
    subst ha hc
    exact hb
theorem any_snoc {α : Type} {l : List α} {i : Nat} {q : α} (f : α → Bool) (h : l[i]? = some q) : (l.take (i + 1)).any f = ((l.take i).any f || f q) := by
  rw [List.take_add_one, h, List.any_append]
  simp
def Bd (i : Nat) (b : B4) : Prop := okB b = true ∧ (-(4 * (i : Int)) ≤ b.x ∧ b.X ≤ 16 + 4 * (i : Int)) ∧ (-(4 * (i : Int)) ≤ b.y ∧ b.Y ≤ 16 + 4 * (i : Int))
theorem Bd.mono {i : Nat} {b : B4} (h : Bd i b) : Bd (i + 1) b := by
  unfold Bd at *
  refine ⟨h.1, ?_, ?_⟩ <;> omega
theorem Bd.small {i : Nat} {b : B4} (h : Bd i b) (hi : i ≤ 6) : okB b = true ∧ (-100 ≤ b.x ∧ b.x ≤ 100) ∧ (-100 ≤ b.y ∧ b.y ≤ 100) ∧ (-100 ≤ b.X ∧ b.X ≤ 100) ∧ (-100 ≤ b.Y ∧ b.Y ≤ 100) := by
  have h0 := h.1
  unfold Bd at h
  unfold okB at h0
  simp only [Bool.and_eq_true, decide_eq_true_eq] at h0
  refine ⟨h.1, ?_, ?_, ?_, ?_⟩ <;> omega
theorem ok_boxes (T : Tx K mg) : FnOk P w K mg base CX0 2 T.f_boxes T.d_boxes ["_law_pen", "_law_most"] (lift K spBoxes) := by
  have G_take : FnOk P w K mg base CX0 1 T.f_take T.d_take ["_law_pen", "_law_many"] (lift K spTake) := ok_take T
  refine okD T.o_boxes.F sc_boxes (fun xs M Φ ⟨p, e, _⟩ => by rw [e]; rfl) fun cdv A outer s H E hr => ⟨_, (dss_cons (ds_set 2 sc_boxes.nd (de_lst (da_cons (de_call G_take (hr.mono (by decide)) rfl T.o_take.m T.o_take.F.kp T.o_take.b pass0 (da_cons (de_var 0) (da_cons de_int da_nil))) (da_cons (de_call G_take (hr.mono (by decide)) rfl T.o_take.m T.o_take.F.kp T.o_take.b pass0 (da_cons (de_var 0) (da_cons de_int da_nil))) da_nil))))
  (dss_cons (ds_set 3 sc_boxes.nd (de_lstO (da_cons (de_tup (da_cons (de_callTy cd_tupleOf rfl T.n_tuple bt_tuple (da_cons (de_var 2) da_nil)) (da_cons (de_tup (da_cons (de_op od_add (de_ix (de_var 2) de_int) (de_call G_take (hr.mono (by decide)) rfl T.o_take.m T.o_take.F.kp T.o_take.b pass0 (da_cons (de_var 0) (da_cons de_int da_nil)))) (da_cons (de_op od_add (de_ix (de_var 2) de_int) (de_call G_take (hr.mono (by decide)) rfl T.o_take.m T.o_take.F.kp T.o_take.b pass0 (da_cons (de_var 0) (da_cons de_int da_nil)))) da_nil))) da_nil))) da_nil)))
  (dss_cons (ds_forR1 rfl T.n_range (da_cons (de_call G_take (hr.mono (by decide)) rfl T.o_take.m T.o_take.F.kp T.o_take.b pass0 (da_cons (de_var 0) (da_cons (de_var 1) da_nil))) da_nil) (dg_name 4 sc_boxes.nd) (dss_cons (ds_asg (de_ix (de_var 3) (de_neg de_int)) (dg_tup (n := 2) rfl (dgs_cons (dg_name 6 sc_boxes.nd) (dgs_cons (dg_name 7 sc_boxes.nd) dgs_nil))))
  (dss_cons (ds_set 5 sc_boxes.nd (de_lst (da_cons (de_call G_take (hr.mono (by decide)) rfl T.o_take.m T.o_take.F.kp T.o_take.b pass0 (da_cons (de_var 0) (da_cons de_int da_nil))) (da_cons (de_call G_take (hr.mono (by decide)) rfl T.o_take.m T.o_take.F.kp T.o_take.b pass0 (da_cons (de_var 0) (da_cons de_int da_nil))) da_nil))))
  (dss_cons (ds_setC 2 false sc_boxes.nd (compOk_of (sc := defScope s_boxes) (XN := ["_law_pen", "_law_most", "_law_low", "_law_found", "_law_k", "_law_wide_here", "_law_first", "_law_last"]) (N := ["_law_w", "_law_pen", "_law_first", "_law_wide_here", "_law_last"]) (ix := [none, some 0, some 6, some 5, some 7]) rfl rfl (by decide +kernel)) (di_range1 rfl T.n_range (da_cons de_int da_nil)) (fun C ex s H => (dg_name 0 (show List.Nodup (["_law_w", "_law_pen", "_law_first", "_law_wide_here", "_law_last"] : List Str) by decide +kernel))) (fun C ex s H => dts_nil) (fun C ex s H => (de_op od_add (de_op od_sub (de_op od_sub (de_ix (de_var 2) (de_var 0)) (de_ix (de_var 3) (de_var 0))) de_int) (de_call G_take (hr.mono (by decide)) rfl T.o_take.m T.o_take.F.kp T.o_take.b pass0 (da_cons (de_var 1) (da_cons (de_op od_add (de_op od_add (de_op od_sub (de_ix (de_var 4) (de_var 0)) (de_ix (de_var 2) (de_var 0))) (de_ix (de_var 3) (de_var 0))) de_int) da_nil))))) rfl)
  (dss_one (ds_expr (de_append (de_var 3) (de_tup (da_cons (de_callTy cd_tupleOf rfl T.n_tuple bt_tuple (da_cons (de_var 2) da_nil)) (da_cons (de_tup (da_cons (de_op od_add (de_ix (de_var 2) de_int) (de_ix (de_var 5) de_int)) (da_cons (de_op od_add (de_ix (de_var 2) de_int) (de_ix (de_var 5) de_int)) da_nil))) da_nil))))))))) PassesOwn.never rfl)
  (dss_one (ds_ret (de_frz (de_var 3))))))), fun xs M Φ ⟨p, e, hp, h⟩ => ?_⟩
  subst e
  walk_at "rk"
  refine ⟨p, _, rfl, by decide, by decide, hp, fun r1 o1 a1 b1 ho1 => ?_⟩
  refine ⟨p, _, rfl, by decide, by decide, Pen.mset ho1, fun r2 o2 a2 b2 ho2 => ?_⟩
  walk_at "rk"
  refine ⟨p, _, rfl, by decide, by decide, Pen.mset ho2, fun r3 o3 a3 b3 ho3 => ?_⟩
  walk_at "rk"
  refine ⟨p, _, rfl, by decide, by decide, Pen.mset ho3, fun r4 o4 a4 b4 ho4 => ?_⟩
  walk_at "rk"
  intro q hq0
  have hpq : p ≠ q := fun e => fresh_ne hq0 e.symm
  refine ⟨p, _, rfl, by decide, by decide, Pen.put (Pen.mset ho4) hpq, fun r5 o5 a5 b5 ho5 => ?_⟩
  walk_at "rk"
  refine ⟨by omega, by omega, ?_⟩
  refine ⟨fun i Δ M' => ∃ (cs : List B4) (x y X Y : Int) (kl k4 k5 k6 k7 : Option DV), Δ = [some (.own p), some (.dat (.int 6)), kl, some (.own q), k4, k5, k6, k7] ∧ cs.length = i ∧ Chain (cs ++ [B4.mk x y X Y]) ∧ (∀ b ∈ cs ++ [B4.mk x y X Y], Bd i b) ∧
    M' q = some (.lst (cs.map bD ++ [.tuple [.tuple [.int x, .int y], .tuple [.int X, .int Y]]])) ∧ Pen M' p,
    ⟨[], r1, r2, r1 + r3, r2 + r4, _, _, _, _, _, rfl, rfl, chain_of (l := [B4.mk r1 r2 (r1 + r3) (r2 + r4)]) trivial, ?_, ?_, Pen.mset ho5⟩, ?_, ?_⟩
  · intro b hb
    rw [List.nil_append, List.mem_singleton] at hb
    subst hb
    unfold Bd okB
    simp only [Bool.and_eq_true, decide_eq_true_eq]
    omega
  · rw [mset_ne (Ne.symm hpq), mset_same]
    rfl
  · rintro i Δ M' hi ⟨cs, x, y, X, Y, kl, k4, k5, k6, k7, rfl, hl, hc, hb, hq, hP⟩
    have hbl := hb (B4.mk x y X Y) (List.mem_append_right _ (List.mem_singleton.mpr rfl))
    have hok := hbl.1
    unfold okB at hok
    simp only [Bool.and_eq_true, decide_eq_true_eq] at hok
    have hi6 : i < 6 := by omega
    have hbb := hbl.2
    dsimp only at hbb
    walk_at "rk"
    simp only [hq]
    simp only [Option.some.injEq, OO.lst.injEq, exists_eq_left', atI_last]
    walk_at "rk"
    refine ⟨p, _, rfl, by decide, by decide, hP, fun w1 o6 c1 c2 ho6 => ?_⟩
    refine ⟨p, _, rfl, by decide, by decide, Pen.mset ho6, fun w2 o7 c3 c4 ho7 => ?_⟩
    walk_at "rk"
    have hq7 : mset M' p o7 q = some (.lst (cs.map bD ++ [.tuple [.tuple [.int x, .int y], .tuple [.int X, .int Y]]])) := by rw [mset_ne (Ne.symm hpq)]; exact hq
    refine ⟨by decide, by decide, by rw [rngD_len]; decide, fun j acc M2 => ∃ ns : List Int, acc = ns.map PyData.int ∧ ns.length = j ∧ (∀ v, ns[0]? = some v → x - w1 - 1 ≤ v ∧ v ≤ X + 1) ∧ (∀ v, ns[1]? = some v → y - w2 - 1 ≤ v ∧ v ≤ Y + 1) ∧
      M2 q = some (.lst (cs.map bD ++ [.tuple [.tuple [.int x, .int y], .tuple [.int X, .int Y]]])) ∧ Pen M2 p, ⟨[], rfl, rfl, fun v hv => (nomatch hv), fun v hv => (nomatch hv), hq7, Pen.mset ho7⟩, ?_, ?_⟩
    · rintro j d acc M2 hd ⟨ns, rfl, hj, n1, n2, hq2, hP2⟩
      obtain ⟨hj2, rfl⟩ := rngD_inv hd
      have two : j = 0 ∨ j = 1 := by omega
      rcases two with rfl | rfl
      · simp only [show (0 : Int) + ((0 : Nat) : Int) = 0 from rfl]
        walk_at "rk"
        have en : ns = [] := List.length_eq_zero_iff.mp hj
        subst en
        refine ⟨p, _, rfl, by omega, by omega, hP2, fun r o h0 h1 ho => ⟨_, rfl, [x - w1 - 1 + r], rfl, rfl, fun v hv => ?_, fun v hv => (nomatch hv), by rw [mset_ne (Ne.symm hpq)]; exact hq2, Pen.mset ho⟩⟩
        have ev : x - w1 - 1 + r = v := by simpa using hv
        omega
      · simp only [show (0 : Int) + ((1 : Nat) : Int) = 1 from rfl]
        walk_at "rk"
        obtain ⟨n0, rfl⟩ : ∃ n0, ns = [n0] := by
          match ns, hj with
          | [n0], _ => exact ⟨n0, rfl⟩
        refine ⟨p, _, rfl, by omega, by omega, hP2, fun r o h0 h1 ho => ⟨_, rfl, [n0, y - w2 - 1 + r], rfl, rfl, fun v hv => n1 v hv, fun v hv => ?_, by rw [mset_ne (Ne.symm hpq)]; exact hq2, Pen.mset ho⟩⟩
        have ev : y - w2 - 1 + r = v := by simpa using hv
        omega
    · rintro acc M2 ⟨ns, rfl, hj, n1, n2, hq2, hP2⟩
      rw [rngD_len] at hj
      have two : ∃ a b, ns = [a, b] := by
        match ns, hj with
        | [a, b], _ => exact ⟨a, b, rfl⟩
      obtain ⟨a, b, rfl⟩ := two
      have n1 := n1 a rfl
      have n2 := n2 b rfl
      walk_at "rk"
      refine ⟨⟨_, hq2⟩, _, hq2, by rw [List.length_append, List.length_map, List.length_singleton]; omega, cs ++ [B4.mk x y X Y], by rw [List.length_append, hl]; rfl, a, b, a + w1, b + w2,
        chain_snoc hc (by unfold apartB btw gp; dsimp only; omega), fun b' hb' => ?_, by rw [List.map_append]; rfl, Pen.put hP2 hpq⟩
      rcases List.mem_append.mp hb' with hb' | hb'
      · exact (hb b' hb').mono
      · rw [List.mem_singleton.mp hb']
        unfold Bd okB
        simp only [Bool.and_eq_true, decide_eq_true_eq]
        omega
  · rintro Δ M' ⟨cs, x, y, X, Y, kl, k4, k5, k6, k7, rfl, hl, hc, hb, hq, hP⟩
    walk_at "rk"
    refine ⟨_, hq, ?_⟩
    have e : cs.map bD ++ [.tuple [.tuple [.int x, .int y], .tuple [.int X, .int Y]]] = (cs ++ [B4.mk x y X Y]).map bD := by rw [List.map_append]; rfl
    rw [e]
    exact h _ _ (by rw [List.length_append, List.length_singleton]; omega) (by rw [List.length_append, List.length_singleton]; omega) hc (fun b hm => (hb b hm).small (by omega)) (hP.del hpq)
theorem ok_stretched (T : Tx K mg) : FnOk P w K mg base CX0 1 T.f_stretched T.d_stretched ["_law_boxes_here", "_law_by", "_law_off"] (lift K spStretched) := by
  refine okG T.o_stretched.F sc_stretched (fun xs M Φ ⟨bs, f, ox, oy, e, _⟩ => by rw [e]; rfl) fun cdv A outer s H E hr => ⟨_, (dss_cons (ds_set 3 sc_stretched.nd (de_lstO da_nil))
  (dss_cons (ds_forL (de_var 0) (dg_tup (n := 2) rfl (dgs_cons (dg_name 4 sc_stretched.nd) (dgs_cons (dg_name 5 sc_stretched.nd) dgs_nil))) (dss_cons (ds_set 6 sc_stretched.nd (de_tup (da_cons (de_op od_add (de_op od_mul (de_ix (de_var 4) de_int) (de_var 1)) (de_ix (de_var 2) de_int)) (da_cons (de_op od_add (de_op od_mul (de_ix (de_var 4) de_int) (de_var 1)) (de_ix (de_var 2) de_int)) da_nil))))
  (dss_one (ds_expr (de_append (de_var 3) (de_tup (da_cons (de_var 6) (da_cons (de_tup (da_cons (de_op od_add (de_op od_sub (de_op od_add (de_op od_mul (de_ix (de_var 5) de_int) (de_var 1)) (de_var 1)) de_int) (de_ix (de_var 2) de_int)) (da_cons (de_op od_add (de_op od_sub (de_op od_add (de_op od_mul (de_ix (de_var 5) de_int) (de_var 1)) (de_var 1)) de_int) (de_ix (de_var 2) de_int)) da_nil))) da_nil))))))) PassesOwn.never rfl)
  (dss_one (ds_ret (de_callTy cd_tupleOf rfl T.n_tuple bt_tuple (da_cons (de_var 3) da_nil)))))), fun xs M Φ ⟨bs, f, ox, oy, e, hl, hs, h⟩ => ?_⟩
  subst e
  walk_at "rk"
  intro q hq
  refine ⟨fun i Δ M' => ∃ k4 k5 k6, Δ = [some (.dat (.list (bs.map bD))), some (.dat (.int f)), some (.dat (.tuple [.int ox, .int oy])), some (.own q), k4, k5, k6] ∧ M' = mset M q (.lst (((bs.take i).map (strB f ox oy)).map bD)), ⟨none, none, none, rfl, rfl⟩, ?_, ?_⟩
  · rintro i d Δ M' hd ⟨k4, k5, k6, rfl, rfl⟩
    obtain ⟨⟨x, y, X, Y⟩, eb, rfl⟩ := map_get hd
    have hb := hs _ (List.mem_of_getElem? eb)
    dsimp only at hb
    walk_at "rk"
    refine ⟨.inl (by omega), .inl (by omega), .inl (by omega), .inl (by omega), by rw [List.length_map, List.length_map, List.length_take]; omega, ?_⟩
    rw [← take_snoc (strB f ox oy) eb, List.map_append]
    rfl
  · rintro Δ M' ⟨k4, k5, k6, rfl, rfl⟩
    rw [List.length_map, List.take_length]
    walk_at "rk"
    exact gc_one hq h
theorem ok_stretch (T : Tx K mg) : FnOk P w K mg base CX0 3 T.f_stretch T.d_stretch ["_law_pen"] (lift K spStretch) := by
  have G_take : FnOk P w K mg base CX0 1 T.f_take T.d_take ["_law_pen", "_law_many"] (lift K spTake) := ok_take T
  have G_wide : FnOk P w K mg base CX0 2 T.f_wide T.d_wide ["_law_pen", "_law_many"] (lift K spWide) := ok_wide T
  refine okD T.o_stretch.F sc_stretch (fun xs M Φ ⟨p, e, _⟩ => by rw [e]; rfl) fun cdv A outer s H E hr => ⟨_, (dss_cons (ds_set 1 sc_stretch.nd (de_ix (de_lst (da_cons de_int (da_cons de_int (da_cons de_int (da_cons de_int (da_cons de_int (da_cons (de_op od_pow de_int de_int) da_nil))))))) (de_call G_take (hr.mono (by decide)) rfl T.o_take.m T.o_take.F.kp T.o_take.b pass0 (da_cons (de_var 0) (da_cons de_int da_nil)))))
  (dss_cons (ds_set 2 sc_stretch.nd (de_ix (de_lst (da_cons (de_tup (da_cons de_int (da_cons de_int da_nil))) (da_cons (de_tup (da_cons (de_op od_sub (de_call G_take (hr.mono (by decide)) rfl T.o_take.m T.o_take.F.kp T.o_take.b pass0 (da_cons (de_var 0) (da_cons de_int da_nil))) de_int) (da_cons (de_op od_sub (de_call G_take (hr.mono (by decide)) rfl T.o_take.m T.o_take.F.kp T.o_take.b pass0 (da_cons (de_var 0) (da_cons de_int da_nil))) de_int) da_nil))) da_nil))) (de_call G_take (hr.mono (by decide)) rfl T.o_take.m T.o_take.F.kp T.o_take.b pass0 (da_cons (de_var 0) (da_cons de_int da_nil)))))
  (dss_cons (ds_if (dt_cmp (od_eq hr) (de_var 1) (de_op od_pow de_int de_int)) (dss_one (ds_set 2 sc_stretch.nd (de_tup (da_cons (de_call G_wide (hr.mono (by decide)) rfl T.o_wide.m T.o_wide.F.kp T.o_wide.b pass0 (da_cons (de_var 0) (da_cons (de_op od_pow de_int de_int) da_nil))) (da_cons (de_op od_sub de_int (de_call G_wide (hr.mono (by decide)) rfl T.o_wide.m T.o_wide.F.kp T.o_wide.b pass0 (da_cons (de_var 0) (da_cons (de_op od_pow de_int de_int) da_nil)))) da_nil))))) dss_nil)
  (dss_one (ds_ret (de_tup (da_cons (de_var 1) (da_cons (de_var 2) da_nil)))))))), fun xs M Φ ⟨p, e, hp, h⟩ => ?_⟩
  subst e
  walk_at "rk"
  refine ⟨cp10 _ (by decide), p, _, rfl, by decide, by decide, hp, fun r1 o1 a1 b1 ho1 => ?_⟩
  walk_at "rk"
  obtain ⟨f, ef, hf⟩ := atI_mem (l := [PyData.int 1, PyData.int 1, PyData.int 1, PyData.int 2, PyData.int 1000, PyData.int 10000000000]) (i := r1) a1 (by simp only [List.length_cons, List.length_nil]; omega)
  have hf' : ∃ b : Int, f = .int b ∧ 1 ≤ b ∧ b ≤ 10 ^ 10 := by
    simp only [List.mem_cons, List.not_mem_nil, or_false] at hf
    rcases hf with rfl | rfl | rfl | rfl | rfl | rfl
    all_goals exact ⟨_, rfl, by decide, by decide⟩
  obtain ⟨f, rfl, hf1, hf2⟩ := hf'
  refine ⟨_, ef, p, _, rfl, by decide, by decide, Pen.mset ho1, fun r2 o2 a2 b2 ho2 => ?_⟩
  walk_at "rk"
  refine ⟨p, _, rfl, by decide, by decide, Pen.mset ho2, fun r3 o3 a3 b3 ho3 => ?_⟩
  walk_at "rk"
  refine ⟨p, _, rfl, by decide, by decide, Pen.mset ho3, fun r4 o4 a4 b4 ho4 => ?_⟩
  walk_at "rk"
  obtain ⟨g, eg, hg⟩ := atI_mem (l := [PyData.tuple [PyData.int 0, PyData.int 0], PyData.tuple [PyData.int (r2 - 20), PyData.int (r3 - 20)]]) (i := r4) a4 (by simp only [List.length_cons, List.length_nil]; omega)
  have hg' : ∃ a b : Int, g = .tuple [.int a, .int b] ∧ (-100 ≤ a ∧ a ≤ 100) ∧ (-100 ≤ b ∧ b ≤ 100) := by
    simp only [List.mem_cons, List.not_mem_nil, or_false] at hg
    rcases hg with rfl | rfl
    all_goals exact ⟨_, _, rfl, by omega, by omega⟩
  obtain ⟨a, b, rfl, hga, hgb⟩ := hg'
  refine ⟨_, eg, cp10 _ (by decide), ?_⟩
  rw [eqvI]
  refine cases_true (fun hk => ?_) (fun hk => ?_)
  · refine ⟨cp10 _ (by decide), p, _, rfl, by decide, log60 (by decide), Pen.mset ho4, fun r5 o5 a5 b5 ho5 => ?_⟩
    refine ⟨cp10 _ (by decide), p, _, rfl, by decide, log60 (by decide), Pen.mset ho5, fun r6 o6 a6 b6 ho6 => ?_⟩
    walk_at "rk"
    exact h f r5 (0 - r6) o6 ⟨hf1, hf2, by omega, by omega, by omega, by omega⟩ ho6
  · exact h f a b o4 ⟨hf1, hf2, by omega, by omega, by omega, by omega⟩ ho4
theorem ok_ring (T : Tx K mg) : FnOk P w K mg base CX0 2 T.f_ring T.d_ring ["_law_pen"] (lift K spRing) := by
  have G_take : FnOk P w K mg base CX0 1 T.f_take T.d_take ["_law_pen", "_law_many"] (lift K spTake) := ok_take T
  refine okD T.o_ring.F sc_ring (fun xs M Φ ⟨p, e, _⟩ => by rw [e]; rfl) fun cdv A outer s H E hr => ⟨_, (dss_cons (ds_par 2 3 rfl sc_ring.nd (da_cons (de_call G_take (hr.mono (by decide)) rfl T.o_take.m T.o_take.F.kp T.o_take.b pass0 (da_cons (de_var 0) (da_cons de_int da_nil))) (da_cons (de_call G_take (hr.mono (by decide)) rfl T.o_take.m T.o_take.F.kp T.o_take.b pass0 (da_cons (de_var 0) (da_cons de_int da_nil))) da_nil)))
  (dss_cons (ds_par 4 5 rfl sc_ring.nd (da_cons (de_op od_add de_int (de_call G_take (hr.mono (by decide)) rfl T.o_take.m T.o_take.F.kp T.o_take.b pass0 (da_cons (de_var 0) (da_cons de_int da_nil)))) (da_cons (de_op od_add de_int (de_call G_take (hr.mono (by decide)) rfl T.o_take.m T.o_take.F.kp T.o_take.b pass0 (da_cons (de_var 0) (da_cons de_int da_nil)))) da_nil)))
  (dss_cons (ds_set 1 sc_ring.nd (de_lstO (da_cons (de_tup (da_cons (de_tup (da_cons (de_var 2) (da_cons (de_var 3) da_nil))) (da_cons (de_tup (da_cons (de_op od_add (de_var 2) (de_var 4)) (da_cons (de_var 3) da_nil))) da_nil))) (da_cons (de_tup (da_cons (de_tup (da_cons (de_op od_add (de_var 2) (de_var 4)) (da_cons (de_var 3) da_nil))) (da_cons (de_tup (da_cons (de_op od_add (de_var 2) (de_var 4)) (da_cons (de_op od_add (de_var 3) (de_var 5)) da_nil))) da_nil))) (da_cons (de_tup (da_cons (de_tup (da_cons (de_var 2) (da_cons (de_op od_add (de_var 3) (de_var 5)) da_nil))) (da_cons (de_tup (da_cons (de_op od_add (de_var 2) (de_var 4)) (da_cons (de_op od_add (de_var 3) (de_var 5)) da_nil))) da_nil))) da_nil)))))
  (dss_cons (ds_expr (de_append (de_var 1) (de_tup (da_cons (de_tup (da_cons (de_var 2) (da_cons (de_var 3) da_nil))) (da_cons (de_tup (da_cons (de_var 2) (da_cons (de_op od_add (de_var 3) (de_var 5)) da_nil))) da_nil)))))
  (dss_one (ds_ret (de_op od_catS (de_var 1) (de_sliceS (de_var 1) do_none (do_some (de_call G_take (hr.mono (by decide)) rfl T.o_take.m T.o_take.F.kp T.o_take.b pass0 (da_cons (de_var 0) (da_cons de_int da_nil)))))))))))), fun xs M Φ ⟨p, e, hp, h⟩ => ?_⟩
  subst e
  walk_at "rk"
  refine ⟨p, _, rfl, by decide, by decide, hp, fun r1 o1 a1 b1 ho1 => ?_⟩
  refine ⟨p, _, rfl, by decide, by decide, Pen.mset ho1, fun r2 o2 a2 b2 ho2 => ?_⟩
  refine ⟨p, _, rfl, by decide, by decide, Pen.mset ho2, fun r3 o3 a3 b3 ho3 => ?_⟩
  walk_at "rk"
  refine ⟨p, _, rfl, by decide, by decide, Pen.mset ho3, fun r4 o4 a4 b4 ho4 => ?_⟩
  walk_at "rk"
  intro q hq0
  have hpq : p ≠ q := fun e => fresh_ne hq0 e.symm
  refine ⟨by decide, p, _, rfl, by decide, by decide, Pen.put (Pen.mset ho4) hpq, fun r5 o5 a5 b5 ho5 => ?_⟩
  walk_at "rk"
  obtain ⟨n, rfl⟩ : ∃ n : Nat, r5 = (n : Int) := ⟨r5.toNat, by omega⟩
  have hn : n ≤ 2 := by omega
  generalize eL : ([⟨r1, r2, r1 + (2 + r3), r2⟩, ⟨r1 + (2 + r3), r2, r1 + (2 + r3), r2 + (2 + r4)⟩, ⟨r1, r2 + (2 + r4), r1 + (2 + r3), r2 + (2 + r4)⟩, ⟨r1, r2, r1, r2 + (2 + r4)⟩] : List B4) = L
  have hL : L.length = 4 := by rw [← eL]; rfl
  have hq : mset (mset (mset M p o4) q (.lst (L.map bD))) p o5 q = some (.lst (L.map bD)) := by rw [mset_ne (Ne.symm hpq), mset_same]
  have hls : LsOf (.own q) (mset (mset (mset M p o4) q (.lst (L.map bD))) p o5) (L.map bD) := .inr ⟨q, rfl, hq⟩
  rw [← eL] at hls
  refine ⟨_, hls, _, hls, _, .inl rfl, ?_, ?_⟩
  · rw [eL, cutD_take (by rw [List.length_map]; omega), List.length_take, List.length_map]
    omega
  · rw [eL, cutD_take (by rw [List.length_map]; omega), ← List.map_take, ← List.map_append]
    have hch : Chain (L ++ L.take n) := by
      have three : n = 0 ∨ n = 1 ∨ n = 2 := by omega
      subst eL
      refine chain_of ?_
      rcases three with rfl | rfl | rfl
      all_goals simp only [List.take, List.cons_append, List.nil_append, List.append_nil, chainL, and_true]
      all_goals unfold apartB btw gp
      all_goals dsimp only
      all_goals omega
    have hsm : ∀ b ∈ L, okB b = true ∧ (-100 ≤ b.x ∧ b.x ≤ 100) ∧ (-100 ≤ b.y ∧ b.y ≤ 100) ∧ (-100 ≤ b.X ∧ b.X ≤ 100) ∧ (-100 ≤ b.Y ∧ b.Y ≤ 100) := by
      subst eL
      intro b hb
      unfold okB
      simp only [Bool.and_eq_true, decide_eq_true_eq]
      simp only [List.mem_cons, List.not_mem_nil, or_false] at hb
      rcases hb with rfl | rfl | rfl | rfl
      all_goals (dsimp only; omega)
    exact h _ _ (by rw [List.length_append]; omega) (by rw [List.length_append, List.length_take]; omega) hch (fun b hb => hsm b ((List.mem_append.mp hb).elim id fun z => List.mem_of_mem_take z)) (Pen.mset ho5)
theorem ok_l_has (T : Tx K mg) : FnOk P w K mg base CX0 1 T.f_l_has T.d_l_has ["_law_boxes_here", "_law_x", "_law_y"] (lift K spHasL) := by
  refine okD T.o_l_has.F sc_l_has (fun xs M Φ ⟨bs, u, v, e, _⟩ => by rw [e]; rfl) fun cdv A outer s H E hr => ⟨_, (dss_cons (ds_set 3 sc_l_has.nd de_bl)
  (dss_cons (ds_forL (de_var 0) (dg_tup (n := 2) rfl (dgs_cons (dg_name 4 sc_l_has.nd) (dgs_cons (dg_name 5 sc_l_has.nd) dgs_nil))) (dss_one (ds_if (dt_not (DW.dt (dw_or (dt_cmp od_lt (de_var 1) (de_ix (de_var 4) de_int)) (dw_or (dt_cmp od_gt (de_var 1) (de_ix (de_var 5) de_int)) (dw_or (dt_cmp od_lt (de_var 2) (de_ix (de_var 4) de_int)) (dw_or1 (dt_cmp od_gt (de_var 2) (de_ix (de_var 5) de_int)))))))) (dss_one (ds_set 3 sc_l_has.nd de_bl)) dss_nil)) PassesOwn.never rfl)
  (dss_one (ds_ret (de_var 3))))), fun xs M Φ ⟨bs, u, v, e, h⟩ => ?_⟩
  subst e
  walk_at "rk"
  refine ⟨fun i Δ M' => ∃ k4 k5, Δ = [some (.dat (.list (bs.map bD))), some (.dat (.int u)), some (.dat (.int v)), some (.dat (.bool ((bs.take i).any fun b => hasB b u v))), k4, k5] ∧ M' = M, ⟨none, none, rfl, rfl⟩, ?_, ?_⟩
  · rintro i d Δ M' hd ⟨k4, k5, rfl, rfl⟩
    obtain ⟨⟨x, y, X, Y⟩, eb, rfl⟩ := map_get hd
    walk_at "rk"
    rw [any_snoc _ eb]
    have no : (¬ (x ≤ u ∧ u ≤ X ∧ y ≤ v ∧ v ≤ Y)) → ((bs.take i).any fun b => hasB b u v) = (((bs.take i).any fun b => hasB b u v) || hasB ⟨x, y, X, Y⟩ u v) := fun z => by
      rw [show hasB ⟨x, y, X, Y⟩ u v = false from decide_eq_false z, Bool.or_false]
    refine cases_true (fun q1 => no (by omega)) fun q1 => cases_true (fun q2 => no (by omega)) fun q2 => cases_true (fun q3 => no (by omega)) fun q3 => ?_
    by_cases q4 : Y < v
    · rw [decide_eq_true q4, if_neg (by decide)]
      exact no (by omega)
    · rw [decide_eq_false q4, if_pos (by decide), show hasB ⟨x, y, X, Y⟩ u v = true from decide_eq_true (by dsimp only; omega), Bool.or_true]
  · rintro Δ M' ⟨k4, k5, rfl, rfl⟩
    rw [List.length_map, List.take_length]
    walk_at "rk"
    exact h
theorem ok_span (T : Tx K mg) : FnOk P w K mg base CX0 1 T.f_span T.d_span ["_law_boxes_here", "_law_w"] (lift K spSpan) := by
  refine okD T.o_span.F sc_span (fun xs M Φ ⟨bs, w, e, _⟩ => by rw [e]; rfl) fun cdv A outer s H E hr => ⟨_, (dss_one (ds_ret (de_listR2 rfl rfl T.n_list bt_list rfl T.n_range (da_cons (de_op od_sub (de_callB (cd_minI rfl) rfl T.n_min bt_min (da_cons (de_comp false (compOk_of (sc := defScope s_span) (XN := ["_law_boxes_here", "_law_w"]) (N := ["_law_low", "_law_high", "_law_w"]) (ix := [none, none, some 1]) rfl rfl (by decide +kernel)) (di_list (de_var 0)) (fun C ex s H => (dg_tup (n := 2) rfl (dgs_cons (dg_name 0 (show List.Nodup (["_law_low", "_law_high", "_law_w"] : List Str) by decide +kernel)) (dgs_cons (dg_name 1 (show List.Nodup (["_law_low", "_law_high", "_law_w"] : List Str) by decide +kernel)) dgs_nil)))) (fun C ex s H => dts_nil) (fun C ex s H => (de_ix (de_var 0) (de_var 2))) rfl) da_nil)) de_int) (da_cons (de_op od_add (de_callB (cd_maxI rfl) rfl T.n_max bt_max (da_cons (de_comp false (compOk_of (sc := defScope s_span) (XN := ["_law_boxes_here", "_law_w"]) (N := ["_law_low", "_law_high", "_law_w"]) (ix := [none, none, some 1]) rfl rfl (by decide +kernel)) (di_list (de_var 0)) (fun C ex s H => (dg_tup (n := 2) rfl (dgs_cons (dg_name 0 (show List.Nodup (["_law_low", "_law_high", "_law_w"] : List Str) by decide +kernel)) (dgs_cons (dg_name 1 (show List.Nodup (["_law_low", "_law_high", "_law_w"] : List Str) by decide +kernel)) dgs_nil)))) (fun C ex s H => dts_nil) (fun C ex s H => (de_ix (de_var 1) (de_var 2))) rfl) da_nil)) de_int) da_nil))))), fun xs M Φ ⟨bs, w, e, h1, h2, hs, h⟩ => ?_⟩
  subst e
  rcases h with ⟨rfl, h⟩ | ⟨rfl, h⟩
  · walk_at "rk"
    refine ⟨by rw [List.length_map]; omega, fun i acc M' => acc = ((bs.take i).map B4.x).map PyData.int ∧ M' = M, ⟨rfl, rfl⟩, ?_, ?_⟩
    · rintro i d acc M' hd ⟨rfl, rfl⟩
      obtain ⟨⟨x, y, X, Y⟩, eb, rfl⟩ := map_get hd
      walk_at "rk"
      rw [← take_snoc _ eb, List.map_append]
      rfl
    · rintro acc M' ⟨rfl, rfl⟩
      rw [List.length_map, List.take_length]
      refine ⟨_, .inl rfl, by rw [List.length_map]; omega, fun m hm hmin => ⟨by omega, fun i acc M2 => acc = ((bs.take i).map B4.X).map PyData.int ∧ M2 = M', ⟨rfl, rfl⟩, ?_, ?_⟩⟩
      · rintro i d acc M2 hd ⟨rfl, rfl⟩
        obtain ⟨⟨x, y, X, Y⟩, eb, rfl⟩ := map_get hd
        walk_at "rk"
        rw [← take_snoc _ eb, List.map_append]
        rfl
      · rintro acc M2 ⟨rfl, rfl⟩
        rw [List.take_length]
        refine ⟨_, .inl rfl, by rw [List.length_map]; omega, fun n hn hmax => ?_⟩
        obtain ⟨b1, hb1, rfl⟩ := List.mem_map.mp hm
        obtain ⟨b2, hb2, rfl⟩ := List.mem_map.mp hn
        have s1 := hs b1 hb1
        have s2 := hs b2 hb2
        refine ⟨by omega, by omega, by omega, by omega, by omega, h _ _ (by omega) (by omega) (by omega) fun b hb => ?_⟩
        have u1 := hmin b.x (List.mem_map.mpr ⟨b, hb, rfl⟩)
        have u2 := hmax b.X (List.mem_map.mpr ⟨b, hb, rfl⟩)
        have s3 := (hs b hb).1
        unfold okB at s3
        simp only [Bool.and_eq_true, decide_eq_true_eq] at s3
        omega
  · walk_at "rk"
    refine ⟨by rw [List.length_map]; omega, fun i acc M' => acc = ((bs.take i).map B4.y).map PyData.int ∧ M' = M, ⟨rfl, rfl⟩, ?_, ?_⟩
    · rintro i d acc M' hd ⟨rfl, rfl⟩
      obtain ⟨⟨x, y, X, Y⟩, eb, rfl⟩ := map_get hd
      walk_at "rk"
      rw [← take_snoc _ eb, List.map_append]
      rfl
    · rintro acc M' ⟨rfl, rfl⟩
      rw [List.length_map, List.take_length]
      refine ⟨_, .inl rfl, by rw [List.length_map]; omega, fun m hm hmin => ⟨by omega, fun i acc M2 => acc = ((bs.take i).map B4.Y).map PyData.int ∧ M2 = M', ⟨rfl, rfl⟩, ?_, ?_⟩⟩
      · rintro i d acc M2 hd ⟨rfl, rfl⟩
        obtain ⟨⟨x, y, X, Y⟩, eb, rfl⟩ := map_get hd
        walk_at "rk"
        rw [← take_snoc _ eb, List.map_append]
        rfl
      · rintro acc M2 ⟨rfl, rfl⟩
        rw [List.take_length]
        refine ⟨_, .inl rfl, by rw [List.length_map]; omega, fun n hn hmax => ?_⟩
        obtain ⟨b1, hb1, rfl⟩ := List.mem_map.mp hm
        obtain ⟨b2, hb2, rfl⟩ := List.mem_map.mp hn
        have s1 := hs b1 hb1
        have s2 := hs b2 hb2
        refine ⟨by omega, by omega, by omega, by omega, by omega, ?_⟩
        have okk := (hs b1 hb1).1
        unfold okB at okk
        simp only [Bool.and_eq_true, decide_eq_true_eq] at okk
        have mx1 := hmax b1.Y (List.mem_map.mpr ⟨b1, hb1, rfl⟩)
        have en : b1.y - 2 + (((b2.Y + 3 - (b1.y - 2)).toNat : Nat) : Int) - 3 = b2.Y := by omega
        refine h _ _ (by omega) (by omega) (by omega) (fun b hb => ?_) (by rw [show b1.y - 2 + 2 = b1.y by omega]; exact ⟨hm, hmin⟩) (by rw [en]; exact ⟨hn, hmax⟩)
        have u1 := hmin b.y (List.mem_map.mpr ⟨b, hb, rfl⟩)
        have u2 := hmax b.Y (List.mem_map.mpr ⟨b, hb, rfl⟩)
        have s3 := (hs b hb).1
        unfold okB at s3
        simp only [Bool.and_eq_true, decide_eq_true_eq] at s3
        omega
/-! ### sums over a grid -/
def ind (b : Bool) : Int := if b = true then 1 else 0
def Sm : Nat → (Nat → Int) → Int
  | 0, _ => 0
  | n + 1, f => Sm n f + f n
theorem Sm_congr : ∀ {n : Nat} {f g : Nat → Int}, (∀ i, i < n → f i = g i) → Sm n f = Sm n g
  | 0, _, _, _ => rfl
  | n + 1, f, g, h => by
    show Sm n f + f n = Sm n g + g n
    rw [Sm_congr fun i hi => h i (by omega), h n (by omega)]
theorem Sm_add : ∀ (n : Nat) (f g : Nat → Int), Sm n (fun i => f i + g i) = Sm n f + Sm n g
  | 0, _, _ => rfl
  | n + 1, f, g => by
    show Sm n (fun i => f i + g i) + (f n + g n) = Sm n f + f n + (Sm n g + g n)
    rw [Sm_add]; omega
theorem Sm_mul : ∀ (n : Nat) (f : Nat → Int) (c : Int), Sm n (fun i => f i * c) = Sm n f * c
  | 0, _, c => (Int.zero_mul c).symm
  | n + 1, f, c => by
    show Sm n (fun i => f i * c) + f n * c = (Sm n f + f n) * c
    rw [Sm_mul, Int.add_mul]
theorem Sm_mul' (n : Nat) (f : Nat → Int) (c : Int) : Sm n (fun i => c * f i) = c * Sm n f := by
  rw [Int.mul_comm c, ← Sm_mul]
  exact Sm_congr fun i _ => Int.mul_comm _ _
theorem Sm_zero : ∀ n : Nat, Sm n (fun _ => 0) = 0
  | 0 => rfl
  | n + 1 => by show Sm n (fun _ => 0) + 0 = 0; rw [Sm_zero]; rfl
theorem Sm_const : ∀ (n : Nat) (c : Int), Sm n (fun _ => c) = n * c
  | 0, c => by show (0 : Int) = ((0 : Nat) : Int) * c; simp
  | n + 1, c => by
    show Sm n (fun _ => c) + c = ((n + 1 : Nat) : Int) * c
    rw [Sm_const, Int.natCast_add, Int.add_mul]; simp
theorem Sm_append : ∀ (a b : Nat) (f : Nat → Int), Sm (a + b) f = Sm a f + Sm b fun i => f (a + i)
  | a, 0, f => by show Sm a f = Sm a f + 0; omega
  | a, b + 1, f => by
    show Sm (a + b) f + f (a + b) = Sm a f + (Sm b (fun i => f (a + i)) + f (a + b))
    rw [Sm_append]; omega
theorem Sm_bound : ∀ {n : Nat} {f : Nat → Int} {c : Int}, (∀ i, 0 ≤ f i ∧ f i ≤ c) → 0 ≤ Sm n f ∧ Sm n f ≤ n * c
  | 0, f, c, h => by
    show (0 : Int) ≤ 0 ∧ (0 : Int) ≤ ((0 : Nat) : Int) * c
    simp
  | n + 1, f, c, h => by
    have h1 := Sm_bound (n := n) h
    have h2 := h n
    show 0 ≤ Sm n f + f n ∧ Sm n f + f n ≤ ((n + 1 : Nat) : Int) * c
    rw [Int.natCast_add, Int.add_mul]
    simp only [Int.natCast_one, Int.one_mul]
    omega
theorem ind_b (b : Bool) : 0 ≤ ind b ∧ ind b ≤ 1 := by cases b <;> decide
theorem Sm_ivl (lo a b : Int) : ∀ n : Nat, Sm n (fun (i : Nat) => ind (decide (a ≤ lo + (i : Int) ∧ lo + (i : Int) ≤ b))) = max 0 (min b (lo + (n : Int) - 1) - max a lo + 1)
  | 0 => by
    show (0 : Int) = _
    omega
  | n + 1 => by
    show Sm n _ + ind (decide (a ≤ lo + (n : Int) ∧ lo + (n : Int) ≤ b)) = _
    rw [Sm_ivl lo a b n]
    unfold ind
    by_cases h : a ≤ lo + (n : Int) ∧ lo + (n : Int) ≤ b
    · rw [decide_eq_true h, if_pos rfl]; omega
    · rw [decide_eq_false h, if_neg Bool.false_ne_true]; omega
theorem Sm_scale {F : Nat} (hF : 0 < F) (g : Nat → Int) : ∀ n : Nat, Sm (n * F) (fun I => g (I / F)) = F * Sm n g
  | 0 => by rw [Nat.zero_mul]; exact (Int.mul_zero _).symm
  | n + 1 => by
    rw [Nat.succ_mul, Sm_append, Sm_scale hF g n]
    have e : Sm F (fun i => g ((n * F + i) / F)) = Sm F fun _ => g n := Sm_congr fun i hi => by
      rw [Nat.add_comm, Nat.add_mul_div_right _ _ hF, Nat.div_eq_of_lt hi, Nat.zero_add]
    rw [e, Sm_const]
    show _ = (F : Int) * (Sm n g + g n)
    rw [Int.mul_add]
/-! ### boxes on a grid -/
theorem ind_has (b : B4) (u v : Int) : ind (hasB b u v) = ind (decide (b.x ≤ u ∧ u ≤ b.X)) * ind (decide (b.y ≤ v ∧ v ≤ b.Y)) := by
  unfold ind hasB
  by_cases h1 : b.x ≤ u ∧ u ≤ b.X
  · by_cases h2 : b.y ≤ v ∧ v ≤ b.Y
    · rw [decide_eq_true h1, decide_eq_true h2, decide_eq_true (by omega)]; rfl
    · rw [decide_eq_true h1, decide_eq_false h2, decide_eq_false (by omega)]; rfl
  · rw [decide_eq_false h1, decide_eq_false (show ¬ (b.x ≤ u ∧ u ≤ b.X ∧ b.y ≤ v ∧ v ≤ b.Y) by omega)]
    simp
def grid (lx ly : Int) (nx ny : Nat) (f : Int → Int → Bool) : Int := Sm nx fun (i : Nat) => Sm ny fun (j : Nat) => ind (f (lx + (i : Int)) (ly + (j : Int)))
structure InG (lx ly : Int) (nx ny : Nat) (b : B4) : Prop where
  ok : okB b = true
  x : lx ≤ b.x
  X : b.X < lx + nx
  y : ly ≤ b.y
  Y : b.Y < ly + ny
theorem InG.sub {lx ly : Int} {nx ny : Nat} {a b : B4} (h : InG lx ly nx ny b) (k : Sub a b) : InG lx ly nx ny a := by
  obtain ⟨k1, k2⟩ := k
  obtain ⟨_, h1, h2, h3, h4⟩ := h
  exact ⟨k1, by omega, by omega, by omega, by omega⟩
theorem grid_box {lx ly : Int} {nx ny : Nat} {b : B4} (h : InG lx ly nx ny b) : grid lx ly nx ny (hasB b) = spotsB b := by
  have hok := h.ok
  unfold okB at hok
  simp only [Bool.and_eq_true, decide_eq_true_eq] at hok
  have hx := h.x
  have hX := h.X
  have hy := h.y
  have hY := h.Y
  unfold grid
  have e : ∀ i : Nat, (Sm ny fun (j : Nat) => ind (hasB b (lx + (i : Int)) (ly + (j : Int)))) = ind (decide (b.x ≤ lx + (i : Int) ∧ lx + (i : Int) ≤ b.X)) * (b.Y - b.y + 1) := fun i => by
    rw [Sm_congr fun j _ => ind_has b _ _, Sm_mul', Sm_ivl]
    rw [show max 0 (min b.Y (ly + (ny : Int) - 1) - max b.y ly + 1) = b.Y - b.y + 1 by omega]
  rw [Sm_congr fun i _ => e i, Sm_mul, Sm_ivl, show max 0 (min b.X (lx + (nx : Int) - 1) - max b.x lx + 1) = b.X - b.x + 1 by omega]
  rfl
theorem sum_grid {lx ly : Int} {nx ny : Nat} : ∀ ps : List B4, (∀ p ∈ ps, InG lx ly nx ny p) → (ps.map spotsB).sum = Sm nx fun (i : Nat) => Sm ny fun (j : Nat) => (ps.map fun p => ind (hasB p (lx + (i : Int)) (ly + (j : Int)))).sum
  | [], _ => by
    show (0 : Int) = Sm nx fun (i : Nat) => Sm ny fun (j : Nat) => 0
    rw [Sm_zero, Sm_zero]
  | p :: ps, h => by
    rw [List.map_cons, List.sum_cons, sum_grid ps fun q hq => h q (List.mem_cons_of_mem _ hq), ← grid_box (h p List.mem_cons_self)]
    unfold grid
    rw [← Sm_add]
    refine Sm_congr fun i _ => ?_
    rw [← Sm_add]
    exact Sm_congr fun j _ => by rw [List.map_cons, List.sum_cons]
/-! ### what is cut out, spot by spot -/
theorem sum_filter0 {α : Type} (p : α → Bool) (f : α → Int) : ∀ l : List α, (∀ a ∈ l, p a = false → f a = 0) → ((l.filter p).map f).sum = (l.map f).sum
  | [], _ => rfl
  | a :: l, h => by
    have ih := sum_filter0 p f l fun b hb => h b (List.mem_cons_of_mem _ hb)
    cases e : p a with
    | true => rw [List.filter_cons_of_pos e, List.map_cons, List.map_cons, List.sum_cons, List.sum_cons, ih]
    | false =>
      rw [List.filter_cons_of_neg (by rw [e]; exact Bool.false_ne_true), List.map_cons, List.sum_cons, h a List.mem_cons_self e, ih]
      omega
theorem has_ok {p : B4} {u v : Int} (h : okB p = false) : ind (hasB p u v) = 0 := by
  unfold ind hasB
  unfold okB at h
  rw [decide_eq_false, if_neg Bool.false_ne_true]
  intro z
  rw [decide_eq_true (show p.x ≤ p.X by omega), decide_eq_true (show p.y ≤ p.Y by omega)] at h
  cases h
theorem ind_t {b : Bool} (h : b = true) : ind b = 1 := by rw [h]; rfl
theorem ind_f {b : Bool} (h : b = false) : ind b = 0 := by rw [h]; rfl
theorem cut_pt {a b : B4} (ha : okB a = true) (hb : okB b = true) (u v : Int) : ((cutB a b).map fun p => ind (hasB p u v)).sum = ind (hasB a u v && !hasB b u v) := by
  unfold okB at ha hb
  simp only [Bool.and_eq_true, decide_eq_true_eq] at ha hb
  unfold cutB
  split
  · rename_i h0
    unfold apartB btw gp at h0
    rw [List.map_singleton, List.sum_singleton]
    cases e : hasB a u v with
    | false => rfl
    | true =>
      have e' : a.x ≤ u ∧ u ≤ a.X ∧ a.y ≤ v ∧ v ≤ a.Y := of_decide_eq_true e
      rw [show hasB b u v = false from decide_eq_false (by omega)]
      rfl
  · rename_i h0
    unfold apartB btw gp at h0
    rw [sum_filter0 okB _ _ fun p _ hp => has_ok hp]
    unfold cut4
    simp only [List.map_cons, List.map_nil, List.sum_cons, List.sum_nil]
    unfold hasB
    dsimp only
    by_cases hau : a.x ≤ u ∧ u ≤ a.X ∧ a.y ≤ v ∧ v ≤ a.Y
    · by_cases hbu : b.x ≤ u ∧ u ≤ b.X ∧ b.y ≤ v ∧ v ≤ b.Y
      · rw [decide_eq_true hau, decide_eq_true hbu, ind_f (decide_eq_false (by omega)), ind_f (decide_eq_false (by omega)), ind_f (decide_eq_false (by omega)), ind_f (decide_eq_false (by omega))]
        rfl
      · rw [decide_eq_true hau, decide_eq_false hbu]
        show _ = (1 : Int)
        by_cases c1 : u < b.x
        · rw [ind_t (decide_eq_true (by omega)), ind_f (decide_eq_false (by omega)), ind_f (decide_eq_false (by omega)), ind_f (decide_eq_false (by omega))]; rfl
        · by_cases c2 : b.X < u
          · rw [ind_f (decide_eq_false (by omega)), ind_t (decide_eq_true (by omega)), ind_f (decide_eq_false (by omega)), ind_f (decide_eq_false (by omega))]; rfl
          · by_cases c3 : v < b.y
            · rw [ind_f (decide_eq_false (by omega)), ind_f (decide_eq_false (by omega)), ind_t (decide_eq_true (by omega)), ind_f (decide_eq_false (by omega))]; rfl
            · rw [ind_f (decide_eq_false (by omega)), ind_f (decide_eq_false (by omega)), ind_f (decide_eq_false (by omega)), ind_t (decide_eq_true (by omega))]; rfl
    · rw [decide_eq_false hau, ind_f (decide_eq_false (by omega)), ind_f (decide_eq_false (by omega)), ind_f (decide_eq_false (by omega)), ind_f (decide_eq_false (by omega))]
      rfl
theorem cut_ptc {a b : B4} (ha : okB a = true) (hb : okB b = true) (u v : Int) (c : Bool) : ((cutB a b).map fun p => ind (hasB p u v && c)).sum = ind (hasB a u v && !hasB b u v && c) := by
  cases c with
  | true =>
    simp only [Bool.and_true]
    exact cut_pt ha hb u v
  | false =>
    simp only [Bool.and_false]
    induction cutB a b with
    | nil => rfl
    | cons p ps ih => rw [List.map_cons, List.sum_cons, ih]; rfl
theorem fold_pt (u v : Int) : ∀ (bs ps : List B4), (∀ b ∈ bs, okB b = true) → (∀ p ∈ ps, okB p = true) →
    ((bs.foldl (fun ps b => ps.flatMap fun p => cutB p b) ps).map fun p => ind (hasB p u v)).sum = (ps.map fun p => ind (hasB p u v && !(bs.any fun b => hasB b u v))).sum
  | [], ps, _, _ => by simp
  | b :: bs, ps, hb, hp => by
    have hb0 := hb b List.mem_cons_self
    rw [List.foldl_cons, fold_pt u v bs _ (fun c hc => hb c (List.mem_cons_of_mem _ hc)) fun q hq => by
      obtain ⟨p, hp', hc⟩ := List.mem_flatMap.mp hq
      exact (cut_sub (hp p hp') hc).1]
    have go : ∀ ps : List B4, (∀ p ∈ ps, okB p = true) → ((ps.flatMap fun p => cutB p b).map fun p => ind (hasB p u v && !(bs.any fun b => hasB b u v))).sum = (ps.map fun p => ind (hasB p u v && !((b :: bs).any fun b => hasB b u v))).sum := fun ps => by
      induction ps with
      | nil => intro _; rfl
      | cons p ps ih =>
        intro hp
        rw [List.flatMap_cons, List.map_append, List.sum_append, ih fun q hq => hp q (List.mem_cons_of_mem _ hq), cut_ptc (hp p List.mem_cons_self) hb0, List.map_cons, List.sum_cons, List.any_cons]
        congr 2
        cases hasB p u v <;> cases hasB b u v <;> cases (bs.any fun b => hasB b u v) <;> rfl
    exact go ps hp
theorem left_pt {a : B4} {bs : List B4} (u v : Int) (ha : okB a = true) (hb : ∀ b ∈ bs, okB b = true) : ((leftB a bs).map fun p => ind (hasB p u v)).sum = ind (hasB a u v && !(bs.any fun b => hasB b u v)) := by
  unfold leftB
  rw [fold_pt u v bs [a] hb fun p hp => by rw [List.mem_singleton.mp hp]; exact ha]
  simp
theorem size_grid {lx ly : Int} {nx ny : Nat} {bs : List B4} (h : ∀ b ∈ bs, InG lx ly nx ny b) : ∀ i : Nat, i ≤ bs.length → sizeUp bs i = grid lx ly nx ny fun u v => (bs.take i).any fun b => hasB b u v
  | 0, _ => by
    show (0 : Int) = _
    unfold grid
    rw [Sm_congr fun i _ => (show (Sm ny fun (j : Nat) => ind ((bs.take 0).any fun b => hasB b (lx + (i : Int)) (ly + (j : Int)))) = 0 from Sm_zero ny), Sm_zero]
  | i + 1, hi => by
    obtain ⟨b, eb⟩ : ∃ b, bs[i]? = some b := ⟨bs[i]'(by omega), by simp⟩
    have hb := h b (List.mem_of_getElem? eb)
    have e : sizeUp bs (i + 1) = sizeUp bs i + ((leftB b (bs.take i)).map spotsB).sum := by
      unfold sizeUp
      rw [List.range_succ, List.map_append, List.sum_append, List.map_singleton, List.sum_singleton, List.getD_eq_getElem?_getD, eb]
      rfl
    rw [e, size_grid h i (by omega), sum_grid (lx := lx) (ly := ly) (nx := nx) (ny := ny) _ fun p hp => hb.sub (left_sub hb.ok hp)]
    unfold grid
    rw [← Sm_add]
    refine Sm_congr fun k _ => ?_
    rw [← Sm_add]
    refine Sm_congr fun l _ => ?_
    dsimp only
    rw [left_pt _ _ hb.ok fun c hc => (h c (List.mem_of_mem_take hc)).ok, any_snoc (fun b => hasB b (lx + (k : Int)) (ly + (l : Int))) eb]
    cases hasB b (lx + (k : Int)) (ly + (l : Int)) <;> cases ((bs.take i).any fun b => hasB b (lx + (k : Int)) (ly + (l : Int))) <;> rfl
theorem mul_iff {a x f r : Int} (hf : 0 < f) (h0 : 0 ≤ r) (h1 : r < f) : a * f ≤ x * f + r ↔ a ≤ x := by
  constructor
  · intro h
    by_cases hx : a ≤ x
    · exact hx
    · have := Int.mul_le_mul_of_nonneg_right (show x + 1 ≤ a by omega) (Int.le_of_lt hf)
      rw [Int.add_mul, Int.one_mul] at this
      omega
  · intro h
    have := Int.mul_le_mul_of_nonneg_right h (Int.le_of_lt hf)
    omega
theorem mul_iff' {a x f r : Int} (hf : 0 < f) (h0 : 0 ≤ r) (h1 : r < f) : x * f + r ≤ a * f + f - 1 ↔ x ≤ a := by
  constructor
  · intro h
    by_cases hx : x ≤ a
    · exact hx
    · have := Int.mul_le_mul_of_nonneg_right (show a + 1 ≤ x by omega) (Int.le_of_lt hf)
      rw [Int.add_mul, Int.one_mul] at this
      omega
  · intro h
    have := Int.mul_le_mul_of_nonneg_right h (Int.le_of_lt hf)
    omega
theorem hasS {f ox oy r r' : Int} (hf : 0 < f) (h0 : 0 ≤ r) (h1 : r < f) (h2 : 0 ≤ r') (h3 : r' < f) (b : B4) (u v : Int) : hasB (strB f ox oy b) (u * f + ox + r) (v * f + oy + r') = hasB b u v := by
  unfold hasB strB
  dsimp only
  have i1 := mul_iff (a := b.x) (x := u) hf h0 h1
  have i2 := mul_iff' (a := b.X) (x := u) hf h0 h1
  have i3 := mul_iff (a := b.y) (x := v) hf h2 h3
  have i4 := mul_iff' (a := b.Y) (x := v) hf h2 h3
  rw [decide_eq_decide, ← i1, ← i2, ← i3, ← i4]
  constructor <;> intro h <;> omega
theorem anyS {f ox oy r r' : Int} (hf : 0 < f) (h0 : 0 ≤ r) (h1 : r < f) (h2 : 0 ≤ r') (h3 : r' < f) (bs : List B4) (u v : Int) :
    ((bs.map (strB f ox oy)).any fun b => hasB b (u * f + ox + r) (v * f + oy + r')) = bs.any fun b => hasB b u v := by
  rw [List.any_map]
  congr 1
  funext b
  exact hasS hf h0 h1 h2 h3 b u v
theorem grid_scale {F : Nat} (hF : 0 < F) (lx ly ox oy : Int) (nx ny : Nat) (bs : List B4) :
    grid (lx * F + ox) (ly * F + oy) (nx * F) (ny * F) (fun u v => (bs.map (strB F ox oy)).any fun b => hasB b u v) = F * (F * grid lx ly nx ny fun u v => bs.any fun b => hasB b u v) := by
  have hf : (0 : Int) < (F : Int) := by omega
  have pt : ∀ I J : Nat, ind ((bs.map (strB F ox oy)).any fun b => hasB b (lx * F + ox + (I : Int)) (ly * F + oy + (J : Int))) = ind (bs.any fun b => hasB b (lx + ((I / F : Nat) : Int)) (ly + ((J / F : Nat) : Int))) := fun I J => by
    have e1 : lx * F + ox + (I : Int) = (lx + ((I / F : Nat) : Int)) * F + ox + ((I % F : Nat) : Int) := by
      have h := Nat.div_add_mod I F
      have h' : ((F * (I / F) + I % F : Nat) : Int) = (I : Int) := by rw [h]
      rw [Int.natCast_add, Int.natCast_mul] at h'
      rw [Int.add_mul, Int.mul_comm ((I / F : Nat) : Int)]
      omega
    have e2 : ly * F + oy + (J : Int) = (ly + ((J / F : Nat) : Int)) * F + oy + ((J % F : Nat) : Int) := by
      have h := Nat.div_add_mod J F
      have h' : ((F * (J / F) + J % F : Nat) : Int) = (J : Int) := by rw [h]
      rw [Int.natCast_add, Int.natCast_mul] at h'
      rw [Int.add_mul, Int.mul_comm ((J / F : Nat) : Int)]
      omega
    have m1 := Nat.mod_lt I hF
    have m2 := Nat.mod_lt J hF
    rw [e1, e2, anyS hf (by omega) (by omega) (by omega) (by omega)]
  unfold grid
  rw [Sm_congr fun I _ => (Sm_congr fun J _ => pt I J).trans (Sm_scale hF (fun j => ind (bs.any fun b => hasB b (lx + ((I / F : Nat) : Int)) (ly + (j : Int)))) ny)]
  rw [Sm_scale hF (fun i => (F : Int) * Sm ny fun (j : Nat) => ind (bs.any fun b => hasB b (lx + (i : Int)) (ly + (j : Int)))) nx, Sm_mul']
theorem Small.good {bs : List B4} (h : Small bs) : Good bs := fun b hb => ⟨(h b hb).1, by
  have := h b hb
  unfold Near
  omega⟩
theorem mul_b {x f : Int} (h : -100 ≤ x ∧ x ≤ 100) (hf : 0 ≤ f) : -(100 * f) ≤ x * f ∧ x * f ≤ 100 * f := by
  have h1 := Int.mul_le_mul_of_nonneg_right h.1 hf
  have h2 := Int.mul_le_mul_of_nonneg_right h.2 hf
  rw [Int.neg_mul] at h1
  omega
theorem str_ok {f ox oy : Int} {b : B4} (hf : 1 ≤ f) (h : okB b = true) : okB (strB f ox oy b) = true := by
  unfold okB at *
  simp only [Bool.and_eq_true, decide_eq_true_eq] at *
  unfold strB
  dsimp only
  have h1 := Int.mul_le_mul_of_nonneg_right h.1 (show 0 ≤ f by omega)
  have h2 := Int.mul_le_mul_of_nonneg_right h.2 (show 0 ≤ f by omega)
  omega
theorem str_good {f ox oy : Int} {bs : List B4} (hf : Shf f ox oy) (h : Small bs) : Good (bs.map (strB f ox oy)) := fun c hc => by
  obtain ⟨b, hb, rfl⟩ := List.mem_map.mp hc
  have hb := h b hb
  refine ⟨str_ok hf.1 hb.1, ?_⟩
  unfold Shf at hf
  have h1 := mul_b hb.2.1 (show 0 ≤ f by omega)
  have h2 := mul_b hb.2.2.1 (show 0 ≤ f by omega)
  have h3 := mul_b hb.2.2.2.1 (show 0 ≤ f by omega)
  have h4 := mul_b hb.2.2.2.2 (show 0 ≤ f by omega)
  unfold Near strB
  dsimp only
  omega
theorem str_in {F : Nat} {lx ly ox oy : Int} {nx ny : Nat} {b : B4} (hF : 0 < F) (h : InG lx ly nx ny b) : InG (lx * F + ox) (ly * F + oy) (nx * F) (ny * F) (strB F ox oy b) := by
  have hf : (0 : Int) ≤ (F : Int) := by omega
  have h1 := Int.mul_le_mul_of_nonneg_right h.x hf
  have h2 := Int.mul_le_mul_of_nonneg_right (show b.X + 1 ≤ lx + nx by have := h.X; omega) hf
  have h3 := Int.mul_le_mul_of_nonneg_right h.y hf
  have h4 := Int.mul_le_mul_of_nonneg_right (show b.Y + 1 ≤ ly + ny by have := h.Y; omega) hf
  rw [Int.add_mul, Int.add_mul, Int.one_mul] at h2 h4
  refine ⟨str_ok (by omega) h.ok, ?_, ?_, ?_, ?_⟩
  all_goals (unfold strB; dsimp only; try rw [Int.natCast_mul])
  all_goals omega
theorem lay_bs : ∀ bs : List B4, PyData.canLayAll0 (bs.map bD) = true ∧ PyData.depthAll (bs.map bD) ≤ 2
  | [] => by simp [PyData.canLayAll0, PyData.depthAll]
  | b :: bs => by
    have ih := lay_bs bs
    rw [List.map_cons]
    unfold bD
    simp only [PyData.canLayAll0, PyData.canLay0, PyData.depthAll, PyData.depth, Bool.and_self, Bool.true_and]
    unfold bD at ih
    exact ⟨ih.1, by have := ih.2; omega⟩
theorem ok_right (T : Tx K mg) : FnOk P w K mg base CX0 6 T.f_right T.d_right ["_law_pen", "_law_boxes_here", "_law_by", "_law_off"] (lift K spRight) := by
  have G_wide : FnOk P w K mg base CX0 2 T.f_wide T.d_wide ["_law_pen", "_law_many"] (lift K spWide) := ok_wide T
  have G_stretched : FnOk P w K mg base CX0 1 T.f_stretched T.d_stretched ["_law_boxes_here", "_law_by", "_law_off"] (lift K spStretched) := ok_stretched T
  have G_span : FnOk P w K mg base CX0 1 T.f_span T.d_span ["_law_boxes_here", "_law_w"] (lift K spSpan) := ok_span T
  have G_l_has : FnOk P w K mg base CX0 1 T.f_l_has T.d_l_has ["_law_boxes_here", "_law_x", "_law_y"] (lift K spHasL) := ok_l_has T
  have G_lies_in : FnOk P w K mg base CX0 5 T.f_lies_in T.d_lies_in ["shape", "spot"] (lift K spLies) := ok_lies_in T
  have G_size : FnOk P w K mg base CX0 5 T.f_size T.d_size ["shape"] (lift K spSize) := ok_size T
  have G_same : FnOk P w K mg base CX0 1 T.f_same T.d_same ["_law_found", "_law_due"] (lift K spSame) := ok_same T
  refine okD T.o_right.F sc_right (fun xs M Φ ⟨p, bs, f, ox, oy, e, _⟩ => by rw [e]; rfl) fun cdv A outer s H E hr => ⟨_, (dss_cons (ds_set 4 sc_right.nd de_int)
  (dss_cons (ds_set 5 sc_right.nd (de_callTy cd_tupleOf rfl T.n_tuple bt_tuple (da_cons (de_var 1) da_nil)))
  (dss_cons (ds_set 6 sc_right.nd (de_call G_stretched (hr.mono (by decide)) rfl T.o_stretched.m T.o_stretched.F.kp T.o_stretched.b pass0 (da_cons (de_var 1) (da_cons (de_var 2) (da_cons (de_var 3) da_nil)))))
  (dss_cons (ds_forL (de_call G_span (hr.mono (by decide)) rfl T.o_span.m T.o_span.F.kp T.o_span.b pass0 (da_cons (de_var 1) (da_cons de_int da_nil))) (dg_name 7 sc_right.nd) (dss_one (ds_forL (de_call G_span (hr.mono (by decide)) rfl T.o_span.m T.o_span.F.kp T.o_span.b pass0 (da_cons (de_var 1) (da_cons de_int da_nil))) (dg_name 8 sc_right.nd) (dss_cons (ds_set 9 sc_right.nd (de_call G_l_has (hr.mono (by decide)) rfl T.o_l_has.m T.o_l_has.F.kp T.o_l_has.b pass0 (da_cons (de_var 1) (da_cons (de_var 7) (da_cons (de_var 8) da_nil)))))
  (dss_cons (ds_set 4 sc_right.nd (de_op od_add (de_var 4) (de_callTy cd_int rfl T.n_int bt_int (da_cons (de_var 9) da_nil))))
  (dss_cons (ds_set 10 sc_right.nd (de_tup (da_cons (de_op od_add (de_op od_add (de_op od_mul (de_var 7) (de_var 2)) (de_ix (de_var 3) de_int)) (de_call G_wide (hr.mono (by decide)) rfl T.o_wide.m T.o_wide.F.kp T.o_wide.b pass0 (da_cons (de_var 0) (da_cons (de_var 2) da_nil)))) (da_cons (de_op od_add (de_op od_add (de_op od_mul (de_var 8) (de_var 2)) (de_ix (de_var 3) de_int)) (de_call G_wide (hr.mono (by decide)) rfl T.o_wide.m T.o_wide.F.kp T.o_wide.b pass0 (da_cons (de_var 0) (da_cons (de_var 2) da_nil)))) da_nil))))
  (dss_one (ds_if (DW.dt (dw_or (dt_not (dt_val (de_call G_same (hr.mono (by decide)) rfl T.o_same.m T.o_same.F.kp T.o_same.b pass0 (da_cons (de_call G_lies_in (hr.mono (by decide)) rfl T.o_lies_in.m T.o_lies_in.F.kp T.o_lies_in.b pass0 (da_cons (de_var 5) (da_cons (de_tup (da_cons (de_var 7) (da_cons (de_var 8) da_nil))) da_nil))) (da_cons (de_var 9) da_nil))))) (dw_or1 (dt_not (dt_val (de_call G_same (hr.mono (by decide)) rfl T.o_same.m T.o_same.F.kp T.o_same.b pass0 (da_cons (de_call G_lies_in (hr.mono (by decide)) rfl T.o_lies_in.m T.o_lies_in.F.kp T.o_lies_in.b pass0 (da_cons (de_var 6) (da_cons (de_var 10) da_nil))) (da_cons (de_var 9) da_nil)))))))) (dss_one (ds_ret de_bl)) dss_nil))))) PassesOwn.never rfl)) PassesOwn.never rfl)
  (dss_cons (ds_if (dt_cmp od_isnotB (de_call G_lies_in (hr.mono (by decide)) rfl T.o_lies_in.m T.o_lies_in.F.kp T.o_lies_in.b pass0 (da_cons (de_var 5) (da_cons (de_tup (da_cons (de_op od_pow de_int de_int) (da_cons (de_ix (de_ix (de_ix (de_var 1) de_int) de_int) de_int) da_nil))) da_nil))) de_bl) (dss_one (ds_ret de_bl)) dss_nil)
  (dss_one (ds_ret (de_and (de_call G_same (hr.mono (by decide)) rfl T.o_same.m T.o_same.F.kp T.o_same.b pass0 (da_cons (de_call G_size (hr.mono (by decide)) rfl T.o_size.m T.o_size.F.kp T.o_size.b pass0 (da_cons (de_var 5) da_nil)) (da_cons (de_var 4) da_nil))) (de_and (de_call G_same (hr.mono (by decide)) rfl T.o_same.m T.o_same.F.kp T.o_same.b pass0 (da_cons (de_call G_size (hr.mono (by decide)) rfl T.o_size.m T.o_size.F.kp T.o_size.b pass0 (da_cons (de_var 6) da_nil)) (da_cons (de_op od_mul (de_op od_mul (de_var 4) (de_var 2)) (de_var 2)) da_nil))) (de_one (de_cmp (od_eq hr) (de_var 5) (de_callTy cd_tupleOf rfl T.n_tuple bt_tuple (da_cons (de_var 1) da_nil))))))))))))), fun xs M Φ ⟨p, bs, f, ox, oy, e, hp, h1, h2, hs, hf, h⟩ => ?_⟩
  subst e
  walk_at "rk"
  refine ⟨bs, f, ox, oy, rfl, h2, hs, ?_⟩
  have hne : bs ≠ [] := fun z => by rw [z] at h1; exact absurd h1 (by decide)
  obtain ⟨ly, ny, iny, hny, uy⟩ : ∃ (ly : Int) (ny : Nat), (∀ b ∈ bs, ly ≤ b.y ∧ b.Y < ly + (ny : Int)) ∧ ny ≤ 300 ∧ ∀ (l : Int) (n : Nat), IsMin (l + 2) (bs.map B4.y) → IsMax (l + (n : Int) - 3) (bs.map B4.Y) → l = ly ∧ n = ny := by
    obtain ⟨my, hmy⟩ := ex_min (l := bs.map B4.y) (by simpa using hne)
    obtain ⟨mY, hmY⟩ := ex_max (l := bs.map B4.Y) (by simpa using hne)
    obtain ⟨b1, hb1, e1⟩ := List.mem_map.mp hmy.1
    obtain ⟨b2, hb2, e2⟩ := List.mem_map.mp hmY.1
    have s1 := hs b1 hb1
    have s2 := hs b2 hb2
    have i1 := hmY.2 b1.Y (List.mem_map.mpr ⟨b1, hb1, rfl⟩)
    have okk := s1.1
    unfold okB at okk
    simp only [Bool.and_eq_true, decide_eq_true_eq] at okk
    refine ⟨my - 2, (mY + 5 - my).toNat, fun b hb => ?_, by omega, fun l n q1 q2 => ?_⟩
    · have := hmy.2 b.y (List.mem_map.mpr ⟨b, hb, rfl⟩)
      have := hmY.2 b.Y (List.mem_map.mpr ⟨b, hb, rfl⟩)
      omega
    · have := q1.eq hmy
      have := q2.eq hmY
      omega
  refine ⟨bs, 0, rfl, h1, h2, hs, .inl ⟨rfl, fun lx nx lx1 lx2 hnx inx => ?_⟩⟩
  walk_at "rk"
  refine ⟨fun i Δ M' => ∃ (k7 k8 k9 k10 : Option DV) (t : Int), t = (Sm i fun (i : Nat) => Sm ny fun (j : Nat) => ind (bs.any fun b => hasB b (lx + (i : Int)) (ly + (j : Int)))) ∧
    Δ = [some (.own p), some (.dat (.list (bs.map bD))), some (.dat (.int f)), some (.dat (.tuple [.int ox, .int oy])), some (.dat (.int t)), some (.dat (.tuple (bs.map bD))), some (.dat (.tuple ((bs.map (strB f ox oy)).map bD))), k7, k8, k9, k10] ∧ Pen M' p,
    ⟨none, none, none, none, 0, rfl, rfl, hp⟩, ?_, ?_⟩
  · rintro i d Δ M' hd ⟨k7, k8, k9, k10, t, et, rfl, hP⟩
    obtain ⟨hi, rfl⟩ := rngD_inv hd
    walk_at "rk"
    refine ⟨bs, 1, rfl, h1, h2, hs, .inr ⟨rfl, fun l n l1 l2 n1 inl q1 q2 => ?_⟩⟩
    obtain ⟨rfl, rfl⟩ := uy l n q1 q2
    walk_at "rk"
    refine ⟨fun j Δ M2 => ∃ (k8 k9 k10 : Option DV) (t2 : Int), t2 = t + (Sm j fun (j : Nat) => ind (bs.any fun b => hasB b (lx + (i : Int)) (l + (j : Int)))) ∧
      Δ = [some (.own p), some (.dat (.list (bs.map bD))), some (.dat (.int f)), some (.dat (.tuple [.int ox, .int oy])), some (.dat (.int t2)), some (.dat (.tuple (bs.map bD))), some (.dat (.tuple ((bs.map (strB f ox oy)).map bD))), some (.dat (.int (lx + (i : Int)))), k8, k9, k10] ∧ Pen M2 p,
      ⟨k8, k9, k10, t, (Int.add_zero t).symm, rfl, hP⟩, ?_, ?_⟩
    · rintro j d Δ M2 hd2 ⟨k8, k9, k10, t2, et2, rfl, hP2⟩
      obtain ⟨hj, rfl⟩ := rngD_inv hd2
      walk_at "rk"
      refine ⟨bs, lx + (i : Int), l + (j : Int), rfl, ?_⟩
      walk_at "rk"
      have hf' := hf
      unfold Shf at hf'
      refine ⟨.inl (by omega), p, _, rfl, by omega, log60 (by omega), hP2, fun r1 o1 a1 c1 ho1 => ?_⟩
      walk_at "rk"
      refine ⟨.inl (by omega), p, _, rfl, by omega, log60 (by omega), Pen.mset ho1, fun r2 o2 a2 c2 ho2 => ?_⟩
      walk_at "rk"
      refine ⟨bs, _, _, rfl, h2, ?_⟩
      walk_at "rk"
      refine ⟨shwB _, bs.map (strB f ox oy), _, _, rfl, by rw [List.length_map]; exact h2, ?_⟩
      rw [anyS (by omega) a1 c1 a2 c2]
      walk_at "rk"
      refine ⟨shwB _, ?_, Pen.mset ho2⟩
      rw [et2, Int.add_assoc]
      rfl
    · rintro Δ M2 ⟨k8, k9, k10, t2, et2, rfl, hP2⟩
      rw [rngD_len] at et2
      exact ⟨_, _, _, _, by rw [et2, et]; rfl, hP2⟩
  · rintro Δ M' ⟨k7, k8, k9, k10, t, et, rfl, hP⟩
    rw [rngD_len] at et
    walk_at "rk"
    obtain ⟨b0, eb0⟩ : ∃ b, bs[0]? = some b := ⟨bs[0]'(by omega), by simp⟩
    have s0 := hs b0 (List.mem_of_getElem? eb0)
    have hg : ∀ b ∈ bs, InG lx ly nx ny b := fun b hb => ⟨(hs b hb).1, (inx b hb).1, (inx b hb).2, (iny b hb).1, (iny b hb).2⟩
    refine ⟨cp10 _ (by decide), bD b0, atI_nat (j := 0) (by rw [List.getElem?_map, eb0]; rfl), _, .inl rfl, _, atI_0, _, .inl rfl, _, atI_1, ?_⟩
    refine ⟨bs, _, _, rfl, h2, ?_⟩
    have far : (bs.any fun b => hasB b 100000000000000000000000000000000000000000000000000000000000 b0.y) = false := by
      refine Bool.eq_false_iff.mpr fun z => ?_
      obtain ⟨b, hb, q⟩ := List.any_eq_true.mp z
      have q' := of_decide_eq_true q
      have := hs b hb
      omega
    walk_at "rk"
    rw [far, if_neg (by decide)]
    refine ⟨bs, rfl, h2, hs.good, ?_⟩
    walk_at "rk"
    have e1 : sizeUp bs bs.length = t := by
      rw [size_grid hg _ (Nat.le_refl _), List.take_length, et]
      rfl
    have tb : 0 ≤ t ∧ t ≤ 90000 := by
      have q1 : ∀ i : Nat, 0 ≤ (Sm ny fun (j : Nat) => ind (bs.any fun b => hasB b (lx + (i : Int)) (ly + (j : Int)))) ∧ (Sm ny fun (j : Nat) => ind (bs.any fun b => hasB b (lx + (i : Int)) (ly + (j : Int)))) ≤ 300 := fun i => by
        have := Sm_bound (n := ny) (f := fun (j : Nat) => ind (bs.any fun b => hasB b (lx + (i : Int)) (ly + (j : Int)))) (c := 1) fun j => ind_b _
        omega
      have q2 := Sm_bound (n := nx) (c := 300) q1
      rw [← et] at q2
      omega
    have hf' := hf
    unfold Shf at hf'
    have b1 : 0 ≤ t * f ∧ t * f ≤ 900000000000000 := by
      have := Int.mul_le_mul_of_nonneg_right tb.2 (show 0 ≤ f by omega)
      have := Int.mul_nonneg tb.1 (show 0 ≤ f by omega)
      omega
    have b2 : 0 ≤ t * f * f ∧ t * f * f ≤ 9000000000000000000000000 := by
      have := Int.mul_le_mul_of_nonneg_right b1.2 (show 0 ≤ f by omega)
      have := Int.mul_nonneg b1.1 (show 0 ≤ f by omega)
      omega
    have e2 : sizeUp (bs.map (strB f ox oy)) (bs.map (strB f ox oy)).length = t * f * f := by
      obtain ⟨F, rfl⟩ : ∃ F : Nat, f = (F : Int) := ⟨f.toNat, by omega⟩
      rw [size_grid (lx := lx * F + ox) (ly := ly * F + oy) (nx := nx * F) (ny := ny * F) (fun c hc => by
        obtain ⟨b, hb, rfl⟩ := List.mem_map.mp hc
        exact str_in (by omega) (hg b hb)) _ (Nat.le_refl _), List.take_length, grid_scale (by omega), ← Int.mul_assoc, Int.mul_comm]
      rw [← Int.mul_assoc, et]
      rfl
    refine ⟨e1, by rw [e1]; exact shwI (by unfold Mid; omega), ?_⟩
    refine ⟨bs.map (strB f ox oy), rfl, by rw [List.length_map]; exact h2, str_good hf hs, ?_⟩
    walk_at "rk"
    have ly2 := lay_bs bs
    refine ⟨.inl (by omega), .inl (by omega), e2, by rw [e2]; exact shwI (by unfold Mid; omega), ly2.1, ly2.1, by omega, ?_⟩
    rw [PySem.SeqAt.eqv_refl _ (by simp only [PyData.canLay0]; exact ly2.1)]
    exact h _ hP
theorem ok_law (T : Tx K mg) : FnOk P w K mg base CX0 7 T.f_law T.d_law ["_law_script"] (lift K spLaw) := by
  have G_take : FnOk P w K mg base CX0 1 T.f_take T.d_take ["_law_pen", "_law_many"] (lift K spTake) := ok_take T
  have G_boxes : FnOk P w K mg base CX0 2 T.f_boxes T.d_boxes ["_law_pen", "_law_most"] (lift K spBoxes) := ok_boxes T
  have G_ring : FnOk P w K mg base CX0 2 T.f_ring T.d_ring ["_law_pen"] (lift K spRing) := ok_ring T
  have G_stretch : FnOk P w K mg base CX0 3 T.f_stretch T.d_stretch ["_law_pen"] (lift K spStretch) := ok_stretch T
  have G_is_shape : FnOk P w K mg base CX0 5 T.f_is_shape T.d_is_shape ["thing"] (lift K spIsShape) := ok_is_shape T
  have G_right : FnOk P w K mg base CX0 6 T.f_right T.d_right ["_law_pen", "_law_boxes_here", "_law_by", "_law_off"] (lift K spRight) := ok_right T
  refine okD T.o_law.F sc_law (fun xs M Φ ⟨ns, e, _⟩ => by rw [e]; rfl) fun cdv A outer s H E hr => ⟨_, (dss_cons (ds_set 1 sc_law.nd (de_lstO (da_cons (de_var 0) (da_cons de_int (da_cons de_int da_nil)))))
  (dss_cons (ds_forR1 rfl T.n_range (da_cons de_int da_nil) (dg_name 2 sc_law.nd) (dss_cons (ds_set 3 sc_law.nd (de_ix (de_lst (da_cons (de_call G_boxes (hr.mono (by decide)) rfl T.o_boxes.m T.o_boxes.F.kp T.o_boxes.b pass0 (da_cons (de_var 1) (da_cons de_int da_nil))) (da_cons (de_call G_ring (hr.mono (by decide)) rfl T.o_ring.m T.o_ring.F.kp T.o_ring.b pass0 (da_cons (de_var 1) da_nil)) da_nil))) (de_callTy cd_int rfl T.n_int bt_int (da_cons (de_cmp (od_eq hr) (de_call G_take (hr.mono (by decide)) rfl T.o_take.m T.o_take.F.kp T.o_take.b pass0 (da_cons (de_var 1) (da_cons de_int da_nil))) de_int) da_nil))))
  (dss_cons (ds_asg (de_call G_stretch (hr.mono (by decide)) rfl T.o_stretch.m T.o_stretch.F.kp T.o_stretch.b pass0 (da_cons (de_var 1) da_nil)) (dg_tup (n := 2) rfl (dgs_cons (dg_name 4 sc_law.nd) (dgs_cons (dg_name 5 sc_law.nd) dgs_nil))))
  (dss_one (ds_if (DW.dt (dw_or (dt_cmp od_isnotB (de_call G_is_shape (hr.mono (by decide)) rfl T.o_is_shape.m T.o_is_shape.F.kp T.o_is_shape.b pass0 (da_cons (de_callTy cd_tupleOf rfl T.n_tuple bt_tuple (da_cons (de_var 3) da_nil)) da_nil)) de_bl) (dw_or1 (dt_not (dt_val (de_call G_right (hr.mono (by decide)) rfl T.o_right.m T.o_right.F.kp T.o_right.b pass0 (da_cons (de_var 1) (da_cons (de_var 3) (da_cons (de_var 4) (da_cons (de_var 5) da_nil)))))))))) (dss_one (ds_ret de_bl)) dss_nil)))) PassesOwn.never rfl)
  (dss_one (ds_ret de_bl)))), fun xs M Φ ⟨ns, e, hn, h⟩ => ?_⟩
  subst e
  walk_at "rk"
  refine fun p hp0 => ⟨by decide, by decide, ?_⟩
  refine ⟨fun i Δ M' => ∃ k2 k3 k4 k5, Δ = [some (.dat (.list (ns.map PyData.int))), some (.own p), k2, k3, k4, k5] ∧ Pen M' p,
    ⟨none, none, none, none, rfl, _, ⟨ns, 0, 0, hn, Int.le_refl _, rfl⟩, mset_same⟩, ?_, ?_⟩
  · rintro i Δ M' hi ⟨k2, k3, k4, k5, rfl, hP⟩
    walk_at "rk"
    refine ⟨p, rfl, hP, fun bs M1 b1 b2 b3 b4 hP1 => ?_⟩
    refine ⟨p, rfl, hP1, fun cs M2 c1 c2 c3 c4 hP2 => ?_⟩
    walk_at "rk"
    refine ⟨p, _, rfl, by decide, by decide, hP2, fun r o r0 r1 ho => ?_⟩
    walk_at "rk"
    rw [eqvI]
    obtain ⟨ds, d1, d2, d3, d4, ed⟩ : ∃ ds : List B4, 1 ≤ ds.length ∧ ds.length ≤ 6 ∧ Chain ds ∧ Small ds ∧ atI [PyData.list (bs.map bD), PyData.list (cs.map bD)] (if decide (r = 0) = true then 1 else 0) = some (.list (ds.map bD)) := by
      by_cases z : r = 0
      · rw [decide_eq_true z, if_pos rfl]
        exact ⟨cs, c1, c2, c3, c4, atI_1⟩
      · rw [decide_eq_false z, if_neg Bool.false_ne_true]
        exact ⟨bs, b1, b2, b3, b4, atI_0⟩
    refine ⟨_, ed, ?_⟩
    walk_at "rk"
    refine ⟨p, rfl, Pen.mset ho, fun f ox oy o2 hf ho2 => ?_⟩
    walk_at "rk"
    refine ⟨ds, rfl, d1, d2, d3, fun b hb => ?_, ?_⟩
    · have hb := d4 b hb
      have ok := hb.1
      unfold okB at ok
      simp only [Bool.and_eq_true, decide_eq_true_eq] at ok
      unfold bD
      simp only [isBoxD, isShortD, Bool.and_eq_true, decide_eq_true_eq]
      omega
    · walk_at "rk"
      refine ⟨p, ds, f, ox, oy, rfl, Pen.mset ho2, d1, d2, d4, hf, fun M3 hP3 => ?_⟩
      walk_at "rk"
      exact hP3
  · rintro Δ M' ⟨k2, k3, k4, k5, rfl, hP⟩
    walk_at "rk"
    exact h _
end
theorem all_mk {l : PySem.W.OpenLaw} {w : World} {K : PySem.W.Frag} {h : Heap} {mg : Str → Option Value} {fa : Addr} (X : K.In h) (G : h.Ns mainGlobals mg) (hfa : mg "law" = some (.ref fa))
    {f0 : Addr} {od0 an0 : Option Addr} {sl0 : Array (Option Value)} {oc0 kV0 dc0 pm0 cd0 ct0 : Value} {f1 : Addr} {od1 an1 : Option Addr} {sl1 : Array (Option Value)} {oc1 kV1 dc1 pm1 cd1 ct1 : Value} {f2 : Addr} {od2 an2 : Option Addr} {sl2 : Array (Option Value)} {oc2 kV2 dc2 pm2 cd2 ct2 : Value} {f3 : Addr} {od3 an3 : Option Addr} {sl3 : Array (Option Value)} {oc3 kV3 dc3 pm3 cd3 ct3 : Value} {f4 : Addr} {od4 an4 : Option Addr} {sl4 : Array (Option Value)} {oc4 kV4 dc4 pm4 cd4 ct4 : Value} {f5 : Addr} {od5 an5 : Option Addr} {sl5 : Array (Option Value)} {oc5 kV5 dc5 pm5 cd5 ct5 : Value} {f6 : Addr} {od6 an6 : Option Addr} {sl6 : Array (Option Value)} {oc6 kV6 dc6 pm6 cd6 ct6 : Value} {f7 : Addr} {od7 an7 : Option Addr} {sl7 : Array (Option Value)} {oc7 kV7 dc7 pm7 cd7 ct7 : Value} {f8 : Addr} {od8 an8 : Option Addr} {sl8 : Array (Option Value)} {oc8 kV8 dc8 pm8 cd8 ct8 : Value} {f9 : Addr} {od9 an9 : Option Addr} {sl9 : Array (Option Value)} {oc9 kV9 dc9 pm9 cd9 ct9 : Value} {f10 : Addr} {od10 an10 : Option Addr} {sl10 : Array (Option Value)} {oc10 kV10 dc10 pm10 cd10 ct10 : Value} {f11 : Addr} {od11 an11 : Option Addr} {sl11 : Array (Option Value)} {oc11 kV11 dc11 pm11 cd11 ct11 : Value} {f12 : Addr} {od12 an12 : Option Addr} {sl12 : Array (Option Value)} {oc12 kV12 dc12 pm12 cd12 ct12 : Value} {f13 : Addr} {od13 an13 : Option Addr} {sl13 : Array (Option Value)} {oc13 kV13 dc13 pm13 cd13 ct13 : Value} {f14 : Addr} {od14 an14 : Option Addr} {sl14 : Array (Option Value)} {oc14 kV14 dc14 pm14 cd14 ct14 : Value} {f15 : Addr} {od15 an15 : Option Addr} {sl15 : Array (Option Value)} {oc15 kV15 dc15 pm15 cd15 ct15 : Value} {f16 : Addr} {od16 an16 : Option Addr} {sl16 : Array (Option Value)} {oc16 kV16 dc16 pm16 cd16 ct16 : Value} {f17 : Addr} {od17 an17 : Option Addr} {sl17 : Array (Option Value)} {oc17 kV17 dc17 pm17 cd17 ct17 : Value} {f18 : Addr} {od18 an18 : Option Addr} {sl18 : Array (Option Value)} {oc18 kV18 dc18 pm18 cd18 ct18 : Value} {f19 : Addr} {od19 an19 : Option Addr} {sl19 : Array (Option Value)} {oc19 kV19 dc19 pm19 cd19 ct19 : Value} {f20 : Addr} {od20 an20 : Option Addr} {sl20 : Array (Option Value)} {oc20 kV20 dc20 pm20 cd20 ct20 : Value} {f21 : Addr} {od21 an21 : Option Addr} {sl21 : Array (Option Value)} {oc21 kV21 dc21 pm21 cd21 ct21 : Value} {f22 : Addr} {od22 an22 : Option Addr} {sl22 : Array (Option Value)} {oc22 kV22 dc22 pm22 cd22 ct22 : Value} {f23 : Addr} {od23 an23 : Option Addr} {sl23 : Array (Option Value)} {oc23 kV23 dc23 pm23 cd23 ct23 : Value} {f24 : Addr} {od24 an24 : Option Addr} {sl24 : Array (Option Value)} {oc24 kV24 dc24 pm24 cd24 ct24 : Value} {f25 : Addr} {od25 an25 : Option Addr} {sl25 : Array (Option Value)} {oc25 kV25 dc25 pm25 cd25 ct25 : Value} {f26 : Addr} {od26 an26 : Option Addr} {sl26 : Array (Option Value)} {oc26 kV26 dc26 pm26 cd26 ct26 : Value} {f27 : Addr} {od27 an27 : Option Addr} {sl27 : Array (Option Value)} {oc27 kV27 dc27 pm27 cd27 ct27 : Value} {f28 : Addr} {od28 an28 : Option Addr} {sl28 : Array (Option Value)} {oc28 kV28 dc28 pm28 cd28 ct28 : Value} {tk0 : Tok} {tk1 : Tok}
    (a0 : PySem.W.nsIn K mainGlobals "is_whole" = some (some (.ref f0))) (l0 : K.lookup f0 = some ⟨oc0, od0, .func (PySem.W.fnOf "is_whole" "is_whole" (defArgs s_is_whole) (defBody s_is_whole) (defScope s_is_whole) .none kV0 dc0 pm0 an0 cd0 ct0), sl0⟩) (c0 : PySem.W.codeIn K cd0 "is_whole" = true) (k0 : PySem.W.keepIn K (.ref f0) = true)
    (a1 : PySem.W.nsIn K mainGlobals "is_short" = some (some (.ref f1))) (l1 : K.lookup f1 = some ⟨oc1, od1, .func (PySem.W.fnOf "is_short" "is_short" (defArgs s_is_short) (defBody s_is_short) (defScope s_is_short) .none kV1 dc1 pm1 an1 cd1 ct1), sl1⟩) (c1 : PySem.W.codeIn K cd1 "is_short" = true) (k1 : PySem.W.keepIn K (.ref f1) = true)
    (a2 : PySem.W.nsIn K mainGlobals "is_any_spot" = some (some (.ref f2))) (l2 : K.lookup f2 = some ⟨oc2, od2, .func (PySem.W.fnOf "is_any_spot" "is_any_spot" (defArgs s_is_any_spot) (defBody s_is_any_spot) (defScope s_is_any_spot) .none kV2 dc2 pm2 an2 cd2 ct2), sl2⟩) (c2 : PySem.W.codeIn K cd2 "is_any_spot" = true) (k2 : PySem.W.keepIn K (.ref f2) = true)
    (a3 : PySem.W.nsIn K mainGlobals "is_spot" = some (some (.ref f3))) (l3 : K.lookup f3 = some ⟨oc3, od3, .func (PySem.W.fnOf "is_spot" "is_spot" (defArgs s_is_spot) (defBody s_is_spot) (defScope s_is_spot) .none kV3 dc3 pm3 an3 cd3 ct3), sl3⟩) (c3 : PySem.W.codeIn K cd3 "is_spot" = true) (k3 : PySem.W.keepIn K (.ref f3) = true)
    (a4 : PySem.W.nsIn K mainGlobals "is_box" = some (some (.ref f4))) (l4 : K.lookup f4 = some ⟨oc4, od4, .func (PySem.W.fnOf "is_box" "is_box" (defArgs s_is_box) (defBody s_is_box) (defScope s_is_box) .none kV4 dc4 pm4 an4 cd4 ct4), sl4⟩) (c4 : PySem.W.codeIn K cd4 "is_box" = true) (k4 : PySem.W.keepIn K (.ref f4) = true)
    (a5 : PySem.W.nsIn K mainGlobals "has_spots" = some (some (.ref f5))) (l5 : K.lookup f5 = some ⟨oc5, od5, .func (PySem.W.fnOf "has_spots" "has_spots" (defArgs s_has_spots) (defBody s_has_spots) (defScope s_has_spots) .none kV5 dc5 pm5 an5 cd5 ct5), sl5⟩) (c5 : PySem.W.codeIn K cd5 "has_spots" = true) (k5 : PySem.W.keepIn K (.ref f5) = true)
    (a6 : PySem.W.nsIn K mainGlobals "has" = some (some (.ref f6))) (l6 : K.lookup f6 = some ⟨oc6, od6, .func (PySem.W.fnOf "has" "has" (defArgs s_has) (defBody s_has) (defScope s_has) .none kV6 dc6 pm6 an6 cd6 ct6), sl6⟩) (c6 : PySem.W.codeIn K cd6 "has" = true) (k6 : PySem.W.keepIn K (.ref f6) = true)
    (a7 : PySem.W.nsIn K mainGlobals "steps_to" = some (some (.ref f7))) (l7 : K.lookup f7 = some ⟨oc7, od7, .func (PySem.W.fnOf "steps_to" "steps_to" (defArgs s_steps_to) (defBody s_steps_to) (defScope s_steps_to) .none kV7 dc7 pm7 an7 cd7 ct7), sl7⟩) (c7 : PySem.W.codeIn K cd7 "steps_to" = true) (k7 : PySem.W.keepIn K (.ref f7) = true)
    (a8 : PySem.W.nsIn K mainGlobals "steps_between" = some (some (.ref f8))) (l8 : K.lookup f8 = some ⟨oc8, od8, .func (PySem.W.fnOf "steps_between" "steps_between" (defArgs s_steps_between) (defBody s_steps_between) (defScope s_steps_between) .none kV8 dc8 pm8 an8 cd8 ct8), sl8⟩) (c8 : PySem.W.codeIn K cd8 "steps_between" = true) (k8 : PySem.W.keepIn K (.ref f8) = true)
    (a9 : PySem.W.nsIn K mainGlobals "gap" = some (some (.ref f9))) (l9 : K.lookup f9 = some ⟨oc9, od9, .func (PySem.W.fnOf "gap" "gap" (defArgs s_gap) (defBody s_gap) (defScope s_gap) .none kV9 dc9 pm9 an9 cd9 ct9), sl9⟩) (c9 : PySem.W.codeIn K cd9 "gap" = true) (k9 : PySem.W.keepIn K (.ref f9) = true)
    (a10 : PySem.W.nsIn K mainGlobals "common" = some (some (.ref f10))) (l10 : K.lookup f10 = some ⟨oc10, od10, .func (PySem.W.fnOf "common" "common" (defArgs s_common) (defBody s_common) (defScope s_common) .none kV10 dc10 pm10 an10 cd10 ct10), sl10⟩) (c10 : PySem.W.codeIn K cd10 "common" = true) (k10 : PySem.W.keepIn K (.ref f10) = true)
    (a11 : PySem.W.nsIn K mainGlobals "cut_out" = some (some (.ref f11))) (l11 : K.lookup f11 = some ⟨oc11, od11, .func (PySem.W.fnOf "cut_out" "cut_out" (defArgs s_cut_out) (defBody s_cut_out) (defScope s_cut_out) .none kV11 dc11 pm11 an11 cd11 ct11), sl11⟩) (c11 : PySem.W.codeIn K cd11 "cut_out" = true) (k11 : PySem.W.keepIn K (.ref f11) = true)
    (a12 : PySem.W.nsIn K mainGlobals "left_over" = some (some (.ref f12))) (l12 : K.lookup f12 = some ⟨oc12, od12, .func (PySem.W.fnOf "left_over" "left_over" (defArgs s_left_over) (defBody s_left_over) (defScope s_left_over) .none kV12 dc12 pm12 an12 cd12 ct12), sl12⟩) (c12 : PySem.W.codeIn K cd12 "left_over" = true) (k12 : PySem.W.keepIn K (.ref f12) = true)
    (a13 : PySem.W.nsIn K mainGlobals "spots_in" = some (some (.ref f13))) (l13 : K.lookup f13 = some ⟨oc13, od13, .func (PySem.W.fnOf "spots_in" "spots_in" (defArgs s_spots_in) (defBody s_spots_in) (defScope s_spots_in) .none kV13 dc13 pm13 an13 cd13 ct13), sl13⟩) (c13 : PySem.W.codeIn K cd13 "spots_in" = true) (k13 : PySem.W.keepIn K (.ref f13) = true)
    (a14 : PySem.W.nsIn K mainGlobals "is_shape" = some (some (.ref f14))) (l14 : K.lookup f14 = some ⟨oc14, od14, .func (PySem.W.fnOf "is_shape" "is_shape" (defArgs s_is_shape) (defBody s_is_shape) (defScope s_is_shape) .none kV14 dc14 pm14 an14 cd14 ct14), sl14⟩) (c14 : PySem.W.codeIn K cd14 "is_shape" = true) (k14 : PySem.W.keepIn K (.ref f14) = true)
    (a15 : PySem.W.nsIn K mainGlobals "is_chain" = some (some (.ref f15))) (l15 : K.lookup f15 = some ⟨oc15, od15, .func (PySem.W.fnOf "is_chain" "is_chain" (defArgs s_is_chain) (defBody s_is_chain) (defScope s_is_chain) .none kV15 dc15 pm15 an15 cd15 ct15), sl15⟩) (c15 : PySem.W.codeIn K cd15 "is_chain" = true) (k15 : PySem.W.keepIn K (.ref f15) = true)
    (a16 : PySem.W.nsIn K mainGlobals "lies_in" = some (some (.ref f16))) (l16 : K.lookup f16 = some ⟨oc16, od16, .func (PySem.W.fnOf "lies_in" "lies_in" (defArgs s_lies_in) (defBody s_lies_in) (defScope s_lies_in) .none kV16 dc16 pm16 an16 cd16 ct16), sl16⟩) (c16 : PySem.W.codeIn K cd16 "lies_in" = true) (k16 : PySem.W.keepIn K (.ref f16) = true)
    (a17 : PySem.W.nsIn K mainGlobals "size" = some (some (.ref f17))) (l17 : K.lookup f17 = some ⟨oc17, od17, .func (PySem.W.fnOf "size" "size" (defArgs s_size) (defBody s_size) (defScope s_size) .none kV17 dc17 pm17 an17 cd17 ct17), sl17⟩) (c17 : PySem.W.codeIn K cd17 "size" = true) (k17 : PySem.W.keepIn K (.ref f17) = true)
    (a18 : PySem.W.nsIn K mainGlobals "_law_take" = some (some (.ref f18))) (l18 : K.lookup f18 = some ⟨oc18, od18, .func (PySem.W.fnOf "_law_take" "_law_take" (defArgs s_take) (defBody s_take) (defScope s_take) .none kV18 dc18 pm18 an18 cd18 ct18), sl18⟩) (c18 : PySem.W.codeIn K cd18 "_law_take" = true) (k18 : PySem.W.keepIn K (.ref f18) = true)
    (a19 : PySem.W.nsIn K mainGlobals "_law_wide" = some (some (.ref f19))) (l19 : K.lookup f19 = some ⟨oc19, od19, .func (PySem.W.fnOf "_law_wide" "_law_wide" (defArgs s_wide) (defBody s_wide) (defScope s_wide) .none kV19 dc19 pm19 an19 cd19 ct19), sl19⟩) (c19 : PySem.W.codeIn K cd19 "_law_wide" = true) (k19 : PySem.W.keepIn K (.ref f19) = true)
    (a20 : PySem.W.nsIn K mainGlobals "_law_same" = some (some (.ref f20))) (l20 : K.lookup f20 = some ⟨oc20, od20, .func (PySem.W.fnOf "_law_same" "_law_same" (defArgs s_same) (defBody s_same) (defScope s_same) .none kV20 dc20 pm20 an20 cd20 ct20), sl20⟩) (c20 : PySem.W.codeIn K cd20 "_law_same" = true) (k20 : PySem.W.keepIn K (.ref f20) = true)
    (a21 : PySem.W.nsIn K mainGlobals "_law_boxes" = some (some (.ref f21))) (l21 : K.lookup f21 = some ⟨oc21, od21, .func (PySem.W.fnOf "_law_boxes" "_law_boxes" (defArgs s_boxes) (defBody s_boxes) (defScope s_boxes) .none kV21 dc21 pm21 an21 cd21 ct21), sl21⟩) (c21 : PySem.W.codeIn K cd21 "_law_boxes" = true) (k21 : PySem.W.keepIn K (.ref f21) = true)
    (a22 : PySem.W.nsIn K mainGlobals "_law_stretched" = some (some (.ref f22))) (l22 : K.lookup f22 = some ⟨oc22, od22, .func (PySem.W.fnOf "_law_stretched" "_law_stretched" (defArgs s_stretched) (defBody s_stretched) (defScope s_stretched) .none kV22 dc22 pm22 an22 cd22 ct22), sl22⟩) (c22 : PySem.W.codeIn K cd22 "_law_stretched" = true) (k22 : PySem.W.keepIn K (.ref f22) = true)
    (a23 : PySem.W.nsIn K mainGlobals "_law_stretch" = some (some (.ref f23))) (l23 : K.lookup f23 = some ⟨oc23, od23, .func (PySem.W.fnOf "_law_stretch" "_law_stretch" (defArgs s_stretch) (defBody s_stretch) (defScope s_stretch) .none kV23 dc23 pm23 an23 cd23 ct23), sl23⟩) (c23 : PySem.W.codeIn K cd23 "_law_stretch" = true) (k23 : PySem.W.keepIn K (.ref f23) = true)
    (a24 : PySem.W.nsIn K mainGlobals "_law_ring" = some (some (.ref f24))) (l24 : K.lookup f24 = some ⟨oc24, od24, .func (PySem.W.fnOf "_law_ring" "_law_ring" (defArgs s_ring) (defBody s_ring) (defScope s_ring) .none kV24 dc24 pm24 an24 cd24 ct24), sl24⟩) (c24 : PySem.W.codeIn K cd24 "_law_ring" = true) (k24 : PySem.W.keepIn K (.ref f24) = true)
    (a25 : PySem.W.nsIn K mainGlobals "_law_has" = some (some (.ref f25))) (l25 : K.lookup f25 = some ⟨oc25, od25, .func (PySem.W.fnOf "_law_has" "_law_has" (defArgs s_l_has) (defBody s_l_has) (defScope s_l_has) .none kV25 dc25 pm25 an25 cd25 ct25), sl25⟩) (c25 : PySem.W.codeIn K cd25 "_law_has" = true) (k25 : PySem.W.keepIn K (.ref f25) = true)
    (a26 : PySem.W.nsIn K mainGlobals "_law_span" = some (some (.ref f26))) (l26 : K.lookup f26 = some ⟨oc26, od26, .func (PySem.W.fnOf "_law_span" "_law_span" (defArgs s_span) (defBody s_span) (defScope s_span) .none kV26 dc26 pm26 an26 cd26 ct26), sl26⟩) (c26 : PySem.W.codeIn K cd26 "_law_span" = true) (k26 : PySem.W.keepIn K (.ref f26) = true)
    (a27 : PySem.W.nsIn K mainGlobals "_law_right" = some (some (.ref f27))) (l27 : K.lookup f27 = some ⟨oc27, od27, .func (PySem.W.fnOf "_law_right" "_law_right" (defArgs s_right) (defBody s_right) (defScope s_right) .none kV27 dc27 pm27 an27 cd27 ct27), sl27⟩) (c27 : PySem.W.codeIn K cd27 "_law_right" = true) (k27 : PySem.W.keepIn K (.ref f27) = true)
    (a28 : PySem.W.nsIn K mainGlobals "law" = some (some (.ref f28))) (l28 : K.lookup f28 = some ⟨oc28, od28, .func (PySem.W.fnOf "law" "law" (defArgs s_law) (defBody s_law) (defScope s_law) .none kV28 dc28 pm28 an28 cd28 ct28), sl28⟩) (c28 : PySem.W.codeIn K cd28 "law" = true) (k28 : PySem.W.keepIn K (.ref f28) = true)
    (z0 : PySem.W.nsIn K mainGlobals "abs" = some none)
    (z1 : PySem.W.nsIn K mainGlobals "all" = some none)
    (z2 : PySem.W.nsIn K mainGlobals "any" = some none)
    (z3 : PySem.W.nsIn K mainGlobals "bool" = some none)
    (z4 : PySem.W.nsIn K mainGlobals "int" = some none)
    (z5 : PySem.W.nsIn K mainGlobals "isinstance" = some none)
    (z6 : PySem.W.nsIn K mainGlobals "len" = some none)
    (z7 : PySem.W.nsIn K mainGlobals "list" = some none)
    (z8 : PySem.W.nsIn K mainGlobals "max" = some none)
    (z9 : PySem.W.nsIn K mainGlobals "min" = some none)
    (z10 : PySem.W.nsIn K mainGlobals "range" = some none)
    (z11 : PySem.W.nsIn K mainGlobals "repr" = some none)
    (z12 : PySem.W.nsIn K mainGlobals "str" = some none)
    (z13 : PySem.W.nsIn K mainGlobals "sum" = some none)
    (z14 : PySem.W.nsIn K mainGlobals "tuple" = some none)
    (u0 : PySem.W.nsIn K mainGlobals "MOST" = some (some (.int 999999999999 tk0)))
    (u1 : PySem.W.nsIn K mainGlobals "MOST_BOXES" = some (some (.int 6 tk1))) :
    ∃ fd : FuncData, (∀ (s : Shared) (v : Value), BindsTo s fd ⟨[v], []⟩ [("_law_script", v)]) ∧ ∀ base : Heap, K.In base → base.Ns mainGlobals mg → FnOk l.prog w K mg base CX0 7 fa fd ["_law_script"] (lift K spLaw) := by
  have e := hfa.symm.trans (PySem.W.mg_of X G a28)
  cases e
  have F0 := fun_mk (st := s_is_whole) l0 c0 k0
  have b0 := F0.binds (ps := ["thing"]) fun _ _ _ _ _ _ us hl => match us, hl with | [_], _ => rfl
  have F1 := fun_mk (st := s_is_short) l1 c1 k1
  have b1 := F1.binds (ps := ["thing"]) fun _ _ _ _ _ _ us hl => match us, hl with | [_], _ => rfl
  have F2 := fun_mk (st := s_is_any_spot) l2 c2 k2
  have b2 := F2.binds (ps := ["thing"]) fun _ _ _ _ _ _ us hl => match us, hl with | [_], _ => rfl
  have F3 := fun_mk (st := s_is_spot) l3 c3 k3
  have b3 := F3.binds (ps := ["thing"]) fun _ _ _ _ _ _ us hl => match us, hl with | [_], _ => rfl
  have F4 := fun_mk (st := s_is_box) l4 c4 k4
  have b4 := F4.binds (ps := ["thing"]) fun _ _ _ _ _ _ us hl => match us, hl with | [_], _ => rfl
  have F5 := fun_mk (st := s_has_spots) l5 c5 k5
  have b5 := F5.binds (ps := ["box"]) fun _ _ _ _ _ _ us hl => match us, hl with | [_], _ => rfl
  have F6 := fun_mk (st := s_has) l6 c6 k6
  have b6 := F6.binds (ps := ["box", "spot"]) fun _ _ _ _ _ _ us hl => match us, hl with | [_, _], _ => rfl
  have F7 := fun_mk (st := s_steps_to) l7 c7 k7
  have b7 := F7.binds (ps := ["box", "spot"]) fun _ _ _ _ _ _ us hl => match us, hl with | [_, _], _ => rfl
  have F8 := fun_mk (st := s_steps_between) l8 c8 k8
  have b8 := F8.binds (ps := ["one", "other"]) fun _ _ _ _ _ _ us hl => match us, hl with | [_, _], _ => rfl
  have F9 := fun_mk (st := s_gap) l9 c9 k9
  have b9 := F9.binds (ps := ["one", "other", "way"]) fun _ _ _ _ _ _ us hl => match us, hl with | [_, _, _], _ => rfl
  have F10 := fun_mk (st := s_common) l10 c10 k10
  have b10 := F10.binds (ps := ["one", "other"]) fun _ _ _ _ _ _ us hl => match us, hl with | [_, _], _ => rfl
  have F11 := fun_mk (st := s_cut_out) l11 c11 k11
  have b11 := F11.binds (ps := ["one", "other"]) fun _ _ _ _ _ _ us hl => match us, hl with | [_, _], _ => rfl
  have F12 := fun_mk (st := s_left_over) l12 c12 k12
  have b12 := F12.binds (ps := ["box", "others"]) fun _ _ _ _ _ _ us hl => match us, hl with | [_, _], _ => rfl
  have F13 := fun_mk (st := s_spots_in) l13 c13 k13
  have b13 := F13.binds (ps := ["box"]) fun _ _ _ _ _ _ us hl => match us, hl with | [_], _ => rfl
  have F14 := fun_mk (st := s_is_shape) l14 c14 k14
  have b14 := F14.binds (ps := ["thing"]) fun _ _ _ _ _ _ us hl => match us, hl with | [_], _ => rfl
  have F15 := fun_mk (st := s_is_chain) l15 c15 k15
  have b15 := F15.binds (ps := ["boxes"]) fun _ _ _ _ _ _ us hl => match us, hl with | [_], _ => rfl
  have F16 := fun_mk (st := s_lies_in) l16 c16 k16
  have b16 := F16.binds (ps := ["shape", "spot"]) fun _ _ _ _ _ _ us hl => match us, hl with | [_, _], _ => rfl
  have F17 := fun_mk (st := s_size) l17 c17 k17
  have b17 := F17.binds (ps := ["shape"]) fun _ _ _ _ _ _ us hl => match us, hl with | [_], _ => rfl
  have F18 := fun_mk (st := s_take) l18 c18 k18
  have b18 := F18.binds (ps := ["_law_pen", "_law_many"]) fun _ _ _ _ _ _ us hl => match us, hl with | [_, _], _ => rfl
  have F19 := fun_mk (st := s_wide) l19 c19 k19
  have b19 := F19.binds (ps := ["_law_pen", "_law_many"]) fun _ _ _ _ _ _ us hl => match us, hl with | [_, _], _ => rfl
  have F20 := fun_mk (st := s_same) l20 c20 k20
  have b20 := F20.binds (ps := ["_law_found", "_law_due"]) fun _ _ _ _ _ _ us hl => match us, hl with | [_, _], _ => rfl
  have F21 := fun_mk (st := s_boxes) l21 c21 k21
  have b21 := F21.binds (ps := ["_law_pen", "_law_most"]) fun _ _ _ _ _ _ us hl => match us, hl with | [_, _], _ => rfl
  have F22 := fun_mk (st := s_stretched) l22 c22 k22
  have b22 := F22.binds (ps := ["_law_boxes_here", "_law_by", "_law_off"]) fun _ _ _ _ _ _ us hl => match us, hl with | [_, _, _], _ => rfl
  have F23 := fun_mk (st := s_stretch) l23 c23 k23
  have b23 := F23.binds (ps := ["_law_pen"]) fun _ _ _ _ _ _ us hl => match us, hl with | [_], _ => rfl
  have F24 := fun_mk (st := s_ring) l24 c24 k24
  have b24 := F24.binds (ps := ["_law_pen"]) fun _ _ _ _ _ _ us hl => match us, hl with | [_], _ => rfl
  have F25 := fun_mk (st := s_l_has) l25 c25 k25
  have b25 := F25.binds (ps := ["_law_boxes_here", "_law_x", "_law_y"]) fun _ _ _ _ _ _ us hl => match us, hl with | [_, _, _], _ => rfl
  have F26 := fun_mk (st := s_span) l26 c26 k26
  have b26 := F26.binds (ps := ["_law_boxes_here", "_law_w"]) fun _ _ _ _ _ _ us hl => match us, hl with | [_, _], _ => rfl
  have F27 := fun_mk (st := s_right) l27 c27 k27
  have b27 := F27.binds (ps := ["_law_pen", "_law_boxes_here", "_law_by", "_law_off"]) fun _ _ _ _ _ _ us hl => match us, hl with | [_, _, _, _], _ => rfl
  have F28 := fun_mk (st := s_law) l28 c28 k28
  have b28 := F28.binds (ps := ["_law_script"]) fun _ _ _ _ _ _ us hl => match us, hl with | [_], _ => rfl
  let T : Tx K mg := ⟨_, _, ⟨F0, PySem.W.mg_of X G a0, b0⟩, _, _, ⟨F1, PySem.W.mg_of X G a1, b1⟩, _, _, ⟨F2, PySem.W.mg_of X G a2, b2⟩, _, _, ⟨F3, PySem.W.mg_of X G a3, b3⟩, _, _, ⟨F4, PySem.W.mg_of X G a4, b4⟩, _, _, ⟨F5, PySem.W.mg_of X G a5, b5⟩, _, _, ⟨F6, PySem.W.mg_of X G a6, b6⟩, _, _, ⟨F7, PySem.W.mg_of X G a7, b7⟩, _, _, ⟨F8, PySem.W.mg_of X G a8, b8⟩, _, _, ⟨F9, PySem.W.mg_of X G a9, b9⟩, _, _, ⟨F10, PySem.W.mg_of X G a10, b10⟩, _, _, ⟨F11, PySem.W.mg_of X G a11, b11⟩, _, _, ⟨F12, PySem.W.mg_of X G a12, b12⟩, _, _, ⟨F13, PySem.W.mg_of X G a13, b13⟩, _, _, ⟨F14, PySem.W.mg_of X G a14, b14⟩, _, _, ⟨F15, PySem.W.mg_of X G a15, b15⟩, _, _, ⟨F16, PySem.W.mg_of X G a16, b16⟩, _, _, ⟨F17, PySem.W.mg_of X G a17, b17⟩, _, _, ⟨F18, PySem.W.mg_of X G a18, b18⟩, _, _, ⟨F19, PySem.W.mg_of X G a19, b19⟩, _, _, ⟨F20, PySem.W.mg_of X G a20, b20⟩, _, _, ⟨F21, PySem.W.mg_of X G a21, b21⟩, _, _, ⟨F22, PySem.W.mg_of X G a22, b22⟩, _, _, ⟨F23, PySem.W.mg_of X G a23, b23⟩, _, _, ⟨F24, PySem.W.mg_of X G a24, b24⟩, _, _, ⟨F25, PySem.W.mg_of X G a25, b25⟩, _, _, ⟨F26, PySem.W.mg_of X G a26, b26⟩, _, _, ⟨F27, PySem.W.mg_of X G a27, b27⟩, _, _, ⟨F28, PySem.W.mg_of X G a28, b28⟩, PySem.W.mg_none_of X G z0, PySem.W.mg_none_of X G z1, PySem.W.mg_none_of X G z2, PySem.W.mg_none_of X G z3, PySem.W.mg_none_of X G z4, PySem.W.mg_none_of X G z5, PySem.W.mg_none_of X G z6, PySem.W.mg_none_of X G z7, PySem.W.mg_none_of X G z8, PySem.W.mg_none_of X G z9, PySem.W.mg_none_of X G z10, PySem.W.mg_none_of X G z11, PySem.W.mg_none_of X G z12, PySem.W.mg_none_of X G z13, PySem.W.mg_none_of X G z14, _, PySem.W.mg_of X G u0, _, PySem.W.mg_of X G u1⟩
  exact ⟨_, fun s v => .of_eq rfl, fun base _ _ => ok_law T⟩
theorem walk {l : PySem.W.OpenLaw} {q : Program} {loose : List Str} {XP : (Str → Option Value) → Heap → Prop} {YP : World → Heap → Prop} {d : DefRec} {K : Params → PySem.W.Frag} (hn : l.most = some 63) (hdf : d.params.defaults = [])
    (hY : ∀ (w : World) (h : Heap), YP w h → (K w.params).In h)
    (F : ∀ (w : World) (mg : Str → Option Value) (fa : Addr) (h : Heap), (K w.params).In h → h.Ns mainGlobals mg → mg d.name = some (.ref fa) →
      ∃ fd : FuncData, (∀ (s : Shared) (u : Value), BindsTo s fd ⟨[u], []⟩ [("_law_script", u)]) ∧ ∀ base : Heap, (K w.params).In base → base.Ns mainGlobals mg → FnOk l.prog w (K w.params) mg base CX0 7 fa fd ["_law_script"] (lift (K w.params) spLaw)) :
    PySem.W.WalkO q loose XP YP l.row.toRowW d [] (fun f vs => PySem.call f vs) :=
  L2.walk_of (n := 63) (k := 7) (x := "_law_script") (CX := fun _ => CX0) (sp := fun w => lift (K w.params) spLaw) hn (by decide) hdf ⟨rfl, by decide, by decide, rfl⟩ hY F
    (fun w H a ns hl hO hS => law_start hl hO hS) fun _ _ _ _ _ z => z
end My
open PySem PySem.W PyProof.Rows
set_option maxRecDepth 100000 in
set_option maxHeartbeats 0 in
theorem PySem.Challenge.cw_landsentered_k05_spots_of_shapes_holds : PySem.Challenge.rw_landsentered_k05_spots_of_shapes.Holds := by
  w_on; o_law; k_head; (case hw => w_witness2)
  k_fill
  refine My.walk (l := PySem.Challenge.rw_landsentered_k05_spots_of_shapes) rfl rfl (fun w h Y => PySem.W.kIn_of Y) ?F
  case F =>
    intro w mg fa h KX G hmg
    refine' My.all_mk KX G hmg ?a0 ?l0 ?c0 ?k0 ?a1 ?l1 ?c1 ?k1 ?a2 ?l2 ?c2 ?k2 ?a3 ?l3 ?c3 ?k3 ?a4 ?l4 ?c4 ?k4 ?a5 ?l5 ?c5 ?k5 ?a6 ?l6 ?c6 ?k6 ?a7 ?l7 ?c7 ?k7 ?a8 ?l8 ?c8 ?k8 ?a9 ?l9 ?c9 ?k9 ?a10 ?l10 ?c10 ?k10 ?a11 ?l11 ?c11 ?k11 ?a12 ?l12 ?c12 ?k12 ?a13 ?l13 ?c13 ?k13 ?a14 ?l14 ?c14 ?k14 ?a15 ?l15 ?c15 ?k15 ?a16 ?l16 ?c16 ?k16 ?a17 ?l17 ?c17 ?k17 ?a18 ?l18 ?c18 ?k18 ?a19 ?l19 ?c19 ?k19 ?a20 ?l20 ?c20 ?k20 ?a21 ?l21 ?c21 ?k21 ?a22 ?l22 ?c22 ?k22 ?a23 ?l23 ?c23 ?k23 ?a24 ?l24 ?c24 ?k24 ?a25 ?l25 ?c25 ?k25 ?a26 ?l26 ?c26 ?k26 ?a27 ?l27 ?c27 ?k27 ?a28 ?l28 ?c28 ?k28 ?z0 ?z1 ?z2 ?z3 ?z4 ?z5 ?z6 ?z7 ?z8 ?z9 ?z10 ?z11 ?z12 ?z13 ?z14 ?u0 ?u1
    (case a0 => k_is)
    (case l0 => k_is)
    (case c0 => k_is)
    (case k0 => k_is)
    (case a1 => k_is)
    (case l1 => k_is)
    (case c1 => k_is)
    (case k1 => k_is)
    (case a2 => k_is)
    (case l2 => k_is)
    (case c2 => k_is)
    (case k2 => k_is)
    (case a3 => k_is)
    (case l3 => k_is)
    (case c3 => k_is)
    (case k3 => k_is)
    (case a4 => k_is)
    (case l4 => k_is)
    (case c4 => k_is)
    (case k4 => k_is)
    (case a5 => k_is)
    (case l5 => k_is)
    (case c5 => k_is)
    (case k5 => k_is)
    (case a6 => k_is)
    (case l6 => k_is)
    (case c6 => k_is)
    (case k6 => k_is)
    (case a7 => k_is)
    (case l7 => k_is)
    (case c7 => k_is)
    (case k7 => k_is)
    (case a8 => k_is)
    (case l8 => k_is)
    (case c8 => k_is)
    (case k8 => k_is)
    (case a9 => k_is)
    (case l9 => k_is)
    (case c9 => k_is)
    (case k9 => k_is)
    (case a10 => k_is)
    (case l10 => k_is)
    (case c10 => k_is)
    (case k10 => k_is)
    (case a11 => k_is)
    (case l11 => k_is)
    (case c11 => k_is)
    (case k11 => k_is)
    (case a12 => k_is)
    (case l12 => k_is)
    (case c12 => k_is)
    (case k12 => k_is)
    (case a13 => k_is)
    (case l13 => k_is)
    (case c13 => k_is)
    (case k13 => k_is)
    (case a14 => k_is)
    (case l14 => k_is)
    (case c14 => k_is)
    (case k14 => k_is)
    (case a15 => k_is)
    (case l15 => k_is)
    (case c15 => k_is)
    (case k15 => k_is)
    (case a16 => k_is)
    (case l16 => k_is)
    (case c16 => k_is)
    (case k16 => k_is)
    (case a17 => k_is)
    (case l17 => k_is)
    (case c17 => k_is)
    (case k17 => k_is)
    (case a18 => k_is)
    (case l18 => k_is)
    (case c18 => k_is)
    (case k18 => k_is)
    (case a19 => k_is)
    (case l19 => k_is)
    (case c19 => k_is)
    (case k19 => k_is)
    (case a20 => k_is)
    (case l20 => k_is)
    (case c20 => k_is)
    (case k20 => k_is)
    (case a21 => k_is)
    (case l21 => k_is)
    (case c21 => k_is)
    (case k21 => k_is)
    (case a22 => k_is)
    (case l22 => k_is)
    (case c22 => k_is)
    (case k22 => k_is)
    (case a23 => k_is)
    (case l23 => k_is)
    (case c23 => k_is)
    (case k23 => k_is)
    (case a24 => k_is)
    (case l24 => k_is)
    (case c24 => k_is)
    (case k24 => k_is)
    (case a25 => k_is)
    (case l25 => k_is)
    (case c25 => k_is)
    (case k25 => k_is)
    (case a26 => k_is)
    (case l26 => k_is)
    (case c26 => k_is)
    (case k26 => k_is)
    (case a27 => k_is)
    (case l27 => k_is)
    (case c27 => k_is)
    (case k27 => k_is)
    (case a28 => k_is)
    (case l28 => k_is)
    (case c28 => k_is)
    (case k28 => k_is)
    (case z0 => k_is)
    (case z1 => k_is)
    (case z2 => k_is)
    (case z3 => k_is)
    (case z4 => k_is)
    (case z5 => k_is)
    (case z6 => k_is)
    (case z7 => k_is)
    (case z8 => k_is)
    (case z9 => k_is)
    (case z10 => k_is)
    (case z11 => k_is)
    (case z12 => k_is)
    (case z13 => k_is)
    (case z14 => k_is)
    (case u0 => k_is)
    (case u1 => k_is)
