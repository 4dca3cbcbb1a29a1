import PyProof.Rows.All
import Wide.All
import OpenK.AllK
import Wide.FinOn
import Lean
import PyProof.EqAt
import PyProof.EqKinds
import PyProof.TupleCall
import PyProof.ReprRoads
import PyProof.EqLayable
import PyProof.NeData
import PyProof.Rows.TupDisplay
import PySem.Challenge.RW_landsentered_k10_covered_or_not
set_option Elab.async false
set_option linter.all false
set_option maxRecDepth 100000
namespace L2
open PySem PySem.Spec PyProof.Rows

/-- a key: an int or a str -/
abbrev Key := Sum Int Str
def keyIs : Key → Value → Bool
  | .inl k, v => Value.isInt k v
  | .inr x, v => Value.isStrOf x v
def keyH (w : World) : Key → Int
  | .inl k => hashInt k
  | .inr x => hashStr w x
theorem keyIs_shape : ∀ {k : Key} {v : Value}, keyIs k v = true → (∃ i t, k = Sum.inl i ∧ v = Value.int i t) ∨ (∃ x t, k = Sum.inr x ∧ v = Value.str x t)
  | .inl i, v, h => by
    obtain ⟨t, e⟩ := Value.isInt_shape (k := i) (v := v) h
    exact .inl ⟨i, t, rfl, e⟩
  | .inr x, v, h => by
    obtain ⟨t, e⟩ := Value.isStrOf_shape (x := x) (v := v) h
    exact .inr ⟨x, t, rfl, e⟩
theorem keyIs_int (i : Int) (t : Tok) : keyIs (.inl i) (.int i t) = true := by simp [keyIs, Value.isInt]
theorem keyIs_str (x : Str) (t : Tok) : keyIs (.inr x) (.str x t) = true := by simp [keyIs, Value.isStrOf]
theorem key_ll (a b : Int) : decide ((Sum.inl a : Key) = Sum.inl b) = (a == b) := by
  by_cases e : a = b
  · subst e; simp
  · have h : ¬ (Sum.inl a : Key) = Sum.inl b := fun q => e (Sum.inl.inj q)
    rw [decide_eq_false h]
    exact (beq_eq_false_iff_ne.mpr e).symm
theorem key_rr (a b : Str) : decide ((Sum.inr a : Key) = Sum.inr b) = decide (a = b) := by
  by_cases e : a = b
  · subst e; simp
  · have h : ¬ (Sum.inr a : Key) = Sum.inr b := fun q => e (Sum.inr.inj q)
    rw [decide_eq_false h, decide_eq_false e]
theorem key_lr (a : Int) (b : Str) : decide ((Sum.inl a : Key) = Sum.inr b) = false := decide_eq_false (fun q => nomatch q)
theorem key_rl (a : Str) (b : Int) : decide ((Sum.inr a : Key) = Sum.inl b) = false := decide_eq_false (fun q => nomatch q)

def mixKind (prog : Program) (w : World) : PySem.KeyKind prog w Key where
  is := keyIs
  hash := keyH w
  inj := fun v a b ha hb => by
    rcases keyIs_shape ha with ⟨i, t, rfl, rfl⟩ | ⟨x, t, rfl, rfl⟩
    · rcases keyIs_shape hb with ⟨j, u, rfl, e⟩ | ⟨y, u, rfl, e⟩
      · injection e with e1 _; rw [e1]
      · exact nomatch e
    · rcases keyIs_shape hb with ⟨j, u, rfl, e⟩ | ⟨y, u, rfl, e⟩
      · exact nomatch e
      · injection e with e1 _; rw [e1]
  byValue := fun k v h => by
    rcases keyIs_shape h with ⟨i, t, rfl, rfl⟩ | ⟨x, t, rfl, rfl⟩ <;> rfl
  pyHash := fun hv h => by
    rcases keyIs_shape hv with ⟨i, t, rfl, rfl⟩ | ⟨x, t, rfl, rfl⟩
    · exact wpAny_pyHash_int h
    · exact wpAny_pyHash_str h
  eqBool := fun hu hv h => by
    rcases keyIs_shape hu with ⟨i, t, rfl, rfl⟩ | ⟨x, t, rfl, rfl⟩
    · rcases keyIs_shape hv with ⟨j, u, rfl, rfl⟩ | ⟨y, u, rfl, rfl⟩
      · rw [key_ll] at h; exact wpAny_eqBool_int h
      · rw [key_lr] at h; exact SeqAt.EqAt.int_str i t y u _ _ _ _ h
    · rcases keyIs_shape hv with ⟨j, u, rfl, rfl⟩ | ⟨y, u, rfl, rfl⟩
      · rw [key_rl] at h; exact SeqAt.EqAt.str_int x t j u _ _ _ _ h
      · rw [key_rr] at h; exact wpAny_eqBool_str h
  «strs» := fun k x t v h => by
    rcases keyIs_shape h with ⟨i, u, rfl, e⟩ | ⟨y, u, rfl, e⟩
    · exact nomatch e
    · injection e with e1 _
      subst e1
      cases v <;> rfl

theorem mixKind_int (prog : Program) (w : World) (i : Int) (t : Tok) : (mixKind prog w).is (.inl i) (.int i t) = true := keyIs_int i t
theorem mixKind_str (prog : Program) (w : World) (x : Str) (t : Tok) : (mixKind prog w).is (.inr x) (.str x t) = true := keyIs_str x t
end L2

namespace L2
open PySem PySem.Spec PyProof.Rows

/-- a value, without the heap -/
inductive V where
  | non | bl (b : Bool) | int (i : Int) | str (x : Str) | byt (b : Array UInt8) | flt (b : UInt64) | ref (a : Addr) | ty (n : String)
  deriving DecidableEq

def RelV : V → Value → Prop
  | .non, u => u = Value.none
  | .bl b, u => u = Value.bool b
  | .int i, u => ∃ t, u = Value.int i t
  | .str x, u => ∃ t, u = Value.str x t
  | .byt b, u => ∃ t, u = Value.bytes b t
  | .flt b, u => ∃ t, u = Value.float b t
  | .ref a, u => u = Value.ref a
  | .ty n, u => u = Value.type n

abbrev Vals : List V → List Value → Prop := Paired RelV
theorem Vals.length {xs : List V} {us : List Value} (r : Vals xs us) : xs.length = us.length := Paired.length r
theorem Vals.get : ∀ {xs : List V} {us : List Value} {i : Nat} {x : V}, Vals xs us → xs[i]? = some x → ∃ u, us[i]? = some u ∧ RelV x u
  | _, _, _, _, .nil, e => by simp at e
  | _, _, 0, _, .cons r _, e => by simp at e; subst e; exact ⟨_, rfl, r⟩
  | _, _, i + 1, x, .cons _ t, e => by
    obtain ⟨u, h1, h2⟩ := Vals.get (i := i) (x := x) t (by simpa using e)
    exact ⟨u, by simpa using h1, h2⟩
theorem Vals.set {x : V} {u : Value} (r : RelV x u) : ∀ {xs : List V} {us : List Value} (i : Nat), Vals xs us → Vals (xs.set i x) (us.set i u)
  | _, _, _, .nil => .nil
  | _, _, 0, .cons _ t => .cons r t
  | _, _, i + 1, .cons q t => .cons q (Vals.set r i t)
theorem Vals.append : ∀ {xs ys : List V} {us ws : List Value}, Vals xs us → Vals ys ws → Vals (xs ++ ys) (us ++ ws)
  | _, _, _, _, .nil, s => s
  | _, _, _, _, .cons r t, s => .cons r (Vals.append t s)
theorem Vals.take : ∀ {xs : List V} {us : List Value} (n : Nat), Vals xs us → Vals (xs.take n) (us.take n)
  | _, _, 0, _ => .nil
  | _, _, _ + 1, .nil => .nil
  | _, _, n + 1, .cons r t => .cons r (Vals.take n t)
theorem Vals.drop : ∀ {xs : List V} {us : List Value} (n : Nat), Vals xs us → Vals (xs.drop n) (us.drop n)
  | _, _, 0, r => r
  | _, _, _ + 1, .nil => .nil
  | _, _, n + 1, .cons _ t => Vals.drop n t
theorem Vals.none_of : ∀ {xs : List V} {us : List Value} {i : Nat}, Vals xs us → xs[i]? = none → us[i]? = none := fun {xs us i} r e => by
  have h1 := r.length
  have h2 : xs.length ≤ i := List.getElem?_eq_none_iff.mp e
  exact List.getElem?_eq_none_iff.mpr (by omega)

def RelO : Option V → Option Value → Prop
  | some v, some u => RelV v u
  | none, none => True
  | _, _ => False
def KV {κ : Type} : List (κ × V) → List (κ × Value) → Prop := Paired fun (p : κ × V) (q : κ × Value) => p.1 = q.1 ∧ RelV p.2 q.2

/-- a key of a dict (00_mix): an int or a text -/
def kV : Key → V
  | .inl i => .int i
  | .inr x => .str x

/-- what stands at a tracked address -/
inductive HO where
  /-- a list -/
  | lst (xs : List V)
  /-- a tuple (never changes) -/
  | tup (xs : List V)
  /-- a dict whose keys are ints and texts; one whose keys are tuples of ints and texts (the empty one is both) -/
  | dK (kvs : List (Key × V)) | dT (kvs : List (List Key × V))
  /-- a set of ints: its members, its size -/
  | set (S : Int → Bool) (n : Nat)
  /-- an instance of the class at C, its dict at dx, its attributes -/
  | ins (C dx : Addr) (fs : List (Str × V))
  /-- the dict of the instance at x -/
  | own (x : Addr)
  /-- the dict of an exception -/
  | xd (fs : List (Str × V))
  /-- a bound method, f of x -/
  | met (f x : Addr)
  /-- a range object lo, lo + 1, .. below hi -/
  | rng (lo hi : Int)
  /-- a thing that is known to the object (the script; a dict while a loop walks it): read, never written while it is so -/
  | frz (o : Obj) (u : HO)
  /-- a code object's table -/
  | tbl (ps : Array Value)
  /-- any other thing, by what is true of its one object (a def of one's own: SetO a S n := HO.ext fun h => ..) -/
  | ext (φ : Heap → Prop)

abbrev Hp := Addr → Option HO
def upd (H : Hp) (a : Addr) (o : HO) : Hp := fun b => if b = a then some o else H b
theorem upd_same {H : Hp} {a : Addr} {o : HO} : upd H a o a = some o := by unfold upd; rw [if_pos rfl]
theorem upd_ne {H : Hp} {a b : Addr} {o : HO} (h : b ≠ a) : upd H a o b = H b := by unfold upd; rw [if_neg h]
/-- two objects of different content stand apart -/
theorem ne_of {H : Hp} {a b : Addr} {o u : HO} (h : H a = some o) (h' : H b = some u) (d : o ≠ u) : a ≠ b := by
  intro e; subst e; rw [h] at h'; exact d (Option.some.inj h')
theorem ne_of_none {H : Hp} {a b : Addr} {o : HO} (h : H a = some o) (h' : H b = none) : a ≠ b := by
  intro e; subst e; rw [h] at h'; cases h'

section
variable (P : Program) (w : World)
def ObjOk (H : Hp) (h : Heap) (a : Addr) : HO → Prop
  | .lst xs => xs.length ≤ sizeLine ∧ ∃ (its : List Value) (n : Nat), Vals xs its ∧ h.get? a = some { cls := .type "list", data := .seq its.toArray n }
  | .tup xs => xs.length ≤ sizeLine ∧ ∃ its : List Value, Vals xs its ∧ IsTup h a its.toArray
  | .dK kvs => kvs.length ≤ sizeLine ∧ (a == sysModules) = false ∧ ∃ vs, KV kvs vs ∧ h.DictOf (mixKind P w) a vs
  | .dT kvs => kvs.length ≤ sizeLine ∧ (a == sysModules) = false ∧ ∃ xs : List (List Key × Addr × Value),
      Paired (fun (p : List Key × V) (q : List Key × Addr × Value) => p.1 = q.1 ∧ H q.2.1 = some (.tup (p.1.map kV)) ∧ RelV p.2 q.2.2) kvs xs ∧
      ∃ o es ep, h.get? a = some o ∧ o.ExactDict ∧ o.data = .dict es ep ∧ es.toList = xs.map (entryOfKey (tupleKind (mixKind P w))) ∧ (xs.map (·.1)).Nodup
  | .set S n => h.SetOf (intKind P w) a S n
  | .ins C dx fs => H dx = some (.own a) ∧ fs.length ≤ 1000 ∧ dx ≠ a ∧ h.get? a = some (PySem.W.instObj C dx) ∧
      ∃ mA, h.Ns1 dx mA ∧ (∀ f, RelO (fs.lookup f) (mA f)) ∧ PySem.Within mA (fs.map (·.1))
  | .own _ => ∃ o, h.get? a = some o
  | .xd fs => ∃ mA, h.Ns1 a mA ∧ ∀ f, RelO (fs.lookup f) (mA f)
  | .rng lo hi => ∃ t u v, h.get? a = some { cls := .type "range", data := .fields #[.int lo t, .int hi u, .int 1 v] }
  | .frz o u => h.get? a = some o ∧ ObjOk H h a u
  | .tbl ps => h.get? a = some { cls := .none, data := .fields ps }
  | .met f x => h.get? a = some (PySem.W.methodObj (.ref f) (.ref x))
  | .ext φ => φ h ∧ (∃ o, h.get? a = some o) ∧ ∀ h1 h2 : Heap, φ h1 → (∀ o, h1.get? a = some o → h2.get? a = some o) → φ h2
/-- the abstract heap is held -/
def HOk (H : Hp) (h : Heap) : Prop := ∀ a o, H a = some o → ObjOk P w H h a o
end

section
variable {P : Program} {w : World} {H H' : Hp} {h h' : Heap} {a : Addr} {o : HO}
theorem ObjOk.lt (x : ObjOk P w H h a o) : a < h.objs.size := by
  cases o with
  | lst xs => obtain ⟨_, _, _, _, e⟩ := x; exact Heap.lt_size e
  | tup xs => obtain ⟨_, _, _, p⟩ := x; exact p.lt
  | dK kvs => obtain ⟨_, _, _, _, o, _, _, e, _⟩ := x; exact Heap.lt_size e
  | dT kvs => obtain ⟨_, _, _, _, o, _, _, e, _⟩ := x; exact Heap.lt_size e
  | set S n => obtain ⟨o, _, _, _, e, _⟩ := x; exact Heap.lt_size e
  | ins C dx fs => obtain ⟨_, _, _, e, _⟩ := x; exact Heap.lt_size e
  | own y => obtain ⟨_, e⟩ := x; exact Heap.lt_size e
  | xd fs => obtain ⟨_, ⟨_, _, _, e, _⟩, _⟩ := x; exact Heap.lt_size e
  | rng lo hi => obtain ⟨_, _, _, e⟩ := x; exact Heap.lt_size e
  | frz ob u => obtain ⟨e, _⟩ := x; exact Heap.lt_size e
  | tbl ps => exact Heap.lt_size (show h.get? a = some _ from x)
  | met f y => exact Heap.lt_size (show h.get? a = some _ from x)
  | ext φ => obtain ⟨_, ⟨_, e⟩, _⟩ := x; exact Heap.lt_size e
theorem Paired.mapP {α β : Type} {F G : α → β → Prop} : ∀ {l₁ : List α} {l₂ : List β}, Paired F l₁ l₂ → (∀ a b, F a b → G a b) → Paired G l₁ l₂
  | _, _, .nil, _ => .nil
  | _, _, .cons r t, f => .cons (f _ _ r) (Paired.mapP t f)
/-- what an object's description leans on: its own object, its own dict, the tuples -/
theorem ObjOk.stay (x : ObjOk P w H h a o) (k : ∀ b u, (b = a ∨ H b = some (.own a)) → h.get? b = some u → h'.get? b = some u)
    (ho : ∀ b, H b = some (.own a) → H' b = some (.own a)) (ht : ∀ b xs, H b = some (.tup xs) → H' b = some (.tup xs)) : ObjOk P w H' h' a o := by
  induction o with
  | lst xs => obtain ⟨z, its, n, r, e⟩ := x; exact ⟨z, its, n, r, k _ _ (.inl rfl) e⟩
  | tup xs => obtain ⟨z, its, r, ob, e, c⟩ := x; exact ⟨z, its, r, ob, k _ _ (.inl rfl) e, c⟩
  | dK kvs => obtain ⟨z, y, vs, r, ob, es, ep, e, c⟩ := x; exact ⟨z, y, vs, r, ob, es, ep, k _ _ (.inl rfl) e, c⟩
  | dT kvs =>
    obtain ⟨z, y, xs, r, ob, es, ep, e, c⟩ := x
    exact ⟨z, y, xs, Paired.mapP r fun p q z => ⟨z.1, ht _ _ z.2.1, z.2.2⟩, ob, es, ep, k _ _ (.inl rfl) e, c⟩
  | set S n => obtain ⟨ob, es, ep, t, e, c⟩ := x; exact ⟨ob, es, ep, t, k _ _ (.inl rfl) e, c⟩
  | ins C dx fs =>
    obtain ⟨d, z, ne, e, mA, ⟨od, es, ep, e2, c⟩, r⟩ := x
    exact ⟨ho _ d, z, ne, k _ _ (.inl rfl) e, mA, ⟨od, es, ep, k _ _ (.inr d) e2, c⟩, r⟩
  | own y => obtain ⟨ob, e⟩ := x; exact ⟨ob, k _ _ (.inl rfl) e⟩
  | xd fs => obtain ⟨mA, ⟨od, es, ep, e, c⟩, r⟩ := x; exact ⟨mA, ⟨od, es, ep, k _ _ (.inl rfl) e, c⟩, r⟩
  | rng lo hi => obtain ⟨t, u, v, e⟩ := x; exact ⟨t, u, v, k _ _ (.inl rfl) e⟩
  | frz ob u ih => obtain ⟨e, q⟩ := x; exact ⟨k _ _ (.inl rfl) e, ih q⟩
  | tbl ps =>
    have e : h.get? a = some { cls := .none, data := .fields ps } := x
    show h'.get? a = some { cls := .none, data := .fields ps }
    exact k a _ (.inl rfl) e
  | met f y =>
    have e : h.get? a = some (PySem.W.methodObj (.ref f) (.ref y)) := x
    show h'.get? a = some (PySem.W.methodObj (.ref f) (.ref y))
    exact k a _ (.inl rfl) e
  | ext φ => obtain ⟨p, ⟨o, e⟩, st⟩ := x; exact ⟨st _ _ p fun o q => k _ _ (.inl rfl) q, ⟨o, k _ _ (.inl rfl) e⟩, st⟩
theorem HOk.lt (x : HOk P w H h) (e : H a = some o) : a < h.objs.size := (x a o e).lt
theorem HOk.fresh (x : HOk P w H h) (e : h.objs.size ≤ a) : H a = none := by
  cases q : H a with
  | none => rfl
  | some u => exact absurd (Nat.lt_of_lt_of_le (x.lt q) e) (Nat.lt_irrefl _)
/-- every object of the heap is kept -/
theorem HOk.kept (x : HOk P w H h) (k : ∀ b u, h.get? b = some u → h'.get? b = some u) : HOk P w H h' := fun a o e =>
  (x a o e).stay (fun b u _ q => k b u q) (fun _ q => q) fun _ _ q => q
/-- a new object is laid and tracked -/
theorem HOk.laid (x : HOk P w H h) (k : ∀ b u, h.get? b = some u → h'.get? b = some u) (hp : h.objs.size ≤ a) (new : ObjOk P w (upd H a o) h' a o) : HOk P w (upd H a o) h' := fun b u e => by
  have hn := x.fresh hp
  by_cases hb : b = a
  · subst hb; rw [upd_same] at e; cases e; exact new
  · rw [upd_ne hb] at e
    exact (x b u e).stay (fun c v _ q => k c v q) (fun c q => by rw [upd_ne (ne_of_none q hn)]; exact q) fun c xs q => by rw [upd_ne (ne_of_none q hn)]; exact q
end

/-- what may be read as u: it is u, or a known u -/
def Rd (H : Hp) (a : Addr) (u : HO) : Prop := H a = some u ∨ ∃ o, H a = some (.frz o u)
theorem Rd.of {H : Hp} {a : Addr} {u : HO} (h : H a = some u) : Rd H a u := .inl h
theorem Rd.ok {P : Program} {w : World} {H : Hp} {h : Heap} {a : Addr} {u : HO} (r : Rd H a u) (x : HOk P w H h) : ObjOk P w H h a u := by
  rcases r with r | ⟨o, r⟩
  · exact x a u r
  · obtain ⟨_, q⟩ := x a _ r
    exact q
/-- what may be written -/
def Mut : Option HO → Prop
  | some (.lst _) => True
  | some (.dK _) => True
  | some (.dT _) => True
  | some (.set _ _) => True
  | some (.ins _ _ _) => True
  | some (.ext _) => True
  | _ => False
section
variable {P : Program} {w : World} {H : Hp} {h h' : Heap} {x e : Addr} {o' : HO}
/-- the object at e is changed: x itself, or the dict of the instance x -/
theorem HOk.write (ok : HOk P w H h) (mu : Mut (H x)) (he : e = x ∨ H e = some (.own x)) (k : ∀ b u, b ≠ e → h.get? b = some u → h'.get? b = some u) (heo : ∃ u, h'.get? e = some u)
    (new : ObjOk P w (upd H x o') h' x o') : HOk P w (upd H x o') h' := fun b u q => by
  have nown : ∀ c y, H c = some (.own y) → c ≠ x := fun c y r z => by subst z; rw [r] at mu; exact mu
  have ntup : ∀ c xs, H c = some (.tup xs) → c ≠ x := fun c xs r z => by subst z; rw [r] at mu; exact mu
  by_cases hb : b = x
  · subst hb; rw [upd_same] at q; cases q; exact new
  · rw [upd_ne hb] at q
    by_cases hbe : b = e
    · have q' : H b = some (.own x) := by
        rcases he with z | z
        · exact absurd (hbe.trans z) hb
        · rw [hbe]; exact z
      rw [q] at q'; cases q'
      obtain ⟨v, hv⟩ := heo
      exact ⟨v, by rw [hbe]; exact hv⟩
    · refine (ok b u q).stay (fun c v hc r => k c v ?_ r) (fun c r => by rw [upd_ne (nown c b r)]; exact r) fun c xs r => by rw [upd_ne (ntup c xs r)]; exact r
      rcases hc with rfl | hc
      · exact hbe
      · rintro rfl
        rcases he with z | z
        · exact nown c b hc z
        · rw [hc] at z; cases z; exact hb rfl
end

/-! ### kept unless tracked; of the frames at fs (the callers') the slots may change (an exception that passes writes there); of the records at ex (iterators) nothing is said -/
structure Un (fs ex : List Addr) (H H' : Hp) (h h' : Heap) : Prop where
  keep : ∀ b o, h.get? b = some o → H b = none → b ∉ fs → b ∉ ex → h'.get? b = some o
  slot : ∀ b o, h.get? b = some o → H b = none → b ∈ fs → b ∉ ex → ∃ sl, h'.get? b = some { o with slots := sl }
  free : ∀ b o, h.get? b = some o → H b = none → b ∉ ex → H' b = none
  there : ∀ b o, h.get? b = some o → b ∉ ex → ∃ o', h'.get? b = some o'
  tups : ∀ b xs, H b = some (.tup xs) → H' b = some (.tup xs)
  frzs : ∀ b o u, H b = some (.frz o u) → H' b = some (.frz o u)
  tbls : ∀ b ps, H b = some (.tbl ps) → ∃ more, H' b = some (.tbl (ps ++ more))
section
variable {fs fs' ex ex' : List Addr} {H H1 H2 : Hp} {h h1 h2 h' : Heap} {a x e : Addr} {o : HO}
theorem Un.any (u : Un fs ex H H1 h h1) {b : Addr} {ob : Obj} (q : h.get? b = some ob) (n : H b = none) (hx : b ∉ ex) : ∃ sl, h1.get? b = some { ob with slots := sl } := by
  by_cases hb : b ∈ fs
  · exact u.slot b ob q n hb hx
  · exact ⟨ob.slots, u.keep b ob q n hb hx⟩
theorem Un.trans (a : Un fs ex H H1 h h1) (b : Un fs ex H1 H2 h1 h2) : Un fs ex H H2 h h2 where
  keep := fun c ob q n hc hx => b.keep c ob (a.keep c ob q n hc hx) (a.free c ob q n hx) hc hx
  slot := fun c ob q n hc hx => by
    obtain ⟨sl, e1⟩ := a.slot c ob q n hc hx
    obtain ⟨sl', e2⟩ := b.slot c _ e1 (a.free c ob q n hx) hc hx
    exact ⟨sl', e2⟩
  free := fun c ob q n hx => by
    obtain ⟨o', e1⟩ := a.there c ob q hx
    exact b.free c o' e1 (a.free c ob q n hx) hx
  there := fun c ob q hx => by
    obtain ⟨o', e1⟩ := a.there c ob q hx
    exact b.there c o' e1 hx
  tups := fun c xs q => b.tups c xs (a.tups c xs q)
  frzs := fun c ob xs q => b.frzs c ob xs (a.frzs c ob xs q)
  tbls := fun c ps q => by
    obtain ⟨m1, e1⟩ := a.tbls c ps q
    obtain ⟨m2, e2⟩ := b.tbls c _ e1
    exact ⟨m1 ++ m2, by rw [e2, Array.append_assoc]⟩
theorem Un.kept (k : ∀ b u, h.get? b = some u → h'.get? b = some u) : Un fs ex H H h h' :=
  ⟨fun b ob q _ _ _ => k b ob q, fun b ob q _ _ _ => ⟨ob.slots, k b ob q⟩, fun _ _ _ n _ => n, fun b ob q _ => ⟨ob, k b ob q⟩, fun _ _ q => q, fun _ _ _ q => q, fun _ ps q => ⟨#[], by rw [q]; simp⟩⟩
theorem Un.refl : Un fs ex H H h h := Un.kept fun _ _ q => q
theorem Un.laid (k : ∀ b u, h.get? b = some u → h'.get? b = some u) (hp : h.objs.size ≤ a) (hn : H a = none) : Un fs ex H (upd H a o) h h' where
  keep := fun b u q _ _ _ => k b u q
  slot := fun b u q _ _ _ => ⟨u.slots, k b u q⟩
  free := fun b u q n _ => by rw [upd_ne (Nat.ne_of_lt (Nat.lt_of_lt_of_le (Heap.lt_size q) hp))]; exact n
  there := fun b u q _ => ⟨u, k b u q⟩
  tups := fun b xs q => by rw [upd_ne (ne_of_none q hn)]; exact q
  frzs := fun b u xs q => by rw [upd_ne (ne_of_none q hn)]; exact q
  tbls := fun b ps q => ⟨#[], by rw [upd_ne (ne_of_none q hn), q]; simp⟩
theorem Un.write (mu : Mut (H x)) (he : e = x ∨ H e = some (.own x)) (k : ∀ b u, b ≠ e → h.get? b = some u → h'.get? b = some u) (heo : ∃ u, h'.get? e = some u) : Un fs ex H (upd H x o) h h' := by
  have hx : ∀ b, H b = none → b ≠ x := fun b n z => by subst z; rw [n] at mu; exact mu
  have hb : ∀ b, H b = none → b ≠ e := fun b n z => by
    subst z
    rcases he with r | r
    · exact hx b n r
    · rw [n] at r; cases r
  have hm : ∀ b u, H b = some u → ¬ Mut (some u) → b ≠ x := fun b u q nm z => by subst z; rw [q] at mu; exact nm mu
  refine ⟨fun b u q n _ _ => k b u (hb b n) q, fun b u q n _ _ => ⟨u.slots, k b u (hb b n) q⟩, fun b u q n _ => by rw [upd_ne (hx b n)]; exact n, fun b u q _ => ?_,
    fun b xs q => by rw [upd_ne (hm b _ q fun z => z)]; exact q, fun b u xs q => by rw [upd_ne (hm b _ q fun z => z)]; exact q, fun b ps q => ⟨#[], by rw [upd_ne (hm b _ q fun z => z), q]; simp⟩⟩
  by_cases hbe : b = e
  · subst hbe; exact heo
  · exact ⟨u, k b u hbe q⟩
end

/-! ### the heap without what is tracked -/
def trk (h : Heap) (H : Hp) : List Addr := (List.range h.objs.size).filter fun a => (H a).isSome
def hidT (h : Heap) (H : Hp) : Heap := PySem.W.hideAll h (trk h H)
theorem hidT_size (h : Heap) (H : Hp) : (hidT h H).objs.size = h.objs.size := PySem.W.hideAll_size _ _
theorem hidT_get {h : Heap} {H : Hp} {b : Addr} {o : Obj} (e : h.get? b = some o) (n : H b = none) : (hidT h H).get? b = some o :=
  PySem.W.hideAll_get _ e fun hm => by
    have q : (H b).isSome = true := (List.mem_filter.mp hm).2
    rw [n] at q; simp at q
theorem of_hidT {h : Heap} {H : Hp} {b : Addr} {o : Obj} (e : (hidT h H).get? b = some o) : h.get? b = some o ∧ H b = none := by
  have e' : h.get? b = some o := PySem.W.of_hideAll (trk h H) e
  refine ⟨e', ?_⟩
  cases q : H b with
  | none => rfl
  | some x =>
    have hm : b ∈ trk h H := List.mem_filter.mpr ⟨List.mem_range.mpr (Heap.lt_size e'), by simp [q]⟩
    have z : (hidT h H).get? b = none := PySem.W.hideAll_none (trk h H) hm
    rw [z] at e; cases e

/-! ### OpenK's ledger, filled with every new object but one -/
def allNews (g h : Heap) (L : Addr) : List (Addr × Obj) := (List.range h.objs.size).filterMap fun a => if a = L ∨ (g.get? a).isSome = true then none else (h.get? a).map fun o => (a, o)
def rest (g h : Heap) (L d : Addr) : List (Addr × Obj) := (allNews g h L).filter fun p => decide (p.1 ≠ d)
end L2

namespace L2
open PySem PySem.Spec PyProof.Rows

/-- the module's facts, over the base: the heap at the law's entry without what is tracked there -/
structure Mod (K : PySem.W.Frag) (mg : Str → Option Value) (base : Heap) : Prop where
  kin : K.In base
  glob : base.Ns mainGlobals mg
  blt : ∃ mb, base.Ns builtinsNs mb ∧ ∀ x : Str, x ≠ "__name__" → mb x = bootBuiltins x
  nolimit : base.NoLimit

/-- the context: a def's body (or a comprehension's block) running. base: fixed through the whole law; s₀, H₀: the entry; outer: the frames whose slots others may change (a def's callers); stack: all frames that run;
   ex: iterators that were made ahead of the entry and are walked here (a comprehension's); fn: the names whose cells were made at the entry (a def: all; a comprehension's block: its own); calm: not within an except suite; pn: pins that every state bears; xe: what is wanted of an exception that leaves the code -/
structure Cx where
  prog : Program
  w : World
  K : PySem.W.Frag
  mg : Str → Option Value
  base : Heap
  A : Around
  N : List Str
  s₀ : Shared
  H₀ : Hp
  env : Env
  outer : List Env
  stack : List Env
  ex : List Addr
  fn : Str → Bool
  calm : Bool
  pn : List (Addr × Obj)
  xe : Value → Shared → Prop
/-- the callers' frames -/
def frs (l : List Env) : List Addr := l.filterMap (·.frame)
abbrev Cx.fs (X : Cx) : List Addr := frs X.outer

def Vis (sc : Scope) (x : Str) : Prop := sc.names.lookup x = some .local ∨ sc.names.lookup x = some .cell ∨ sc.names.lookup x = some .free
def Loc (sc : Scope) (x : Str) : Prop := sc.names.lookup x = some .local ∨ sc.names.lookup x = some .cell
def Look (env : Env) (h : Heap) (m : Str → Option Value) (x : Str) (u : Value) : Prop :=
  (env.kindOf x = some .local ∧ m x = some u) ∨ ((env.kindOf x = some .cell ∨ env.kindOf x = some .free) ∧ ∃ c, env.cells.lookup x = some c ∧ h.IsCell c (some u))

structure Cx.Ok (X : Cx) : Prop where
  mod : Mod X.K X.mg X.base
  kind : X.env.scope.kind = .function
  glob : X.env.globals = mainGlobals
  blt : X.env.builtins = builtinsNs
  above : X.s₀.heap.objs.size ≤ X.env.locals
  inj : ∀ x y c, X.env.cells.lookup x = some c → X.env.cells.lookup y = some c → x = y
  has : ∀ x, (X.env.kindOf x = some .cell ∨ X.env.kindOf x = some .free) → ∃ c, X.env.cells.lookup x = some c
  cab : ∀ x c, X.fn x = true → X.env.cells.lookup x = some c → X.s₀.heap.objs.size ≤ c
  hd : X.calm = true → X.A.handled = none
  frames : X.A.frames = some X.stack
  stk : X.stack = X.outer ∨ (X.stack = X.env :: X.outer ∧ X.env.frame = some X.env.locals)
  exf : ∀ b ∈ X.ex, b ≠ X.env.locals ∧ ∀ x c, X.env.cells.lookup x = some c → c ≠ b
  bs : ∀ b o, X.base.get? b = some o → X.s₀.heap.get? b = some o ∧ X.H₀ b = none
  bsz : X.base.objs.size ≤ X.s₀.heap.objs.size
  noex : ∀ b o, X.base.get? b = some o → b ∉ X.ex
  exfs : ∀ b ∈ X.ex, b ∉ X.fs
  funs : X.s₀.heap.FunFrames X.base X.outer
  frf : ∀ b ∈ X.fs, X.H₀ b = none

structure Inv (X : Cx) (pins : List (Addr × Obj)) (σ : List (Option V)) (H : Hp) (s : Shared) : Prop where
  ok : X.Ok
  os : s.os = X.s₀.os
  bare : AllBare s.gens
  base : Un X.fs X.ex X.H₀ H X.s₀.heap s.heap
  loc : ∃ m, s.heap.Ns X.env.locals m ∧ ∀ (i : Nat) (x : Str) (v : V), X.N[i]? = some x → σ[i]? = some (some v) → Vis X.env.scope x → ∃ u, RelV v u ∧ Look X.env s.heap m x u
  cell : ∀ x c, X.env.cells.lookup x = some c → ∃ v, s.heap.IsCell c v
  free : H X.env.locals = none
  freeC : ∀ x c, X.env.cells.lookup x = some c → H c = none
  pin : ∀ p ∈ X.pn ++ pins, s.heap.get? p.1 = some p.2 ∧ H p.1 = none ∧ p.1 ≠ X.env.locals ∧ p.1 ∉ X.fs ∧ ∀ v, p.2.data ≠ .cell v
  hok : HOk X.prog X.w H s.heap
  len : σ.length = X.N.length

section
variable {X : Cx} {pins : List (Addr × Obj)} {σ : List (Option V)} {H H' : Hp} {s : Shared} {h' : Heap}

theorem Cx.Ok.nofr (ok : X.Ok) {b : Addr} {o : Obj} (e : X.base.get? b = some o) : b ∉ X.fs := fun hb => by
  have := (ok.funs.mem hb).1
  rw [e] at this; cases this
theorem Inv.bs (I : Inv X pins σ H s) : ∀ b o, X.base.get? b = some o → s.heap.get? b = some o ∧ H b = none := fun b o e =>
  ⟨I.base.keep b o (I.ok.bs b o e).1 (I.ok.bs b o e).2 (I.ok.nofr e) (I.ok.noex b o e), I.base.free b o (I.ok.bs b o e).1 (I.ok.bs b o e).2 (I.ok.noex b o e)⟩
theorem Inv.bk (I : Inv X pins σ H s) : ∀ b o, X.base.get? b = some o → s.heap.get? b = some o := fun b o e => (I.bs b o e).1
theorem Inv.mod (I : Inv X pins σ H s) : Mod X.K X.mg X.base := I.ok.mod
theorem Inv.kIn (I : Inv X pins σ H s) : X.K.In s.heap := I.ok.mod.kin.keeps I.bk
theorem Inv.lt (I : Inv X pins σ H s) : X.env.locals < s.heap.objs.size := let ⟨_, hn, _⟩ := I.loc; hn.lt
theorem Inv.sz (I : Inv X pins σ H s) : X.s₀.heap.objs.size ≤ s.heap.objs.size := Nat.le_trans I.ok.above (Nat.le_of_lt I.lt)
theorem Inv.nofs (I : Inv X pins σ H s) {a : Addr} (h : s.heap.objs.size ≤ a) : a ∉ X.fs := fun hb => by
  obtain ⟨_, o, ho, _⟩ := I.ok.funs.mem hb
  exact absurd (Nat.lt_of_lt_of_le (Heap.lt_size ho) (Nat.le_trans I.sz h)) (Nat.lt_irrefl _)
theorem Inv.cne (I : Inv X pins σ H s) : ∀ x c, X.env.cells.lookup x = some c → c ≠ X.env.locals := fun x c e z => by
  obtain ⟨v, o, ho, hd⟩ := I.cell x c e
  obtain ⟨m, ⟨o', es, ep, ho', hd', _⟩, _⟩ := I.loc
  rw [z, ho'] at ho; cases ho; rw [hd'] at hd; cases hd
theorem Inv.funs (I : Inv X pins σ H s) : s.heap.FunFrames X.base X.outer := by
  have all : ∀ (l : List Env), (∀ b ∈ frs l, b ∈ X.fs) → X.s₀.heap.FunFrames X.base l → s.heap.FunFrames X.base l := by
    intro l
    induction l with
    | nil => intro _ _; trivial
    | cons env r ih =>
      intro hs hl
      obtain ⟨hk, ⟨L, o, hf, hn, ho, hd⟩, hr⟩ := hl
      have hL : L ∈ X.fs := hs L (by unfold frs; rw [List.filterMap_cons, hf]; exact List.mem_cons_self)
      obtain ⟨sl, e⟩ := I.base.slot L o ho (I.ok.frf L hL) hL fun z => I.ok.exfs L z hL
      exact ⟨hk, ⟨L, _, hf, hn, e, hd⟩, ih (fun b hb => hs b (by unfold frs; rw [List.filterMap_cons, hf]; exact List.mem_cons_of_mem _ hb)) hr⟩
  exact all X.outer (fun _ hb => hb) I.ok.funs

/-- the frames that run, for a call -/
theorem Inv.stack (I : Inv X pins σ H s) : s.heap.FunFrames X.base X.stack := by
  rcases I.ok.stk with e | ⟨e, hf⟩
  · rw [e]; exact I.funs
  · rw [e]
    obtain ⟨m, hn, _⟩ := I.loc
    refine .cons (by rw [I.ok.kind]; decide) hf hn ?_ I.funs
    exact Heap.get?_none_of_le (Nat.le_trans I.ok.bsz I.ok.above)
theorem Inv.stkSub (I : Inv X pins σ H s) : ∀ b ∈ frs X.stack, b ∈ X.env.locals :: X.fs := fun b hb => by
  rcases I.ok.stk with e | ⟨e, hf⟩
  · rw [e] at hb; exact List.mem_cons_of_mem _ hb
  · rw [e] at hb
    unfold frs at hb
    rw [List.filterMap_cons, hf] at hb
    exact hb
theorem Inv.stkFree (I : Inv X pins σ H s) : ∀ b ∈ frs X.stack, H b = none := fun b hb => by
  rcases List.mem_cons.mp (I.stkSub b hb) with e | hb
  · rw [e]; exact I.free
  · obtain ⟨_, o, ho, _⟩ := I.ok.funs.mem hb
    exact I.base.free b o ho (I.ok.frf b hb) fun z => I.ok.exfs b z hb

/-- THE STEP: the untracked objects but the frame and the records at ch are kept (the callers' frames up to slots), the frame's map is kept, the new abstract heap is held -/
theorem Inv.step {g' : Array GenState} {t' : Nat} {d' : Drawn} {ch : List Addr} (I : Inv X pins σ H s)
    (hch : ∀ b ∈ ch, (b ∈ X.ex ∨ X.s₀.heap.objs.size ≤ b) ∧ b ≠ X.env.locals ∧ (∀ x c, X.env.cells.lookup x = some c → c ≠ b) ∧ ∀ p ∈ X.pn ++ pins, p.1 ≠ b)
    (keep : ∀ b o, b ≠ X.env.locals → b ∉ X.fs → b ∉ ch → s.heap.get? b = some o → H b = none → h'.get? b = some o)
    (slot : ∀ b o, b ≠ X.env.locals → b ∈ X.fs → b ∉ ch → s.heap.get? b = some o → H b = none → ∃ sl, h'.get? b = some { o with slots := sl }) (free : ∀ b o, b ∉ ch → s.heap.get? b = some o → H b = none → H' b = none)
    (there : ∀ b o, b ∉ ch → s.heap.get? b = some o → ∃ o', h'.get? b = some o')
    (tups : ∀ b xs, H b = some (.tup xs) → H' b = some (.tup xs)) (frzs : ∀ b o u, H b = some (.frz o u) → H' b = some (.frz o u)) (tbls : ∀ b ps, H b = some (.tbl ps) → ∃ more, H' b = some (.tbl (ps ++ more)))
    (ns : ∀ m, s.heap.Ns X.env.locals m → h'.Ns X.env.locals m) (hok : HOk X.prog X.w H' h') (hg : AllBare g') :
    Inv X pins σ H' { s with heap := h', gens := g', drawn := d', toks := t' } := by
  have neL : ∀ b o, X.s₀.heap.get? b = some o → b ≠ X.env.locals := fun b o e => Nat.ne_of_lt (Nat.lt_of_lt_of_le (Heap.lt_size e) I.ok.above)
  have neC : ∀ b o, X.s₀.heap.get? b = some o → b ∉ X.ex → b ∉ ch := fun b o e hx hb => by
    rcases (hch b hb).1 with z | z
    · exact hx z
    · exact absurd (Nat.lt_of_lt_of_le (Heap.lt_size e) z) (Nat.lt_irrefl _)
  have cellK : ∀ x c, X.env.cells.lookup x = some c → ∀ v, s.heap.IsCell c v → h'.IsCell c v := fun x c e v ⟨o, ho, hd⟩ => by
    have nch : c ∉ ch := fun z => (hch c z).2.2.1 x c e rfl
    by_cases hc : c ∈ X.fs
    · obtain ⟨sl, q⟩ := slot c o (I.cne x c e) hc nch ho (I.freeC x c e)
      exact ⟨_, q, hd⟩
    · exact ⟨o, keep c o (I.cne x c e) hc nch ho (I.freeC x c e), hd⟩
  refine ⟨I.ok, I.os, hg, ⟨fun b o e n hb hx => ?_, fun b o e n hb hx => ?_, fun b o e n hx => ?_, fun b o e hx => ?_, fun b xs e => tups b xs (I.base.tups b xs e), fun b o xs e => frzs b o xs (I.base.frzs b o xs e), fun b ps e => ?_⟩, ?_, fun x c e => ?_, ?_, fun x c e => ?_, fun p hp => ?_, hok, I.len⟩
  · exact keep b o (neL b o e) hb (neC b o e hx) (I.base.keep b o e n hb hx) (I.base.free b o e n hx)
  · obtain ⟨sl, e1⟩ := I.base.slot b o e n hb hx
    obtain ⟨sl', e2⟩ := slot b _ (neL b o e) hb (neC b o e hx) e1 (I.base.free b o e n hx)
    exact ⟨sl', e2⟩
  · obtain ⟨o', e1⟩ := I.base.there b o e hx
    exact free b o' (neC b o e hx) e1 (I.base.free b o e n hx)
  · obtain ⟨o', e1⟩ := I.base.there b o e hx
    exact there b o' (neC b o e hx) e1
  · obtain ⟨m1, e1⟩ := I.base.tbls b ps e
    obtain ⟨m2, e2⟩ := tbls b _ e1
    exact ⟨m1 ++ m2, by rw [e2, Array.append_assoc]⟩
  · obtain ⟨m, hn, hl⟩ := I.loc
    refine ⟨m, ns m hn, fun i x v e1 e2 e3 => ?_⟩
    obtain ⟨u, r, l⟩ := hl i x v e1 e2 e3
    refine ⟨u, r, ?_⟩
    rcases l with l | ⟨k, c, e, z⟩
    · exact .inl l
    · exact .inr ⟨k, c, e, cellK x c e _ z⟩
  · obtain ⟨v, z⟩ := I.cell x c e
    exact ⟨v, cellK x c e v z⟩
  · obtain ⟨m, ⟨o, _, _, ho, _⟩, _⟩ := I.loc
    exact free _ o (fun z => (hch _ z).2.1 rfl) ho I.free
  · obtain ⟨v, o, ho, hd⟩ := I.cell x c e
    exact free c o (fun z => (hch c z).2.2.1 x c e rfl) ho (I.freeC x c e)
  · obtain ⟨e, n, ne, nf, d⟩ := I.pin p hp
    have nch : p.1 ∉ ch := fun z => (hch p.1 z).2.2.2 p hp rfl
    exact ⟨keep p.1 p.2 ne nf nch e n, free p.1 p.2 nch e n, ne, nf, d⟩
/-- .. where the frame's own object is kept too -/
theorem Inv.un {t' : Nat} (I : Inv X pins σ H s) (u : Un X.fs [] H H' s.heap h') (hok : HOk X.prog X.w H' h') : Inv X pins σ H' { s with heap := h', toks := t' } := by
  obtain ⟨m, ⟨o, es, ep, ho, r⟩, _⟩ := id I.loc
  obtain ⟨sl, hL⟩ := u.any ho I.free (by simp)
  exact I.step (g' := s.gens) (d' := s.drawn) (ch := []) (fun _ z => nomatch z) (fun b o _ hb _ e n => u.keep b o e n hb (by simp)) (fun b o _ hb _ e n => u.slot b o e n hb (by simp)) (fun b o _ e n => u.free b o e n (by simp)) (fun b o _ e => u.there b o e (by simp)) u.tups u.frzs u.tbls (fun m' hm => by
    obtain ⟨o', es', ep', ho', r'⟩ := hm
    rw [ho] at ho'; cases ho'
    exact ⟨_, es', ep', hL, r'⟩) hok I.bare
/-- behind a call (or a comprehension's block): the slots of this frame may have changed too, the records at ch may have turned -/
theorem Inv.call {g' : Array GenState} {t' : Nat} {d' : Drawn} {ch : List Addr} (I : Inv X pins σ H s) (u : Un (frs X.stack) ch H H' s.heap h') (hok : HOk X.prog X.w H' h') (hg : AllBare g')
    (hch : ∀ b ∈ ch, (b ∈ X.ex ∨ X.s₀.heap.objs.size ≤ b) ∧ b ≠ X.env.locals ∧ (∀ x c, X.env.cells.lookup x = some c → c ≠ b) ∧ ∀ p ∈ X.pn ++ pins, p.1 ≠ b) :
    Inv X pins σ H' { s with heap := h', gens := g', drawn := d', toks := t' } := by
  obtain ⟨m, ⟨o, es, ep, ho, r⟩, _⟩ := id I.loc
  obtain ⟨sl, hL⟩ := u.any ho I.free fun z => (hch _ z).2.1 rfl
  exact I.step (ch := ch) hch (fun b o hL hb hc e n => u.keep b o e n (fun z => (List.mem_cons.mp (I.stkSub b z)).elim hL hb) hc) (fun b o _ _ hc e n => u.any e n hc) (fun b o hc e n => u.free b o e n hc) (fun b o hc e => u.there b o e hc) u.tups u.frzs u.tbls (fun m' hm => by
    obtain ⟨o', es', ep', ho', r'⟩ := hm
    rw [ho] at ho'; cases ho'
    exact ⟨_, es', ep', hL, r'⟩) hok hg
/-- an untracked record of ours (an iterator) has turned -/
theorem Inv.turned {t' : Nat} {it : Addr} (I : Inv X pins σ H s) (k : ∀ b o, b ≠ it → s.heap.get? b = some o → h'.get? b = some o) (hn : H it = none) (hL : it ≠ X.env.locals)
    (h1 : it ∈ X.ex ∨ X.s₀.heap.objs.size ≤ it) (h2 : ∀ x c, X.env.cells.lookup x = some c → c ≠ it) (h3 : ∀ p ∈ X.pn ++ pins, p.1 ≠ it) : Inv X pins σ H { s with heap := h', toks := t' } := by
  have nit : ∀ b u, H b = some u → b ≠ it := fun b u e z => by rw [z, hn] at e; cases e
  refine I.step (g' := s.gens) (d' := s.drawn) (ch := [it]) (fun b hb => ?_) (fun b o _ _ hc e _ => k b o (fun z => hc (by simp [z])) e) (fun b o _ _ hc e _ => ⟨o.slots, k b o (fun z => hc (by simp [z])) e⟩) (fun _ _ _ _ n => n)
    (fun b o hc e => ⟨o, k b o (fun z => hc (by simp [z])) e⟩) (fun _ _ e => e) (fun _ _ _ e => e) (fun b ps e => ⟨#[], by rw [e]; simp⟩) (fun m hm => ?_) (fun b u e => ?_) I.bare
  · have e : b = it := by simpa using hb
    subst e
    exact ⟨h1, hL, h2, h3⟩
  · obtain ⟨o, es, ep, ho, r⟩ := hm
    exact ⟨o, es, ep, k _ o (Ne.symm hL) ho, r⟩
  · refine (I.hok b u e).stay (fun c v hc q => k c v ?_ q) (fun _ q => q) fun _ _ q => q
    rcases hc with z | z
    · rw [z]; exact nit b u e
    · exact nit c _ z
theorem Inv.tok (I : Inv X pins σ H s) (t : Nat) : Inv X pins σ H { s with toks := t } := I.un (h' := s.heap) (t' := t) Un.refl I.hok
/-- all objects kept -/
theorem Inv.kept {t' : Nat} (I : Inv X pins σ H s) (k : ∀ b u, s.heap.get? b = some u → h'.get? b = some u) : Inv X pins σ H { s with heap := h', toks := t' } := I.un (Un.kept k) (I.hok.kept k)
/-- a new object laid and tracked -/
theorem Inv.laid {a : Addr} {o : HO} {t' : Nat} (I : Inv X pins σ H s) (k : ∀ b u, s.heap.get? b = some u → h'.get? b = some u) (hp : s.heap.objs.size ≤ a) (new : ObjOk X.prog X.w (upd H a o) h' a o) :
    Inv X pins σ (upd H a o) { s with heap := h', toks := t' } := I.un (Un.laid k hp (I.hok.fresh hp)) (I.hok.laid k hp new)
/-- an object written -/
theorem Inv.write {x e : Addr} {o : HO} {t' : Nat} (I : Inv X pins σ H s) (mu : Mut (H x)) (he : e = x ∨ H e = some (.own x)) (k : ∀ b u, b ≠ e → s.heap.get? b = some u → h'.get? b = some u) (heo : ∃ u, h'.get? e = some u)
    (new : ObjOk X.prog X.w (upd H x o) h' x o) : Inv X pins σ (upd H x o) { s with heap := h', toks := t' } := I.un (Un.write mu he k heo) (I.hok.write mu he k heo new)
theorem Inv.pins_of {pins' : List (Addr × Obj)} (I : Inv X pins σ H s) (h : ∀ p ∈ pins', s.heap.get? p.1 = some p.2 ∧ H p.1 = none ∧ p.1 ≠ X.env.locals ∧ p.1 ∉ X.fs ∧ ∀ v, p.2.data ≠ .cell v) : Inv X pins' σ H s :=
  ⟨I.ok, I.os, I.bare, I.base, I.loc, I.cell, I.free, I.freeC, fun p hp => (List.mem_append.mp hp).elim (fun z => I.pin p (List.mem_append_left _ z)) (h p), I.hok, I.len⟩

theorem nodup_ix {N : List Str} (hN : N.Nodup) {i j : Nat} {x : Str} (a : N[i]? = some x) (b : N[j]? = some x) : i = j := by
  obtain ⟨h1, e1⟩ := List.getElem?_eq_some_iff.mp a
  obtain ⟨h2, e2⟩ := List.getElem?_eq_some_iff.mp b
  exact (List.getElem_inj hN).mp (e1.trans e2.symm)

/-- a name is stored; what changed -/
theorem store_ok2 {M : Model} {A : Around} {E : Value → Shared → Prop} {i : Nat} {x : Str} {v : V} {u : Value} {Q : Unit → Shared → Prop} (I : Inv X pins σ H s) (hN : X.N.Nodup) (hi : X.N[i]? = some x) (hx : Loc X.env.scope x) (r : RelV v u)
    (h : ∀ s', Inv X pins (σ.set i (some v)) H s' → (∃ a, Heap.SameBut a s.heap s'.heap ∧ (a = X.env.locals ∨ X.env.cells.lookup x = some a)) → Q () s') (hf : X.fn x = true ∨ X.env.scope.names.lookup x = some .local := by first | exact .inl rfl | exact .inr rfl | assumption) : wpAny M A (storeName X.env x u) Q E s := by
  obtain ⟨m, hn, hl⟩ := id I.loc
  have hcls : (X.env.scope.kind == .class || (X.env.scope.kind == .module && X.env.locals != X.env.globals)) = false := by rw [I.ok.kind]; rfl
  have hiσ : i < σ.length := by rw [I.len]; exact (List.getElem?_eq_some_iff.mp hi).1
  have cne := I.cne
  have tracked : ∀ {a : Addr} {h' : Heap}, (∃ o, s.heap.get? a = some o ∧ H a = none) → Heap.SameBut a s.heap h' → HOk X.prog X.w H h' := fun {a h'} ha hs b ob e => by
    obtain ⟨_, _, hfree⟩ := ha
    refine (I.hok b ob e).stay (fun c w' hc q => (hs.2 c ?_).trans q) (fun _ q => q) fun _ _ q => q
    rintro rfl
    rcases hc with rfl | hc
    · rw [hfree] at e; cases e
    · rw [hfree] at hc; cases hc
  rcases hx with hk | hk
  · refine wpAny_storeName_local hk hn (fun h' hn' hs => ?_) hcls
    obtain ⟨oL, _, _, hoL, _⟩ := id hn
    refine h _ ⟨I.ok, I.os, I.bare, ⟨fun b o e n hb hx => ?_, fun b o e n hb hx => ?_, I.base.free, fun b o e hx => ?_, I.base.tups, I.base.frzs, I.base.tbls⟩, ⟨_, hn', fun j y v' e1 e2 e3 => ?_⟩, fun y c e => ?_, I.free, I.freeC, fun p hp => ?_, tracked ⟨oL, hoL, I.free⟩ hs, by simpa using I.len⟩ ⟨_, hs, .inl rfl⟩
    · exact (hs.2 b (Nat.ne_of_lt (Nat.lt_of_lt_of_le (Heap.lt_size e) I.ok.above))).trans (I.base.keep b o e n hb hx)
    · obtain ⟨sl, e1⟩ := I.base.slot b o e n hb hx
      exact ⟨sl, (hs.2 b (Nat.ne_of_lt (Nat.lt_of_lt_of_le (Heap.lt_size e) I.ok.above))).trans e1⟩
    · obtain ⟨o', e1⟩ := I.base.there b o e hx
      exact ⟨o', (hs.2 b (Nat.ne_of_lt (Nat.lt_of_lt_of_le (Heap.lt_size e) I.ok.above))).trans e1⟩
    · by_cases hj : j = i
      · subst hj
        rw [hi] at e1; cases e1
        rw [List.getElem?_set_self hiσ] at e2
        cases e2
        exact ⟨u, r, .inl ⟨hk, by simp⟩⟩
      · rw [List.getElem?_set_ne (Ne.symm hj)] at e2
        obtain ⟨u', r', q⟩ := hl j y v' e1 e2 e3
        refine ⟨u', r', ?_⟩
        rcases q with ⟨k, e⟩ | ⟨k, c, e, z⟩
        · refine .inl ⟨k, ?_⟩
          have : y ≠ x := fun e => hj (nodup_ix hN e1 (e ▸ hi))
          simp [this, e]
        · exact .inr ⟨k, c, e, z.sameBut hs (cne y c e)⟩
    · obtain ⟨w', z⟩ := I.cell y c e
      exact ⟨w', z.sameBut hs (cne y c e)⟩
    · obtain ⟨e, n, ne, nf, d⟩ := I.pin p hp
      exact ⟨(hs.2 p.1 ne).trans e, n, ne, nf, d⟩
  · have hfn : X.fn x = true := by
      rcases hf with z | z
      · exact z
      · rw [z] at hk; cases hk
    obtain ⟨c, hc⟩ := I.ok.has x (.inl hk)
    obtain ⟨w', z⟩ := I.cell x c hc
    refine wpAny_storeName_cell I.ok.kind hk hc z (fun h' hc' hs => ?_)
    obtain ⟨oc, hoc, hocd⟩ := id z
    refine h { s with heap := h' } ⟨I.ok, I.os, I.bare, ⟨fun b o e n hb hx => ?_, fun b o e n hb hx => ?_, I.base.free, fun b o e hx => ?_, I.base.tups, I.base.frzs, I.base.tbls⟩, ⟨m, hn.sameBut hs (Ne.symm (cne x c hc)), fun j y v' e1 e2 e3 => ?_⟩, fun y c' e => ?_, I.free, I.freeC, fun p hp => ?_, tracked ⟨oc, hoc, I.freeC x c hc⟩ hs, by simpa using I.len⟩ ⟨c, hs, .inr hc⟩
    · exact (hs.2 b (Nat.ne_of_lt (Nat.lt_of_lt_of_le (Heap.lt_size e) (I.ok.cab x c hfn hc)))).trans (I.base.keep b o e n hb hx)
    · obtain ⟨sl, e1⟩ := I.base.slot b o e n hb hx
      exact ⟨sl, (hs.2 b (Nat.ne_of_lt (Nat.lt_of_lt_of_le (Heap.lt_size e) (I.ok.cab x c hfn hc)))).trans e1⟩
    · obtain ⟨o', e1⟩ := I.base.there b o e hx
      exact ⟨o', (hs.2 b (Nat.ne_of_lt (Nat.lt_of_lt_of_le (Heap.lt_size e) (I.ok.cab x c hfn hc)))).trans e1⟩
    · by_cases hj : j = i
      · subst hj
        rw [hi] at e1; cases e1
        rw [List.getElem?_set_self hiσ] at e2
        cases e2
        exact ⟨u, r, .inr ⟨.inl hk, c, hc, hc'⟩⟩
      · rw [List.getElem?_set_ne (Ne.symm hj)] at e2
        obtain ⟨u', r', q⟩ := hl j y v' e1 e2 e3
        refine ⟨u', r', ?_⟩
        rcases q with q | ⟨k, c', e, z'⟩
        · exact .inl q
        · refine .inr ⟨k, c', e, z'.sameBut hs ?_⟩
          rintro rfl
          exact hj (nodup_ix hN e1 (I.ok.inj _ _ _ e hc ▸ hi))
    · by_cases hcc : c' = c
      · subst hcc; exact ⟨_, hc'⟩
      · obtain ⟨w2, z2⟩ := I.cell y c' e
        exact ⟨w2, z2.sameBut hs hcc⟩
    · obtain ⟨e, n, ne, nf, d⟩ := I.pin p hp
      refine ⟨(hs.2 p.1 ?_).trans e, n, ne, nf, d⟩
      intro q
      rw [q, hoc] at e
      have q' : oc = p.2 := Option.some.inj e
      exact d w' (by rw [← q']; exact hocd)
theorem store_ok {M : Model} {A : Around} {E : Value → Shared → Prop} {i : Nat} {x : Str} {v : V} {u : Value} {Q : Unit → Shared → Prop} (I : Inv X pins σ H s) (hN : X.N.Nodup) (hi : X.N[i]? = some x) (hx : Loc X.env.scope x) (r : RelV v u)
    (h : ∀ s', Inv X pins (σ.set i (some v)) H s' → Q () s') (hf : X.fn x = true ∨ X.env.scope.names.lookup x = some .local := by first | exact .inl rfl | exact .inr rfl | assumption) : wpAny M A (storeName X.env x u) Q E s :=
  store_ok2 I hN hi hx r (fun s' I' _ => h s' I') hf
/-- behind a call or a block, the state as it is -/
theorem Inv.call' {s' : Shared} {ch : List Addr} (I : Inv X pins σ H s) (ho : s'.os = s.os) (u : Un (frs X.stack) ch H H' s.heap s'.heap) (hok : HOk X.prog X.w H' s'.heap) (hg : AllBare s'.gens)
    (hch : ∀ b ∈ ch, (b ∈ X.ex ∨ X.s₀.heap.objs.size ≤ b) ∧ b ≠ X.env.locals ∧ (∀ x c, X.env.cells.lookup x = some c → c ≠ b) ∧ ∀ p ∈ X.pn ++ pins, p.1 ≠ b) : Inv X pins σ H' s' := by
  obtain ⟨h', g', d', t', o'⟩ := s'
  have e : o' = s.os := ho
  subst e
  exact I.call (g' := g') (t' := t') (d' := d') u hok hg hch
end

/-! ### the judgements -/
/-- an exception: its class, its own dict's address (where it has one), the abstract heap behind it -/
abbrev XK := Value → Option Addr → Hp → Prop
abbrev St := List (Option V)
abbrev VK := V → Hp → Prop
/-- an expression's reading; a test's; an argument list's -/
abbrev TE := St → Hp → VK → Prop
abbrev TT := St → Hp → (Bool → Hp → Prop) → Prop
abbrev TA := St → Hp → (List V → Hp → Prop) → Prop
/-- what is wanted behind a statement -/
structure Ends where
  nx : St → Hp → Prop
  rt : VK
  bk : St → Hp → Prop := fun _ _ => False
  ct : St → Hp → Prop := fun _ _ => False
abbrev TS := Ends → St → Hp → Prop

def EP (X : Cx) (pins : List (Addr × Obj)) (σ : St) (Q : VK) (u : Value) (s' : Shared) : Prop := ∃ v H', Inv X pins σ H' s' ∧ RelV v u ∧ Q v H'
def TP (X : Cx) (pins : List (Addr × Obj)) (σ : St) (Q : Bool → Hp → Prop) (b : Bool) (s' : Shared) : Prop := ∃ H', Inv X pins σ H' s' ∧ Q b H'
def AP (X : Cx) (pins : List (Addr × Obj)) (σ : St) (Q : List V → Hp → Prop) (us : List Value) (s' : Shared) : Prop := ∃ vs H', Inv X pins σ H' s' ∧ Vals vs us ∧ Q vs H'
def SP (X : Cx) (pins : List (Addr × Obj)) (D : Ends) (f : Flow) (s' : Shared) : Prop :=
  match f with
  | .next => ∃ σ' H', Inv X pins σ' H' s' ∧ D.nx σ' H'
  | .brk => ∃ σ' H', Inv X pins σ' H' s' ∧ D.bk σ' H'
  | .cont => ∃ σ' H', Inv X pins σ' H' s' ∧ D.ct σ' H'
  | .ret u => ∃ v σ' H', Inv X pins σ' H' s' ∧ RelV v u ∧ D.rt v H'

def PE (X : Cx) (e : Expr) (t : TE) : Prop :=
  ∀ (pins : List (Addr × Obj)) (s : Shared) (σ : St) (H : Hp) (Q : VK), Inv X pins σ H s → t σ H Q → wpAny (model X.prog X.w) X.A (eval e X.env) (EP X pins σ Q) X.xe s
def PT (X : Cx) (e : Expr) (t : TT) : Prop :=
  ∀ (pins : List (Addr × Obj)) (s : Shared) (σ : St) (H : Hp) (Q : Bool → Hp → Prop), Inv X pins σ H s → t σ H Q → wpAny (model X.prog X.w) X.A (isTrue e X.env (eval e X.env)) (TP X pins σ Q) X.xe s
/-- a test whatever its 'whole' is (and, or) -/
def PW (X : Cx) (e : Expr) (t : TT) : Prop :=
  ∀ (whole : Sem Value) (pins : List (Addr × Obj)) (s : Shared) (σ : St) (H : Hp) (Q : Bool → Hp → Prop), Inv X pins σ H s → t σ H Q → wpAny (model X.prog X.w) X.A (isTrue e X.env whole) (TP X pins σ Q) X.xe s
theorem PW.pt {X : Cx} {e : Expr} {t : TT} (h : PW X e t) : PT X e t := h _
/-- an argument list (no star), from the left -/
def PA (X : Cx) (es : List Expr) (t : TA) : Prop :=
  ∀ (pos : Pos) (pins : List (Addr × Obj)) (s : Shared) (σ : St) (H : Hp) (Q : List V → Hp → Prop), Inv X pins σ H s → t σ H Q → wpAny (model X.prog X.w) X.A (spliced (backTo pos (starEach es X.env))) (AP X pins σ Q) X.xe s
def PS (X : Cx) (st : Stmt) (t : TS) : Prop :=
  ∀ (pins : List (Addr × Obj)) (s : Shared) (σ : St) (H : Hp) (D : Ends), Inv X pins σ H s → t D σ H → wpAny (model X.prog X.w) X.A (exec st X.env) (SP X pins D) X.xe s
def PSs (X : Cx) (st : List Stmt) (t : TS) : Prop :=
  ∀ (pins : List (Addr × Obj)) (s : Shared) (σ : St) (H : Hp) (D : Ends), Inv X pins σ H s → t D σ H → wpAny (model X.prog X.w) X.A (execs st X.env) (SP X pins D) X.xe s
/-- weaken the end -/
theorem thn {α : Type} {t : Sem α} {Q Q' : α → Shared → Prop} {M : Model} {A : Around} {E : Value → Shared → Prop} {s : Shared} (h : wpAny M A t Q E s) (hQ : ∀ a s, Q a s → Q' a s) : wpAny M A t Q' E s := wpAny_mono h hQ fun _ _ x => x
end L2

namespace L2
open PySem PySem.Spec PyProof.Rows
section
variable {X : Cx}


/-! ### names and constants -/
def tVar (i : Nat) : TE := fun σ H Q => ∃ v, σ[i]? = some (some v) ∧ Q v H
def tC (v : V) : TE := fun _ H Q => Q v H
theorem pe_var {i : Nat} {x : Str} {pos : Pos} (hN : X.N[i]? = some x) (hv : Vis X.env.scope x) (hd : (x == ("__debug__" : Str)) = false := by decide) (hcd : (x == ("__classdict__" : Str)) = false := by decide) : PE X (.Name x pos) (tVar i) := by
  intro pins s σ H Q I h
  obtain ⟨v, e, h⟩ := h
  obtain ⟨m, hn, hl⟩ := I.loc
  obtain ⟨u, r, l⟩ := hl i x v hN e hv
  have fin : EP X pins σ Q u s := ⟨v, H, I, r, h⟩
  rcases l with ⟨hk, hm⟩ | ⟨hk, c, hc, hcell⟩
  · exact wpAny_Name (wpAny_loadName_local I.ok.kind hk hn hm fin) hd
  · rcases hk with hk | hk
    · exact wpAny_Name (wpAny_loadName_cell I.ok.kind hk hc hcell fin) hd
    · exact wpAny_Name (wpAny_loadName_free I.ok.kind hk hc hcell fin hcd) hd
theorem pe_int {i j pos} : PE X (.Constant (.int i) j pos) (tC (.int i)) := fun _ _ _ H _ I h => wpAny_Constant_int ⟨.int i, H, I.tok _, ⟨_, rfl⟩, h⟩
theorem pe_bl {b j pos} : PE X (.Constant (.bool b) j pos) (tC (.bl b)) := fun _ _ _ H _ I h => Constant_bool ⟨.bl b, H, I, rfl, h⟩
theorem pe_non {j pos} : PE X (.Constant .none j pos) (tC .non) := fun _ _ _ H _ I h => Constant_none ⟨.non, H, I, rfl, h⟩
theorem pe_str {x j pos} : PE X (.Constant (.str x) j pos) (tC (.str x)) := fun _ _ _ H _ I h => Calls.Constant_str ⟨.str x, H, I.tok _, ⟨_, rfl⟩, h⟩

/-- a global name of the def -/
def Gl (X : Cx) (x : Str) : Prop := X.env.kindOf x = some .globalImplicit
theorem ld_glob {E : Value → Shared → Prop} {pins : List (Addr × Obj)} {s : Shared} {σ : St} {H : Hp} {x : Str} {u : Value} {pos : Pos} {Q : Value → Shared → Prop} (I : Inv X pins σ H s) (hg : Gl X x) (hm : X.mg x = some u) (h : Q u s)
    (hd : (x == ("__debug__" : Str)) = false := by decide) : wpAny (model X.prog X.w) X.A (eval (.Name x pos) X.env) Q E s :=
  Calls.Name_function_global I.ok.kind hg (Calls.loadGlobal_global (by rw [I.ok.glob]; exact I.mod.glob.keeps I.bk) hm h) hd
theorem ld_blt {E : Value → Shared → Prop} {pins : List (Addr × Obj)} {s : Shared} {σ : St} {H : Hp} {x : Str} {u : Value} {pos : Pos} {Q : Value → Shared → Prop} (I : Inv X pins σ H s) (hg : Gl X x) (hm : X.mg x = none) (hv : bootBuiltins x = some u) (h : Q u s)
    (hn : x ≠ "__name__" := by decide) (hd : (x == ("__debug__" : Str)) = false := by decide) : wpAny (model X.prog X.w) X.A (eval (.Name x pos) X.env) Q E s := by
  obtain ⟨mb, h1, h2⟩ := I.mod.blt
  exact Calls.Name_function_global I.ok.kind hg (Calls.loadGlobal_builtin (by rw [I.ok.glob]; exact I.mod.glob.keeps I.bk) hm (by rw [I.ok.blt]; exact h1.keeps I.bk) ((h2 x hn).trans hv) h) hd
theorem pe_bltn {x : Str} {v : V} {u : Value} {pos : Pos} (hg : Gl X x) (hm : X.mg x = none) (hv : bootBuiltins x = some u) (r : RelV v u) (hn : x ≠ "__name__" := by decide) (hd : (x == ("__debug__" : Str)) = false := by decide) : PE X (.Name x pos) (tC v) :=
  fun _ _ _ H _ I h => ld_blt I hg hm hv ⟨v, H, I, r, h⟩ hn hd

/-! ### arithmetic -/
/-- two ints -/
def t2I (ta tb : TE) (k : Int → Int → Hp → Prop) : St → Hp → Prop := fun σ H => ta σ H fun x H1 => tb σ H1 fun y H2 => ∃ i j, x = .int i ∧ y = .int j ∧ k i j H2
def tAdd (ta tb : TE) : TE := fun σ H Q => t2I ta tb (fun i j H2 => Q (.int (i + j)) H2) σ H
def tSub (ta tb : TE) : TE := fun σ H Q => t2I ta tb (fun i j H2 => Q (.int (i - j)) H2) σ H
/-- the left factor below 2^64 -/
def tMul (ta tb : TE) : TE := fun σ H Q => t2I ta tb (fun i j H2 => (-(2 ^ 64) < i ∧ i < 2 ^ 64) ∧ Q (.int (i * j)) H2) σ H
variable {a b : Expr} {ta tb : TE} {pos : Pos}

/-! ### comparisons -/
def PC (X : Cx) (op : CmpOp) (a b : Expr) (t : TE) : Prop :=
  ∀ (pins : List (Addr × Obj)) (s : Shared) (σ : St) (H : Hp) (Q : VK), Inv X pins σ H s → t σ H Q →
    wpAny (model X.prog X.w) X.A (eval a X.env) (fun v s₁ => wpAny (model X.prog X.w) X.A (eval b X.env) (fun u s₂ => wpAny (model X.prog X.w) X.A (compareOp op v u) (EP X pins σ Q) X.xe s₂) X.xe s₁) X.xe s
def tCmp (p : Int → Int → Bool) (ta tb : TE) : TE := fun σ H Q => t2I ta tb (fun i j H2 => Q (.bl (p i j)) H2) σ H
abbrev tLt : TE → TE → TE := tCmp fun i j => decide (i < j)
abbrev tLe : TE → TE → TE := tCmp fun i j => decide (i ≤ j)
abbrev tGt : TE → TE → TE := tCmp fun i j => decide (j < i)
abbrev tGe : TE → TE → TE := tCmp fun i j => decide (j ≤ i)
abbrev tEqI : TE → TE → TE := tCmp fun i j => decide (i = j)
abbrev tNeI : TE → TE → TE := tCmp fun i j => !decide (i = j)
/-- is None -/
def tIsN (ta : TE) : TE := fun σ H Q => ta σ H fun x H1 => Q (.bl (decide (x = .non))) H1
def tNotN (ta : TE) : TE := fun σ H Q => ta σ H fun x H1 => Q (.bl (!decide (x = .non))) H1
/-- a comparison as a value, as a test -/
def tB (t : TE) : TT := fun σ H Q => t σ H fun x H1 => ∃ c, x = .bl c ∧ Q c H1
/-- an expression whose value is a bool, as a test -/
theorem pt_val {e : Expr} {t : TE} (h : PE X e t) (he : ∀ whole, isTrue e X.env whole = (do let v ← whole; standAt e.pos; holding [v] (truthy v)) := by intro _; rfl) : PT X e (tB t) := by
  intro pins s σ H Q I hw
  refine isTrue_plain (thn (h pins s σ H _ I hw) fun v s1 ⟨x, H1, I1, r1, q1⟩ => ?_) (he _)
  obtain ⟨d, rfl, q⟩ := q1
  cases r1
  exact wpAny_truthy_bool ⟨H1, I1, q⟩

/-! ### and, or, not -/
variable {tA tB' : TT} {rest : List Expr}
def tAnd (t u : TT) : TT := fun σ H Q => t σ H fun c H1 => if c = true then u σ H1 Q else Q false H1
def tOr (t u : TT) : TT := fun σ H Q => t σ H fun c H1 => if c = true then Q true H1 else u σ H1 Q
def tNot (t : TT) : TT := fun σ H Q => t σ H fun c H1 => Q (!c) H1
theorem pw_and1 (ha : PT X a tA) : PW X (.BoolOp .And [a] pos) tA := by
  intro wh pins s σ H Q I h
  refine isTrue_and (thn (ha pins s σ H Q I h) fun c s1 e => ?_)
  cases c with
  | true => exact isTrue_and_nil e
  | false => exact e
theorem pw_or1 (ha : PT X a tA) : PW X (.BoolOp .Or [a] pos) tA := by
  intro wh pins s σ H Q I h
  refine isTrue_or (thn (ha pins s σ H Q I h) fun c s1 e => ?_)
  cases c with
  | false => exact isTrue_or_nil e
  | true => exact e
theorem pw_and (ha : PT X a tA) (hb : PW X (.BoolOp .And (b :: rest) pos) tB') : PW X (.BoolOp .And (a :: b :: rest) pos) (tAnd tA tB') := by
  intro wh pins s σ H Q I h
  refine isTrue_and (thn (ha pins s σ H _ I h) fun c s1 ⟨H1, I1, q1⟩ => ?_)
  cases c with
  | true => exact hb wh pins s1 σ H1 Q I1 q1
  | false => exact ⟨H1, I1, q1⟩
theorem pw_or (ha : PT X a tA) (hb : PW X (.BoolOp .Or (b :: rest) pos) tB') : PW X (.BoolOp .Or (a :: b :: rest) pos) (tOr tA tB') := by
  intro wh pins s σ H Q I h
  refine isTrue_or (thn (ha pins s σ H _ I h) fun c s1 ⟨H1, I1, q1⟩ => ?_)
  cases c with
  | true => exact ⟨H1, I1, q1⟩
  | false => exact hb wh pins s1 σ H1 Q I1 q1
theorem pt_not (ha : PT X a tA) : PT X (.UnaryOp .Not a pos) (tNot tA) := by
  intro pins s σ H Q I h
  exact isTrue_not (ha pins s σ H (fun c H1 => Q (!c) H1) I h)
/-- .. as values (bools) -/
def tAndV (ta tb : TE) : TE := fun σ H Q => ta σ H fun x H1 => ∃ c, x = .bl c ∧ if c = true then tb σ H1 Q else Q (.bl false) H1
def tOrV (ta tb : TE) : TE := fun σ H Q => ta σ H fun x H1 => ∃ c, x = .bl c ∧ if c = true then Q (.bl true) H1 else tb σ H1 Q
def tNotV (ta : TE) : TE := fun σ H Q => ta σ H fun x H1 => ∃ c, x = .bl c ∧ Q (.bl (!c)) H1
theorem pe_one {op} {t : TE} (h : PE X a t) : PE X (.BoolOp op [a] pos) t := fun pins s σ H Q I hw => BoolOp_one (h pins s σ H Q I hw)
theorem pe_and (ha : PE X a ta) (hb : PE X (.BoolOp .And (b :: rest) pos) tb) : PE X (.BoolOp .And (a :: b :: rest) pos) (tAndV ta tb) := by
  intro pins s σ H Q I h
  refine BoolOp_and (thn (ha pins s σ H _ I h) fun v s1 ⟨x, H1, I1, r1, q1⟩ => ?_)
  obtain ⟨c, rfl, q1⟩ := q1
  cases r1
  refine wpAny_truthy_bool ?_
  cases c with
  | true => exact hb pins s1 σ H1 Q I1 q1
  | false => exact ⟨.bl false, H1, I1, rfl, q1⟩
theorem pe_not (ha : PE X a ta) : PE X (.UnaryOp .Not a pos) (tNotV ta) := by
  intro pins s σ H Q I h
  refine UnaryOp_ (thn (ha pins s σ H _ I h) fun v s1 ⟨x, H1, I1, r1, q1⟩ => ?_)
  obtain ⟨c, rfl, q1⟩ := q1
  cases r1
  exact not_of (wpAny_truthy_bool ⟨.bl (!c), H1, I1, rfl, q1⟩)
/-- a if t else b -/
def tIf (t : TT) (ta tb : TE) : TE := fun σ H Q => t σ H fun c H1 => if c = true then ta σ H1 Q else tb σ H1 Q
theorem pe_ifExp {c : Expr} (hc : PT X c tA) (ha : PE X a ta) (hb : PE X b tb) : PE X (.IfExp c a b pos) (tIf tA ta tb) := by
  intro pins s σ H Q I h
  refine wpAny_IfExp (thn (hc pins s σ H _ I h) fun d s1 ⟨H1, I1, q1⟩ => ?_)
  cases d with
  | true => exact ha pins s1 σ H1 Q I1 q1
  | false => exact hb pins s1 σ H1 Q I1 q1
end
end L2

namespace L2
open PySem PySem.Spec PyProof.Rows

/-! ### a list, a tuple that is read: tracked, frozen, or an object of the module -/
def SqL (K : PySem.W.Frag) (H : Hp) (a : Addr) (xs : List V) : Prop :=
  Rd H a (.lst xs) ∨
    ∃ (o : Obj) (its : Array Value) (n : Nat), K.lookup a = some o ∧ o.cls = .type "list" ∧ o.dict = none ∧ o.data = .seq its n ∧ its.size ≤ sizeLine ∧ Vals xs its.toList
def SqT (K : PySem.W.Frag) (H : Hp) (a : Addr) (xs : List V) : Prop :=
  Rd H a (.tup xs) ∨
    ∃ (o : Obj) (its : Array Value) (n : Nat), K.lookup a = some o ∧ o.cls = .type "tuple" ∧ o.data = .seq its n ∧ its.size ≤ sizeLine ∧ Vals xs its.toList
def absV : Value → Option V
  | .none => some .non
  | .bool b => some (.bl b)
  | .int i _ => some (.int i)
  | .str x _ => some (.str x)
  | .bytes b _ => some (.byt b)
  | .float b _ => some (.flt b)
  | .ref a => some (.ref a)
  | .type n => some (.ty n)
  | _ => none
theorem RelV.abs {x : V} {u : Value} (r : RelV x u) : absV u = some x := by
  cases x with
  | non => cases r; rfl
  | bl _ => cases r; rfl
  | int _ => obtain ⟨t, rfl⟩ := r; rfl
  | str _ => obtain ⟨t, rfl⟩ := r; rfl
  | byt _ => obtain ⟨t, rfl⟩ := r; rfl
  | flt _ => obtain ⟨t, rfl⟩ := r; rfl
  | ref _ => cases r; rfl
  | ty _ => cases r; rfl
theorem RelV.inj {x y : V} {u : Value} (r : RelV x u) (q : RelV y u) : x = y := Option.some.inj (r.abs.symm.trans q.abs)
theorem Vals.inj : ∀ {xs ys : List V} {us : List Value}, Vals xs us → Vals ys us → xs = ys
  | _, _, _, .nil, .nil => rfl
  | _, _, _, .cons r t, .cons r' t' => by rw [r.inj r', Vals.inj t t']
section
variable {X : Cx} {pins : List (Addr × Obj)} {σ : St} {H : Hp} {s : Shared} {a : Addr} {xs ys : List V}
theorem SqL.of {K : PySem.W.Frag} (h : H a = some (.lst xs)) : SqL K H a xs := .inl (.inl h)
theorem SqT.of {K : PySem.W.Frag} (h : H a = some (.tup xs)) : SqT K H a xs := .inl (.inl h)
theorem Inv.list (I : Inv X pins σ H s) (h : SqL X.K H a xs) : ∃ its : List Value, Vals xs its ∧ PlainL s.heap a its.toArray ∧ xs.length ≤ sizeLine := by
  rcases h with h | ⟨o, its, n, hk, hc, hd, hs, hz, r⟩
  · obtain ⟨z, its, n, r, e⟩ := h.ok I.hok
    exact ⟨its, r, ⟨_, n, e, rfl, rfl, rfl⟩, z⟩
  · refine ⟨its.toList, r, ⟨o, n, I.kIn a o hk, hc, hd, by simpa using hs⟩, ?_⟩
    have e := r.length
    simp only [Array.length_toList] at e
    omega
theorem Inv.tuple (I : Inv X pins σ H s) (h : SqT X.K H a xs) : ∃ its : List Value, Vals xs its ∧ IsTup s.heap a its.toArray ∧ xs.length ≤ sizeLine := by
  rcases h with h | ⟨o, its, n, hk, hc, hs, hz, r⟩
  · obtain ⟨z, its, r, p⟩ := h.ok I.hok
    exact ⟨its, r, p, z⟩
  · refine ⟨its.toList, r, ⟨o, I.kIn a o hk, hc, n, by simpa using hs⟩, ?_⟩
    have e := r.length
    simp only [Array.length_toList] at e
    omega
theorem Inv.list_inj (I : Inv X pins σ H s) (h : SqL X.K H a xs) (h' : SqL X.K H a ys) : xs = ys := by
  obtain ⟨its, r, ⟨o, n, e, _, _, d⟩, _⟩ := I.list h
  obtain ⟨its', r', ⟨o', n', e', _, _, d'⟩, _⟩ := I.list h'
  rw [e] at e'; cases e'
  rw [d] at d'
  injection d' with d1 _
  have : its = its' := by simpa using congrArg Array.toList d1
  subst this
  exact r.inj r'
theorem Inv.tuple_inj (I : Inv X pins σ H s) (h : SqT X.K H a xs) (h' : SqT X.K H a ys) : xs = ys := by
  obtain ⟨its, r, ⟨o, e, _, n, d⟩, _⟩ := I.tuple h
  obtain ⟨its', r', ⟨o', e', _, n', d'⟩, _⟩ := I.tuple h'
  rw [e] at e'; cases e'
  rw [d] at d'
  injection d' with d1 _
  have : its = its' := by simpa using congrArg Array.toList d1
  subst this
  exact r.inj r'
end

/-! ### another wish about exceptions -/
abbrev Cx.wish (X : Cx) (E : Value → Shared → Prop) : Cx := { X with xe := E }
/-- no exception leaves -/
abbrev Cx.nox (X : Cx) : Cx := X.wish fun _ _ => False
theorem Cx.Ok.wish {X : Cx} (ok : X.Ok) (E : Value → Shared → Prop) : (X.wish E).Ok :=
  ⟨ok.mod, ok.kind, ok.glob, ok.blt, ok.above, ok.inj, ok.has, ok.cab, ok.hd, ok.frames, ok.stk, ok.exf, ok.bs, ok.bsz, ok.noex, ok.exfs, ok.funs, ok.frf⟩
theorem Cx.Ok.unwish {X : Cx} {E : Value → Shared → Prop} (ok : (X.wish E).Ok) : X.Ok :=
  ⟨ok.mod, ok.kind, ok.glob, ok.blt, ok.above, ok.inj, ok.has, ok.cab, ok.hd, ok.frames, ok.stk, ok.exf, ok.bs, ok.bsz, ok.noex, ok.exfs, ok.funs, ok.frf⟩
section
variable {X : Cx} {pins : List (Addr × Obj)} {σ : St} {H : Hp} {s : Shared} {E : Value → Shared → Prop}
theorem Inv.wish (I : Inv X pins σ H s) (E : Value → Shared → Prop) : Inv (X.wish E) pins σ H s := ⟨I.ok.wish E, I.os, I.bare, I.base, I.loc, I.cell, I.free, I.freeC, I.pin, I.hok, I.len⟩
theorem Inv.unwish (I : Inv (X.wish E) pins σ H s) : Inv X pins σ H s := ⟨I.ok.unwish, I.os, I.bare, I.base, I.loc, I.cell, I.free, I.freeC, I.pin, I.hok, I.len⟩
theorem SP.unwish {D : Ends} {f : Flow} {s' : Shared} (h : SP (X.wish E) pins D f s') : SP X pins D f s' := by
  cases f with
  | next => obtain ⟨σ', H', I, q⟩ := h; exact ⟨σ', H', I.unwish, q⟩
  | brk => obtain ⟨σ', H', I, q⟩ := h; exact ⟨σ', H', I.unwish, q⟩
  | cont => obtain ⟨σ', H', I, q⟩ := h; exact ⟨σ', H', I.unwish, q⟩
  | ret u => obtain ⟨v, σ', H', I, r, q⟩ := h; exact ⟨v, σ', H', I.unwish, r, q⟩
theorem PSs.nox {st : List Stmt} {t : TS} (h : PSs X.nox st t) : PSs X st t := fun pins s σ H D I hw =>
  wpAny_mono (h pins s σ H D (I.wish _) hw) (fun _ _ q => q.unwish) fun _ _ z => False.elim z
end

/-! ### blocks and small statements -/
section
variable {X : Cx} {st : Stmt} {rest : List Stmt} {t u : TS} {e : Expr} {te : TE} {pos : Pos}
def tNext : TS := fun D σ H => D.nx σ H
def tSeq (t u : TS) : TS := fun D σ H => t { D with nx := u D } σ H
theorem pss_nil : PSs X [] tNext := fun _ _ σ H _ I h => wpAny_execs_nil ⟨σ, H, I, h⟩
theorem pss_cons (h1 : PS X st t) (h2 : PSs X rest u) : PSs X (st :: rest) (tSeq t u) := by
  intro pins s σ H D I h
  refine wpAny_execs_cons (thn (h1 pins s σ H { D with nx := u D } I h) fun f s1 q => ?_)
  cases f with
  | next =>
    obtain ⟨σ', H', I', q⟩ := q
    exact h2 pins s1 σ' H' D I' q
  | ret v => exact q
  | brk => exact q
  | cont => exact q
theorem pss_one (h1 : PS X st t) : PSs X [st] t := by
  intro pins s σ H D I h
  refine wpAny_execs_cons (thn (h1 pins s σ H D I h) fun f s1 q => ?_)
  cases f with
  | next => exact wpAny_execs_nil q
  | ret v => exact q
  | brk => exact q
  | cont => exact q
def tBreak : TS := fun D σ H => D.bk σ H
def tCont : TS := fun D σ H => D.ct σ H
/-- in a def's body nothing is shown -/
theorem Inv.quiet {pins : List (Addr × Obj)} {σ : St} {H : Hp} {s : Shared} (I : Inv X pins σ H s) : interactive X.env = false := by simp [interactive, I.ok.kind]
/-- an expression whose value is dropped -/
def tDrop (te : TE) : TS := fun D σ H => te σ H fun _ H1 => D.nx σ H1
theorem ps_expr (he : PE X e te) (hs : swapsWith e none pos.line X.env = pure false := by rfl) : PS X (.Expr e pos) (tDrop te) := by
  intro pins s σ H D I h
  exact wpAny_Expr_any (thn (he pins s σ H _ I h) fun v s1 ⟨x, H1, I1, r1, q1⟩ => ⟨σ, H1, I1, q1⟩) I.quiet hs
def tRet (te : TE) : TS := fun D σ H => te σ H D.rt
theorem ps_ret (he : PE X e te) : PS X (.Return (some e) pos) (tRet te) := by
  intro pins s σ H D I h
  exact wpAny_Return_some (thn (he pins s σ H _ I h) fun v s1 ⟨x, H1, I1, r1, q1⟩ => ⟨x, σ, H1, I1, r1, q1⟩)
def tRetN : TS := fun D _ H => D.rt .non H
def tIfS (c : TT) (t u : TS) : TS := fun D σ H => c σ H fun b H1 => if b = true then t D σ H1 else u D σ H1
theorem ps_if {c : Expr} {a b : List Stmt} {tc : TT} (hc : PT X c tc) (ha : PSs X a t) (hb : PSs X b u) : PS X (.If c a b pos) (tIfS tc t u) := by
  intro pins s σ H D I h
  refine wpAny_If (thn (hc pins s σ H _ I h) fun d s1 ⟨H1, I1, q1⟩ => ?_)
  cases d with
  | true => exact ha pins s1 σ H1 D I1 q1
  | false => exact hb pins s1 σ H1 D I1 q1
/-- code that the proof never comes to -/
def tNever : TS := fun _ _ _ => False
end

/-! ### targets -/
abbrev TG := V → St → Hp → (St → Hp → Prop) → Prop
abbrev TGs := List V → St → Hp → (St → Hp → Prop) → Prop
def PG (X : Cx) (target : Expr) (t : TG) : Prop :=
  ∀ (pins : List (Addr × Obj)) (s : Shared) (σ : St) (H : Hp) (v : V) (u : Value) (Q : St → Hp → Prop), Inv X pins σ H s → RelV v u → t v σ H Q →
    wpAny (model X.prog X.w) X.A (assign target X.env u) (fun _ s' => ∃ σ' H', Inv X pins σ' H' s' ∧ Q σ' H') X.xe s
/-- several targets, one after another -/
def PGs (X : Cx) (ts : List Expr) (t : TGs) : Prop :=
  ∀ (pins : List (Addr × Obj)) (s : Shared) (σ : St) (H : Hp) (vs : List V) (us : List Value) (Q : St → Hp → Prop), Inv X pins σ H s → Vals vs us → t vs σ H Q →
    wpAny (model X.prog X.w) X.A (assignInOrder ((assignEach ts X.env).map (·.2)) us) (fun _ s' => ∃ σ' H', Inv X pins σ' H' s' ∧ Q σ' H') X.xe s
/-- o[i] = v, by values -/
abbrev TSet := V → V → V → Hp → (Hp → Prop) → Prop
def PSet (X : Cx) (t : TSet) : Prop :=
  ∀ (pins : List (Addr × Obj)) (s : Shared) (σ : St) (H : Hp) (o i v : V) (ov iv u : Value) (Q : Hp → Prop), Inv X pins σ H s → RelV o ov → RelV i iv → RelV v u → t o i v H Q →
    wpAny (model X.prog X.w) X.A (setItem ov iv u) (fun _ s' => ∃ H', Inv X pins σ H' s' ∧ Q H') X.xe s
/-- a op= b, by values -/
abbrev TIp := V → V → Hp → VK → Prop
def PIp (X : Cx) (op : Operator) (t : TIp) : Prop :=
  ∀ (pins : List (Addr × Obj)) (s : Shared) (σ : St) (H : Hp) (x y : V) (v u : Value) (Q : VK), Inv X pins σ H s → RelV x v → RelV y u → t x y H Q →
    wpAny (model X.prog X.w) X.A (inplaceOp op v u) (EP X pins σ Q) X.xe s
section
variable {X : Cx} {pos : Pos}
def gName (i : Nat) : TG := fun v σ H Q => Q (σ.set i (some v)) H
theorem pg_name {i : Nat} {x : Str} (hN : X.N.Nodup) (hi : X.N[i]? = some x) (hx : Loc X.env.scope x) (hf : X.fn x = true ∨ X.env.scope.names.lookup x = some .local := by first | exact .inl rfl | exact .inr rfl | assumption) : PG X (.Name x pos) (gName i) := by
  intro pins s σ H v u Q I r h
  exact wpAny_assign_Name (store_ok I hN hi hx r (fun s' I' => ⟨_, H, I', h⟩) hf)
def gNil : TGs := fun vs σ H Q => vs = [] ∧ Q σ H
def gCons (t : TG) (u : TGs) : TGs := fun vs σ H Q => ∃ v r, vs = v :: r ∧ t v σ H fun σ' H' => u r σ' H' Q
theorem pgs_nil : PGs X [] gNil := by
  intro pins s σ H vs us Q I r h
  obtain ⟨e, h⟩ := h
  subst e
  cases r
  exact assignInOrder_nil ⟨σ, H, I, h⟩
theorem pgs_cons {e : Expr} {es : List Expr} {t : TG} {u : TGs} (h1 : PG X e t) (h2 : PGs X es u)
    (hs : (assignEach (e :: es) X.env).map (·.2) = assign e X.env :: (assignEach es X.env).map (·.2) := by rfl) : PGs X (e :: es) (gCons t u) := by
  intro pins s σ H vs us Q I r h
  obtain ⟨v, vr, e1, h⟩ := h
  subst e1
  cases r with
  | cons r rr =>
    rw [hs]
    refine assignInOrder_cons (thn (h1 pins s σ H _ _ _ I r h) fun _ s1 ⟨σ1, H1, I1, q1⟩ => ?_)
    exact h2 pins s1 σ1 H1 _ _ Q I1 rr q1
/-- (a, b, ..) = a tuple of that length -/
def gTup (K : PySem.W.Frag) (n : Nat) (t : TGs) : TG := fun v σ H Q => ∃ a xs, v = .ref a ∧ SqT K H a xs ∧ xs.length = n ∧ t xs σ H Q
theorem pg_tup {es : List Expr} {k : Nat} {t : TGs} {n : Nat} (hc : X.calm = true) (h : PGs X es t)
    (hn : (assignEach es X.env).length = n := by rfl) (hst : (assignEach es X.env).findIdx? (·.1) = none := by rfl) : PG X (.Tuple es k pos) (gTup X.K n t) := by
  intro pins s σ H v u Q I r hw
  obtain ⟨a, xs, e1, hq, hl, hw⟩ := hw
  subst e1
  cases r
  obtain ⟨its, rv, ht, hz⟩ := I.tuple hq
  refine assign_Tuple_tuple (I.ok.hd hc) ht (by simp [hn, ← hl, rv.length]) hst fun h' hx => ?_
  have I1 : Inv X pins σ H { s with heap := h' } := I.kept (t' := s.toks) fun b o e => hx b o (Nat.ne_of_lt (Heap.lt_size e)) e
  exact h pins _ σ H xs _ Q I1 (by simpa using rv) hw
/-- o[i] = .. -/
def gSub (to ti : TE) (t : TSet) : TG := fun v σ H Q => to σ H fun o H1 => ti σ H1 fun i H2 => t o i v H2 fun H3 => Q σ H3
theorem pg_sub {o i : Expr} {to ti : TE} {t : TSet} (ho : PE X o to) (hi : PE X i ti) (hs : PSet X t)
    (ha : ∀ v, assign (.Subscript o i pos) X.env v = (do
      let ov ← holding [v] (eval o X.env)
      let iv ← holding [v, ov] (eval i X.env)
      standAt pos
      holding [v, ov, iv] (setItem ov iv v)
      release [v, ov, iv] []) := by intro _; rfl) : PG X (.Subscript o i pos) (gSub to ti t) := by
  intro pins s σ H v u Q I r h
  rw [ha]
  refine wpAny_bind (wpAny_holding (thn (ho pins s σ H _ I h) fun ov s1 ⟨x, H1, I1, r1, q1⟩ => ?_))
  refine wpAny_bind (wpAny_holding (thn (hi pins s1 σ H1 _ I1 q1) fun iv s2 ⟨y, H2, I2, r2, q2⟩ => ?_))
  refine wpAny_bind (wpAny_standAt (wpAny_bind (wpAny_holding (thn (hs pins s2 σ H2 x y v ov iv u _ I2 r1 r2 r q2) fun _ s3 ⟨H3, I3, q3⟩ => ?_))))
  exact wpAny_release ⟨σ, H3, I3, q3⟩
/-- target = value -/
def tAsg (te : TE) (g : TG) : TS := fun D σ H => te σ H fun x H1 => g x σ H1 D.nx
theorem ps_asg {tg e : Expr} {te : TE} {g : TG} (he : PE X e te) (hg : PG X tg g) (hs : swapsWithSole [tg] e pos.line X.env = pure false := by rfl) (hw : swappedStores [tg] e X.env = pure none := by rfl)
    (h1 : (assignEach [tg] X.env).map (·.2) = [assign tg X.env] := by rfl) : PS X (.Assign [tg] e pos) (tAsg te g) := by
  intro pins s σ H D I h
  refine wpAny_Assign_stores (thn (he pins s σ H _ I h) fun v s1 ⟨x, H1, I1, r1, q1⟩ => ?_) hs hw
  rw [h1]
  exact thn (hg pins s1 σ H1 x v _ I1 r1 q1) fun _ s2 q => q
/-- name = value -/
theorem ps_set {i : Nat} {x : Str} {e : Expr} {te : TE} {pos' : Pos} (hN : X.N.Nodup) (hi : X.N[i]? = some x) (hx : Loc X.env.scope x) (he : PE X e te) (hs : swapsWith e (some (.Name x pos')) pos.line X.env = pure false := by rfl) (hf : X.fn x = true ∨ X.env.scope.names.lookup x = some .local := by first | exact .inl rfl | exact .inr rfl | assumption) :
    PS X (.Assign [.Name x pos'] e pos) (tAsg te (gName i)) := by
  intro pins s σ H D I h
  refine wpAny_Assign_Name (thn (he pins s σ H _ I h) fun v s1 ⟨y, H1, I1, r1, q1⟩ => ?_) hs
  exact store_ok I1 hN hi hx r1 (fun s2 I2 => ⟨_, H1, I2, q1⟩) hf
/-- a, b = x, y with plain local names: stored from the right; the pair itself is not tracked (the opening rows as in PyProof/Rows/TupAssign.lean:23) -/
def tPar (i j : Nat) (ta : TA) : TS := fun D σ H => ta σ H fun vs H1 => ∃ v w, vs = [v, w] ∧ D.nx ((σ.set i (some v)).set j (some w)) H1
/-- name op= e -/
def tAug (i : Nat) (te : TE) (ti : TIp) : TS := fun D σ H => ∃ x, σ[i]? = some (some x) ∧ te σ H fun y H1 => ti x y H1 fun z H2 => D.nx (σ.set i (some z)) H2
/-- o[i] op= e -/
def tAugS (to ti te : TE) (tget : V → V → Hp → VK → Prop) (tip : TIp) (tset : TSet) : TS := fun D σ H => to σ H fun o H1 => ti σ H1 fun i H2 => tget o i H2 fun x H3 => te σ H3 fun y H4 => tip x y H4 fun z H5 => tset o i z H5 fun H6 => D.nx σ H6
/-- o[i], by values -/
def PGet (X : Cx) (t : V → V → Hp → VK → Prop) : Prop :=
  ∀ (pins : List (Addr × Obj)) (s : Shared) (σ : St) (H : Hp) (o i : V) (ov iv : Value) (Q : VK), Inv X pins σ H s → RelV o ov → RelV i iv → t o i H Q →
    wpAny (model X.prog X.w) X.A (getItem ov iv) (EP X pins σ Q) X.xe s
/-- ints -/
def ipI (f : Int → Int → Int) : TIp := fun x y H Q => ∃ i j, x = .int i ∧ y = .int j ∧ Q (.int (f i j)) H
end

/-! ### while -/
section
variable {X : Cx} {pos : Pos}
/-- the invariant W with its measure -/
def tWhile (c : TT) (tb : TS) : TS := fun D σ H => ∃ W : Nat → St → Hp → Prop, (∃ m, W m σ H) ∧ ∀ m σ H, W m σ H →
  c σ H fun b H1 => if b = true then ∃ N : St → Hp → Prop, (∀ σ' H', N σ' H' → ∃ m', m' < m ∧ W m' σ' H') ∧ tb { D with nx := N, ct := N, bk := D.nx } σ H1 else D.nx σ H1
theorem ps_while {c : Expr} {body : List Stmt} {tc : TT} {tb : TS} (hp : PassesOwn (model X.prog X.w) X.A X.env X.xe) (hc : PT X c tc) (hb : PSs X body tb) : PS X (.While c body [] pos) (tWhile tc tb) := by
  intro pins s σ H D I h
  obtain ⟨W, ⟨m0, w0⟩, turn⟩ := h
  refine wpAny_While (codeAny_whileLoop (fun n s' => ∃ σ' H', Inv X pins σ' H' s' ∧ W n σ' H') ?_ m0 ⟨σ, H, I, w0⟩)
  rintro n s1 ⟨σ1, H1, I1, w1⟩
  refine wpAny_passesOwn hp (thn (hc pins s1 σ1 H1 _ I1 (turn n σ1 H1 w1)) fun b s2 ⟨H2, I2, q2⟩ => ?_)
  cases b with
  | true =>
    obtain ⟨N, hN, q2⟩ := q2
    rw [if_pos rfl]
    refine wpAny_passesOwn hp (thn (hb pins s2 σ1 H2 _ I2 q2) fun f s3 q3 => ?_)
    cases f with
    | next =>
      obtain ⟨σ3, H3, I3, n3⟩ := q3
      obtain ⟨m', hm, w3⟩ := hN σ3 H3 n3
      exact ⟨m', hm, σ3, H3, I3, w3⟩
    | cont =>
      obtain ⟨σ3, H3, I3, n3⟩ := q3
      obtain ⟨m', hm, w3⟩ := hN σ3 H3 n3
      exact ⟨m', hm, σ3, H3, I3, w3⟩
    | brk => exact q3
    | ret v => exact q3
  | false =>
    rw [if_neg Bool.false_ne_true]
    exact wpAny_execs_nil ⟨σ1, H2, I2, q2⟩
end

/-! ### what a loop or a comprehension walks -/
/-- at turn i: it yields x (the heap may grow), or it stops -/
structure It where
  go : Nat → Hp → Prop
  yld : Nat → Hp → V → Hp → Prop
  stop : Nat → Hp → Prop
/-- the iterator's own objects may turn: they are not the frame's, not pinned, younger than the entry (or a comprehension's own) -/
def FpOk (X : Cx) (pins : List (Addr × Obj)) (H : Hp) (b : Addr) : Prop :=
  H b = none ∧ b ≠ X.env.locals ∧ b ∉ X.fs ∧ (b ∈ X.ex ∨ X.s₀.heap.objs.size ≤ b) ∧ (∀ x c, X.env.cells.lookup x = some c → c ≠ b) ∧ ∀ p ∈ X.pn ++ pins, p.1 ≠ b
theorem Inv.fpOk {X : Cx} {pins : List (Addr × Obj)} {σ : St} {H H' : Hp} {s : Shared} {b : Addr} (I : Inv X pins σ H s) (hb : s.heap.objs.size ≤ b) (hn : H' b = none) : FpOk X pins H' b := by
  refine ⟨hn, Nat.ne_of_gt (Nat.lt_of_lt_of_le I.lt hb), I.nofs hb, .inr (Nat.le_trans I.sz hb), fun x c e z => ?_, fun p hp z => ?_⟩
  · obtain ⟨v, q⟩ := I.cell x c e
    exact absurd (Nat.lt_of_lt_of_le q.lt (by rw [z]; exact hb)) (Nat.lt_irrefl _)
  · exact absurd (Nat.lt_of_lt_of_le (Heap.lt_size (I.pin p hp).1) (by rw [z]; exact hb)) (Nat.lt_irrefl _)
structure Turn (P : Program) (w : World) (K : PySem.W.Frag) (tg : Expr) (J : It) (fp : List Addr) (it : Addr) (tn : Nat → Heap → Prop) : Prop where
  mem : it ∈ fp
  obj : ∀ i h, tn i h → ∀ b ∈ fp, ∃ o, h.get? b = some o ∧ ∀ v, o.data ≠ .cell v
  keep : ∀ i h h', tn i h → (∀ b ∈ fp, ∀ o, h.get? b = some o → h'.get? b = some o) → tn i h'
  item : ∀ (X : Cx), X.prog = P → X.w = w → X.K = K → X.calm = true → ∀ (i : Nat) (pins : List (Addr × Obj)) (s : Shared) (σ : St) (H : Hp) (E : Value → Shared → Prop), Inv X pins σ H s → (∀ b ∈ fp, FpOk X pins H b) → tn i s.heap → J.go i H →
    wpAny (model P w) X.A (pyNext (.ref it)) (fun r s1 => ∃ u, r = some u ∧
      wpAny (model P w) X.A (letOwnedTupleGo tg (.ref it) u) (fun _ s2 => ∃ x H', Inv X pins σ H' s2 ∧ RelV x u ∧ J.yld i H x H' ∧ tn (i + 1) s2.heap ∧ ∀ b ∈ fp, H' b = none) E s1) E s
  done : ∀ (X : Cx), X.prog = P → X.w = w → X.K = K → X.calm = true → ∀ (i : Nat) (pins : List (Addr × Obj)) (s : Shared) (σ : St) (H : Hp) (E : Value → Shared → Prop), Inv X pins σ H s → (∀ b ∈ fp, FpOk X pins H b) → tn i s.heap → J.stop i H →
    wpAny (model P w) X.A (pyNext (.ref it)) (fun r s1 => r = none ∧ Inv X pins σ H s1) E s
  self : ∀ (A : Around) (i : Nat) (s : Shared) (Q : Value → Shared → Prop) (E : Value → Shared → Prop), tn i s.heap → Q (.ref it) s → wpAny (model P w) A (pyIter (.ref it)) Q E s
abbrev TI := St → Hp → (It → Hp → Prop) → Prop
/-- an iterator has come -/
def PIE (X : Cx) (pins : List (Addr × Obj)) (σ : St) (tg : Expr) (R : It → Hp → Prop) (itv : Value) (s2 : Shared) : Prop :=
  ∃ (it : Addr) (fp : List Addr) (tn : Nat → Heap → Prop) (J : It) (H' : Hp), itv = .ref it ∧ Inv X pins σ H' s2 ∧ Turn X.prog X.w X.K tg J fp it tn ∧ tn 0 s2.heap ∧ (∀ b ∈ fp, FpOk X pins H' b) ∧ R J H'
def PI (X : Cx) (tg iter : Expr) (wi : TI) : Prop :=
  ∀ (pins : List (Addr × Obj)) (s : Shared) (σ : St) (H : Hp) (R : It → Hp → Prop), Inv X pins σ H s → wi σ H R →
    wpAny (model X.prog X.w) X.A (eval iter X.env) (fun v s1 => wpAny (model X.prog X.w) X.A (pyIter v) (PIE X pins σ tg R) X.xe s1) X.xe s

/-- the step ahead of the store is nothing for an iterator that keeps no tuple -/
theorem go_of {M : Model} {A : Around} {E : Value → Shared → Prop} {s : Shared} {tg : Expr} {it : Addr} {u : Value} {o : Obj} {n : String} {vs : Array Value} {Q : Unit → Shared → Prop} (ho : s.heap.get? it = some o) (hc : o.cls = .type n) (hd : o.data = .fields vs)
    (hn : ["enumerate", "zip", "dict_itemiterator", "dict_reverseitemiterator", "odict_iterator", "itertools.zip_longest", "itertools.pairwise"].contains n = false) (hQ : Q () s) : wpAny M A (letOwnedTupleGo tg (.ref it) u) Q E s := by
  unfold letOwnedTupleGo
  cases tg <;> first
    | exact wpAny_pure hQ
    | (cases u <;> first
        | exact wpAny_pure hQ
        | (refine wpAny_bind (wpAny_load ho ?_)
           rw [hc, hd]
           show wpAny M A (if (["enumerate", "zip", "dict_itemiterator", "dict_reverseitemiterator", "odict_iterator", "itertools.zip_longest", "itertools.pairwise"].contains n && vs[0]? == some (rawInt _)) = true then _ else _) Q E s
           rw [if_neg (by intro h; rw [hn, Bool.false_and] at h; cases h)]
           exact wpAny_pure hQ))

/-- the list at a, as it stands at each turn (a loop may append to it) -/
def Itl (K : PySem.W.Frag) (a : Addr) : It :=
  ⟨fun i H => ∃ xs x, SqL K H a xs ∧ xs[i]? = some x, fun i H x H' => H' = H ∧ ∀ xs, SqL K H a xs → xs[i]? = some x, fun i H => ∃ xs, SqL K H a xs ∧ xs.length ≤ i⟩
def Itt (K : PySem.W.Frag) (a : Addr) : It :=
  ⟨fun i H => ∃ xs x, SqT K H a xs ∧ xs[i]? = some x, fun i H x H' => H' = H ∧ ∀ xs, SqT K H a xs → xs[i]? = some x, fun i H => ∃ xs, SqT K H a xs ∧ xs.length ≤ i⟩
/-- lo, lo + 1, .. (n of them) -/
def Itr (lo : Int) (n : Nat) : It := ⟨fun i _ => i < n, fun i H x H' => H' = H ∧ x = .int (lo + i), fun i _ => n ≤ i⟩
theorem turn_list {P : Program} {w : World} {K : PySem.W.Frag} {tg : Expr} (a it : Addr) : Turn P w K tg (Itl K a) [it] it (fun i h => h.IsListIter it a i) where
  mem := by simp
  obj := fun i h st b hb => by
    have e : b = it := by simpa using hb
    subst e
    obtain ⟨o, e, c, d⟩ := st
    exact ⟨o, e, fun v z => by rw [d] at z; cases z⟩
  keep := fun i h h' st k => st.at fun o e => k it (by simp) o e
  item := by
    intro X hP hw hK hc i pins s σ H E I hf st hg
    subst hP hw hK
    obtain ⟨xs, x, hq, hx⟩ := hg
    obtain ⟨its, rv, p, hz⟩ := I.list hq
    obtain ⟨u, hu, ru⟩ := rv.get hx
    obtain ⟨f0, f1, f2, f3, f4, f5⟩ := hf it (by simp)
    refine wpAny_pyNext_list_item st p.isList (x := u) (by simpa using hu) fun h' st' sb => ?_
    have I1 : Inv X pins σ H { s with heap := h' } := I.turned (t' := s.toks) (fun b o hb e => (sb.2 b hb).trans e) f0 f1 f3 f4 f5
    obtain ⟨o, e, c, d⟩ := id st'
    exact ⟨u, rfl, go_of (s := { s with heap := h' }) e c d (by decide) ⟨x, H, I1, ru, ⟨rfl, fun ys hy => by rw [I.list_inj hy hq]; exact hx⟩, st', fun b hb => (hf b hb).1⟩⟩
  done := by
    intro X hP hw hK hc i pins s σ H E I hf st hg
    subst hP hw hK
    obtain ⟨xs, hq, hx⟩ := hg
    obtain ⟨its, rv, p, hz⟩ := I.list hq
    obtain ⟨f0, f1, f2, f3, f4, f5⟩ := hf it (by simp)
    have hl := rv.length
    exact wpAny_pyNext_list_end (I.ok.hd hc) st p.isList (by simp; omega) fun h' eb => ⟨rfl, I.turned (t' := s.toks) (fun b o hb e => eb b o hb e) f0 f1 f3 f4 f5⟩
  self := fun _ _ _ _ _ st h => wpAny_pyIter_listiter st h
theorem turn_tuple {P : Program} {w : World} {K : PySem.W.Frag} {tg : Expr} (a it : Addr) : Turn P w K tg (Itt K a) [it] it (fun i h => h.IsTupleIter it a i) where
  mem := by simp
  obj := fun i h st b hb => by
    have e : b = it := by simpa using hb
    subst e
    obtain ⟨o, e, c, d⟩ := st
    exact ⟨o, e, fun v z => by rw [d] at z; cases z⟩
  keep := fun i h h' st k => st.at fun o e => k it (by simp) o e
  item := by
    intro X hP hw hK hc i pins s σ H E I hf st hg
    subst hP hw hK
    obtain ⟨xs, x, hq, hx⟩ := hg
    obtain ⟨its, rv, p, hz⟩ := I.tuple hq
    obtain ⟨u, hu, ru⟩ := rv.get hx
    obtain ⟨f0, f1, f2, f3, f4, f5⟩ := hf it (by simp)
    refine wpAny_pyNext_tuple_item st (show s.heap.IsTuple a its.toArray from p) (x := u) (by simpa using hu) fun h' st' sb => ?_
    have I1 : Inv X pins σ H { s with heap := h' } := I.turned (t' := s.toks) (fun b o hb e => (sb.2 b hb).trans e) f0 f1 f3 f4 f5
    obtain ⟨o, e, c, d⟩ := id st'
    exact ⟨u, rfl, go_of (s := { s with heap := h' }) e c d (by decide) ⟨x, H, I1, ru, ⟨rfl, fun ys hy => by rw [I.tuple_inj hy hq]; exact hx⟩, st', fun b hb => (hf b hb).1⟩⟩
  done := by
    intro X hP hw hK hc i pins s σ H E I hf st hg
    subst hP hw hK
    obtain ⟨xs, hq, hx⟩ := hg
    obtain ⟨its, rv, p, hz⟩ := I.tuple hq
    obtain ⟨f0, f1, f2, f3, f4, f5⟩ := hf it (by simp)
    have hl := rv.length
    exact wpAny_pyNext_tuple_end (I.ok.hd hc) st (show s.heap.IsTuple a its.toArray from p) (by simp; omega) fun h' eb => ⟨rfl, I.turned (t' := s.toks) (fun b o hb e => eb b o hb e) f0 f1 f3 f4 f5⟩
  self := fun _ _ _ _ _ st h => wpAny_pyIter_tupleiter st h
theorem turn_range {P : Program} {w : World} {K : PySem.W.Frag} {tg : Expr} (it : Addr) (lo : Int) (n : Nat) : Turn P w K tg (Itr lo n) [it] it (fun i h => IsRangeIter h it (lo + (i : Nat) * 1) ((n : Int) - (i : Nat)) 1) where
  mem := by simp
  obj := fun i h st b hb => by
    have e : b = it := by simpa using hb
    subst e
    exact ⟨_, st, fun v z => by
      have z' : Data.fields _ = Data.cell v := z
      cases z'⟩
  keep := fun i h h' st k => k it (by simp) _ st
  item := by
    intro X hP hw hK hc i pins s σ H E I hf st hg
    subst hP hw hK
    obtain ⟨f0, f1, f2, f3, f4, f5⟩ := hf it (by simp)
    have W := Walks.range (prog := X.prog) (w := X.w) (I.ok.hd hc) it lo 1 n
    refine W.item i s _ _ hg st fun v h' tk hv st' kk => ?_
    obtain ⟨t, rfl⟩ := hv
    have I1 : Inv X pins σ H { s with heap := h', toks := tk } := I.turned (fun b o hb e => kk b o (by simpa using hb) e) f0 f1 f3 f4 f5
    refine ⟨_, rfl, go_of (s := { s with heap := h', toks := tk }) (n := "range_iterator") st' rfl rfl (by decide) ⟨.int (lo + i), H, I1, ⟨t, ?_⟩, ⟨rfl, rfl⟩, st', fun b hb => (hf b hb).1⟩⟩
    rw [Int.mul_one]
  done := by
    intro X hP hw hK hc i pins s σ H E I hf st hg
    subst hP hw hK
    obtain ⟨f0, f1, f2, f3, f4, f5⟩ := hf it (by simp)
    exact wpAny_pyNext_range_end (I.ok.hd hc) st (by have : n ≤ i := hg; omega) fun h' eb => ⟨rfl, I.turned (t' := s.toks) (fun b o hb e => eb b o hb e) f0 f1 f3 f4 f5⟩
  self := fun _ _ _ _ _ st h => wpAny_pyIter_rangeiter st h
end L2

namespace L2
open PySem PySem.Spec PyProof.Rows
section
variable {X : Cx} {tg : Expr}
def iList (K : PySem.W.Frag) (tl : TE) : TI := fun σ H R => tl σ H fun x H1 => ∃ a, x = .ref a ∧ (∃ xs, SqL K H1 a xs) ∧ R (Itl K a) H1
def iTup (K : PySem.W.Frag) (tl : TE) : TI := fun σ H R => tl σ H fun x H1 => ∃ a, x = .ref a ∧ (∃ xs, SqT K H1 a xs) ∧ R (Itt K a) H1
theorem pi_list {l : Expr} {tl : TE} (hl : PE X l tl) : PI X tg l (iList X.K tl) := by
  intro pins s σ H R I h
  refine thn (hl pins s σ H _ I h) fun v s1 ⟨x, H1, I1, r1, q1⟩ => ?_
  obtain ⟨a, e, ⟨xs, hq⟩, q⟩ := q1
  subst e
  cases r1
  obtain ⟨its, rv, p, hz⟩ := I1.list hq
  refine wpAny_pyIter_list p.isList ?_
  refine ⟨s1.heap.objs.size, [s1.heap.objs.size], _, _, H1, rfl, I1.kept (t' := s1.toks) fun b o e => Heap.get?_push_of_some _ e, turn_list a _, ⟨_, Heap.get?_push_size _ rfl, rfl, rfl⟩, fun b hb => ?_, q⟩
  have e : b = s1.heap.objs.size := by simpa using hb
  subst e
  exact I1.fpOk (Nat.le_refl _) (I1.hok.fresh (Nat.le_refl _))
theorem pi_tup {l : Expr} {tl : TE} (hl : PE X l tl) : PI X tg l (iTup X.K tl) := by
  intro pins s σ H R I h
  refine thn (hl pins s σ H _ I h) fun v s1 ⟨x, H1, I1, r1, q1⟩ => ?_
  obtain ⟨a, e, ⟨xs, hq⟩, q⟩ := q1
  subst e
  cases r1
  obtain ⟨its, rv, p, hz⟩ := I1.tuple hq
  refine wpAny_pyIter_tuple (show s1.heap.IsTuple a its.toArray from p) ?_
  refine ⟨s1.heap.objs.size, [s1.heap.objs.size], _, _, H1, rfl, I1.kept (t' := s1.toks) fun b o e => Heap.get?_push_of_some _ e, turn_tuple a _, ⟨_, Heap.get?_push_size _ rfl, rfl, rfl⟩, fun b hb => ?_, q⟩
  have e : b = s1.heap.objs.size := by simpa using hb
  subst e
  exact I1.fpOk (Nat.le_refl _) (I1.hok.fresh (Nat.le_refl _))
/-- a range object just made, walked -/
theorem range_it {pins : List (Addr × Obj)} {σ : St} {H : Hp} {s : Shared} {R : It → Hp → Prop} {E : Value → Shared → Prop} {lo hi : Int} {t u v : Tok} {tk : Nat} (I : Inv X pins σ H s) (h1 : -(2 ^ 62) ≤ lo) (h2 : lo < 2 ^ 62) (h3 : -(2 ^ 62) ≤ hi) (h4 : hi < 2 ^ 62)
    (q : R (Itr lo (hi - lo).toNat) H) : wpAny (model X.prog X.w) X.A (pyIter (.ref s.heap.objs.size)) (PIE X pins σ tg R) E { s with heap := s.heap.push { cls := .type "range", data := .fields #[.int lo t, .int hi u, .int 1 v] }, toks := tk } := by
  refine wpAny_pyIter_range (IsRange.new ..) (small_one h1 h2 h3 h4) ?_
  have I1 : Inv X pins σ H { s with heap := s.heap.push { cls := .type "range", data := .fields #[.int lo t, .int hi u, .int 1 v] }, toks := tk } := I.kept fun b o e => Heap.get?_push_of_some _ e
  refine ⟨(s.heap.push { cls := .type "range", data := .fields #[.int lo t, .int hi u, .int 1 v] }).objs.size, [(s.heap.push { cls := .type "range", data := .fields #[.int lo t, .int hi u, .int 1 v] }).objs.size], _, _, H, rfl,
    I1.kept (t' := tk) fun b o e => Heap.get?_push_of_some _ e, turn_range _ lo (hi - lo).toNat, ?_, fun b hb => ?_, q⟩
  · have e1 : lo + ((0 : Nat) : Int) * 1 = lo := by simp
    have e2 : (((hi - lo).toNat : Nat) : Int) - ((0 : Nat) : Int) = Builtin.Range.rangeSize lo hi 1 := by rw [rangeSize_one]; split <;> omega
    show IsRangeIter _ _ (lo + ((0 : Nat) : Int) * 1) ((((hi - lo).toNat : Nat) : Int) - ((0 : Nat) : Int)) 1
    rw [e1, e2]
    exact Heap.get?_push_size _ rfl
  · have e : b = (s.heap.push { cls := .type "range", data := .fields #[.int lo t, .int hi u, .int 1 v] }).objs.size := by simpa using hb
    subst e
    exact I1.fpOk (Nat.le_refl _) (I1.hok.fresh (Nat.le_refl _))
def iRng1 (ta : TA) : TI := fun σ H R => ta σ H fun vs H1 => ∃ j : Int, vs = [.int j] ∧ -(2 ^ 62) ≤ j ∧ j < 2 ^ 62 ∧ R (Itr 0 j.toNat) H1
def iRng2 (ta : TA) : TI := fun σ H R => ta σ H fun vs H1 => ∃ i j : Int, vs = [.int i, .int j] ∧ (-(2 ^ 62) ≤ i ∧ i < 2 ^ 62 ∧ -(2 ^ 62) ≤ j ∧ j < 2 ^ 62) ∧ R (Itr i (j - i).toNat) H1
theorem pi_range1 {a : Expr} {ta : TA} {p pos : Pos} (hg : Gl X "range") (hm : X.mg "range" = none) (ha : PA X [a] ta) (hs : starEach [a] X.env = [(false, eval a X.env)] := by rfl) : PI X tg (.Call (.Name "range" p) [a] [] pos) (iRng1 ta) := by
  intro pins s σ H R I h
  refine Call_ (ld_blt I hg hm boot_range (PyProof.Rows.callWith_type1 (thn (ha pos pins s σ H _ I h) fun us s1 ⟨vs, H1, I1, r1, q1⟩ => ?_) hs rfl))
  obtain ⟨j, e, q1, q2, q⟩ := q1
  subst e
  cases r1 with
  | cons r rr =>
    cases rr
    obtain ⟨t, rfl⟩ := r
    exact call_range_1 (range_it I1 (by omega) (by omega) q1 q2 (by simpa using q))
theorem pi_range2 {a b : Expr} {ta : TA} {p pos : Pos} (hg : Gl X "range") (hm : X.mg "range" = none) (ha : PA X [a, b] ta) (hs : starEach [a, b] X.env = [(false, eval a X.env), (false, eval b X.env)] := by rfl) (hs2 : starEach [b] X.env = [(false, eval b X.env)] := by rfl) :
    PI X tg (.Call (.Name "range" p) [a, b] [] pos) (iRng2 ta) := by
  intro pins s σ H R I h
  refine Call_ (ld_blt I hg hm boot_range (PyProof.Rows.callWith_type1 (thn (ha pos pins s σ H _ I h) fun us s1 ⟨vs, H1, I1, r1, q1⟩ => ?_) (by rw [hs, hs2]) (by rw [hs2]; rfl)))
  obtain ⟨i, j, e, ⟨q1, q2, q3, q4⟩, q⟩ := q1
  subst e
  cases r1 with
  | cons r rr =>
    cases rr with
    | cons r' rr =>
      cases rr
      obtain ⟨t, rfl⟩ := r
      obtain ⟨t', rfl⟩ := r'
      exact call_range_2 (range_it I1 q1 q2 q3 q4 q)

/-! ### for -/
/-- W: the invariant by the turn and a measure; N: what the body is to reach -/
def tFor (wi : TI) (g : TG) (tb : TS) : TS := fun D σ H => wi σ H fun J H1 => ∃ W : Nat → Nat → St → Hp → Prop, (∃ m, W 0 m σ H1) ∧ ∀ i m σ H, W i m σ H →
  (J.stop i H ∧ D.nx σ H) ∨ (J.go i H ∧ ∃ N : St → Hp → Prop, (∀ σ' H', N σ' H' → ∃ m', m' < m ∧ W (i + 1) m' σ' H') ∧ ∀ x H', J.yld i H x H' → g x σ H' fun σ2 H2 => tb { D with nx := N, ct := N, bk := D.nx } σ2 H2)
/-- the records at fp as they stand -/
def pinsAt (fp : List Addr) (h : Heap) : List (Addr × Obj) := fp.filterMap fun b => (h.get? b).map fun o => (b, o)
theorem mem_pinsAt {fp : List Addr} {h : Heap} {b : Addr} {o : Obj} (hb : b ∈ fp) (e : h.get? b = some o) : (b, o) ∈ pinsAt fp h := List.mem_filterMap.mpr ⟨b, hb, by rw [e]; rfl⟩
theorem of_pinsAt {fp : List Addr} {h : Heap} {p : Addr × Obj} (hp : p ∈ pinsAt fp h) : p.1 ∈ fp ∧ h.get? p.1 = some p.2 := by
  obtain ⟨b, hb, e⟩ := List.mem_filterMap.mp hp
  cases q : h.get? b with
  | none => rw [q] at e; cases e
  | some o =>
    rw [q] at e
    have e' : (b, o) = p := Option.some.inj e
    subst e'
    exact ⟨hb, q⟩
theorem Inv.pinned {pins : List (Addr × Obj)} {σ : St} {H : Hp} {s : Shared} {fp : List Addr} (I : Inv X pins σ H s) (hf : ∀ b ∈ fp, FpOk X pins H b) (ho : ∀ b ∈ fp, ∃ o, s.heap.get? b = some o ∧ ∀ v, o.data ≠ .cell v) : Inv X (pins ++ pinsAt fp s.heap) σ H s :=
  I.pins_of fun p hp => (List.mem_append.mp hp).elim (fun z => I.pin p (List.mem_append_right _ z)) fun z => by
    obtain ⟨hb, e⟩ := of_pinsAt z
    obtain ⟨f0, f1, f2, _⟩ := hf p.1 hb
    obtain ⟨o, e', d⟩ := ho p.1 hb
    rw [e] at e'; cases e'
    exact ⟨e, f0, f1, f2, d⟩
theorem Inv.unpinned {pins pl : List (Addr × Obj)} {σ : St} {H : Hp} {s : Shared} (I : Inv X (pins ++ pl) σ H s) : Inv X pins σ H s := I.pins_of fun p hp => I.pin p (List.mem_append_right _ (List.mem_append_left _ hp))
theorem ps_for {iter : Expr} {body : List Stmt} {wi : TI} {g : TG} {tb : TS} {pos : Pos} (hp : PassesOwn (model X.prog X.w) X.A X.env X.xe) (hc : X.calm = true) (hi : PI X tg iter wi) (hg : PG X tg g) (hb : PSs X body tb)
    (hs : ∀ x, foldedSetIterable iter X.env x = pure x := by intro _; rfl) : PS X (.For tg iter body [] pos) (tFor wi g tb) := by
  intro pins s σ H D I h
  refine wpAny_For (thn (hi pins s σ H _ I h) fun v s1 h1 => thn h1 fun itv s2 h2 => ?_) hs
  obtain ⟨it, fp, tn, J, H2, e, I2, T, st2, f2, W, ⟨m0, w0⟩, turn⟩ := h2
  subst e
  -- what stays true of the iterator's objects through the loop
  have stat : ∀ {H' : Hp}, (∀ b ∈ fp, H' b = none) → ∀ b ∈ fp, FpOk X pins H' b := fun hn b hb => ⟨hn b hb, (f2 b hb).2⟩
  refine codeAny_forLoop_any (fun n s' => ∃ i σ' H', Inv X pins σ' H' s' ∧ tn i s'.heap ∧ (∀ b ∈ fp, H' b = none) ∧ W i n σ' H') ?_ m0 ⟨0, σ, H2, I2, st2, fun b hb => (f2 b hb).1, w0⟩
  rintro n s3 ⟨i, σ3, H3, I3, st3, fr3, w3⟩
  rcases turn i n σ3 H3 w3 with ⟨stop, qn⟩ | ⟨go, N, hN, step⟩
  · refine wpAny_passesOwn hp (thn (T.done X rfl rfl rfl hc i pins s3 σ3 H3 X.xe I3 (stat fr3) st3 stop) fun r s4 ⟨hr, I4⟩ => ?_)
    subst hr
    exact wpAny_execs_nil ⟨σ3, H3, I4, qn⟩
  · refine wpAny_passesOwn hp (thn (T.item X rfl rfl rfl hc i pins s3 σ3 H3 X.xe I3 (stat fr3) st3 go) fun r s4 ⟨u, hr, h4⟩ => ?_)
    subst hr
    refine wpAny_passesOwn hp (thn h4 fun _ s5 ⟨x, H5, I5, r5, y5, st5, fr5⟩ => ?_)
    have I5' := I5.pinned (stat fr5) (T.obj _ _ st5)
    refine wpAny_passesOwn hp (thn (hg _ s5 σ3 H5 x u _ I5' r5 (step x H5 y5)) fun _ s6 ⟨σ6, H6, I6, q6⟩ => ?_)
    refine wpAny_passesOwn hp (thn (hb _ s6 σ6 H6 _ I6 q6) fun f s7 q7 => ?_)
    have again : ∀ {σ7 : St} {H7 : Hp}, Inv X (pins ++ pinsAt fp s5.heap) σ7 H7 s7 → N σ7 H7 → ∃ m, m < n ∧ ∃ i σ' H', Inv X pins σ' H' s7 ∧ tn i s7.heap ∧ (∀ b ∈ fp, H' b = none) ∧ W i m σ' H' := fun {σ7 H7} I7 n7 => by
      obtain ⟨m', hm, w7⟩ := hN σ7 H7 n7
      refine ⟨m', hm, i + 1, σ7, H7, I7.unpinned, T.keep _ _ _ st5 fun b hb o e => (I7.pin (b, o) (List.mem_append_right _ (List.mem_append_right _ (mem_pinsAt hb e)))).1, fun b hb => ?_, w7⟩
      obtain ⟨o, e, d⟩ := T.obj _ _ st5 b hb
      exact (I7.pin (b, o) (List.mem_append_right _ (List.mem_append_right _ (mem_pinsAt hb e)))).2.1
    cases f with
    | next => obtain ⟨σ7, H7, I7, n7⟩ := q7; exact again I7 n7
    | cont => obtain ⟨σ7, H7, I7, n7⟩ := q7; exact again I7 n7
    | brk => obtain ⟨σ7, H7, I7, q7⟩ := q7; exact ⟨σ7, H7, I7.unpinned, q7⟩
    | ret v => obtain ⟨x7, σ7, H7, I7, r7, q7⟩ := q7; exact ⟨x7, σ7, H7, I7.unpinned, r7, q7⟩
end

/-! ### the forms one uses -/
/-- over a list that the body leaves as it is -/
theorem for_list {K : PySem.W.Frag} {a : Addr} {xs : List V} {g : TG} {tb : TS} {D : Ends} {σ : St} {H : Hp} (Pv : Nat → St → Hp → Prop) (h0 : Pv 0 σ H) (hl : ∀ i σ H, i ≤ xs.length → Pv i σ H → SqL K H a xs)
    (hs : ∀ i x σ H, xs[i]? = some x → Pv i σ H → g x σ H fun σ2 H2 => tb { D with nx := Pv (i + 1), ct := Pv (i + 1), bk := D.nx } σ2 H2) (hd : ∀ σ H, Pv xs.length σ H → D.nx σ H) :
    ∃ W : Nat → Nat → St → Hp → Prop, (∃ m, W 0 m σ H) ∧ ∀ i m σ H, W i m σ H →
      ((Itl K a).stop i H ∧ D.nx σ H) ∨ ((Itl K a).go i H ∧ ∃ N : St → Hp → Prop, (∀ σ' H', N σ' H' → ∃ m', m' < m ∧ W (i + 1) m' σ' H') ∧ ∀ x H', (Itl K a).yld i H x H' → g x σ H' fun σ2 H2 => tb { D with nx := N, ct := N, bk := D.nx } σ2 H2) := by
  refine ⟨fun i m σ H => m = xs.length - i ∧ i ≤ xs.length ∧ Pv i σ H, ⟨xs.length, by simp, Nat.zero_le _, h0⟩, ?_⟩
  rintro i m σ H ⟨rfl, hi, p⟩
  have q := hl i σ H hi p
  by_cases hlt : i < xs.length
  · refine .inr ⟨⟨xs, xs[i], q, by simp [hlt]⟩, Pv (i + 1), fun σ' H' p' => ⟨xs.length - (i + 1), by omega, rfl, hlt, p'⟩, fun x H' y => ?_⟩
    obtain ⟨e, y⟩ := y
    subst e
    exact hs i x σ _ (y xs q) p
  · have e : i = xs.length := by omega
    subst e
    exact .inl ⟨⟨xs, q, Nat.le_refl _⟩, hd σ H p⟩
theorem for_tup {K : PySem.W.Frag} {a : Addr} {xs : List V} {g : TG} {tb : TS} {D : Ends} {σ : St} {H : Hp} (Pv : Nat → St → Hp → Prop) (h0 : Pv 0 σ H) (hl : ∀ i σ H, i ≤ xs.length → Pv i σ H → SqT K H a xs)
    (hs : ∀ i x σ H, xs[i]? = some x → Pv i σ H → g x σ H fun σ2 H2 => tb { D with nx := Pv (i + 1), ct := Pv (i + 1), bk := D.nx } σ2 H2) (hd : ∀ σ H, Pv xs.length σ H → D.nx σ H) :
    ∃ W : Nat → Nat → St → Hp → Prop, (∃ m, W 0 m σ H) ∧ ∀ i m σ H, W i m σ H →
      ((Itt K a).stop i H ∧ D.nx σ H) ∨ ((Itt K a).go i H ∧ ∃ N : St → Hp → Prop, (∀ σ' H', N σ' H' → ∃ m', m' < m ∧ W (i + 1) m' σ' H') ∧ ∀ x H', (Itt K a).yld i H x H' → g x σ H' fun σ2 H2 => tb { D with nx := N, ct := N, bk := D.nx } σ2 H2) := by
  refine ⟨fun i m σ H => m = xs.length - i ∧ i ≤ xs.length ∧ Pv i σ H, ⟨xs.length, by simp, Nat.zero_le _, h0⟩, ?_⟩
  rintro i m σ H ⟨rfl, hi, p⟩
  have q := hl i σ H hi p
  by_cases hlt : i < xs.length
  · refine .inr ⟨⟨xs, xs[i], q, by simp [hlt]⟩, Pv (i + 1), fun σ' H' p' => ⟨xs.length - (i + 1), by omega, rfl, hlt, p'⟩, fun x H' y => ?_⟩
    obtain ⟨e, y⟩ := y
    subst e
    exact hs i x σ _ (y xs q) p
  · have e : i = xs.length := by omega
    subst e
    exact .inl ⟨⟨xs, q, Nat.le_refl _⟩, hd σ H p⟩
theorem for_range {lo : Int} {n : Nat} {g : TG} {tb : TS} {D : Ends} {σ : St} {H : Hp} (Pv : Nat → St → Hp → Prop) (h0 : Pv 0 σ H)
    (hs : ∀ i σ H, i < n → Pv i σ H → g (.int (lo + i)) σ H fun σ2 H2 => tb { D with nx := Pv (i + 1), ct := Pv (i + 1), bk := D.nx } σ2 H2) (hd : ∀ σ H, Pv n σ H → D.nx σ H) :
    ∃ W : Nat → Nat → St → Hp → Prop, (∃ m, W 0 m σ H) ∧ ∀ i m σ H, W i m σ H →
      ((Itr lo n).stop i H ∧ D.nx σ H) ∨ ((Itr lo n).go i H ∧ ∃ N : St → Hp → Prop, (∀ σ' H', N σ' H' → ∃ m', m' < m ∧ W (i + 1) m' σ' H') ∧ ∀ x H', (Itr lo n).yld i H x H' → g x σ H' fun σ2 H2 => tb { D with nx := N, ct := N, bk := D.nx } σ2 H2) := by
  refine ⟨fun i m σ H => m = n - i ∧ i ≤ n ∧ Pv i σ H, ⟨n, by simp, Nat.zero_le _, h0⟩, ?_⟩
  rintro i m σ H ⟨rfl, hi, p⟩
  by_cases hlt : i < n
  · refine .inr ⟨hlt, Pv (i + 1), fun σ' H' p' => ⟨n - (i + 1), by omega, rfl, hlt, p'⟩, fun x H' y => ?_⟩
    obtain ⟨e, y⟩ := y
    subst e y
    exact hs i σ _ hlt p
  · have e : i = n := by omega
    subst e
    exact .inl ⟨Nat.le_refl _, hd σ H p⟩
end L2

namespace L2
open PySem PySem.Spec PyProof.Rows

abbrev R2 := V → V → Hp → VK → Prop
/-- a two-place operation on values: f is binaryOp op, inplaceOp op or compareOp op -/
def OpR (X : Cx) (f : Value → Value → Sem Value) (r : R2) : Prop :=
  ∀ (pins : List (Addr × Obj)) (s : Shared) (σ : St) (H : Hp) (x y : V) (v u : Value) (Q : VK), Inv X pins σ H s → RelV x v → RelV y u → r x y H Q →
    wpAny (model X.prog X.w) X.A (f v u) (EP X pins σ Q) X.xe s
/-- a one-place operation -/
def UnR (X : Cx) (f : Value → Sem Value) (r : V → Hp → VK → Prop) : Prop :=
  ∀ (pins : List (Addr × Obj)) (s : Shared) (σ : St) (H : Hp) (x : V) (v : Value) (Q : VK), Inv X pins σ H s → RelV x v → r x H Q →
    wpAny (model X.prog X.w) X.A (f v) (EP X pins σ Q) X.xe s
/-- a call of a value that is known (a builtin, a type) with values -/
def CallR (X : Cx) (f : Value) (r : List V → Hp → VK → Prop) : Prop :=
  ∀ (pins : List (Addr × Obj)) (s : Shared) (σ : St) (H : Hp) (xs : List V) (us : List Value) (Q : VK), Inv X pins σ H s → Vals xs us → r xs H Q →
    wpAny (model X.prog X.w) X.A (call f us) (EP X pins σ Q) X.xe s
/-- a value's truth -/
def TruR (X : Cx) (r : V → Hp → (Bool → Hp → Prop) → Prop) : Prop :=
  ∀ (pins : List (Addr × Obj)) (s : Shared) (σ : St) (H : Hp) (x : V) (v : Value) (Q : Bool → Hp → Prop), Inv X pins σ H s → RelV x v → r x H Q →
    wpAny (model X.prog X.w) X.A (truthy v) (TP X pins σ Q) X.xe s

def tOp (r : R2) (ta tb : TE) : TE := fun σ H Q => ta σ H fun x H1 => tb σ H1 fun y H2 => r x y H2 Q
def tUn (r : V → Hp → VK → Prop) (ta : TE) : TE := fun σ H Q => ta σ H fun x H1 => r x H1 Q
/-- ints in, under C, and a value out -/
def rI (C : Int → Int → Prop) (g : Int → Int → V) : R2 := fun x y H Q => ∃ i j, x = .int i ∧ y = .int j ∧ C i j ∧ Q (g i j) H
def rI0 (g : Int → Int → V) : R2 := fun x y H Q => ∃ i j, x = .int i ∧ y = .int j ∧ Q (g i j) H
def rU (g : Int → V) : V → Hp → VK → Prop := fun x H Q => ∃ i, x = .int i ∧ Q (g i) H

section
variable {X : Cx} {a b c : Expr} {ta tb tc : TE} {pos : Pos}

theorem binT (ha : PE X a ta) (hb : PE X b tb) {pins : List (Addr × Obj)} {s : Shared} {σ : St} {H : Hp} {R : V → V → Hp → Prop} (I : Inv X pins σ H s)
    (h : ta σ H fun x H1 => tb σ H1 fun y H2 => R x y H2) {Q : Value → Shared → Prop} {f : Value → Value → Sem Value}
    (hf : ∀ v u s2 x y H2, Inv X pins σ H2 s2 → RelV x v → RelV y u → R x y H2 → wpAny (model X.prog X.w) X.A (f v u) Q X.xe s2) :
    wpAny (model X.prog X.w) X.A (eval a X.env) (fun v s₁ => wpAny (model X.prog X.w) X.A (eval b X.env) (fun u s₂ => wpAny (model X.prog X.w) X.A (f v u) Q X.xe s₂) X.xe s₁) X.xe s := by
  refine thn (ha pins s σ H _ I h) fun v s1 ⟨x, H1, I1, r1, q1⟩ => ?_
  refine thn (hb pins s1 σ H1 _ I1 q1) fun u s2 ⟨y, H2, I2, r2, q2⟩ => ?_
  exact hf v u s2 x y H2 I2 r1 r2 q2

theorem pe_op {op : Operator} {r : R2} (ho : OpR X (binaryOp op) r) (ha : PE X a ta) (hb : PE X b tb) : PE X (.BinOp a op b pos) (tOp r ta tb) := by
  intro pins s σ H Q I h
  exact wpAny_BinOp (binT ha hb I h fun v u s2 x y H2 I2 rx ry q => ho pins s2 σ H2 x y v u Q I2 rx ry q)
theorem pe_un {op : UnaryOp} {r : V → Hp → VK → Prop} (ho : UnR X (unaryOp op) r) (ha : PE X a ta) : PE X (.UnaryOp op a pos) (tUn r ta) := by
  intro pins s σ H Q I h
  exact UnaryOp_ (thn (ha pins s σ H _ I h) fun v s1 ⟨x, H1, I1, r1, q1⟩ => ho pins s1 σ H1 x v Q I1 r1 q1)

/-! ### ints -/
theorem opI {f : Value → Value → Sem Value} {C : Int → Int → Prop} {g : Int → Int → Int}
    (rule : ∀ (i j : Int) (t u : Tok) (s : Shared) (Q : Value → Shared → Prop) (E : Value → Shared → Prop), C i j → Q (.int (g i j) s.toks) { s with toks := s.toks + 1 } → wpAny (model X.prog X.w) X.A (f (.int i t) (.int j u)) Q E s) :
    OpR X f (rI C fun i j => .int (g i j)) := by
  intro pins s σ H x y v u Q I rx ry h
  obtain ⟨i, j, rfl, rfl, hc, q⟩ := h
  obtain ⟨t, rfl⟩ := rx
  obtain ⟨t', rfl⟩ := ry
  exact rule i j t t' s _ _ hc ⟨.int (g i j), H, I.tok _, ⟨_, rfl⟩, q⟩
theorem opI0 {f : Value → Value → Sem Value} {g : Int → Int → Int}
    (rule : ∀ (i j : Int) (t u : Tok) (s : Shared) (Q : Value → Shared → Prop) (E : Value → Shared → Prop), Q (.int (g i j) s.toks) { s with toks := s.toks + 1 } → wpAny (model X.prog X.w) X.A (f (.int i t) (.int j u)) Q E s) :
    OpR X f (rI0 fun i j => .int (g i j)) := by
  intro pins s σ H x y v u Q I rx ry h
  obtain ⟨i, j, rfl, rfl, q⟩ := h
  obtain ⟨t, rfl⟩ := rx
  obtain ⟨t', rfl⟩ := ry
  exact rule i j t t' s _ _ ⟨.int (g i j), H, I.tok _, ⟨_, rfl⟩, q⟩
theorem opB0 {f : Value → Value → Sem Value} {g : Int → Int → Bool}
    (rule : ∀ (i j : Int) (t u : Tok) (s : Shared) (Q : Value → Shared → Prop) (E : Value → Shared → Prop), Q (.bool (g i j)) s → wpAny (model X.prog X.w) X.A (f (.int i t) (.int j u)) Q E s) :
    OpR X f (rI0 fun i j => .bl (g i j)) := by
  intro pins s σ H x y v u Q I rx ry h
  obtain ⟨i, j, rfl, rfl, q⟩ := h
  obtain ⟨t, rfl⟩ := rx
  obtain ⟨t', rfl⟩ := ry
  exact rule i j t t' s _ _ ⟨.bl (g i j), H, I, rfl, q⟩

def CDiv (i j : Int) : Prop := 0 < j ∧ j < 1073741824
def CDivN (i j : Int) : Prop := j ≠ 0 ∧ j.natAbs < 1073741824
def CPow (i j : Int) : Prop := 0 ≤ j ∧ j ≤ 1000000 ∧ i.natAbs < 2 ^ 64
def CMul (i j : Int) : Prop := (-(2 ^ 64) < i ∧ i < 2 ^ 64) ∨ (-(2 ^ 64) < j ∧ j < 2 ^ 64)
theorem CMul.ok {i j : Int} (h : CMul i j) : IntMulOk i j := by
  rcases h with ⟨h1, h2⟩ | ⟨h1, h2⟩
  · exact .of_left (intBits_le_64 h1 h2)
  · exact .of_right (intBits_le_64 h1 h2)

theorem op_add : OpR X (binaryOp .Add) (rI0 fun i j => .int (i + j)) := opI0 fun _ _ _ _ _ _ _ q => add_int q
theorem op_sub : OpR X (binaryOp .Sub) (rI0 fun i j => .int (i - j)) := opI0 fun _ _ _ _ _ _ _ q => sub_int q
theorem op_mul : OpR X (binaryOp .Mult) (rI CMul fun i j => .int (i * j)) := opI fun _ _ _ _ _ _ _ hc q => mul_int q hc.ok
/-- // by a positive divisor -/
theorem op_fdiv : OpR X (binaryOp .FloorDiv) (rI CDiv fun i j => .int (i / j)) := opI fun i j _ _ _ _ _ hc q => by
  have h1 : (0 : Int) < j := hc.1
  have h2 : j < 1073741824 := hc.2
  exact floordiv_int (by omega) (by rw [Int.fdiv_eq_ediv_of_nonneg i (by omega)]; exact q) (.inl (PyProof.noPylong_small (by omega)))
/-- % by a positive divisor of any size -/
theorem op_mod : OpR X (binaryOp .Mod) (rI (fun _ j => 0 < j) fun i j => .int (i % j)) := opI fun i j _ _ _ _ _ hc q => by
  have h1 : (0 : Int) < j := hc
  exact mod_int' (by omega) (by rw [Int.fmod_eq_emod_of_nonneg i (by omega)]; exact q)
theorem op_pow : OpR X (binaryOp .Pow) (rI CPow fun i j => .int (i ^ j.toNat)) := opI fun _ _ _ _ _ _ _ hc q => pow_int_small hc.1 hc.2.1 hc.2.2 q


theorem unI {f : Value → Sem Value} {g : Int → Int}
    (rule : ∀ (i : Int) (t : Tok) (s : Shared) (Q : Value → Shared → Prop) (E : Value → Shared → Prop), Q (.int (g i) s.toks) { s with toks := s.toks + 1 } → wpAny (model X.prog X.w) X.A (f (.int i t)) Q E s) :
    UnR X f (rU fun i => .int (g i)) := by
  intro pins s σ H x v Q I rx h
  obtain ⟨i, rfl, q⟩ := h
  obtain ⟨t, rfl⟩ := rx
  exact rule i t s _ _ ⟨.int (g i), H, I.tok _, ⟨_, rfl⟩, q⟩
theorem un_neg : UnR X (unaryOp .USub) (rU fun i => .int (-i)) := unI fun _ _ _ _ _ q => neg_int q

/-! ### bools among ints: n += (a < b) -/
end

/-! ### comparisons -/
/-- the scalars that == tells apart as data does -/
def scal : V → V → Bool
  | .non, .non => true | .non, .int _ => true | .int _, .non => true | .non, .bl _ => true | .bl _, .non => true | .non, .str _ => true | .str _, .non => true
  | .int _, .int _ => true | .bl _, .bl _ => true | .str _, .str _ => true | .byt _, .byt _ => true
  | .int _, .str _ => true | .str _, .int _ => true | .bl _, .str _ => true | .str _, .bl _ => true
  | _, _ => false
def rEq : R2 := fun x y H Q => scal x y = true ∧ Q (.bl (decide (x = y))) H
def rNe : R2 := fun x y H Q => scal x y = true ∧ Q (.bl (!decide (x = y))) H

theorem dec_int {i j : Int} : decide (V.int i = V.int j) = (i == j) := by
  rw [Bool.eq_iff_iff]
  simp
theorem dec_bl {i j : Bool} : decide (V.bl i = V.bl j) = (i == j) := by
  rw [Bool.eq_iff_iff]
  simp
theorem dec_str {i j : Str} : decide (V.str i = V.str j) = (i == j) := by
  rw [Bool.eq_iff_iff]
  simp
theorem dec_byt {i j : Array UInt8} : decide (V.byt i = V.byt j) = (i.toList == j.toList) := by
  rw [Bool.eq_iff_iff]
  cases i
  cases j
  simp

section
variable {X : Cx} {a b c : Expr} {ta tb tc : TE} {pos : Pos}
theorem fin_bl {pins : List (Addr × Obj)} {σ : St} {H : Hp} {s : Shared} {Q : VK} {k k' : Bool} (I : Inv X pins σ H s) (q : Q (.bl k) H) (e : k = k') : EP X pins σ Q (.bool k') s := by
  subst e
  exact ⟨.bl k, H, I, rfl, q⟩
theorem op_eq : OpR X (compareOp .Eq) rEq := by
  intro pins s σ H x y v u Q I rx ry h
  obtain ⟨hs, q⟩ := h
  cases x with
  | non =>
    cases rx
    cases y with
    | non => cases ry; exact PySem.EqNone.eq_none_none (fin_bl I q (by simp))
    | bl j => cases ry; exact PySem.EqNone.eq_none_bool (fin_bl I q (by simp))
    | int j => obtain ⟨t', rfl⟩ := ry; exact PySem.EqNone.eq_none_int (fin_bl I q (by simp))
    | str j => obtain ⟨t', rfl⟩ := ry; exact PySem.EqNone.eq_none_str (fin_bl I q (by simp))
    | _ => exact absurd (show false = true from hs) Bool.false_ne_true
  | bl i =>
    cases rx
    cases y with
    | non => cases ry; exact PySem.EqNone.eq_bool_none (fin_bl I q (by simp))
    | bl j => cases ry; exact eq_bool (fin_bl I q dec_bl)
    | str j => obtain ⟨t', rfl⟩ := ry; exact PySem.EqMixed.eq_bool_str (fin_bl I q (by simp))
    | _ => exact absurd (show false = true from hs) Bool.false_ne_true
  | int i =>
    obtain ⟨t, rfl⟩ := rx
    cases y with
    | non => cases ry; exact PySem.EqNone.eq_int_none (fin_bl I q (by simp))
    | int j => obtain ⟨t', rfl⟩ := ry; exact eq_int (fin_bl I q dec_int)
    | str j => obtain ⟨t', rfl⟩ := ry; exact PySem.EqMixed.eq_int_str (fin_bl I q (by simp))
    | _ => exact absurd (show false = true from hs) Bool.false_ne_true
  | str i =>
    obtain ⟨t, rfl⟩ := rx
    cases y with
    | non => cases ry; exact PySem.EqNone.eq_str_none (fin_bl I q (by simp))
    | bl j => cases ry; exact PySem.EqMixed.eq_str_bool (fin_bl I q (by simp))
    | int j => obtain ⟨t', rfl⟩ := ry; exact PySem.EqMixed.eq_str_int (fin_bl I q (by simp))
    | str j => obtain ⟨t', rfl⟩ := ry; exact eq_str (fin_bl I q dec_str)
    | _ => exact absurd (show false = true from hs) Bool.false_ne_true
  | byt i =>
    obtain ⟨t, rfl⟩ := rx
    cases y with
    | byt j => obtain ⟨t', rfl⟩ := ry; exact PySem.W.eq_bytes (fin_bl I q dec_byt)
    | _ => exact absurd (show false = true from hs) Bool.false_ne_true
  | _ => cases y <;> exact absurd (show false = true from hs) Bool.false_ne_true
theorem op_ne : OpR X (compareOp .NotEq) rNe := by
  intro pins s σ H x y v u Q I rx ry h
  obtain ⟨hs, q⟩ := h
  cases x with
  | non =>
    cases rx
    cases y with
    | non => cases ry; exact PySem.EqNone.ne_none_none (fin_bl I q (by simp))
    | bl j => cases ry; exact PySem.EqNone.ne_none_bool (fin_bl I q (by simp))
    | int j => obtain ⟨t', rfl⟩ := ry; exact PySem.EqNone.ne_none_int (fin_bl I q (by simp))
    | str j => obtain ⟨t', rfl⟩ := ry; exact PySem.EqNone.ne_none_str (fin_bl I q (by simp))
    | _ => exact absurd (show false = true from hs) Bool.false_ne_true
  | bl i =>
    cases rx
    cases y with
    | non => cases ry; exact PySem.EqNone.ne_bool_none (fin_bl I q (by simp))
    | bl j => cases ry; exact ne_bool (fin_bl I q (congrArg not dec_bl))
    | str j => obtain ⟨t', rfl⟩ := ry; exact PySem.EqMixed.ne_bool_str (fin_bl I q (by simp))
    | _ => exact absurd (show false = true from hs) Bool.false_ne_true
  | int i =>
    obtain ⟨t, rfl⟩ := rx
    cases y with
    | non => cases ry; exact PySem.EqNone.ne_int_none (fin_bl I q (by simp))
    | int j => obtain ⟨t', rfl⟩ := ry; exact ne_int (fin_bl I q (congrArg not dec_int))
    | str j => obtain ⟨t', rfl⟩ := ry; exact PySem.EqMixed.ne_int_str (fin_bl I q (by simp))
    | _ => exact absurd (show false = true from hs) Bool.false_ne_true
  | str i =>
    obtain ⟨t, rfl⟩ := rx
    cases y with
    | non => cases ry; exact PySem.EqNone.ne_str_none (fin_bl I q (by simp))
    | bl j => cases ry; exact PySem.EqMixed.ne_str_bool (fin_bl I q (by simp))
    | int j => obtain ⟨t', rfl⟩ := ry; exact PySem.EqMixed.ne_str_int (fin_bl I q (by simp))
    | str j => obtain ⟨t', rfl⟩ := ry; exact ne_str (fin_bl I q (congrArg not dec_str))
    | _ => exact absurd (show false = true from hs) Bool.false_ne_true
  | byt i =>
    obtain ⟨t, rfl⟩ := rx
    cases y with
    | byt j => obtain ⟨t', rfl⟩ := ry; exact PySem.W.ne_bytes (fin_bl I q (congrArg not dec_byt))
    | _ => exact absurd (show false = true from hs) Bool.false_ne_true
  | _ => cases y <;> exact absurd (show false = true from hs) Bool.false_ne_true

theorem op_lt : OpR X (compareOp .Lt) (rI0 fun i j => .bl (decide (i < j))) := opB0 fun _ _ _ _ _ _ _ q => lt_int q
theorem op_le : OpR X (compareOp .LtE) (rI0 fun i j => .bl (decide (i ≤ j))) := opB0 fun _ _ _ _ _ _ _ q => le_int q
theorem op_gt : OpR X (compareOp .Gt) (rI0 fun i j => .bl (decide (j < i))) := opB0 fun _ _ _ _ _ _ _ q => gt_int q
theorem op_ge : OpR X (compareOp .GtE) (rI0 fun i j => .bl (decide (j ≤ i))) := opB0 fun _ _ _ _ _ _ _ q => ge_int q

/-- is None, is not None: the right side a value none -/
theorem op_isN : OpR X (compareOp .Is) (fun x y H Q => y = .non ∧ Q (.bl (decide (x = .non))) H) := by
  intro pins s σ H x y v u Q I rx ry h
  obtain ⟨rfl, q⟩ := h
  cases ry
  refine is_none_gen (fin_bl I q ?_)
  cases x <;> first
    | (cases rx; rfl)
    | (obtain ⟨t, rfl⟩ := rx; rfl)

/-- is, is not of two objects that are tracked lists or instances -/
def isObj : HO → Bool
  | .lst _ => true
  | .ins _ _ _ => true
  | _ => false


theorem nomark (b : Expr) {op : CmpOp} (h : op ≠ .In := by decide) (h2 : op ≠ .NotIn := by decide) : behindInMarks op b = false := by
  have e1 : (op == CmpOp.In) = false := by cases op <;> first | rfl | exact absurd rfl h
  have e2 : (op == CmpOp.NotIn) = false := by cases op <;> first | rfl | exact absurd rfl h2
  cases b <;> simp [behindInMarks, e1, e2]
/-- a comparison as a value; hm: nomark b, or (for in, not in) by with_unfolding_all rfl -/
theorem pe_cmpR {op : CmpOp} {r : R2} (ho : OpR X (compareOp op) r) (ha : PE X a ta) (hb : PE X b tb) (hm : behindInMarks op b = false) : PE X (.Compare a [op] [b] pos) (tOp r ta tb) := by
  intro pins s σ H Q I h
  exact wpAny_Compare1 (binT ha hb I h fun v u s2 x y H2 I2 rx ry q => ho pins s2 σ H2 x y v u Q I2 rx ry q) hm
/-- a reading of a value as a test -/
def tTest (t : TE) : TT := fun σ H Q => t σ H fun x H' => ∃ k, x = .bl k ∧ Q k H'
theorem pt_cmpR {op : CmpOp} {r : R2} (ho : OpR X (compareOp op) r) (ha : PE X a ta) (hb : PE X b tb) (hm : behindInMarks op b = false) : PT X (.Compare a [op] [b] pos) (tTest (tOp r ta tb)) := by
  intro pins s σ H Q I h
  refine wpAny_isTrue_Compare1 (thn (ha pins s σ H _ I h) fun v s1 ⟨x, H1, I1, r1, q1⟩ => thn (hb pins s1 σ H1 _ I1 q1) fun u s2 ⟨y, H2, I2, r2, q2⟩ =>
    thn (ho pins s2 σ H2 x y v u _ I2 r1 r2 q2) fun c s3 ⟨z, H3, I3, r3, k, e, q3⟩ => ?_) hm
  subst e
  cases r3
  exact wpAny_truthy_bool ⟨H3, I3, q3⟩
/-- a op1 b op2 c -/
def tChain (r r' : R2) (ta tb tc : TE) : TE := fun σ H Q => ta σ H fun x H1 => tb σ H1 fun y H2 => r x y H2 fun z H3 => ∃ k, z = .bl k ∧
  (if k = true then tc σ H3 fun w' H4 => r' y w' H4 Q else Q (.bl false) H3)
theorem pe_chain {op op' : CmpOp} {r r' : R2} (ho : OpR X (compareOp op) r) (ho' : OpR X (compareOp op') r') (ha : PE X a ta) (hb : PE X b tb) (hc : PE X c tc)
    (hm : lastMarks [op, op'] [b, c] = false := by with_unfolding_all rfl) : PE X (.Compare a [op, op'] [b, c] pos) (tChain r r' ta tb tc) := by
  intro pins s σ H Q I h
  refine Compare_chain (thn (ha pins s σ H _ I h) fun v s1 ⟨x, H1, I1, r1, q1⟩ => chain_link (thn (hb pins s1 σ H1 _ I1 q1) fun u s2 ⟨y, H2, I2, r2, q2⟩ =>
    thn (ho pins s2 σ H2 x y v u _ I2 r1 r2 q2) fun d s3 ⟨z, H3, I3, r3, k, e, q3⟩ => ?_)) hm
  subst e
  cases r3
  refine wpAny_truthy_bool ?_
  cases k with
  | false => exact ite_ff ⟨.bl false, H3, I3, rfl, q3⟩
  | true => exact ite_tt (chain_last (thn (hc pins s3 σ H3 _ I3 q3) fun w' s4 ⟨z', H4, I4, r4, q4⟩ => ho' pins s4 σ H4 y z' u w' Q I4 r2 r4 q4))
theorem pt_chain {op op' : CmpOp} {r r' : R2} (ho : OpR X (compareOp op) r) (ho' : OpR X (compareOp op') r') (ha : PE X a ta) (hb : PE X b tb) (hc : PE X c tc)
    (hm : lastMarks [op, op'] [b, c] = false := by with_unfolding_all rfl) : PT X (.Compare a [op, op'] [b, c] pos) (tTest (tChain r r' ta tb tc)) := by
  intro pins s σ H Q I h
  refine isTrue_chain (thn (ha pins s σ H _ I h) fun v s1 ⟨x, H1, I1, r1, q1⟩ => test_link (thn (hb pins s1 σ H1 _ I1 q1) fun u s2 ⟨y, H2, I2, r2, q2⟩ =>
    thn (ho pins s2 σ H2 x y v u _ I2 r1 r2 q2) fun d s3 ⟨z, H3, I3, r3, k, e, q3⟩ => ?_)) hm
  subst e
  cases r3
  refine wpAny_truthy_bool ?_
  cases k with
  | false =>
    obtain ⟨k', e', q'⟩ := q3
    cases e'
    exact ite_ff ⟨H3, I3, q'⟩
  | true =>
    refine ite_tt (test_last (thn (hc pins s3 σ H3 _ I3 q3) fun w' s4 ⟨z', H4, I4, r4, q4⟩ => thn (ho' pins s4 σ H4 y z' u w' _ I4 r2 r4 q4) fun d' s5 ⟨z2, H5, I5, r5, k2, e2, q5⟩ => ?_))
    subst e2
    cases r5
    exact wpAny_truthy_bool ⟨H5, I5, q5⟩

/-! ### truth -/
/-- a value's truth by the abstract heap -/
def TruV (K : PySem.W.Frag) (x : V) (H : Hp) (k : Bool) : Prop :=
  match x with
  | .non => k = false
  | .bl b => k = b
  | .int i => k = (i != 0)
  | .str y => y.length ≤ sizeLine ∧ k = ((y.length : Int) != 0)
  | .byt y => y.size ≤ sizeLine ∧ k = ((y.size : Int) != 0)
  | .ref p => (∃ xs, SqL K H p xs ∧ k = !xs.isEmpty) ∨ (∃ xs, SqT K H p xs ∧ k = !xs.isEmpty) ∨ ∃ kvs, H p = some (.dK kvs) ∧ k = !kvs.isEmpty
  | _ => False
theorem isEmpty_kv {κ : Type} {kvs : List (κ × V)} {vs : List (κ × Value)} (r : KV kvs vs) : (!vs.isEmpty) = !kvs.isEmpty := by
  cases r <;> rfl
theorem isEmpty_of {xs : List V} {its : List Value} (r : Vals xs its) : (!its.toArray.isEmpty) = !xs.isEmpty := by
  cases r <;> simp
theorem line63 : (sizeLine : Nat) < 2 ^ 63 := by rw [sizeLine_eq]; decide
theorem tru_ok : TruR X (fun x H Q => ∃ k, TruV X.K x H k ∧ Q k H) := by
  intro pins s σ H x v Q I rx h
  obtain ⟨k, e, q⟩ := h
  have hl := line63
  have hs : sizeLine = 16777216 := sizeLine_eq
  cases x with
  | non =>
    cases rx
    have e' : k = false := e
    subst e'
    exact truthy_none ⟨H, I, q⟩
  | bl b =>
    cases rx
    have e' : k = b := e
    subst e'
    exact wpAny_truthy_bool ⟨H, I, q⟩
  | int i =>
    obtain ⟨t, rfl⟩ := rx
    have e' : k = (i != 0) := e
    subst e'
    exact PySem.P.truthy_int ⟨H, I, q⟩
  | str y =>
    obtain ⟨t, rfl⟩ := rx
    obtain ⟨hy, e'⟩ : y.length ≤ sizeLine ∧ k = ((y.length : Int) != 0) := e
    subst e'
    exact PySem.P.truthy_str (by omega) ⟨H, I.tok _, q⟩
  | byt y =>
    obtain ⟨t, rfl⟩ := rx
    obtain ⟨hy, e'⟩ : y.size ≤ sizeLine ∧ k = ((y.size : Int) != 0) := e
    subst e'
    exact PySem.W.truthy_bytes (by omega) ⟨H, I.tok _, q⟩
  | ref p =>
    cases rx
    have e' : (∃ xs, SqL X.K H p xs ∧ k = !xs.isEmpty) ∨ (∃ xs, SqT X.K H p xs ∧ k = !xs.isEmpty) ∨ ∃ kvs, H p = some (.dK kvs) ∧ k = !kvs.isEmpty := e
    rcases e' with ⟨xs, hx, e'⟩ | ⟨xs, hx, e'⟩ | ⟨kvs, hx, e'⟩
    · subst e'
      obtain ⟨its, r, pl, hz⟩ := I.list hx
      have hlen := r.length
      exact wpAny_truthy_list pl.isList (by simp only [List.size_toArray]; omega) ⟨H, I.tok _, by rw [isEmpty_of r]; exact q⟩
    · subst e'
      obtain ⟨its, r, pl, hz⟩ := I.tuple hx
      have hlen := r.length
      exact truthy_tuple pl (by simp only [List.size_toArray]; omega) ⟨H, I.tok _, by rw [isEmpty_of r]; exact q⟩
    · subst e'
      obtain ⟨hz, hS, vs, r, m⟩ : kvs.length ≤ sizeLine ∧ (p == sysModules) = false ∧ ∃ vs, KV kvs vs ∧ s.heap.DictOf (mixKind X.prog X.w) p vs := I.hok p _ hx
      have hlen : kvs.length = vs.length := Paired.length r
      exact wpAny_truthy_dict hS m (by omega) ⟨H, I.tok _, by rw [isEmpty_kv r]; exact q⟩
  | _ => exact (show False from e).elim
/-- any expression whose test is its value's truth (a name, a call, a subscript, a field ..: he by fun _ => rfl) -/
theorem pt_truth (ha : PE X a ta) (he : ∀ whole, isTrue a X.env whole = (do let v ← whole; standAt a.pos; holding [v] (truthy v))) :
    PT X a (fun σ H Q => ta σ H fun x H' => ∃ k, TruV X.K x H' k ∧ Q k H') := by
  intro pins s σ H Q I h
  exact isTrue_plain (thn (ha pins s σ H _ I h) fun v s1 ⟨x, H1, I1, r1, q1⟩ => tru_ok pins s1 σ H1 x v Q I1 r1 q1) (he _)

/-! ### strs and bytes -/

def PlainIxT (b : Expr) : Prop := ∀ o i, subscripted b false o i = operate [o, i] (getItem o i)

/-! ### scalar builtins, by CallR -/
theorem vals1 {x : V} {us : List Value} (r : Vals [x] us) : ∃ u, us = [u] ∧ RelV x u := by
  cases r with
  | cons r1 r2 => cases r2; exact ⟨_, rfl, r1⟩
theorem vals2 {x y : V} {us : List Value} (r : Vals [x, y] us) : ∃ u w', us = [u, w'] ∧ RelV x u ∧ RelV y w' := by
  cases r with
  | cons r1 r2 =>
    cases r2 with
    | cons r3 r4 => cases r4; exact ⟨_, _, rfl, r1, r3⟩
theorem call_abs : CallR X (.builtin "abs") (fun xs H Q => ∃ i, xs = [.int i] ∧ Q (.int (if i < 0 then -i else i)) H) := by
  intro pins s σ H xs us Q I r h
  obtain ⟨i, rfl, q⟩ := h
  obtain ⟨u, rfl, t, rfl⟩ := vals1 r
  exact call_abs_int fun u tk => ⟨.int (if i < 0 then -i else i), H, I.tok _, ⟨_, rfl⟩, q⟩
theorem call_max2 (hc : X.calm = true) : CallR X (.builtin "max") (fun xs H Q => ∃ i j, xs = [.int i, .int j] ∧ Q (.int (if j > i then j else i)) H) := by
  intro pins s σ H xs us Q I r h
  obtain ⟨i, j, rfl, q⟩ := h
  obtain ⟨u, w', rfl, ⟨t, rfl⟩, ⟨t', rfl⟩⟩ := vals2 r
  refine max_two_ints (I.ok.hd hc) fun h' tk k => ⟨_, H, I.kept k, ?_, q⟩
  by_cases hj : j > i
  · rw [if_pos hj, if_pos hj]; exact ⟨_, rfl⟩
  · rw [if_neg hj, if_neg hj]; exact ⟨_, rfl⟩
theorem call_min2 (hc : X.calm = true) : CallR X (.builtin "min") (fun xs H Q => ∃ i j, xs = [.int i, .int j] ∧ Q (.int (if j < i then j else i)) H) := by
  intro pins s σ H xs us Q I r h
  obtain ⟨i, j, rfl, q⟩ := h
  obtain ⟨u, w', rfl, ⟨t, rfl⟩, ⟨t', rfl⟩⟩ := vals2 r
  refine min_two_ints (I.ok.hd hc) fun h' tk k => ⟨_, H, I.kept k, ?_, q⟩
  by_cases hj : j < i
  · rw [if_pos hj, if_pos hj]; exact ⟨_, rfl⟩
  · rw [if_neg hj, if_neg hj]; exact ⟨_, rfl⟩
/-- len of a str, a bytes, a list, a tuple -/
def LenV (K : PySem.W.Frag) (x : V) (H : Hp) (n : Nat) : Prop :=
  match x with
  | .str y => y.length ≤ sizeLine ∧ n = y.length
  | .byt y => y.size ≤ sizeLine ∧ n = y.size
  | .ref p => (∃ xs, SqL K H p xs ∧ n = xs.length) ∨ ∃ xs, SqT K H p xs ∧ n = xs.length
  | _ => False
end
end L2

namespace L2
open PySem PySem.Spec PyProof.Rows

/-! ### an instance, its attributes a map -/
structure ObjM (h : Heap) (x dx C : Addr) (mA : Str → Option Value) : Prop where
  obj : h.get? x = some (PySem.W.instObj C dx)
  ns : h.Ns1 dx mA
  ne : dx ≠ x



section
variable {prog : Program} {w : World} {A : Around} {E : Value → Shared → Prop} {s : Shared} {K : PySem.W.Frag} {x dx C f : Addr} {mA : Str → Option Value} {name : Str} {v : Value}





end

/-! ### the attributes as a list of pairs -/
def putF (f : Str) (v : V) : List (Str × V) → List (Str × V)
  | [] => [(f, v)]
  | (g, x) :: r => if g = f then (g, v) :: r else (g, x) :: putF f v r


section
variable {P : Program} {w : World} {H H' : Hp} {h h' : Heap} {a C dx : Addr} {fs fs' : List (Str × V)}
end

/-! ### what of the text a class must have -/
structure Cls (K : PySem.W.Frag) (C : Addr) : Prop where
  pg : PySem.W.plainGet K C Str.empty = true
  hd : PySem.W.hasDictIn K C = true
  po : PySem.W.plainOver K C = true
  sa : PySem.W.findIn K (.ref C) "__setattr__" = some (some (.builtin "object.__setattr__"))
theorem Cls.get {K : PySem.W.Frag} {C : Addr} (c : Cls K C) (f : Str) : PySem.W.plainGet K C f = true := c.pg
/-- no class of it has the name -/
def NoAttr (K : PySem.W.Frag) (C : Addr) (f : Str) : Prop := PySem.W.findIn K (.ref C) f = some none
/-- a constant of the class -/
structure Con (K : PySem.W.Frag) (C : Addr) (f : Str) (v : V) (u : Value) : Prop where
  at_ : PySem.W.findIn K (.ref C) f = some (some u)
  rel : RelV v u
  get : PySem.W.specialIn K u "__get__" = some none
  cp : PySem.W.copiedNames.contains f = false
/-- a method: a plain def of the class or of one above it -/
structure Meth (K : PySem.W.Frag) (C : Addr) (m : Str) (f : Addr) : Prop where
  at_ : PySem.W.findIn K (.ref C) m = some (some (.ref f))
  fn : PySem.W.isFn K (.ref f) = true
  kp : PySem.W.keepIn K (.ref f) = true

section
variable {X : Cx} {pins : List (Addr × Obj)} {σ : St} {H : Hp} {s : Shared} {a C dx : Addr} {fs : List (Str × V)} {f : Str} {v : V} {A : Around} {E : Value → Shared → Prop}






end

/-! ### readings and rules -/
/-- e.f, an attribute of the instance -/
def tFld (K : PySem.W.Frag) (ta : TE) (f : Str) : TE := fun σ H Q => ta σ H fun x H1 => ∃ a C dx fs v, x = .ref a ∧ H1 a = some (.ins C dx fs) ∧ Cls K C ∧ NoAttr K C f ∧ fs.lookup f = some v ∧ Q v H1
/-- e.f, a constant of the class -/
def tCon (K : PySem.W.Frag) (ta : TE) (f : Str) : TE := fun σ H Q => ta σ H fun x H1 => ∃ a C dx fs v u, x = .ref a ∧ H1 a = some (.ins C dx fs) ∧ Cls K C ∧ Con K C f v u ∧ fs.lookup f = none ∧ Q v H1
/-- e.f = value -/
def sFld (K : PySem.W.Frag) (ta tv : TE) (f : Str) : TS := fun D σ H => tv σ H fun y H1 => ta σ H1 fun x H2 => ∃ a C dx fs, x = .ref a ∧ H2 a = some (.ins C dx fs) ∧ Cls K C ∧ NoAttr K C f ∧ fs.length < 1000 ∧
  D.nx σ (upd H2 a (.ins C dx (putF f y fs)))
/-- an augmented operator on two values -/
def InOp (X : Cx) (op : Operator) (rd : V → V → Hp → VK → Prop) : Prop :=
  ∀ (pins : List (Addr × Obj)) (s : Shared) (σ : St) (H : Hp) (x y : V) (u v : Value) (Q : VK), Inv X pins σ H s → RelV x u → RelV y v → rd x y H Q → wpAny (model X.prog X.w) X.A (inplaceOp op u v) (EP X pins σ Q) X.xe s
/-- e.f op= value -/
def sFldAug (K : PySem.W.Frag) (ta tv : TE) (rd : V → V → Hp → VK → Prop) (f : Str) : TS := fun D σ H => ta σ H fun x H1 => ∃ a C dx fs v, x = .ref a ∧ H1 a = some (.ins C dx fs) ∧ Cls K C ∧ NoAttr K C f ∧ fs.lookup f = some v ∧
  tv σ H1 fun y H2 => rd v y H2 fun z H3 => ∃ dx' fs', H3 a = some (.ins C dx' fs') ∧ fs'.length < 1000 ∧ D.nx σ (upd H3 a (.ins C dx' (putF f z fs')))

section
variable {X : Cx} {o e value : Expr} {f : Str} {pos pos' tpos : Pos} {ta tv : TE}
def rAdd : V → V → Hp → VK → Prop := fun x y H Q => ∃ i j, x = .int i ∧ y = .int j ∧ Q (.int (i + j)) H
def rSub : V → V → Hp → VK → Prop := fun x y H Q => ∃ i j, x = .int i ∧ y = .int j ∧ Q (.int (i - j)) H

end

/-! ### isinstance -/
section
variable {X : Cx} {pins : List (Addr × Obj)} {σ : St} {H : Hp} {s : Shared} {A : Around} {E : Value → Shared → Prop} {Q : Value → Shared → Prop} {c : Value} {b : Bool}
/-- the type of a value, as the fragment's deciders take it; for an instance its class -/
inductive TyOf (K : PySem.W.Frag) (H : Hp) : V → Value → Prop where
  | non : TyOf K H .non (.type "NoneType")
  | bl (x : Bool) : TyOf K H (.bl x) (.type "bool")
  | int (i : Int) : TyOf K H (.int i) (.type "int")
  | str (x : Str) : TyOf K H (.str x) (.type "str")
  | flt (x : UInt64) : TyOf K H (.flt x) (.type "float")
  | lst {a : Addr} {xs : List V} (e : H a = some (.lst xs)) : TyOf K H (.ref a) (.type "list")
  | frz {a : Addr} {o : Obj} {xs : List V} (e : H a = some (.frz o (.lst xs))) : TyOf K H (.ref a) (.type "list")
  | tup {a : Addr} {xs : List V} (e : H a = some (.tup xs)) : TyOf K H (.ref a) (.type "tuple")
  | dK {a : Addr} {kvs : List (Key × V)} (e : H a = some (.dK kvs)) : TyOf K H (.ref a) (.type "dict")
  | dT {a : Addr} {kvs : List (List Key × V)} (e : H a = some (.dT kvs)) : TyOf K H (.ref a) (.type "dict")
  | ins {a C dx : Addr} {fs : List (Str × V)} (e : H a = some (.ins C dx fs)) (cl : Cls K C) (ha : PySem.W.findIn K (.ref C) "__class__" = some (some (.builtin "object.__class__")))
      (hn : PySem.W.specialIn K (.builtin "object.__class__") "__get__" = some (some (.builtin "getset_descriptor.__get__"))) (htk : PySem.W.takesIn K (.builtin "object.__class__") = some true)
      (hm : PySem.W.mroIn K C (.type "object") = some true) : TyOf K H (.ref a) (.ref C)
end
end L2

namespace L2
open PySem PySem.Spec PyProof.Rows

/-! ### room -/
structure Room (k : Nat) (A : Around) : Prop where
  hd : A.handled = none
  dp : A.depth + 3 * k + 5 < recursionLimit
  un : A.units + 16 * k + 200 < cLine
  gd : A.guards = some []
theorem Room.mono {j k : Nat} {A : Around} (r : Room k A) (h : j ≤ k) : Room j A := ⟨r.hd, by have := r.dp; omega, by have := r.un; omega, r.gd⟩
theorem Room.deeper {k : Nat} {A : Around} (r : Room (k + 1) A) (env : Env) : Room k (A.deeper env) :=
  ⟨r.hd, by have := r.dp; show A.depth + 1 + 3 * k + 5 < _; omega, by have := r.un; show A.units + 3 + 16 * k + 200 < _; omega, r.gd⟩
theorem Room.depth {k : Nat} {A : Around} (r : Room k A) : A.depth < recursionLimit := by have := r.dp; omega
theorem Room.units {k : Nat} {A : Around} (r : Room k A) : A.units + 64 < cLine := by have := r.un; omega

/-! ### argument lists and displays -/
def tNil : TA := fun _ H Q => Q [] H
def tCons (ta : TE) (tr : TA) : TA := fun σ H Q => ta σ H fun x H1 => tr σ H1 fun xs H2 => Q (x :: xs) H2
section
variable {X : Cx} {e : Expr} {es : List Expr} {te : TE} {t : TA} {pos : Pos}
theorem pa_nil : PA X [] tNil := fun _ _ _ _ H Q I h => Calls.spliced_nil ⟨[], H, I, .nil, h⟩
theorem pa_cons (ha : PE X e te) (hr : PA X es t) (hs : starEach (e :: es) X.env = (false, eval e X.env) :: starEach es X.env := by rfl) : PA X (e :: es) (tCons te t) := by
  intro pos pins s σ H Q I h
  rw [hs]
  show wpAny _ _ (spliced ((false, eval e X.env) :: backTo pos (starEach es X.env))) _ _ s
  refine Calls.spliced_cons (thn (ha pins s σ H _ I h) fun u s1 ⟨x, H1, I1, r1, q1⟩ => ?_)
  exact thn (hr pos pins s1 σ H1 _ I1 q1) fun us s2 ⟨xs, H2, I2, r2, q2⟩ => ⟨x :: xs, H2, I2, .cons r1 r2, q2⟩

/-- a tuple, a list of written items -/
def tTup (t : TA) : TE := fun σ H Q => t σ H fun xs H1 => xs.length ≤ sizeLine ∧ ∀ p, H1 p = none → Q (.ref p) (upd H1 p (.tup xs))
def tLst (t : TA) : TE := fun σ H Q => t σ H fun xs H1 => xs.length ≤ sizeLine ∧ ∀ p, H1 p = none → Q (.ref p) (upd H1 p (.lst xs))
theorem pe_tup {x1} (h : PA X es t) : PE X (.Tuple es x1 pos) (tTup t) := by
  intro pins s σ H Q I hq
  refine wpAny_Tuple_spliced (thn (h pos pins s σ H _ I hq) fun us s1 ⟨xs, H1, I1, r, z, q⟩ => ⟨by rw [← r.length]; exact z, ?_⟩)
  have hf : H1 s1.heap.objs.size = none := I1.hok.fresh (Nat.le_refl _)
  refine ⟨.ref s1.heap.objs.size, upd H1 s1.heap.objs.size (.tup xs), I1.laid (t' := s1.toks) (fun b u e => Heap.get?_push_of_some _ e) (Nat.le_refl _) ?_, rfl, q _ hf⟩
  exact ⟨z, us, r, ⟨_, Heap.get?_push_size _ rfl, rfl, _, rfl⟩⟩
theorem pe_lst (h : PA X es t) : PE X (.List es pos) (tLst t) := by
  intro pins s σ H Q I hq
  refine wpAny_List_spliced (thn (h pos pins s σ H _ I hq) fun us s1 ⟨xs, H1, I1, r, z, q⟩ => ⟨by rw [← r.length]; exact z, ?_⟩)
  have hf : H1 s1.heap.objs.size = none := I1.hok.fresh (Nat.le_refl _)
  refine ⟨.ref s1.heap.objs.size, upd H1 s1.heap.objs.size (.lst xs), I1.laid (t' := s1.toks) (fun b u e => Heap.get?_push_of_some _ e) (Nat.le_refl _) ?_, rfl, q _ hf⟩
  exact ⟨z, us, 0, r, Heap.get?_push_size _ rfl⟩
end

/-! ### what a def promises -/
/-- a def's promise: the bound arguments in the parameters' order, the heap, the wanted end, the wanted exception -/
abbrev Sp := List V → Hp → VK → XK → Prop
/-- how an exception lies behind a call (file 08 gives it): the callers' frames, abstract heap and state ahead of the call, the wish, the exception, the state -/
abbrev CXT := List Env → Hp → Shared → XK → Value → Shared → Prop

/-- the state at a call -/
structure Env0 (P : Program) (w : World) (K : PySem.W.Frag) (mg : Str → Option Value) (base : Heap) (A : Around) (outer : List Env) (s : Shared) (H : Hp) : Prop where
  frames : A.frames = some outer
  mod : Mod K mg base
  bs : ∀ b o, base.get? b = some o → s.heap.get? b = some o ∧ H b = none
  bsz : base.objs.size ≤ s.heap.objs.size
  funs : s.heap.FunFrames base outer
  frf : ∀ b ∈ frs outer, H b = none
  hok : HOk P w H s.heap
  bare : AllBare s.gens
/-- a call's end -/
def CE (outer : List Env) (P : Program) (w : World) (H : Hp) (s : Shared) (Q : VK) (u : Value) (s' : Shared) : Prop :=
  ∃ v H', s'.os = s.os ∧ AllBare s'.gens ∧ Un (frs outer) [] H H' s.heap s'.heap ∧ HOk P w H' s'.heap ∧ RelV v u ∧ Q v H'
def CR (CX : CXT) (outer : List Env) (P : Program) (w : World) (H : Hp) (s : Shared) (Q : VK) (E : XK) (r : Result) (s' : Shared) : Prop :=
  match r with
  | .ok (.ret u) => CE outer P w H s Q u s'
  | .ok _ => False
  | .error e => CX outer H s E e s'
structure FnOk (P : Program) (w : World) (K : PySem.W.Frag) (mg : Str → Option Value) (base : Heap) (CX : CXT) (k : Nat) (f : Addr) (fd : FuncData) (ps : List Str) (sp : Sp) : Prop where
  len : ∀ vs H Q E, sp vs H Q E → vs.length = ps.length
  run : ∀ (A : Around) (outer : List Env) (s : Shared) (H : Hp) (args : Args) (us : List Value) (vs : List V) (Q : VK) (E : XK), Room k A → Env0 P w K mg base A outer s H → BindsTo s fd args (ps.zip us) → Vals vs us → sp vs H Q E →
    codeAny (model P w) A (.call (.ref f) args) (CR CX outer P w H s Q E) s
/-- a weaker promise -/
theorem FnOk.imp {P : Program} {w : World} {K : PySem.W.Frag} {mg : Str → Option Value} {base : Heap} {CX : CXT} {k : Nat} {f : Addr} {fd : FuncData} {ps : List Str} {sp sp' : Sp} (F : FnOk P w K mg base CX k f fd ps sp)
    (h : ∀ vs H Q E, sp' vs H Q E → sp vs H Q E) : FnOk P w K mg base CX k f fd ps sp' :=
  ⟨fun vs H Q E q => F.len vs H Q E (h _ _ _ _ q), fun A outer s H args us vs Q E hr he hb hv hs => F.run A outer s H args us vs Q E hr he hb hv (h _ _ _ _ hs)⟩


section
variable {X : Cx} {pins : List (Addr × Obj)} {σ : St} {H : Hp} {s s' : Shared}
/-- from a body: what a callee wants -/
theorem Inv.env0 (I : Inv X pins σ H s) : Env0 X.prog X.w X.K X.mg X.base X.A X.stack s H :=
  ⟨I.ok.frames, I.ok.mod, I.bs, Nat.le_trans I.ok.bsz I.sz, I.stack, I.stkFree, I.hok, I.bare⟩
/-- behind a call -/
theorem Inv.after {Q : VK} {u : Value} (I : Inv X pins σ H s) (h : CE X.stack X.prog X.w H s Q u s') : EP X pins σ Q u s' := by
  obtain ⟨v, H', os, bare, un, hok, r, q⟩ := h
  obtain ⟨hh, g, d, t, os'⟩ := s'
  obtain rfl : os' = s.os := os
  exact ⟨v, H', I.call (h' := hh) (g' := g) (d' := d) (t' := t) (ch := []) un hok bare (fun b z => absurd z (by simp)), r, q⟩
end

/-! ### calls -/
/-- f(..): the written arguments, then the defaults dvs; E: what is wanted of an exception -/
def tCall (sp : Sp) (dvs : List V) (E : XK) (t : TA) : TE := fun σ H Q => t σ H fun vs H1 => sp (vs ++ dvs) H1 Q E
/-- o.m(..) of an instance of the class at C -/
def tMeth (C : Addr) (m : Str) (sp : Sp) (dvs : List V) (E : XK) (ta : TE) (t : TA) : TE := fun σ H Q => ta σ H fun x H1 => ∃ a dx fs, x = .ref a ∧ H1 a = some (.ins C dx fs) ∧ fs.lookup m = none ∧
  t σ H1 fun vs H2 => sp (x :: (vs ++ dvs)) H2 Q E
/-- C(..): a new instance and its dict, then __init__ -/
def tMake (C : Addr) (sp : Sp) (dvs : List V) (E : XK) (t : TA) : TE := fun σ H Q => t σ H fun vs H1 => ∀ x dx, H1 x = none → H1 dx = none → dx ≠ x →
  sp (.ref x :: (vs ++ dvs)) (upd (upd H1 dx (.own x)) x (.ins C dx [])) (fun v H2 => v = .non ∧ Q (.ref x) H2) E

/-- how the parameters are bound: us the positional arguments, kw the keywords' values by name, ds the defaults that fill up -/
def Binds (K : PySem.W.Frag) (fd : FuncData) (ps : List Str) (ds : List Value) : Prop :=
  ∀ (s : Shared) (us : List Value), K.In s.heap → (us ++ ds).length = ps.length → BindsTo s fd ⟨us, []⟩ (ps.zip (us ++ ds))
/-- every parameter is given -/
theorem Binds.all {K : PySem.W.Frag} {fd : FuncData} {ps : List Str} (h : ∀ us : List Value, us.length = ps.length → bindArgs fd ⟨us, []⟩ = pure (ps.zip us)) : Binds K fd ps [] := fun s us _ hl => by
  rw [List.append_nil] at hl ⊢
  exact .of_eq (h us hl)

/-- an exception of a callee reaches what this body wants of exceptions -/
def Passes (CX : CXT) (X : Cx) (E : XK) : Prop := ∀ (pins : List (Addr × Obj)) (σ : St) (H : Hp) (s : Shared) (e : Value) (s' : Shared), Inv X pins σ H s → CX X.stack H s E e s' → X.xe e s'

section
variable {X : Cx} {CX : CXT} {k : Nat} {f C : Addr} {fd : FuncData} {ps : List Str} {sp : Sp} {dvs : List V} {ds : List Value} {E : XK} {x m : Str} {p pos apos : Pos} {e o : Expr} {es : List Expr} {ta : TE} {t : TA}

/-- the callee runs -/
theorem run_fn {pins : List (Addr × Obj)} {σ : St} {H : Hp} {s : Shared} {Q : VK} {us : List Value} {vs : List V} (F : FnOk X.prog X.w X.K X.mg X.base CX k f fd ps sp) (hr : Room k X.A) (hb : Binds X.K fd ps ds) (hd : Vals dvs ds) (hx : Passes CX X E)
    (I : Inv X pins σ H s) (r : Vals vs us) (h : sp (vs ++ dvs) H Q E) : wpAny (model X.prog X.w) X.A (call (.ref f) us) (EP X pins σ Q) X.xe s := by
  have r2 : Vals (vs ++ dvs) (us ++ ds) := r.append hd
  have hl : (us ++ ds).length = ps.length := by rw [← r2.length]; exact F.len _ _ _ _ h
  refine wpAny_call (codeAny_mono (F.run X.A X.stack s H ⟨us, []⟩ (us ++ ds) (vs ++ dvs) Q E hr I.env0 (hb s us I.kIn hl) r2 h) fun r s' hq => ?_)
  cases r with
  | error e => exact hx pins σ H s e s' I hq
  | ok fl =>
    cases fl with
    | ret u => exact I.after hq
    | next => exact False.elim hq
    | brk => exact False.elim hq
    | cont => exact False.elim hq

theorem pe_call (F : FnOk X.prog X.w X.K X.mg X.base CX k f fd ps sp) (hr : Room k X.A) (hg : Gl X x) (hm : X.mg x = some (.ref f)) (hk : PySem.W.keepIn X.K (.ref f) = true) (hb : Binds X.K fd ps ds) (hd : Vals dvs ds) (hx : Passes CX X E)
    (ha : PA X (e :: es) t) (hdb : (x == ("__debug__" : Str)) = false := by decide) (he : starEach (e :: es) X.env = (false, eval e X.env) :: starEach es X.env := by rfl) (hpl : (backTo pos (starEach es X.env)).any (·.1) = false := by rfl) :
    PE X (.Call (.Name x p) (e :: es) [] pos) (tCall sp dvs E t) := by
  intro pins s σ H Q I h
  refine wpAny_Call_Name_kw (ld_glob I hg hm ?_ hdb)
  refine PySem.W.callWith_K (h₀ := X.base) I.ok.mod.kin hk (thn (ha pos pins s σ H _ I h) fun us s1 ⟨vs, H1, I1, r, q⟩ => ⟨I1.kIn, ?_⟩) he hpl
  exact run_fn F hr hb hd hx I1 r q


/-- what a class must have to be made -/
structure Mk (K : PySem.W.Frag) (C f : Addr) : Prop where
  makes : PySem.W.makesIn K C = true
  init : PySem.W.findIn K (.ref C) "__init__" = some (some (.ref f))
  fn : PySem.W.isFn K (.ref f) = true
  kp : PySem.W.keepIn K (.ref C) = true

end

/-! ### keywords -/
/-- the values of the keywords, from the left -/
def PK (X : Cx) (kws : List Keyword) (t : TA) : Prop :=
  ∀ (pos : Pos) (pins : List (Addr × Obj)) (s : Shared) (σ : St) (H : Hp) (Q : List V → Hp → Prop), Inv X pins σ H s → t σ H Q → wpAny (model X.prog X.w) X.A (evalAll ((backToKw pos (keywordEach kws X.env)).map (·.2))) (AP X pins σ Q) X.xe s
section
variable {X : Cx} {CX : CXT} {k : Nat} {f C : Addr} {fd : FuncData} {ps ks : List Str} {sp : Sp} {E : XK} {x m : Str} {p pos apos kpos : Pos} {e o : Expr} {es : List Expr} {kws : List Keyword} {te ta : TE} {t tk : TA} {nm : Option Str}

/-- how a call with keywords binds: g puts the positional values us and the keywords' values ws (names ks) in the parameters' order, defaults among them -/
structure KBinds (K : PySem.W.Frag) (fd : FuncData) (ps ks : List Str) (g : List Value → List Value → List Value) (gV : List V → List V → List V) : Prop where
  to : ∀ (s : Shared) (us ws : List Value), K.In s.heap → (g us ws).length = ps.length → BindsTo s fd ⟨us, ks.zip ws⟩ (ps.zip (g us ws))
  rel : ∀ {vs : List V} {us : List Value} {zs : List V} {ws : List Value}, Vals vs us → Vals zs ws → Vals (gV vs zs) (g us ws)
def tCallK (sp : Sp) (gV : List V → List V → List V) (E : XK) (t tk : TA) : TE := fun σ H Q => t σ H fun vs H1 => tk σ H1 fun zs H2 => sp (gV vs zs) H2 Q E
variable {g : List Value → List Value → List Value} {gV : List V → List V → List V}
end

/-! ### a def's body keeps its promise -/
/-- names: the parameters first -/
structure FnScope (N P : List Str) (sc : Scope) : Prop where
  kind : sc.kind = .function
  co : sc.isCoroutine = false
  gen : sc.isGenerator = false
  nd : N.Nodup
  pre : N.take P.length = P
  par : ∀ x ∈ P, sc.names.lookup x = some .local ∨ sc.names.lookup x = some .cell
  nofree : ∀ y ∈ sc.names, y.2 ≠ .free

theorem bindL_out {kindOf : Str → Option NameKind} {x : Str} : ∀ {binds : List (Str × Value)} {m : Str → Option Value}, (∀ v, (x, v) ∉ binds) → bindL kindOf binds m x = m x
  | [], _, _ => rfl
  | (n, v) :: r, m, h => by
    unfold bindL
    rw [bindL_out fun w hw => h w (List.mem_cons_of_mem _ hw)]
    split
    · have : x ≠ n := by rintro rfl; exact h v List.mem_cons_self
      simp [this]
    · rfl
theorem bindC_out {kindOf : Str → Option NameKind} {x : Str} : ∀ {binds : List (Str × Value)} {m : Str → Option Value}, (∀ v, (x, v) ∉ binds) → bindC kindOf binds m x = m x
  | [], _, _ => rfl
  | (n, v) :: r, m, h => by
    unfold bindC
    rw [bindC_out fun w hw => h w (List.mem_cons_of_mem _ hw)]
    split
    · rfl
    · have : x ≠ n := by rintro rfl; exact h v List.mem_cons_self
      simp [this]
theorem bindL_get {kindOf : Str → Option NameKind} {x : Str} {v : Value} : ∀ {P : List Str} {vs : List Value} {i : Nat} {m : Str → Option Value}, P.Nodup → P[i]? = some x → vs[i]? = some v → kindOf x = some .local →
    bindL kindOf (P.zip vs) m x = some v
  | [], _, _, _, _, h, _, _ => by simp at h
  | _ :: _, [], _, _, _, _, h, _ => by simp at h
  | p :: P, w :: vs, 0, m, nd, h1, h2, hk => by
    simp at h1 h2; subst h1; subst h2
    show bindL kindOf ((p, w) :: P.zip vs) m p = _
    unfold bindL
    rw [bindL_out fun v hv => (List.nodup_cons.mp nd).1 (List.of_mem_zip hv).1, if_pos hk]
    simp
  | p :: P, w :: vs, i + 1, m, nd, h1, h2, hk => by
    show bindL kindOf ((p, w) :: P.zip vs) m x = _
    unfold bindL
    exact bindL_get (i := i) (List.nodup_cons.mp nd).2 (by simpa using h1) (by simpa using h2) hk
theorem bindC_get {kindOf : Str → Option NameKind} {x : Str} {v : Value} : ∀ {P : List Str} {vs : List Value} {i : Nat} {m : Str → Option Value}, P.Nodup → P[i]? = some x → vs[i]? = some v → kindOf x ≠ some .local →
    bindC kindOf (P.zip vs) m x = some v
  | [], _, _, _, _, h, _, _ => by simp at h
  | _ :: _, [], _, _, _, _, h, _ => by simp at h
  | p :: P, w :: vs, 0, m, nd, h1, h2, hk => by
    simp at h1 h2; subst h1; subst h2
    show bindC kindOf ((p, w) :: P.zip vs) m p = _
    unfold bindC
    rw [bindC_out fun v hv => (List.nodup_cons.mp nd).1 (List.of_mem_zip hv).1, if_neg hk]
    simp
  | p :: P, w :: vs, i + 1, m, nd, h1, h2, hk => by
    show bindC kindOf ((p, w) :: P.zip vs) m x = _
    unfold bindC
    exact bindC_get (i := i) (List.nodup_cons.mp nd).2 (by simpa using h1) (by simpa using h2) hk

/-- the names' values at the entry -/
def start (N : List Str) (vs : List V) : St := vs.map some ++ List.replicate (N.length - vs.length) none

/-- the context of a def's body, at its entry; an exception leaves the frame, then lies as CX says -/
def cxOf (CX : CXT) (P : Program) (w : World) (K : PySem.W.Frag) (mg : Str → Option Value) (base : Heap) (N : List Str) (qual : Str) (scope : Scope) (f : Addr) (cd : Value) (A : Around) (outer : List Env) (s : Shared) (H : Hp) (E : XK) : Cx where
  prog := P
  w := w
  K := K
  mg := mg
  base := base
  A := A.deeper (envOfC qual scope s.heap.objs.size f cd)
  N := N
  s₀ := s
  H₀ := H
  env := envOfC qual scope s.heap.objs.size f cd
  outer := outer
  stack := envOfC qual scope s.heap.objs.size f cd :: outer
  ex := []
  calm := true
  fn := fun _ => true
  pn := []
  xe := fun e s' => wpAny (model P w) (A.deeper (envOfC qual scope s.heap.objs.size f cd)) (leaving (envOfC qual scope s.heap.objs.size f cd) e) (fun _ s'' => CX outer H s E e s'') (fun e' s'' => CX outer H s E e' s'') s'

theorem cell_has {sc : Scope} {n : Nat} {x : Str} (h : sc.names.lookup x = some .cell) : ∃ c, (cellsFrom n sc.names []).lookup x = some c := by
  have q := PySem.W.cellsFrom_some sc.names n [] (.inl h)
  exact Option.isSome_iff_exists.mp q

theorem inv_start {CX : CXT} {P : Program} {w : World} {K : PySem.W.Frag} {mg : Str → Option Value} {base : Heap} {N ps : List Str} {qual : Str} {scope : Scope} {f : Addr} {cd : Value} {A : Around} {outer : List Env} {s s1 : Shared} {H : Hp} {E : XK} {us : List Value} {vs : List V}
    (S : FnScope N ps scope) (hd : A.handled = none) (e0 : Env0 P w K mg base A outer s H) (hl : vs.length = ps.length) (r : Vals vs us)
    (x : InCallC s s.heap.objs.size (bindL (envOfC qual scope s.heap.objs.size f cd).kindOf (ps.zip us) fun _ => none) (cellsFrom (s.heap.objs.size + 1) scope.names []) (bindC (envOfC qual scope s.heap.objs.size f cd).kindOf (ps.zip us) fun _ => none) s1) :
    Inv (cxOf CX P w K mg base N qual scope f cd A outer s H E) [] (start N vs) H s1 := by
  have hpl : ps.length ≤ N.length := by have := congrArg List.length S.pre; rw [List.length_take] at this; omega
  obtain ⟨h1, tk, rfl, hk⟩ := x.done
  have noA : ∀ b : Addr, b ∉ (cxOf CX P w K mg base N qual scope f cd A outer s H E).ex := fun b z => absurd (show b ∈ ([] : List Addr) from z) (by simp)
  refine ⟨⟨e0.mod, S.kind, rfl, rfl, Nat.le_refl _, fun y z c h1 h2 => ?_, fun y hy => ?_, fun y c _ h => ?_, fun _ => hd, Around.frames_deeper e0.frames, .inr ⟨rfl, rfl⟩, fun b z => absurd z (noA b), e0.bs, e0.bsz, fun b _ _ => noA b, fun b z => absurd z (noA b), e0.funs, e0.frf⟩,
    rfl, e0.bare, Un.kept hk, ⟨_, x.toInCall.ns, fun i y v h1 h2 h3 => ?_⟩, fun y c h => ⟨_, x.cell y c h⟩, e0.hok.fresh (Nat.le_refl _), fun y c h => ?_, fun p hp => absurd (show p ∈ ([] : List (Addr × Obj)) from hp) (by simp), e0.hok.kept hk, ?_⟩
  · exact name_of_addr x.apart (PySem.mem_of_lookup h1) (PySem.mem_of_lookup h2)
  · have hy : scope.names.lookup y = some .cell ∨ scope.names.lookup y = some .free := hy
    rcases hy with hy | hy
    · exact cell_has hy
    · exact absurd rfl (S.nofree _ (PySem.mem_of_lookup hy))
  · exact Nat.le_of_lt (x.above y c (PySem.mem_of_lookup h))
  · have hi : i < vs.length := by
      unfold start at h2
      by_cases hi : i < vs.length
      · exact hi
      · rw [List.getElem?_append_right (by simpa using hi)] at h2
        rw [List.getElem?_replicate] at h2
        split at h2 <;> cases h2
    have ha : vs[i]? = some v := by
      unfold start at h2
      rw [List.getElem?_append_left (by simpa using hi), List.getElem?_map] at h2
      cases e : vs[i]? with
      | none => rw [e] at h2; cases h2
      | some a => rw [e] at h2; cases h2; rfl
    obtain ⟨u, hu, rv⟩ := r.get ha
    have hp : ps[i]? = some y := by
      rw [← S.pre, List.getElem?_take_of_lt (by omega)]; exact h1
    have ndP : ps.Nodup := by rw [← S.pre]; exact S.nd.sublist (List.take_sublist _ _)
    refine ⟨u, rv, ?_⟩
    rcases S.par y (List.mem_of_getElem? hp) with k | k
    · exact .inl ⟨k, bindL_get ndP hp hu k⟩
    · obtain ⟨c, e⟩ := cell_has (n := s.heap.objs.size + 1) k
      refine .inr ⟨.inl k, c, e, ?_⟩
      have q := x.cell y c e
      rw [bindC_get ndP hp hu (by show scope.names.lookup y ≠ _; rw [k]; decide)] at q
      exact q
  · exact e0.hok.fresh (Nat.le_of_lt (x.above y c (PySem.mem_of_lookup h)))
  · unfold start
    show _ = N.length
    rw [List.length_append, List.length_map, List.length_replicate]
    omega

/-- THE RULE: a def (or a method) of the text, by its body. The body's reading t is chosen for each entry; it is run at the parameters' values -/
theorem fn_of {CX : CXT} {P : Program} {w : World} {K : PySem.W.Frag} {mg : Str → Option Value} {base : Heap} {k : Nat} {f : Addr} {name qual : Str} {params : Arguments} {body : List Stmt} {scope : Scope} {dV kV doc pm cdv ct oc : Value} {an od : Option Addr}
    {osl : Array (Option Value)} {N ps : List Str} {sp : Sp} (lk : K.lookup f = some ⟨oc, od, .func (PySem.W.fnOf name qual params body scope dV kV doc pm an cdv ct), osl⟩) (hcd : PySem.W.codeIn K cdv qual = true) (S : FnScope N ps scope)
    (len : ∀ vs H Q E, sp vs H Q E → vs.length = ps.length)
    (hbody : ∀ (A : Around) (outer : List Env) (s : Shared) (H : Hp) (vs : List V) (Q : VK) (E : XK), Room k (A.deeper (envOfC qual scope s.heap.objs.size f cdv)) → sp vs H Q E →
      ∃ t, PSs (cxOf CX P w K mg base N qual scope f cdv A outer s H E) body t ∧ t { nx := fun _ H' => Q .non H', rt := Q } (start N vs) H) :
    FnOk P w K mg base CX (k + 1) f (PySem.W.fnOf name qual params body scope dV kV doc pm an cdv ct) ps sp := by
  refine ⟨len, fun A outer s H args us vs Q E hr e0 hb r hsp => ?_⟩
  have hl := len _ _ _ _ hsp
  have KX : K.In s.heap := e0.mod.kin.keeps fun b o e => (e0.bs b o e).1
  have lim : s.heap.NoLimit := e0.mod.nolimit.keeps fun b o e => (e0.bs b o e).1
  have hkind : ∀ y ∈ ps.zip us, scope.names.lookup y.1 = some .local ∨ (scope.names.lookup y.1 = some .cell ∧ ((cellsFrom (s.heap.objs.size + 1) scope.names []).lookup y.1).isSome = true) := fun ⟨n, v⟩ hy => by
    rcases S.par n (List.of_mem_zip hy).1 with q | q
    · exact .inl q
    · exact .inr ⟨q, PySem.W.cellsFrom_some _ _ _ (.inl q)⟩
  refine codeAny_call_function hr.depth (KX _ _ lk) rfl S.co S.gen rfl (PySem.W.codeRec_of KX hcd) (hb _ _ _ _ ?_)
  refine wpAny_newFunctionEnv_cells S.kind hkind fun env he s1 x => ?_
  subst he
  refine ⟨lim.keeps x.toInCall.keep, codeAny_func ?_⟩
  obtain ⟨t, ht, hq⟩ := hbody A outer s H vs Q E (hr.deeper _) hsp
  have I : Inv (cxOf CX P w K mg base N qual scope f cdv A outer s H E) [] (start N vs) H s1 := inv_start S hr.hd e0 hl r x
  refine wpAny_mono (ht [] s1 (start N vs) H _ I hq) (fun fl s' hs => ?_) fun e s' hs => hs
  have fin : ∀ {σ' : St} {H' : Hp} {v : V} {u : Value}, Inv (cxOf CX P w K mg base N qual scope f cdv A outer s H E) [] σ' H' s' → RelV v u → Q v H' → CE outer P w H s Q u s' :=
    fun {σ' H' v u} J rv q => ⟨v, H', J.os, J.bare, J.base, J.hok, rv, q⟩
  cases fl with
  | ret u =>
    obtain ⟨v, σ', H', J, rv, q⟩ := hs
    exact fin J rv q
  | next =>
    obtain ⟨σ', H', J, q⟩ := hs
    exact fin (v := V.non) (u := Value.none) J rfl q
  | brk =>
    obtain ⟨_, _, _, q⟩ := hs
    exact False.elim q
  | cont =>
    obtain ⟨_, _, _, q⟩ := hs
    exact False.elim q
end L2

namespace L2
open PySem PySem.Spec PyProof.Rows
section
variable {X : Cx} {x : Str} {p pos : Pos} {e : Expr} {es : List Expr} {t : TA} {id T : String} {r : List V → Hp → VK → Prop}

def tCB (r : List V → Hp → VK → Prop) (t : TA) : TE := fun σ H Q => t σ H fun vs H1 => r vs H1 Q
/-- f(e, ..), f a built-in function -/
theorem pe_callB (hc : CallR X (.builtin id) r) (hg : Gl X x) (hm : X.mg x = none) (hv : bootBuiltins x = some (.builtin id)) (ha : PA X (e :: es) t) (hn : x ≠ "__name__" := by decide) (hdb : (x == ("__debug__" : Str)) = false := by decide)
    (he : starEach (e :: es) X.env = (false, eval e X.env) :: starEach es X.env := by rfl) (hpl : (backTo pos (starEach es X.env)).any (·.1) = false := by rfl) : PE X (.Call (.Name x p) (e :: es) [] pos) (tCB r t) := by
  intro pins s σ H Q I h
  refine wpAny_Call_Name_kw (ld_blt I hg hm hv ?_ hn hdb)
  exact PyProof.Rows.callWith_builtin1 (thn (ha pos pins s σ H _ I h) fun us s1 ⟨vs, H1, I1, r1, q1⟩ => hc pins s1 σ H1 vs us Q I1 r1 q1) he hpl
/-- T(e, ..), T a built-in type -/
theorem pe_callTy (hc : CallR X (.type T) r) (hg : Gl X x) (hm : X.mg x = none) (hv : bootBuiltins x = some (.type T)) (ha : PA X (e :: es) t) (hn : x ≠ "__name__" := by decide) (hdb : (x == ("__debug__" : Str)) = false := by decide)
    (he : starEach (e :: es) X.env = (false, eval e X.env) :: starEach es X.env := by rfl) (hpl : (backTo pos (starEach es X.env)).any (·.1) = false := by rfl) : PE X (.Call (.Name x p) (e :: es) [] pos) (tCB r t) := by
  intro pins s σ H Q I h
  refine wpAny_Call_Name_kw (ld_blt I hg hm hv ?_ hn hdb)
  exact PyProof.Rows.callWith_type1 (thn (ha pos pins s σ H _ I h) fun us s1 ⟨vs, H1, I1, r1, q1⟩ => hc pins s1 σ H1 vs us Q I1 r1 q1) he hpl
end
end L2

namespace HT
open PySem PyProof.Rows

/-- t < u of tuples of ints -/
def lexLt : List Int → List Int → Bool
  | [], [] => false
  | [], _ :: _ => true
  | _ :: _, [] => false
  | x :: xs, y :: ys => if x = y then lexLt xs ys else decide (x < y)


section
open PySem.SeqAt
open PySem.AutoSeq1 (wpAny_loadPart')
open PySem.MeetsSeq PySem.MeetsSeq2 PySem.MeetsSeq3

end

section
variable {prog : Program} {w : World} {A : Around} {E : Value → Shared → Prop} {s : Shared}



/-! ### t[a:b], not the whole -/
/-- a slice's bound as a place among n (d where it is left out) -/
def sIx (n d : Nat) : Option Int → Nat
  | none => d
  | some v => if v < 0 then (v + (n : Int)).toNat else min v.toNat n
theorem sIx_le (n d : Nat) (hd : d ≤ n) (o : Option Int) : sIx n d o ≤ n := by
  cases o with
  | none => exact hd
  | some v =>
    show (if v < 0 then (v + (n : Int)).toNat else min v.toNat n) ≤ n
    by_cases hv : v < 0
    · rw [if_pos hv]; omega
    · rw [if_neg hv]; exact Nat.min_le_right _ _
theorem clip_eq (v : Int) (n d : Nat) : (if v < 0 then max (v + (n : Int)) 0 else min v (n : Int)) = ((sIx n d (some v) : Nat) : Int) := by
  show (if v < 0 then max (v + (n : Int)) 0 else min v (n : Int)) = (((if v < 0 then (v + (n : Int)).toNat else min v.toNat n) : Nat) : Int)
  by_cases hv : v < 0
  · simp only [if_pos hv]; omega
  · simp only [if_neg hv]; omega
theorem adjust_gen (lo hi : Option Int) (n : Nat) : Builtin.Slice.sliceAdjust lo hi 1 (n : Int) = (((sIx n 0 lo : Nat) : Int), ((sIx n n hi : Nat) : Int)) := by
  have h1 : ¬ ((1 : Int) < 0) := by omega
  unfold Builtin.Slice.sliceAdjust
  simp only [h1, if_false]
  refine Prod.ext ?_ ?_
  · cases lo with
    | none => rfl
    | some v => exact clip_eq v n 0
  · cases hi with
    | none => rfl
    | some v => exact clip_eq v n n
theorem places_gen (i j : Nat) : Builtin.Slice.slicePlaces (i : Int) (j : Int) 1 = j - i := by
  unfold Builtin.Slice.slicePlaces
  have h1 : (1 : Int) > 0 := by omega
  simp only [h1, if_true, Int.ediv_one]
  split <;> omega
theorem slicePart_ {v : Value} {o : Option Int} {Q : Option Int → Shared → Prop} (p : IsPart v o) (h : Q o s) : wpAny (model prog w) A (Builtin.Slice.slicePartIndex v) Q E s := by
  cases p with
  | none => exact slicePart_none h
  | int i t => exact slicePart_int h
theorem sliceApplied_gen {sl : Addr} {vl vu : Value} {lo hi : Option Int} {n : Nat} {Q : Int × Int × Nat → Shared → Prop} (hs : s.heap.IsSliceOf sl vl vu .none) (pl : IsPart vl lo) (pu : IsPart vu hi)
    (h : Q (((sIx n 0 lo : Nat) : Int), 1, sIx n n hi - sIx n 0 lo) s) : wpAny (model prog w) A (Builtin.Slice.sliceApplied (.ref sl) (pure (n : Int))) Q E s := by
  obtain ⟨os, hos, hcs, hds⟩ := id hs
  unfold Builtin.Slice.sliceApplied Builtin.Slice.sliceFields
  refine wpAny_bind (wpAny_bind (wpAny_field hos hds (x := vl) rfl (wpAny_bind (wpAny_field hos hds (x := vu) rfl (wpAny_bind (wpAny_field hos hds (x := .none) rfl (wpAny_pure ?_)))))))
  refine wpAny_bind (slicePart_none ?_)
  show wpAny _ _ (if ((1 : Int) == 0) = true then _ else _) _ _ s
  rw [if_neg (by decide)]
  refine wpAny_bind (slicePart_ pl (wpAny_bind (slicePart_ pu (wpAny_bind (wpAny_pure ?_)))))
  show wpAny _ _ (match Builtin.Slice.sliceAdjust lo hi 1 (n : Int) with | (lo, hi) => pure (lo, (1 : Int), Builtin.Slice.slicePlaces lo hi 1)) _ _ s
  rw [adjust_gen lo hi n]
  show wpAny _ _ (pure (((sIx n 0 lo : Nat) : Int), (1 : Int), Builtin.Slice.slicePlaces ((sIx n 0 lo : Nat) : Int) ((sIx n n hi : Nat) : Int) 1)) _ _ s
  rw [places_gen]
  exact wpAny_pure h
theorem pick_gen (xs : Array Value) (i k : Nat) : ((List.range k).filterMap fun (m : Nat) => xs[((i : Int) + (m : Int) * 1).toNat]?).toArray = ((xs.toList.drop i).take k).toArray := by
  have e : (fun (m : Nat) => xs[((i : Int) + (m : Int) * 1).toNat]?) = fun m => xs[i + m]? := by
    funext m
    have : ((i : Int) + (m : Int) * 1).toNat = i + m := by omega
    rw [this]
  rw [e]
  have := pick_run xs i k
  rw [List.filterMap_map] at this
  have e2 : ((fun x => xs[x]?) ∘ fun x => i + x) = fun m => xs[i + m]? := rfl
  rw [e2] at this
  rw [this]

theorem getItem_tuple_cut {t sl : Addr} {items : Array Value} {vl vu : Value} {lo hi : Option Int} {Q : Value → Shared → Prop} (ht : IsTup s.heap t items) (hs : s.heap.IsSliceOf sl vl vu .none) (pl : IsPart vl lo) (pu : IsPart vu hi)
    (hw : ¬ (sIx items.size 0 lo = 0 ∧ sIx items.size items.size hi = items.size))
    (h : Q (.ref s.heap.objs.size) { s with heap := s.heap.push { cls := .type "tuple", data := .seq ((items.toList.drop (sIx items.size 0 lo)).take (sIx items.size items.size hi - sIx items.size 0 lo)).toArray } })
    (hsz : items.size ≤ sizeLine) : wpAny (model prog w) A (getItem (.ref t) (.ref sl)) Q E s := by
  have htake : sizeOk (.seq ((items.toList.drop (sIx items.size 0 lo)).take (sIx items.size items.size hi - sIx items.size 0 lo)).toArray) := by
    show ((items.toList.drop (sIx items.size 0 lo)).take (sIx items.size items.size hi - sIx items.size 0 lo)).toArray.size ≤ sizeLine
    rw [List.size_toArray, List.length_take, List.length_drop, Array.length_toList]
    omega
  have hj : sIx items.size items.size hi ≤ items.size := sIx_le _ _ (Nat.le_refl _) hi
  obtain ⟨os, hos, hcs, hds⟩ := id hs
  have hTs : s.TypeIs (.ref sl) "slice" := ⟨os, hos, hcs⟩
  unfold getItem
  try with_reducible refine wpAny_holding ?_
  first | refine wpAny_bind (wpAny_pure ?_) | skip
  refine wpAny_bind (wpAny_sequenceKey ht.typeIs (by decide) ?_)
  refine wpAny_bind (wpAny_callSpecial?_slot (name := Str.ofString "__getitem__") ht.typeIs PyProof.Rows.slot_tuple_getitem
    (wpAny_call_entry PyProof.Rows.slot_tuple_getitem ht.typeIs entry_tuple_getitem ?_ (args_tuple_getitem _ _)))
  show wpAny _ _ (Builtin.Tuple.tupleItemsOf (.ref t) >>= _) _ _ s
  refine wpAny_bind (tupleItemsOf_ ht ?_)
  refine wpAny_bind (wpAny_typeOf hTs ?_)
  rw [if_pos (by decide)]
  refine wpAny_bind (sliceApplied_gen hs pl pu ?_)
  have hno : ¬ ((((sIx items.size 0 lo : Nat) : Int) == 0 && (1 : Int) == 1 && (sIx items.size items.size hi - sIx items.size 0 lo) == items.size) = true) := by
    intro q
    rw [Bool.and_eq_true, Bool.and_eq_true] at q
    have q1 : ((sIx items.size 0 lo : Nat) : Int) = 0 := eq_of_beq q.1.1
    have q2 : sIx items.size items.size hi - sIx items.size 0 lo = items.size := eq_of_beq q.2
    exact hw ⟨by omega, by omega⟩
  show wpAny _ _ (if (((sIx items.size 0 lo : Nat) : Int) == 0 && (1 : Int) == 1 && (sIx items.size items.size hi - sIx items.size 0 lo) == items.size) = true then _ else _) _ _ s
  rw [if_neg hno, pick_gen]
  first
    | exact wpAny_bind (m := Builtin.Tuple.tupleExact _) (wpAny_newObj_type (wpAny_pure ⟨_, rfl, wpAny_pure h⟩) htake)
    | exact wpAny_bind (m := Builtin.Tuple.tupleExact _) (wpAny_newObj_type (wpAny_bind (wpAny_pure (wpAny_pure ⟨_, rfl, wpAny_pure h⟩))) htake)
    | exact wpAny_bind (wpAny_bind (m := Builtin.Tuple.tupleExact _) (wpAny_newObj_type (wpAny_pure (wpAny_pure ⟨_, rfl, wpAny_pure h⟩)) htake))
    | exact wpAny_bind (wpAny_bind (m := Builtin.Tuple.tupleExact _) (wpAny_newObj_type (wpAny_pure ⟨_, rfl, wpAny_pure h⟩) htake))
end
end HT

namespace L2
open PySem PySem.Spec PyProof.Rows

/-! ### the parts of a slice -/
abbrev TO := St → Hp → (Option Int → Hp → Prop) → Prop
/-- a slice's part (left out, or an int) -/
def PO (X : Cx) (e : Option Expr) (t : TO) : Prop :=
  ∀ (pins : List (Addr × Obj)) (s : Shared) (σ : St) (H : Hp) (Q : Option Int → Hp → Prop), Inv X pins σ H s → t σ H Q →
    wpAny (model X.prog X.w) X.A (evalPart e X.env) (fun u s' => ∃ o H', Inv X pins σ H' s' ∧ IsPart u o ∧ Q o H') X.xe s
def tNoPart : TO := fun _ H Q => Q none H
def tPart (t : TE) : TO := fun σ H Q => t σ H fun x H1 => ∃ i, x = .int i ∧ Q (some i) H1

theorem intsAre_of {ns : List Int} : ∀ {us : List Value}, Vals (ns.map V.int) us → IntsAre us ns := by
  induction ns with
  | nil => intro us r; rw [List.map_nil] at r; cases r; exact .nil
  | cons n ns ih =>
    intro us r
    rw [List.map_cons] at r
    cases r with
    | cons r1 r2 =>
      obtain ⟨t, e⟩ := r1
      subst e
      exact .cons n t (ih r2)

section
variable {X : Cx} {e : Expr} {te : TE} {lo hi : Option Expr} {tl th : TO} {pos p2 : Pos}

theorem po_some (h : PE X e te) : PO X (some e) (tPart te) := by
  intro pins s σ H Q I hw
  rw [evalPart_some]
  refine thn (h pins s σ H _ I hw) fun u s1 ⟨x, H1, I1, r1, q1⟩ => ?_
  obtain ⟨i, rfl, q⟩ := q1
  obtain ⟨t, rfl⟩ := r1
  exact ⟨some i, H1, I1, .int i t, q⟩

/-- what a slice of a value is, by values: the slice object stands at sl -/
def SlR (X : Cx) (r : V → Option Int → Option Int → Hp → VK → Prop) : Prop :=
  ∀ (pins : List (Addr × Obj)) (s : Shared) (σ : St) (H : Hp) (x : V) (v vl vu : Value) (lo hi : Option Int) (sl : Addr) (Q : VK), Inv X pins σ H s → RelV x v → s.heap.IsSliceOf sl vl vu .none → IsPart vl lo → IsPart vu hi → r x lo hi H Q →
    ∃ T id, typeLookup (.type T) "__getitem__" = pure (some (.builtin id)) ∧ s.TypeIs v T ∧ wpAny (model X.prog X.w) X.A (getItem v (.ref sl)) (EP X pins σ Q) X.xe s
def tSl (r : V → Option Int → Option Int → Hp → VK → Prop) (te : TE) (tl th : TO) : TE := fun σ H Q => te σ H fun x H1 => tl σ H1 fun l H2 => th σ H2 fun u H3 => r x l u H3 Q
/-- a[lo:hi], any a -/
theorem pe_slice {r : V → Option Int → Option Int → Hp → VK → Prop} (hr : SlR X r) (he : PE X e te) (hl : PO X lo tl) (hu : PO X hi th) : PE X (.Subscript e (.Slice lo hi none p2) pos) (tSl r te tl th) := by
  intro pins s σ H Q I h
  refine Subscript_ (thn (he pins s σ H _ I h) fun v s1 ⟨x, H1, I1, r1, q1⟩ => ?_)
  refine wpAny_Slice (thn (hl pins s1 σ H1 _ I1 q1) fun vl s2 ⟨l, H2, I2, pl, q2⟩ => thn (hu pins s2 σ H2 _ I2 q2) fun vu s3 ⟨u, H3, I3, pu, q3⟩ => ?_)
  rw [evalPart_none]
  refine wpAny_pure ?_
  have I4 : Inv X pins σ H3 { s3 with heap := s3.heap.push { cls := .type "slice", data := .fields #[vl, vu, .none] } } := I3.kept (t' := s3.toks) fun b ob q => Heap.get?_push_of_some _ q
  obtain ⟨T, id, hT, ht, hg⟩ := hr pins { s3 with heap := s3.heap.push { cls := .type "slice", data := .fields #[vl, vu, .none] } } σ H3 x v vl vu l u s3.heap.objs.size Q I4 r1 (Heap.IsSliceOf.new ..) pl pu q3
  show wpAny (model X.prog X.w) X.A (subscriptTail e (.Slice lo hi none p2) v (.ref s3.heap.objs.size)) (EP X pins σ Q) X.xe { s3 with heap := s3.heap.push { cls := .type "slice", data := .fields #[vl, vu, .none] } }
  exact tail_any (ops := [.ref s3.heap.objs.size, v]) ht hT hg (by with_unfolding_all rfl)

/-- the items of xs[lo:hi] -/
def cutV (xs : List V) (lo hi : Option Int) : List V := (xs.drop (HT.sIx xs.length 0 lo)).take (HT.sIx xs.length xs.length hi - HT.sIx xs.length 0 lo)
theorem cutV_length (xs : List V) (lo hi : Option Int) : (cutV xs lo hi).length ≤ xs.length := by
  unfold cutV
  rw [List.length_take, List.length_drop]
  omega
/-- t[lo:hi], not the whole of it (the whole would be t itself) -/
def rSlT (K : PySem.W.Frag) : V → Option Int → Option Int → Hp → VK → Prop := fun x lo hi H Q => ∃ a xs, x = .ref a ∧ SqT K H a xs ∧
  ¬ (HT.sIx xs.length 0 lo = 0 ∧ HT.sIx xs.length xs.length hi = xs.length) ∧ ∀ p, H p = none → Q (.ref p) (upd H p (.tup (cutV xs lo hi)))
theorem sl_tup : SlR X (rSlT X.K) := by
  intro pins s σ H x v vl vu lo hi sl Q I rx hs pl pu h
  obtain ⟨a, xs, rfl, hx, hw, q⟩ := h
  cases rx
  obtain ⟨its, r, ht, hz⟩ := I.tuple hx
  have hlen : its.toArray.size = xs.length := by rw [List.size_toArray]; exact r.length.symm
  refine ⟨"tuple", _, PyProof.Rows.slot_tuple_getitem.lookup, ht.typeIs, ?_⟩
  refine HT.getItem_tuple_cut ht hs pl pu (by rw [hlen]; exact hw) ?_ (by rw [hlen]; exact hz)
  rw [hlen]
  refine ⟨.ref s.heap.objs.size, _, I.laid (t' := s.toks) (o := .tup (cutV xs lo hi)) (fun b ob q => Heap.get?_push_of_some _ q) (Nat.le_refl _) ?_, rfl, q _ (I.hok.fresh (Nat.le_refl _))⟩
  exact ⟨Nat.le_trans (cutV_length xs lo hi) hz, _, (r.drop (HT.sIx xs.length 0 lo)).take (HT.sIx xs.length xs.length hi - HT.sIx xs.length 0 lo), IsTup.new _ _⟩

/-! ### t < u, t + u -/
def rLtT (K : PySem.W.Frag) : R2 := fun x y H Q => ∃ a b ns ms, x = .ref a ∧ y = .ref b ∧ SqT K H a (ns.map V.int) ∧ SqT K H b (ms.map V.int) ∧ Q (.bl (HT.lexLt ns ms)) H
/-- t + u, t not empty: u empty gives t itself -/
def rCatT (K : PySem.W.Frag) : R2 := fun x y H Q => ∃ a b xs ys, x = .ref a ∧ y = .ref b ∧ SqT K H a xs ∧ SqT K H b ys ∧ xs ≠ [] ∧ xs.length + ys.length ≤ sizeLine ∧
  (ys = [] → Q (.ref a) H) ∧ (ys ≠ [] → ∀ p, H p = none → Q (.ref p) (upd H p (.tup (xs ++ ys))))
end
end L2

namespace L2
open PySem PySem.Spec PyProof.Rows

/-! ### places -/
/-- the place that an index of any sign means -/
def ixN (n : Nat) (i : Int) : Option Nat := if 0 ≤ i then (if i < n then some i.toNat else none) else if -(n : Int) ≤ i then some (i + n).toNat else none
def atI {α : Type} (xs : List α) (i : Int) : Option α := (ixN xs.length i).bind fun j => xs[j]?
theorem ixN_seq {n : Nat} {i : Int} {j : Nat} (h : ixN n i = some j) : seqIndex? i n = some j ∧ j < n ∧ -(n : Int) ≤ i ∧ i < n := by
  unfold ixN at h
  by_cases h0 : 0 ≤ i
  · rw [if_pos h0] at h
    by_cases h1 : i < n
    · rw [if_pos h1] at h
      have e : i.toNat = j := Option.some.inj h
      exact ⟨by rw [seqIndex_of h0 h1, e], by omega, by omega, h1⟩
    · rw [if_neg h1] at h; cases h
  · rw [if_neg h0] at h
    by_cases h1 : -(n : Int) ≤ i
    · rw [if_pos h1] at h
      have e : (i + n).toNat = j := Option.some.inj h
      exact ⟨by rw [seqIndex_neg (by omega) h1, e], by omega, h1, by omega⟩
    · rw [if_neg h1] at h; cases h
theorem atI_get {α : Type} {xs : List α} {i : Int} {v : α} (h : atI xs i = some v) : ∃ j, seqIndex? i xs.length = some j ∧ xs[j]? = some v ∧ j < xs.length ∧ -(xs.length : Int) ≤ i ∧ i < xs.length := by
  unfold atI at h
  cases e : ixN xs.length i with
  | none => rw [e] at h; cases h
  | some j =>
    rw [e] at h
    obtain ⟨h1, h2, h3, h4⟩ := ixN_seq e
    exact ⟨j, h1, h, h2, h3, h4⟩
theorem atI_nat {α : Type} {xs : List α} {j : Nat} {v : α} (h : xs[j]? = some v) : atI xs (j : Int) = some v := by
  have hj : j < xs.length := (List.getElem?_eq_some_iff.mp h).1
  have e : ixN xs.length (j : Int) = some j := by
    unfold ixN
    rw [if_pos (by omega), if_pos (by omega)]; simp
  unfold atI; rw [e]; exact h

/-! ### what may be subscripted -/
/-- what stands as an index of a plain subscript -/
def PlainIx (b : Expr) : Prop := ∀ o i, subscripted b false o i = operate [o, i] (getItem o i)
/-- a subscript by values -/
def IxR (X : Cx) (r : R2) : Prop :=
  ∀ (value slice : Expr) (pins : List (Addr × Obj)) (s : Shared) (σ : St) (H : Hp) (x y : V) (v u : Value) (Q : VK), Inv X pins σ H s → RelV x v → RelV y u → r x y H Q →
    subscripted slice false v u = operate [v, u] (getItem v u) → wpAny (model X.prog X.w) X.A (subscriptTail value slice v u) (EP X pins σ Q) X.xe s
/-- a call of a builtin's method by values: the receiver, the arguments -/
def MtR (X : Cx) (id : String) (r : V → List V → Hp → VK → Prop) : Prop :=
  ∀ (pins : List (Addr × Obj)) (s : Shared) (σ : St) (H : Hp) (x : V) (xs : List V) (v : Value) (us : List Value) (Q : VK), Inv X pins σ H s → RelV x v → Vals xs us → r x xs H Q →
    wpAny (model X.prog X.w) X.A (call (.builtin id) (v :: us)) (EP X pins σ Q) X.xe s
section
variable {X : Cx} {a b : Expr} {ta tb : TE} {pos : Pos}
theorem IxR.or {r r' : R2} (h : IxR X r) (h' : IxR X r') : IxR X (fun x y H Q => r x y H Q ∨ r' x y H Q) := by
  intro value slice pins s σ H x y v u Q I rx ry q hs
  rcases q with q | q
  · exact h value slice pins s σ H x y v u Q I rx ry q hs
  · exact h' value slice pins s σ H x y v u Q I rx ry q hs
/-- a[b] -/
theorem pe_ix {r : R2} (hr : IxR X r) (ha : PE X a ta) (hb : PE X b tb) (hs : PlainIx b) : PE X (.Subscript a b pos) (tOp r ta tb) := by
  intro pins s σ H Q I h
  exact Subscript_ (binT ha hb I h fun v u s2 x y H2 I2 rx ry q => hr a b pins s2 σ H2 x y v u Q I2 rx ry q (hs _ _))

def rIxL (K : PySem.W.Frag) : R2 := fun x y H Q => ∃ p xs i v, x = .ref p ∧ y = .int i ∧ SqL K H p xs ∧ atI xs i = some v ∧ Q v H
def rIxT (K : PySem.W.Frag) : R2 := fun x y H Q => ∃ p xs i v, x = .ref p ∧ y = .int i ∧ SqT K H p xs ∧ atI xs i = some v ∧ Q v H
def rIxS : R2 := fun x y H Q => ∃ z i c, x = .str z ∧ y = .int i ∧ z.length ≤ sizeLine ∧ atI z.cps.toList i = some c ∧ Q (.str ⟨#[c]⟩) H
theorem ix_list : IxR X (rIxL X.K) := by
  intro value slice pins s σ H x y v u Q I rx ry h hs
  obtain ⟨p, xs, i, z, rfl, rfl, hq, he, q⟩ := h
  cases rx
  obtain ⟨t, rfl⟩ := ry
  obtain ⟨its, r, pl, hz⟩ := I.list hq
  obtain ⟨j, h1, h2, h3, h4, h5⟩ := atI_get he
  obtain ⟨w, ew, rw'⟩ := r.get h2
  have hl := r.length
  have hn := line63
  have fin : EP X pins σ Q w s := ⟨z, H, I, rw', q⟩
  by_cases h0 : 0 ≤ i
  · have hj : i.toNat = j := by
      rw [seqIndex_of h0 h5] at h1
      exact Option.some.inj h1
    exact item_listR pl.isList h0 (by omega) (by rw [hj]; simpa using ew) fin hs
  · have hj : (i + (its.toArray.size : Int)).toNat = j := by
      rw [seqIndex_neg (by omega) h4] at h1
      rw [List.size_toArray, ← hl]
      exact Option.some.inj h1
    exact subscriptTail_builtinR (x := w) pl.isList.typeIs slot_list_getitem.lookup
      (wpAny_getItem_list_neg (Q := fun r s' => r = w ∧ EP X pins σ Q r s') pl.isList (by omega) (by rw [List.size_toArray] <;> omega) (by omega) (by rw [hj]; simpa using ew) ⟨rfl, fin⟩) hs
theorem ix_tup : IxR X (rIxT X.K) := by
  intro value slice pins s σ H x y v u Q I rx ry h hs
  obtain ⟨p, xs, i, z, rfl, rfl, hq, he, q⟩ := h
  cases rx
  obtain ⟨t, rfl⟩ := ry
  obtain ⟨its, r, pl, hz⟩ := I.tuple hq
  obtain ⟨j, h1, h2, h3, h4, h5⟩ := atI_get he
  obtain ⟨w, ew, rw'⟩ := r.get h2
  have hl := r.length
  have hn := line63
  have fin : EP X pins σ Q w s := ⟨z, H, I, rw', q⟩
  exact subscriptTail_builtinR (x := w) pl.typeIs slot_tuple_getitem.lookup
    (getItem_tuple (j := j) (Q := fun r s' => r = w ∧ EP X pins σ Q r s') pl (by omega) (by omega) (by rw [List.size_toArray, ← hl]; exact h1) (by simpa using ew) ⟨rfl, fin⟩) hs
theorem ix_str : IxR X rIxS := by
  intro value slice pins s σ H x y v u Q I rx ry h hs
  obtain ⟨z, i, c, rfl, rfl, hz, he, q⟩ := h
  obtain ⟨t, rfl⟩ := rx
  obtain ⟨t', rfl⟩ := ry
  obtain ⟨j, h1, h2, h3, h4, h5⟩ := atI_get he
  have hl : z.cps.toList.length = z.length := by simp [Str.length]
  rw [hl] at h1 h4 h5
  have hn := line63
  exact tail_any (typeIs_str s z t) slot_str_getitem.lookup (getItem_str (c := c) (by
    have e1 : decide (i < -(2 ^ 63 : Int)) = false := decide_eq_false (by omega)
    have e2 : decide (i ≥ 2 ^ 63) = false := decide_eq_false (by omega)
    rw [e1, e2, Bool.or_false]) (by rw [h1]; simpa using h2) ⟨.str ⟨#[c]⟩, H, I.tok _, ⟨_, rfl⟩, q⟩) hs
/-- list, tuple or str -/
def rIx (K : PySem.W.Frag) : R2 := fun x y H Q => rIxL K x y H Q ∨ rIxT K x y H Q ∨ rIxS x y H Q
theorem ix_seq : IxR X (rIx X.K) := ix_list.or (ix_tup.or ix_str)

/-! ### xs[i] = v, any sign -/
/-- the list's object behind a store -/
theorem mapSeq_set (its : List Value) (n j : Nat) (u : Value) : Obj.mapSeq (·.setIfInBounds j u) { cls := .type "list", data := .seq its.toArray n } = { cls := .type "list", data := .seq (its.set j u).toArray n } := by
  simp [Obj.mapSeq]
theorem Inv.lst {pins : List (Addr × Obj)} {σ : St} {H : Hp} {s : Shared} {p : Addr} {xs : List V} (I : Inv X pins σ H s) (h : H p = some (.lst xs)) :
    ∃ (its : List Value) (n : Nat), Vals xs its ∧ s.heap.get? p = some { cls := .type "list", data := .seq its.toArray n } ∧ xs.length ≤ sizeLine := by
  obtain ⟨z, its, n, r, e⟩ := I.hok p _ h
  exact ⟨its, n, r, e, z⟩
/-- the list at p is written by an update of its object -/
theorem Inv.lstUpd {pins : List (Addr × Obj)} {σ : St} {H : Hp} {s : Shared} {p : Addr} {xs ys : List V} {its its' : List Value} {n n' : Nat} {f : Obj → Obj} (I : Inv X pins σ H s) (h : H p = some (.lst xs))
    (ho : s.heap.get? p = some { cls := .type "list", data := .seq its.toArray n }) (hf : f { cls := .type "list", data := .seq its.toArray n } = { cls := .type "list", data := .seq its'.toArray n' }) (r : Vals ys its') (hz : ys.length ≤ sizeLine) (t : Nat) :
    Inv X pins σ (upd H p (.lst ys)) { s with heap := s.heap.update p f, toks := t } := by
  have e : (s.heap.update p f).get? p = some { cls := .type "list", data := .seq its'.toArray n' } := by
    rw [Heap.get?_update_self f ho (by rw [hf] <;> rfl), hf]
  refine I.write (x := p) (e := p) (by rw [h]; trivial) (.inl rfl) (fun b u hb q => (Heap.get?_update_other _ _ (Ne.symm hb)).trans q) ⟨_, e⟩ ?_
  exact ⟨hz, its', n', r, e⟩
def rSetL : V → V → V → Hp → (Hp → Prop) → Prop := fun o i v H Q => ∃ p xs k j, o = .ref p ∧ i = .int k ∧ H p = some (.lst xs) ∧ ixN xs.length k = some j ∧ Q (upd H p (.lst (xs.set j v)))
theorem set_list : PSet X rSetL := by
  intro pins s σ H o i v ov iv u Q I ro ri rv h
  obtain ⟨p, xs, k, j, rfl, rfl, hp, hj, q⟩ := h
  cases ro
  obtain ⟨t, rfl⟩ := ri
  obtain ⟨its, n, r, ho, hz⟩ := I.lst hp
  obtain ⟨h1, h2, h3, h4⟩ := ixN_seq hj
  have hl := r.length
  have hn := line63
  have I' : Inv X pins σ (upd H p (.lst (xs.set j v))) { s with heap := s.heap.update p (Obj.mapSeq (·.setIfInBounds j u)) } :=
    I.lstUpd hp ho (mapSeq_set its n j u) (r.set rv j) (by rw [List.length_set]; exact hz) s.toks
  by_cases h0 : 0 ≤ k
  · have hk : k.toNat = j := by
      rw [seqIndex_of h0 h4] at h1
      exact Option.some.inj h1
    exact PySem.W.ki_setAt ho h0 (by omega) (by rw [List.size_toArray, ← hl]; exact h4) (by rw [hk]; exact ⟨_, I', q⟩)
  · have hk : (k + (its.toArray.size : Int)).toNat = j := by
      rw [seqIndex_neg (by omega) h3] at h1
      rw [List.size_toArray, ← hl]
      exact Option.some.inj h1
    exact PySem.W.ki_setBack ho (by omega) (by rw [List.size_toArray, ← hl]; exact h3) (by omega) (by rw [hk]; exact ⟨_, I', q⟩)

/-! ### slices -/
/-- xs[lo:hi] of a list: a new list -/
def rSlL (K : PySem.W.Frag) : V → Option Int → Option Int → Hp → VK → Prop := fun x lo hi H Q => ∃ a xs, x = .ref a ∧ SqL K H a xs ∧ ∀ p, H p = none → Q (.ref p) (upd H p (.lst (cutV xs lo hi)))

/-! ### in, not in: flat items -/
def flatV : V → Bool
  | .non => true
  | .bl _ => true
  | .int _ => true
  | .str _ => true
  | _ => false
/-- == of flat values -/
def eqV : V → V → Bool
  | .non, .non => true
  | .bl a, .bl b => a == b
  | .bl a, .int b => (if a then 1 else 0) == b
  | .int a, .bl b => a == (if b then 1 else 0)
  | .int a, .int b => a == b
  | .str a, .str b => a == b
  | _, _ => false
/-- the items' answers, read off the values (a value's own answer does not lean on its token) -/
def eqU (x : V) (u : Value) : Bool := match u with
  | .none => eqV .non x
  | .bool b => eqV (.bl b) x
  | .int i _ => eqV (.int i) x
  | .str z _ => eqV (.str z) x
  | _ => false
def inV (x : V) (xs : List V) : Bool := xs.any fun y => eqV y x
/-- x in a list or tuple of flat items -/
def rIn (K : PySem.W.Frag) (neg : Bool) : R2 := fun x y H Q => ∃ p xs, y = .ref p ∧ (SqL K H p xs ∨ SqT K H p xs) ∧ flatV x = true ∧ xs.all flatV = true ∧ Q (.bl (if neg then !inV x xs else inV x xs)) H

/-! ### len, list(x), tuple(x) of any list or tuple that is read -/
theorem call_len_seq : CallR X (.builtin "len") (fun xs H Q => ∃ p ys, xs = [.ref p] ∧ (SqL X.K H p ys ∨ SqT X.K H p ys) ∧ Q (.int ys.length) H) := by
  intro pins s σ H xs us Q I r h
  obtain ⟨p, ys, rfl, hq, q⟩ := h
  obtain ⟨u, rfl, rx⟩ := vals1 r
  cases rx
  have hn := line63
  rcases hq with hq | hq
  · obtain ⟨its, r', pl, hz⟩ := I.list hq
    have hlen := r'.length
    exact Calls.call_len_list pl.isList (by simp only [List.size_toArray] <;> omega) ⟨.int ys.length, H, I.tok _, ⟨s.toks + 1, by rw [List.size_toArray, hlen]⟩, q⟩
  · obtain ⟨its, r', pl, hz⟩ := I.tuple hq
    have hlen := r'.length
    exact len_tuple pl (by simp only [List.size_toArray] <;> omega) ⟨.int ys.length, H, I.tok _, ⟨s.toks + 1, by rw [List.size_toArray, hlen]⟩, q⟩
theorem call_tuple_of : CallR X (.type "tuple") (fun xs H Q => ∃ p ys, xs = [.ref p] ∧ ((SqL X.K H p ys ∧ ∀ l, H l = none → Q (.ref l) (upd H l (.tup ys))) ∨ (SqT X.K H p ys ∧ Q (.ref p) H))) := by
  intro pins s σ H xs us Q I r h
  obtain ⟨p, ys, rfl, h⟩ := h
  obtain ⟨u, rfl, rx⟩ := vals1 r
  cases rx
  rcases h with ⟨hq, q⟩ | ⟨hq, q⟩
  · obtain ⟨its, r', pl, hz⟩ := I.list hq
    have hlen := r'.length
    refine call_tuple_list pl.isList (fun h' kp => ?_) (by simp only [List.size_toArray] <;> omega)
    have I1 : Inv X pins σ H { s with heap := h' } := I.kept (t' := s.toks) kp
    have I2 : Inv X pins σ (upd H h'.objs.size (.tup ys)) { s with heap := h'.push { cls := .type "tuple", data := .seq its.toArray } } :=
      I1.laid (t' := s.toks) (fun b o e => Heap.get?_push_of_some _ e) (Nat.le_refl _) (show ObjOk X.prog X.w _ _ _ (.tup ys) from ⟨hz, its, r', IsTup.new _ _⟩)
    exact ⟨.ref h'.objs.size, _, I2, rfl, q _ (I1.hok.fresh (Nat.le_refl _))⟩
  · obtain ⟨its, r', pl, hz⟩ := I.tuple hq
    exact call_tuple_same pl ⟨.ref p, H, I, rfl, q⟩

/-! ### the call of a builtin's method: o.m(..) -/
/-- the value is of that builtin type -/
def tyV (K : PySem.W.Frag) (T : String) (x : V) (H : Hp) : Prop := match x with
  | .str _ => T = "str"
  | .int _ => T = "int"
  | .ref p => (T = "list" ∧ ∃ xs, SqL K H p xs) ∨ (T = "tuple" ∧ ∃ o, K.lookup p = some o ∧ o.cls = .type "tuple" ∧ o.dict = none) ∨
      (T = "dict" ∧ ((∃ kvs, H p = some (.dK kvs)) ∨ ∃ kvs, H p = some (.dT kvs))) ∨ (T = "set" ∧ ∃ S n, H p = some (.set S n))
  | _ => False
theorem tyV_is {pins : List (Addr × Obj)} {σ : St} {H : Hp} {s : Shared} {T : String} {x : V} {v : Value} (I : Inv X pins σ H s) (r : RelV x v) (ty : tyV X.K T x H) :
    s.TypeIs v T ∧ ∀ a, v = .ref a → ∃ ob, s.heap.get? a = some ob ∧ ob.dict = none := by
  cases x with
  | str z =>
    obtain ⟨t, rfl⟩ := r
    cases (show T = "str" from ty)
    exact ⟨typeIs_str s z t, fun _ e => nomatch e⟩
  | int i =>
    obtain ⟨t, rfl⟩ := r
    cases (show T = "int" from ty)
    exact ⟨typeIs_int s i t, fun _ e => nomatch e⟩
  | ref p =>
    cases r
    rcases ty with ⟨rfl, xs, hq⟩ | ⟨rfl, o, hk, hc, hd⟩ | ⟨rfl, hk⟩ | ⟨rfl, S, n, hk⟩
    · obtain ⟨its, _, pl, _⟩ := I.list hq
      refine ⟨pl.isList.typeIs, fun a e => ?_⟩
      cases e
      obtain ⟨o, n, e, c, hd, _⟩ := pl
      exact ⟨o, e, hd⟩
    · refine ⟨⟨o, I.kIn p o hk, hc⟩, fun a e => ?_⟩
      cases e
      exact ⟨o, I.kIn _ o hk, hd⟩
    · have z : ∃ o, s.heap.get? p = some o ∧ o.ExactDict := by
        rcases hk with ⟨kvs, hk⟩ | ⟨kvs, hk⟩
        · obtain ⟨_, _, _, _, o, _, _, e, ex, _⟩ := I.hok p _ hk
          exact ⟨o, e, ex⟩
        · obtain ⟨_, _, _, _, o, _, _, e, ex, _⟩ := I.hok p _ hk
          exact ⟨o, e, ex⟩
      obtain ⟨o, e, ex⟩ := z
      refine ⟨⟨o, e, ex.1⟩, fun a e2 => ?_⟩
      cases e2
      exact ⟨o, e, ex.2.1⟩
    · obtain ⟨o, _, _, _, e, ex, _⟩ := I.hok p _ hk
      refine ⟨⟨o, e, ex.1⟩, fun a e2 => ?_⟩
      cases e2
      exact ⟨o, e, ex.2.1⟩
  | _ => exact False.elim ty
def tBM0 (K : PySem.W.Frag) (T : String) (r : V → List V → Hp → VK → Prop) (to : TE) : TE := fun σ H Q => to σ H fun x H1 => tyV K T x H1 ∧ r x [] H1 Q
def tBM (K : PySem.W.Frag) (T : String) (r : V → List V → Hp → VK → Prop) (to : TE) (t : TA) : TE := fun σ H Q => to σ H fun x H1 => tyV K T x H1 ∧ t σ H1 fun xs H2 => r x xs H2 Q
variable {o e : Expr} {es : List Expr} {to : TE} {t : TA} {name : Str} {apos cpos : Pos} {T id : String} {r : V → List V → Hp → VK → Prop}
theorem pe_bm0 (pa : PlainAttrs T) (slot : Slot T name id) (hty : typeOf (.builtin id) = pure (.type "method_descriptor")) (hm : MtR X id r) (ho : PE X o to)
    (hbase : attributeBase o name X.env (eval o X.env) = eval o X.env := by rfl) (hline : (apos.endLine == cpos.line) = true := by rfl) : PE X (.Call (.Attribute o name apos) [] [] cpos) (tBM0 X.K T r to) := by
  intro pins s σ H Q I h
  refine wpAny_Call_method0_late hbase hline (thn (ho pins s σ H _ I h) fun v s1 ⟨x, H1, I1, r1, ty, q1⟩ => ?_)
  obtain ⟨h1, h2⟩ := tyV_is I1 r1 ty
  exact ⟨T, id, pa, slot, hty, h1, h2, Calls.callWith_builtin rfl (PySem.evalArgs_none (hm pins s1 σ H1 x [] v [] Q I1 r1 .nil q1))⟩
theorem pe_bm (pa : PlainAttrs T) (slot : Slot T name id) (hty : typeOf (.builtin id) = pure (.type "method_descriptor")) (hm : MtR X id r) (ho : PE X o to) (ha : PA X (e :: es) t)
    (hbase : attributeBase o name X.env (eval o X.env) = eval o X.env := by rfl)
    (hfew : ((backTo cpos (starEach (e :: es) X.env)).all (fun x => !x.1) && (backToKw cpos (keywordEach [] X.env)).all (fun x => x.1.isSome)
      && decide ((e :: es).length + ([] : List Keyword).length + (if ([] : List Keyword).isEmpty then 0 else 1) < 30)) = true := by rfl)
    (hline : (apos.endLine == cpos.line) = true := by rfl) (hs : starEach (e :: es) X.env = (false, eval e X.env) :: starEach es X.env := by rfl) (hplain : (backTo cpos (starEach es X.env)).any (·.1) = false := by rfl) :
    PE X (.Call (.Attribute o name apos) (e :: es) [] cpos) (tBM X.K T r to t) := by
  intro pins s σ H Q I h
  refine wpAny_Call_method_late hbase hfew hline rfl (thn (ho pins s σ H _ I h) fun v s1 ⟨x, H1, I1, r1, ty, q1⟩ => ?_)
  obtain ⟨h1, h2⟩ := tyV_is I1 r1 ty
  refine ⟨T, id, pa, slot, hty, h1, h2, ?_⟩
  have hA := ha cpos pins s1 σ H1 _ I1 q1
  rw [hs] at hA ⊢
  refine Calls.callWith_builtin (by show (false || (backTo cpos (starEach es X.env)).any (·.1)) = false; rw [hplain] <;> rfl) (Calls.evalArgs_plain ?_)
  exact thn hA fun us s2 ⟨vs, H2, I2, r2, q2⟩ => hm pins s2 σ H2 x vs v us Q I2 r1 r2 q2
/- xs.append(e), list.index on a module's tuple .. are MtR facts of 06m -/
end
end L2

namespace L2
open PySem PySem.Spec PyProof.Rows

def MtM (X : Cx) (id : String) (r : V → List V → Hp → VK → Prop) : Prop :=
  ∀ (pins : List (Addr × Obj)) (s : Shared) (σ : St) (H : Hp) (x : V) (xs : List V) (v : Value) (us : List Value) (Q : VK), Inv X pins σ H s → RelV x v → Vals xs us → r x xs H Q →
    wpAny (model X.prog X.w) X.A (call (.builtin id) (v :: us)) (EP X pins σ Q) X.xe s

/-! ### lists of values -/
theorem Vals.one : ∀ {x : V} {us : List Value}, Vals [x] us → ∃ u, us = [u] ∧ RelV x u
  | _, _, .cons r .nil => ⟨_, rfl, r⟩
theorem Vals.two : ∀ {x y : V} {us : List Value}, Vals [x, y] us → ∃ u v, us = [u, v] ∧ RelV x u ∧ RelV y v
  | _, _, _, .cons r (.cons q .nil) => ⟨_, _, rfl, r, q⟩
theorem Vals.zero : ∀ {us : List Value}, Vals [] us → us = []
  | _, .nil => rfl
theorem Vals.dropLast {xs : List V} {us : List Value} (h : Vals xs us) : Vals xs.dropLast us.dropLast := by
  induction h with
  | nil => exact .nil
  | cons r t ih =>
    cases t with
    | nil => exact .nil
    | cons q t' => exact .cons r ih
theorem erase_last {α : Type} (l : List α) : l.eraseIdx (l.length - 1) = l.dropLast := by
  induction l with
  | nil => rfl
  | cons a r ih =>
    cases r with
    | nil => rfl
    | cons b r =>
      have e : (a :: b :: r).length - 1 = ((b :: r).length - 1) + 1 := by
        have h1 : (a :: b :: r).length = r.length + 2 := rfl
        have h2 : (b :: r).length = r.length + 1 := rfl
        omega
      rw [e, List.eraseIdx_cons_succ, ih]
      all_goals rfl

section
variable {X : Cx} {pins : List (Addr × Obj)} {σ : St} {H : Hp} {s : Shared} {l b : Addr} {xs ys zs : List V}

/-! ### the two steps: a tracked list is rewritten, a new list is laid -/
theorem Inv.lset {its its' : List Value} {n : Nat} {f : Array Value → Array Value} {t' : Nat} (I : Inv X pins σ H s) (hH : H l = some (.lst xs))
    (e : s.heap.get? l = some { cls := .type "list", data := .seq its.toArray n }) (hf : f its.toArray = its'.toArray) (hv : Vals ys its') (hz : ys.length ≤ sizeLine) :
    Inv X pins σ (upd H l (.lst ys)) { s with heap := s.heap.update l (Obj.mapSeq f), toks := t' } := by
  have q := PySem.IsL.update e f
  rw [hf] at q
  refine I.write (x := l) (e := l) (by rw [hH]; exact trivial) (.inl rfl) (fun b' u hb hu => (Heap.get?_update_other s.heap (Obj.mapSeq f) (Ne.symm hb)).trans hu) ⟨_, q⟩ ?_
  exact ⟨hz, its', _, hv, q⟩
theorem Inv.lnew {its : List Value} {t' : Nat} (I : Inv X pins σ H s) (hv : Vals ys its) (hz : ys.length ≤ sizeLine) :
    Inv X pins σ (upd H s.heap.objs.size (.lst ys)) { s with heap := s.heap.push { cls := .type "list", data := .seq its.toArray }, toks := t' } :=
  I.laid (fun _ _ q => Heap.get?_push_of_some _ q) (Nat.le_refl _) ⟨hz, its, 0, hv, Heap.get?_push_size _ rfl⟩
theorem Inv.fresh (I : Inv X pins σ H s) : H s.heap.objs.size = none := I.hok.fresh (Nat.le_refl _)
theorem Inv.lstM (I : Inv X pins σ H s) (hH : H l = some (.lst xs)) : xs.length ≤ sizeLine ∧ ∃ (its : List Value) (n : Nat), Vals xs its ∧ xs.length = its.length ∧ s.heap.get? l = some { cls := .type "list", data := .seq its.toArray n } := by
  obtain ⟨z, its, n, r, e⟩ := I.hok l _ hH
  exact ⟨z, its, n, r, r.length, e⟩

theorem notLongL {n : Nat} (h : n ≤ sizeLine) : Builtin.List.listTooLong n = false := by
  unfold Builtin.List.listTooLong
  exact decide_eq_false (by omega)
end

section
variable {X : Cx}

/-! ### methods -/
def rAppend : V → List V → Hp → VK → Prop := fun x vs H Q => ∃ l xs y, x = .ref l ∧ vs = [y] ∧ H l = some (.lst xs) ∧ xs.length < sizeLine ∧ Q .non (upd H l (.lst (xs ++ [y])))
theorem mt_append : MtM X "list.append" rAppend := by
  intro pins s σ H x vs v us Q I rx rv h
  obtain ⟨l, xs, y, rfl, rfl, hH, hz, q⟩ := h
  cases rx
  obtain ⟨u, rfl, ru⟩ := rv.one
  obtain ⟨z, its, n, r, hl, e⟩ := I.lstM hH
  refine call_meets F.slot_list_append ⟨_, e, rfl⟩ F.entry_list_append (F.args_list_append_2 _ _) (PySem.list_append l its.toArray n u (by rw [List.size_toArray]; omega)) ⟨e, ?_⟩
  refine ⟨.non, _, I.lset (its' := its ++ [u]) hH e (by simp) (r.append (.cons ru .nil)) ?_, rfl, q⟩
  rw [List.length_append, List.length_singleton]
  omega

def rExtend : V → List V → Hp → VK → Prop := fun x vs H Q => ∃ l b xs zs, x = .ref l ∧ vs = [.ref b] ∧ H l = some (.lst xs) ∧ H b = some (.lst zs) ∧ xs.length + zs.length ≤ sizeLine ∧ Q .non (upd H l (.lst (xs ++ zs)))
theorem mt_extend : MtM X "list.extend" rExtend := by
  intro pins s σ H x vs v us Q I rx rv h
  obtain ⟨l, b, xs, zs, rfl, rfl, hH, hB, hz, q⟩ := h
  cases rx
  obtain ⟨u, rfl, ru⟩ := rv.one
  cases ru
  obtain ⟨z, its, n, r, hl, e⟩ := I.lstM hH
  obtain ⟨z2, its2, n2, r2, hl2, e2⟩ := I.lstM hB
  have hsz : its.toArray.size + its2.toArray.size ≤ sizeLine := by rw [List.size_toArray, List.size_toArray]; omega
  have hlong : ¬ (!its.toArray.isEmpty && Builtin.List.listTooLong (its.toArray.size + its2.toArray.size)) = true := by
    rw [notLongL hsz, Bool.and_false]
    exact Bool.false_ne_true
  refine call_meets F.slot_list_extend ⟨_, e, rfl⟩ F.entry_list_extend (F.args_list_extend_2 _ _)
    (AutoSeq1.list_extend_list_list_0 l its.toArray n b its2.toArray n2 hlong (by rw [List.size_toArray]; omega) (by omega)) ⟨e, e2, ?_⟩
  refine ⟨.non, _, I.lset (its' := its ++ its2) hH e (by simp) (r.append r2) ?_, rfl, q⟩
  rw [List.length_append]
  omega

def rPop : V → List V → Hp → VK → Prop := fun x vs H Q => ∃ l xs y, x = .ref l ∧ vs = [] ∧ H l = some (.lst xs) ∧ xs[xs.length - 1]? = some y ∧ Q y (upd H l (.lst xs.dropLast))
theorem mt_pop : MtM X "list.pop" rPop := by
  intro pins s σ H x vs v us Q I rx rv h
  obtain ⟨l, xs, y, rfl, rfl, hH, hy, q⟩ := h
  cases rx
  have hus := rv.zero
  subst hus
  obtain ⟨z, its, n, r, hl, e⟩ := I.lstM hH
  obtain ⟨u, hu, ru⟩ := r.get hy
  have hy' : its.toArray[its.toArray.size - 1]? = some u := by
    show its.toArray[its.length - 1]? = some u
    rw [← Array.getElem?_toList, ← hl]
    exact hu
  refine call_meets F.slot_list_pop ⟨_, e, rfl⟩ F.entry_list_pop (F.args_list_pop_1 _) (MeetsSeq.list_pop_last l its.toArray n u hy' (by rw [List.size_toArray]; omega)) ⟨e, ?_⟩
  refine ⟨y, _, I.lset (its' := its.dropLast) hH e ?_ r.dropLast ?_, ru, q⟩
  · show its.toArray.eraseIdxIfInBounds (its.toArray.size - 1) = its.dropLast.toArray
    rw [List.size_toArray, List.eraseIdxIfInBounds_toArray, erase_last]
  · rw [List.length_dropLast]
    omega

def rPopAt : V → List V → Hp → VK → Prop := fun x vs H Q => ∃ l xs i k y, x = .ref l ∧ vs = [.int i] ∧ H l = some (.lst xs) ∧ -(2 ^ 63) ≤ i ∧ i < 2 ^ 63 ∧ seqIndex? i xs.length = some k ∧ xs[k]? = some y ∧ Q y (upd H l (.lst (xs.eraseIdx k)))

def rReverse : V → List V → Hp → VK → Prop := fun x vs H Q => ∃ l xs, x = .ref l ∧ vs = [] ∧ H l = some (.lst xs) ∧ Q .non (upd H l (.lst xs.reverse))

def rClear : V → List V → Hp → VK → Prop := fun x vs H Q => ∃ l xs, x = .ref l ∧ vs = [] ∧ H l = some (.lst xs) ∧ Q .non (upd H l (.lst []))

/-! ### list + list, list += list, list * int -/
def rCat : R2 := fun x y H Q => ∃ l b xs zs, x = .ref l ∧ y = .ref b ∧ H l = some (.lst xs) ∧ H b = some (.lst zs) ∧ xs.length + zs.length ≤ sizeLine ∧ ∀ p, H p = none → Q (.ref p) (upd H p (.lst (xs ++ zs)))
/-- a list times an int (a negative one is nothing) -/
def rRep : R2 := fun x y H Q => ∃ l k xs, x = .ref l ∧ y = .int k ∧ H l = some (.lst xs) ∧ -(2 ^ 63) ≤ k ∧ k < 2 ^ 63 ∧ xs.length * k.toNat ≤ sizeLine ∧
  ∀ p, H p = none → Q (.ref p) (upd H p (.lst (List.replicate k.toNat xs).flatten))

/-! ### del xs[i] -/
end

/-! ### xs[a:b] = ys -/
section
variable {prog : Program} {w : World} {A : Around} {E : Value → Shared → Prop} {s : Shared}
set_option maxRecDepth 100000 in
end

section
variable {X : Cx}
end
end L2

namespace L2
open PySem PySem.Spec PyProof.Rows

/-! ### lists of pairs as tables -/
section
variable {κ : Type} [DecidableEq κ]
def valV (kvs : List (κ × V)) (k : κ) : Option V := (kvs.find? fun kv => decide (kv.1 = k)).map (·.2)
/-- in its place, or at the end -/
def putK (kvs : List (κ × V)) (k : κ) (v : V) : List (κ × V) :=
  if (kvs.any fun kv => decide (kv.1 = k)) = true then kvs.map (fun kv => if kv.1 = k then (kv.1, v) else kv) else kvs ++ [(k, v)]
def dropK (kvs : List (κ × V)) (k : κ) : List (κ × V) := kvs.filter fun kv => decide (kv.1 ≠ k)

theorem valV_pos {p : κ × V} {r : List (κ × V)} {k : κ} (e : p.1 = k) : valV (p :: r) k = some p.2 := by simp [valV, List.find?_cons, e]
theorem valV_neg {p : κ × V} {r : List (κ × V)} {k : κ} (e : ¬ p.1 = k) : valV (p :: r) k = valV r k := by simp [valV, List.find?_cons, e]
theorem valV_any (k : κ) : ∀ kvs : List (κ × V), (kvs.any fun kv => decide (kv.1 = k)) = (valV kvs k).isSome
  | [] => rfl
  | p :: r => by
    rw [List.any_cons]
    by_cases e : p.1 = k
    · simp only [valV_pos e, decide_eq_true e, Bool.true_or, Option.isSome_some]
    · rw [valV_neg e, decide_eq_false e, Bool.false_or]; exact valV_any k r
theorem length_putK (kvs : List (κ × V)) (k : κ) (v : V) : (putK kvs k v).length ≤ kvs.length + 1 := by
  unfold putK
  split
  · rw [List.length_map]; omega
  · rw [List.length_append, List.length_cons, List.length_nil]; omega

theorem RelO.isSome_eq {o : Option V} {u : Option Value} (r : RelO o u) : o.isSome = u.isSome := by
  cases o with
  | none => cases u with
    | none => rfl
    | some _ => exact (show False from r).elim
  | some _ => cases u with
    | none => exact (show False from r).elim
    | some _ => rfl

theorem KV.any {kvs : List (κ × V)} {vs : List (κ × Value)} (r : KV kvs vs) (k : κ) : (kvs.any fun kv => decide (kv.1 = k)) = vs.any fun kv => decide (kv.1 = k) := by
  unfold KV at r
  induction r with
  | nil => rfl
  | cons h t ih => rw [List.any_cons, List.any_cons, ih, h.1]
theorem KV.repl {kvs : List (κ × V)} {vs : List (κ × Value)} (r : KV kvs vs) (k : κ) {y : V} {u : Value} (ry : RelV y u) :
    KV (kvs.map fun kv => if kv.1 = k then (kv.1, y) else kv) (vs.map fun kv => if kv.1 = k then (kv.1, u) else kv) := by
  unfold KV at r ⊢
  induction r with
  | nil => exact .nil
  | @cons p q ps qs h t ih =>
    rw [List.map_cons, List.map_cons]
    refine .cons ?_ ih
    obtain ⟨h1, h2⟩ := h
    by_cases e : p.1 = k
    · rw [if_pos e, if_pos (h1.symm.trans e)]; exact ⟨h1, ry⟩
    · rw [if_neg e, if_neg (fun z => e (h1.trans z))]; exact ⟨h1, h2⟩
theorem KV.put {kvs : List (κ × V)} {vs : List (κ × Value)} (r : KV kvs vs) (k : κ) {y : V} {u : Value} (ry : RelV y u) : KV (putK kvs k y) (stored vs k u) := by
  unfold putK stored
  rw [r.any k]
  by_cases e : (vs.any fun kv => decide (kv.1 = k)) = true
  · rw [if_pos e, if_pos e]; exact r.repl k ry
  · rw [if_neg e, if_neg e]; exact Paired.snoc r ⟨rfl, ry⟩
theorem KV.drop {kvs : List (κ × V)} {vs : List (κ × Value)} (r : KV kvs vs) (k : κ) : KV (dropK kvs k) (without vs k) := by
  unfold KV at r ⊢
  unfold dropK without
  induction r with
  | nil => exact .nil
  | @cons p q ps qs h t ih =>
    obtain ⟨h1, h2⟩ := h
    rw [List.filter_cons, List.filter_cons]
    by_cases e : p.1 = k
    · have a : ¬ decide (p.1 ≠ k) = true := by simp [e]
      have b : ¬ decide (q.1 ≠ k) = true := by simp [h1.symm.trans e]
      rw [if_neg a, if_neg b]; exact ih
    · have e' : ¬ q.1 = k := fun z => e (h1.trans z)
      have a : decide (p.1 ≠ k) = true := by simp [e]
      have b : decide (q.1 ≠ k) = true := by simp [e']
      rw [if_pos a, if_pos b]; exact .cons ⟨h1, h2⟩ ih
theorem KV.length {kvs : List (κ × V)} {vs : List (κ × Value)} (r : KV kvs vs) : kvs.length = vs.length := Paired.length r
end


/-! ### a tracked dict, its keys ints and texts or tuples of these -/
theorem kV_is {P : Program} {w : World} {k : Key} {u : Value} (r : RelV (kV k) u) : (mixKind P w).is k u = true := by
  cases k with
  | inl i => obtain ⟨t, e⟩ := (show ∃ t, u = Value.int i t from r); subst e; exact mixKind_int P w i t
  | inr x => obtain ⟨t, e⟩ := (show ∃ t, u = Value.str x t from r); subst e; exact mixKind_str P w x t
theorem items_are {P : Program} {w : World} : ∀ {ks : List Key} {us : List Value}, Vals (ks.map kV) us → ItemsAre (mixKind P w) ks us
  | [], _, r => by rw [List.map_nil] at r; cases r; exact .nil
  | k :: ks, _, r => by
    rw [List.map_cons] at r
    cases r with
    | cons h t => exact .cons (kV_is h) (items_are t)

/-- raw entries of a dict with tuple keys -/
abbrev KT (H : Hp) : List (List Key × V) → List (List Key × Addr × Value) → Prop := Paired fun p q => p.1 = q.1 ∧ H q.2.1 = some (.tup (p.1.map kV)) ∧ RelV p.2 q.2.2
theorem KT.val {H : Hp} {kvs : List (List Key × V)} {xs : List (List Key × Addr × Value)} (r : KT H kvs xs) (k : List Key) : RelO (valV kvs k) ((atKey xs k).map (·.2)) := by
  induction r with
  | nil => exact True.intro
  | @cons p q ps qs h t ih =>
    obtain ⟨h1, _, h2⟩ := h
    by_cases e : p.1 = k
    · have e' : q.1 = k := h1.symm.trans e
      have b : atKey (q :: qs) k = some q.2 := by simp [atKey, List.find?_cons, e']
      rw [valV_pos e, b]; exact h2
    · have e' : ¬ q.1 = k := fun z => e (h1.trans z)
      have b : atKey (q :: qs) k = atKey qs k := by simp [atKey, List.find?_cons, e']
      rw [valV_neg e, b]; exact ih
theorem KT.repl {H : Hp} {kvs : List (List Key × V)} {xs : List (List Key × Addr × Value)} (r : KT H kvs xs) (k : List Key) {y : V} {u : Value} (ry : RelV y u) :
    KT H (kvs.map fun kv => if kv.1 = k then (kv.1, y) else kv) (xs.map (putAt k u)) := by
  induction r with
  | nil => exact .nil
  | @cons p q ps qs h t ih =>
    rw [List.map_cons, List.map_cons]
    refine .cons ?_ ih
    obtain ⟨h1, h2, h3⟩ := h
    unfold putAt
    by_cases e : p.1 = k
    · rw [if_pos e, if_pos (h1.symm.trans e)]; exact ⟨h1, h2, ry⟩
    · rw [if_neg e, if_neg (fun z => e (h1.trans z))]; exact ⟨h1, h2, h3⟩
theorem KT.put {H : Hp} {kvs : List (List Key × V)} {xs : List (List Key × Addr × Value)} (r : KT H kvs xs) (k : List Key) {b : Addr} {y : V} {u : Value} (hb : H b = some (.tup (k.map kV))) (ry : RelV y u) :
    KT H (putK kvs k y) (storedH xs k b u) := by
  have e : (kvs.any fun kv => decide (kv.1 = k)) = (atKey xs k).isSome := by
    rw [valV_any, (r.val k).isSome_eq, Option.isSome_map]
  unfold putK storedH
  rw [e]
  by_cases q : (atKey xs k).isSome = true
  · rw [if_pos q, if_pos q]; exact r.repl k ry
  · rw [if_neg q, if_neg q]; exact Paired.snoc r ⟨rfl, hb, ry⟩
theorem KT.keeps {H H' : Hp} {kvs : List (List Key × V)} {xs : List (List Key × Addr × Value)} (r : KT H kvs xs) (ht : ∀ b ys, H b = some (.tup ys) → H' b = some (.tup ys)) : KT H' kvs xs :=
  Paired.mapP r fun _ _ z => ⟨z.1, ht _ _ z.2.1, z.2.2⟩

section
variable {P : Program} {w : World} {H : Hp} {h : Heap} {a : Addr}
theorem rd_of {u : HO} (ok : HOk P w H h) (e : Rd H a u) : ObjOk P w H h a u := e.ok ok
theorem dk_rd {kvs : List (Key × V)} (ok : HOk P w H h) (e : Rd H a (.dK kvs)) : kvs.length ≤ sizeLine ∧ (a == sysModules) = false ∧ ∃ vs, KV kvs vs ∧ h.DictOf (mixKind P w) a vs :=
  show ObjOk P w H h a (.dK kvs) from rd_of ok e
theorem dk_of {kvs : List (Key × V)} (ok : HOk P w H h) (e : H a = some (.dK kvs)) : kvs.length ≤ sizeLine ∧ (a == sysModules) = false ∧ ∃ vs, KV kvs vs ∧ h.DictOf (mixKind P w) a vs := dk_rd ok (.inl e)
/-- a tracked tuple of ints and texts is a key -/
theorem key_of {ks : List Key} (ok : HOk P w H h) (e : H a = some (.tup (ks.map kV))) : (tupleKind (mixKind P w)).is h ks a := by
  obtain ⟨_, its, r, o, h1, h2, n, h3⟩ := (show ObjOk P w H h a (.tup (ks.map kV)) from ok a _ e)
  exact ⟨o, its.toArray, n, h1, h2, h3, by simpa using items_are r⟩
theorem dt_rd {kvs : List (List Key × V)} (ok : HOk P w H h) (e : Rd H a (.dT kvs)) : kvs.length ≤ sizeLine ∧ (a == sysModules) = false ∧
    ∃ xs, KT H kvs xs ∧ h.DictOfH (tupleKind (mixKind P w)) a xs := by
  obtain ⟨z, y, xs, r, o, es, ep, h1, h2, h3, h4, h5⟩ := (show ObjOk P w H h a (.dT kvs) from rd_of ok e)
  refine ⟨z, y, xs, r, o, es, ep, h1, h2, h3, h4, fun x hx => ?_, h5⟩
  have all : ∀ {l : List (List Key × V)} {m : List (List Key × Addr × Value)}, KT H l m → ∀ x ∈ m, (tupleKind (mixKind P w)).is h x.1 x.2.1 := by
    intro l m q
    induction q with
    | nil => intro x hx; exact nomatch hx
    | @cons p q ps qs hq t ih =>
      intro x hx
      rcases List.mem_cons.mp hx with e | hx
      · subst e
        exact key_of ok (by rw [← hq.1]; exact hq.2.1)
      · exact ih x hx
  exact all r x hx
theorem dt_of {kvs : List (List Key × V)} (ok : HOk P w H h) (e : H a = some (.dT kvs)) : kvs.length ≤ sizeLine ∧ (a == sysModules) = false ∧
    ∃ xs, KT H kvs xs ∧ h.DictOfH (tupleKind (mixKind P w)) a xs := dt_rd ok (.inl e)
end

/-- what the dict at a holds at the key y -/
def DGet (H : Hp) (a : Addr) (y : V) (r : Option V) : Prop :=
  (∃ kvs k, Rd H a (.dK kvs) ∧ y = kV k ∧ r = valV kvs k) ∨ ∃ kvs k b, Rd H a (.dT kvs) ∧ y = .ref b ∧ H b = some (.tup (k.map kV)) ∧ r = valV kvs k
/-- the heap behind a[y] = v -/
def DPut (H : Hp) (a : Addr) (y v : V) (H' : Hp) : Prop :=
  (∃ kvs k, H a = some (.dK kvs) ∧ y = kV k ∧ kvs.length < sizeLine ∧ H' = upd H a (.dK (putK kvs k v))) ∨
  ∃ kvs k b, H a = some (.dT kvs) ∧ y = .ref b ∧ H b = some (.tup (k.map kV)) ∧ kvs.length < sizeLine ∧ H' = upd H a (.dT (putK kvs k v))
theorem DGet.t {H : Hp} {a b : Addr} {kvs : List (List Key × V)} {k : List Key} (e : H a = some (.dT kvs)) (eb : H b = some (.tup (k.map kV))) : DGet H a (.ref b) (valV kvs k) := .inr ⟨kvs, k, b, .inl e, rfl, eb, rfl⟩
theorem DPut.t {H : Hp} {a b : Addr} {kvs : List (List Key × V)} {k : List Key} {v : V} (e : H a = some (.dT kvs)) (eb : H b = some (.tup (k.map kV))) (hl : kvs.length < sizeLine) :
    DPut H a (.ref b) v (upd H a (.dT (putK kvs k v))) := .inr ⟨kvs, k, b, e, rfl, eb, hl, rfl⟩


section
variable {X : Cx} {pins : List (Addr × Obj)} {σ : St} {H : Hp} {s : Shared} {a : Addr} {y v : V} {u r : Value} {o : Option V} {A : Around} {E : Value → Shared → Prop}

theorem Inv.big (I : Inv X pins σ H s) : sysModules < s.heap.objs.size := by
  have h : mainGlobals < s.heap.objs.size := (I.mod.glob.keeps I.bk).lt
  exact Nat.lt_trans (by decide) h

/-- a dict's object is replaced -/
theorem d_write {h' : Heap} {t' : Nat} {ob : HO} (I : Inv X pins σ H s) (mu : Mut (H a)) (hs : Heap.SameBut a s.heap h') (he : ∃ q, h'.get? a = some q) (new : ObjOk X.prog X.w (upd H a ob) h' a ob) :
    Inv X pins σ (upd H a ob) { s with heap := h', toks := t' } :=
  I.write (x := a) (e := a) mu (.inl rfl) (fun b q hb z => (hs.2 b hb).trans z) he new
theorem dk_new {P : Program} {w : World} {H' : Hp} {h' : Heap} {kvs : List (Key × V)} {vs : List (Key × Value)} (z : kvs.length ≤ sizeLine) (hd : (a == sysModules) = false) (rel : KV kvs vs) (dd : h'.DictOf (mixKind P w) a vs) :
    ObjOk P w H' h' a (.dK kvs) := ⟨z, hd, vs, rel, dd⟩
/-- d[y] = v -/
theorem d_setItem {H' : Hp} {Q : Unit → Shared → Prop} (hu : A.units + 1 < cLine) (I : Inv X pins σ H s) (g : DPut H a y v H') (ry : RelV y u) (rv : RelV v r) (h : ∀ s', Inv X pins σ H' s' → Q () s') :
    wpAny (model X.prog X.w) A (setItem (.ref a) u r) Q E s := by
  rcases g with ⟨kvs, k, e, ey, l, eH⟩ | ⟨kvs, k, b, e, ey, eb, l, eH⟩
  · subst ey eH
    obtain ⟨z, hd, vs, rel, dd⟩ := dk_of I.hok e
    have hz : vs.length ≤ sizeLine := by rw [← rel.length]; exact z
    have hl : (putK kvs k v).length ≤ sizeLine := by have := length_putK kvs k v; omega
    refine wpAny_setItem_pairs (hsz := hz) (kV_is ry) dd fun h' dd' hs => h _ ?_
    have he : ∃ q, h'.get? a = some q := let ⟨q, _, _, hq, _⟩ := dd'; ⟨q, hq⟩
    exact d_write I (by rw [e]; exact True.intro) hs he (dk_new hl hd (rel.put k rv) dd')
  · subst ey eH
    cases (show u = Value.ref b from ry)
    obtain ⟨z, hd, xs, rel, dd⟩ := dt_of I.hok e
    have hz : xs.length ≤ sizeLine := by rw [← Paired.length rel]; exact z
    have hl : (putK kvs k v).length ≤ sizeLine := by have := length_putK kvs k v; omega
    refine wpAny_setItem_heap (hsz := hz) (tupleKind_room_in1 hu) (key_of I.hok eb) dd fun h' dd' hs => h _ ?_
    obtain ⟨q, es, ep, hq, h2, h3, h4, _, h5⟩ := dd'
    refine d_write I (by rw [e]; exact True.intro) hs ⟨q, hq⟩ ⟨hl, hd, _, (rel.put k eb rv).keeps fun c ys ec => ?_, q, es, ep, hq, h2, h3, h4, h5⟩
    rw [upd_ne (ne_of ec e (fun z => nomatch z))]
    exact ec
end

section
variable {X : Cx} {pins : List (Addr × Obj)} {σ : St} {H : Hp} {s : Shared} {a : Addr} {kvs : List (Key × V)} {k : Key} {u : Value} {A : Around} {E : Value → Shared → Prop}
end


/-! ### readings and rules -/
/-- the element of a subscription, not a slice -/
def NoSl (i : Expr) : Prop := ∀ ov iv, subscripted i false ov iv = operate [ov, iv] (getItem ov iv)


/-- d[y] -/
def tDGet (td ty : TE) : TE := fun σ H Q => td σ H fun x H1 => ty σ H1 fun y H2 => ∃ a v, x = .ref a ∧ DGet H2 a y (some v) ∧ Q v H2
/-- y in d, y not in d -/
def tDIn (ty td : TE) : TE := fun σ H Q => ty σ H fun y H1 => td σ H1 fun x H2 => ∃ a o, x = .ref a ∧ DGet H2 a y o ∧ Q (.bl o.isSome) H2
def tDNotIn (ty td : TE) : TE := fun σ H Q => ty σ H fun y H1 => td σ H1 fun x H2 => ∃ a o, x = .ref a ∧ DGet H2 a y o ∧ Q (.bl (!o.isSome)) H2
/-- d[y] = v -/
def sDPut (td ty tv : TE) : TS := fun D σ H => tv σ H fun v H1 => td σ H1 fun x H2 => ty σ H2 fun y H3 => ∃ a H4, x = .ref a ∧ DPut H3 a y v H4 ∧ D.nx σ H4
/-- d[y] op= v -/
def sDAug (td ty tv : TE) (rd : V → V → Hp → VK → Prop) : TS := fun D σ H => td σ H fun x H1 => ty σ H1 fun y H2 => ∃ a v, x = .ref a ∧ DGet H2 a y (some v) ∧
  tv σ H2 fun y2 H3 => rd v y2 H3 fun z H4 => ∃ H5, DPut H4 a y z H5 ∧ D.nx σ H5
/-- del d[y] -/
def sDDel (td ty : TE) : TS := fun D σ H => td σ H fun x H1 => ty σ H1 fun y H2 => ∃ a kvs k, x = .ref a ∧ H2 a = some (.dK kvs) ∧ y = kV k ∧ (valV kvs k).isSome = true ∧ D.nx σ (upd H2 a (.dK (dropK kvs k)))

section
variable {X : Cx} {o i e value : Expr} {pos pos' tpos : Pos} {td ty tv : TE}
theorem ps_dput (hu : X.A.units + 1 < cLine) (ho : PE X o td) (hi : PE X i ty) (hv : PE X value tv) (hs : swapsWith value (some (.Subscript o i pos')) pos.line X.env = pure false) :
    PS X (.Assign [.Subscript o i pos'] value pos) (sDPut td ty tv) := by
  intro pins s σ H D I h
  refine wpAny_Assign_Subscript (thn (hv pins s σ H _ I h) fun r s1 ⟨v, H1, I1, rv, q1⟩ => thn (ho pins s1 σ H1 _ I1 q1) fun u s2 ⟨x, H2, I2, rx, q2⟩ => thn (hi pins s2 σ H2 _ I2 q2) fun iv s3 ⟨y, H3, I3, ry, a, H4, ex, g, q3⟩ => ?_) hs
  subst ex
  obtain rfl : u = Value.ref a := rx
  exact d_setItem hu I3 g ry rv fun s4 I4 => ⟨σ, H4, I4, q3⟩
end


/-! ### displays -/
theorem dt_empty {P : Program} {w : World} {H : Hp} (h : Heap) (hb : sysModules < h.objs.size) : ObjOk P w H (h.push { cls := .type "dict", data := .dict #[] }) h.objs.size (.dT []) :=
  ⟨Nat.zero_le _, beq_eq_false_iff_ne.mpr (Ne.symm (Nat.ne_of_lt hb)), [], .nil, _, #[], 0, Heap.get?_push_size _ rfl, ⟨rfl, rfl, rfl⟩, rfl, rfl, List.nodup_nil⟩
/-- {}, to be a dict of the kind that is wanted -/
def tDNewK : TE := fun _ H Q => ∀ p, H p = none → Q (.ref p) (upd H p (.dK []))
def tDNewT : TE := fun _ H Q => ∀ p, H p = none → Q (.ref p) (upd H p (.dT []))
section
variable {X : Cx} {pos : Pos}
theorem pe_dnewT : PE X (.Dict [] [] pos) tDNewT := fun pins s σ H Q I h =>
  wpAny_Dict_empty ⟨.ref s.heap.objs.size, _, I.laid (a := s.heap.objs.size) (o := .dT []) (t' := s.toks) (fun _ _ q => Heap.get?_push_of_some _ q) (Nat.le_refl _) (dt_empty s.heap I.big), rfl, h _ (I.hok.fresh (Nat.le_refl _))⟩
end

/-- the pairs of a display, from the left -/
def tPairs : List (TE × TE) → St → Hp → (List (V × V) → Hp → Prop) → Prop
  | [], _, H, Q => Q [] H
  | (tk, tv) :: r, σ, H, Q => tk σ H fun x H1 => tv σ H1 fun y H2 => tPairs r σ H2 fun ps H3 => Q ((x, y) :: ps) H3
abbrev VV : List (V × V) → List (Value × Value) → Prop := Paired fun p q => RelV p.1 q.1 ∧ RelV p.2 q.2
def PPs (X : Cx) (pos : Pos) (keys : List (Option Expr)) (values : List Expr) (trs : List (TE × TE)) : Prop :=
  ∀ (pins : List (Addr × Obj)) (s : Shared) (σ : St) (H : Hp) (Q : List (V × V) → Hp → Prop), Inv X pins σ H s → tPairs trs σ H Q →
    wpAny (model X.prog X.w) X.A (evalPairs (pairTrees keys values X.env pos)) (fun vs s' => ∃ ps H', Inv X pins σ H' s' ∧ VV ps vs ∧ Q ps H') X.xe s

def mergeK (kvs more : List (Key × V)) : List (Key × V) := more.foldl (fun acc kv => putK acc kv.1 kv.2) kvs
/-- {k: v, ..} with keys ints and texts; the new dict stands empty while the pairs are made -/
def tDisp (trs : List (TE × TE)) : TE := fun σ H Q => ∀ p, H p = none → tPairs trs σ (upd H p (.dK [])) fun ps H2 => H2 p = some (.dK []) ∧ ∃ kvs : List (Key × V), ps = kvs.map (fun kv => (kV kv.1, kv.2)) ∧ kvs.length ≤ 15 ∧ Q (.ref p) (upd H2 p (.dK (mergeK [] kvs)))


/-! ### methods -/
/-- a method call o.m(e) of a built-in, with one argument: what must be seen of the text -/
structure M1 (X : Cx) (o : Expr) (m : Str) (apos : Pos) (e : Expr) (cpos : Pos) : Prop where
  base : attributeBase o m X.env (eval o X.env) = eval o X.env
  few : ((backTo cpos (starEach [e] X.env)).all (fun x => !x.1) && (backToKw cpos (keywordEach [] X.env)).all (fun x => x.1.isSome)
    && decide (([e] : List Expr).length + ([] : List Keyword).length + (if ([] : List Keyword).isEmpty then 0 else 1) < 30)) = true
  line : (apos.endLine == cpos.line) = true
  trees : backTo cpos (starEach [e] X.env) = [(false, eval e X.env)]
structure M2 (X : Cx) (o : Expr) (m : Str) (apos : Pos) (e f : Expr) (cpos : Pos) : Prop where
  base : attributeBase o m X.env (eval o X.env) = eval o X.env
  few : ((backTo cpos (starEach [e, f] X.env)).all (fun x => !x.1) && (backToKw cpos (keywordEach [] X.env)).all (fun x => x.1.isSome)
    && decide (([e, f] : List Expr).length + ([] : List Keyword).length + (if ([] : List Keyword).isEmpty then 0 else 1) < 30)) = true
  line : (apos.endLine == cpos.line) = true
  trees : backTo cpos (starEach [e, f] X.env) = [(false, eval e X.env), (false, eval f X.env)]

/-- a is a dict, whatever its keys -/
def IsD (H : Hp) (a : Addr) : Prop := (∃ kvs, Rd H a (.dK kvs)) ∨ ∃ kvs, Rd H a (.dT kvs)

section
variable {X : Cx} {pins : List (Addr × Obj)} {σ : St} {H : Hp} {s : Shared} {a : Addr} {y d : V} {u r : Value} {o : Option V} {A : Around} {E : Value → Shared → Prop}
end

def tDGet1 (td ty : TE) : TE := fun σ H Q => td σ H fun x H1 => ∃ a, x = .ref a ∧ IsD H1 a ∧ ty σ H1 fun y H2 => ∃ o, DGet H2 a y o ∧ Q (o.getD .non) H2
def tDGet2 (td ty tx : TE) : TE := fun σ H Q => td σ H fun x H1 => ∃ a, x = .ref a ∧ IsD H1 a ∧ ty σ H1 fun y H2 => tx σ H2 fun z H3 => ∃ o, DGet H3 a y o ∧ Q (o.getD z) H3
/-- d.pop(k): there; d.pop(k, x): there or not -/
def tDPop1 (td ty : TE) : TE := fun σ H Q => td σ H fun x H1 => ∃ a, x = .ref a ∧ IsD H1 a ∧ ty σ H1 fun y H2 => ∃ kvs k v, H2 a = some (.dK kvs) ∧ y = kV k ∧ valV kvs k = some v ∧ Q v (upd H2 a (.dK (dropK kvs k)))
def tDPop2 (td ty tx : TE) : TE := fun σ H Q => td σ H fun x H1 => ∃ a, x = .ref a ∧ IsD H1 a ∧ ty σ H1 fun y H2 => tx σ H2 fun z H3 => ∃ kvs k, H3 a = some (.dK kvs) ∧ y = kV k ∧
  (∀ v, valV kvs k = some v → Q v (upd H3 a (.dK (dropK kvs k)))) ∧ (valV kvs k = none → Q z H3)
section
variable {X : Cx} {o e f : Expr} {apos cpos : Pos} {td ty tx : TE}
end

/-! ### dict(d): a copy -/
section
variable {X : Cx} {pins : List (Addr × Obj)} {σ : St} {H : Hp} {s : Shared} {a : Addr} {kvs : List (Key × V)} {A : Around} {E : Value → Shared → Prop}
end


section
variable {X : Cx} {pins : List (Addr × Obj)} {σ : St} {H : Hp} {s : Shared} {a : Addr} {y : V} {u : Value} {A : Around} {E : Value → Shared → Prop}
end
end L2

namespace Att
open PySem PySem.W PySem.Calls PyProof.Rows

/-! ### the script -/
theorem ints_of_wellAll {P : Params} {h : Heap} : ∀ (ns : List Int) (vs : List Value), WellAll P h vs (ns.map WData.int) → IntsAre vs ns := by
  intro ns
  induction ns with
  | nil =>
    intro vs w
    rw [List.map_nil] at w
    cases w
    exact .nil
  | cons n ns ih =>
    intro vs w
    rw [List.map_cons] at w
    cases w with
    | cons a b =>
      cases a
      exact .cons _ _ (ih _ b)

theorem script_of {l : OpenLaw} {n : Nat} (hn : l.most = some n) {P : Params} {h : Heap} {args : List WData} {vals : List Value}
    (hpre : l.row.toRowW.claim.pre args = true) (hwl : WellAll P h vals args) :
    ∃ a vs ns, vals = [Value.ref a] ∧ args = [WData.list (ns.map WData.int)] ∧ h.get? a = some { cls := .type "list", data := .seq vs.toArray } ∧ IntsAre vs ns ∧ ns.length ≤ n := by
  have hsh : WShape.hasAll [] args [.list .int] = true := (pre_splitW hpre).1
  have hc : l.pre.holds [] { args := args } = true := (pre_splitW hpre).2
  obtain ⟨d, r, rfl, h1, h2⟩ := hasAllW_cons hsh
  obtain rfl := hasAllW_nil h2
  obtain ⟨xs, rfl, h3⟩ := hasW_list h1
  obtain ⟨ns, rfl⟩ := items_int h3
  have hlen : ns.length ≤ n := by
    unfold OpenLaw.pre at hc
    have h4 : (WTm.not (.lt (.lit (.int (n : Int))) (.len (.arg 0)))).holds [] { args := [.list (ns.map .int)] } = true := by
      have h4 := (holds_andW hc).1
      rw [hn] at h4
      exact h4
    have h5 := condW_of h4 (w_not (w_lt w_lit (w_len_list (w_arg rfl))))
    rw [List.length_map] at h5
    refine Nat.le_of_not_lt fun q => ?_
    have q' : (n : Int) < ((ns.length : Nat) : Int) := by omega
    first
      | (rw [decide_eq_true q'] at h5; exact absurd h5 (by decide))
      | (simp at h5; omega)
  cases hwl with
  | cons w1 w2 =>
    cases w2
    cases w1 with
    | list ho hall => exact ⟨_, _, ns, rfl, rfl, ho, ints_of_wellAll ns _ hall, hlen⟩

theorem post_true (l : OpenLaw) (args : List WData) : l.row.toRowW.claim.post args (.bool true) args = true :=
  postW_of (r := l.row.toRowW) (X := (true == true))
    (show WShape.has [] (.bool true) .bool = true by first | rfl | decide | simp [WShape.has, WShape.arms, WShape.armsAll])
    (show (WTm.eq .res (.lit (.bool true))).value [] { args := args, res := some (.bool true), after := args } = some (.bool (true == true)) from w_eq_bool (w_res rfl) w_lit) rfl

/-! ### the attachment: holds_open's last premise (the goal 'hc' behind k_head) from a wpAny of the law's body -/

/-- the same from a codeAny of the CALL (for a layer whose function contracts speak of calls) -/
theorem attach_call {l : OpenLaw} {n : Nat} {q : Program} {loose : List Str} {XP : (Str → Option Value) → Heap → Prop} {YP : World → Heap → Prop} {d : DefRec}
    (hn : l.most = some n) (hdf : d.params.defaults = [])
    (call : ∀ (w : World) (s₀ s₁ : Shared) (mg mb : Str → Option Value) (fa : Addr) (o : Obj) (pm cd doc : Value) (a : Addr) (vs : List Value) (ns : List Int),
      Ground q loose [] XP w s₀ mg mb s₁.heap → YP w s₁.heap →
      s₁.heap.get? fa = some o → o.data = .func (docDef d.name d.params d.body d.scope pm cd doc) → s₁.heap.CodeRec cd d.name → mg d.name = some (.ref fa) →
      s₁.heap.get? a = some { cls := .type "list", data := .seq vs.toArray } → IntsAre vs ns → ns.length ≤ n → s₁.gens = #[] →
      codeAny (model l.prog w) callerA (.call (.ref fa) ⟨[.ref a], []⟩) (fun r s' => r = .ok (.ret (.bool true)) ∧ OldK s₁.heap s'.heap ∧ s'.os = s₁.os ∧ AllBare s'.gens) s₁) :
    WalkO q loose XP YP l.row.toRowW d [] (fun f vs => PySem.call f vs) := by
  intro w s₀ s₁ mg mb G Y fa o pm cd doc dV kV ho hd hcd hD hmg hg args vals as hpre hlay hrd hwl hlo
  obtain rfl : dV = .none := Dflts.none hD hdf
  obtain rfl : kV = .none := Dflts.noKw hD
  obtain ⟨a, vs, ns, rfl, rfl, hobj, hints, hlen⟩ := script_of hn hpre hwl
  refine enter_call (codeAny_mono (call w s₀ s₁ mg mb fa o pm cd doc a vs ns G Y ho (fd_plain hd) hcd hmg hobj hints hlen hg) fun r s' hq => ?_)
  obtain ⟨rfl, h2, h3, h4⟩ := hq
  exact ⟨.inl ⟨.bool true, .bool true, [], rfl, fun _ => rfl, .bool true, post_true l _, fun _ => ⟨List.Pairwise.nil, fun _ hm => (nomatch hm)⟩⟩, h2, h3, h4⟩


/-! ### rules over ANY heap (no ledger) from facts about the written part K: the library's own take a ledger (News) for what they write -/
section
variable {prog : Program} {w : World} {A : Around} {E : Value → Shared → Prop} {s : Shared} {K : Frag}





/-! the whole heap as the ledger: makes every rule that writes through a ledger a rule over any heap -/
def noObjs (h : Heap) : Heap := { h with objs := #[] }
def ledger (h : Heap) (L d : Addr) : List (Addr × Obj) := (List.range h.objs.size).filterMap fun a => if a = L ∨ a = d then none else (h.get? a).map fun o => (a, o)

end
end Att

namespace L2
open PySem PySem.Spec PyProof.Rows

theorem vals_ints : ∀ {vs : List Value} {ns : List Int}, IntsAre vs ns → Vals (ns.map V.int) vs
  | _, _, .nil => .nil
  | _, _, .cons n t h => .cons ⟨t, rfl⟩ (vals_ints h)

/-- nothing is tracked but the script, known to the object (or it is an object of the module) -/
def Only (H : Hp) : Prop := ∀ b, H b = none ∨ ∃ o xs, H b = some (.frz o (.lst xs))

/-- THE HEAD: the law's promise, at the heap behind the top. F, the promise of the law's def, may use that base is part of the heap (so K.In base, base.Ns mainGlobals mg stand in Mod) -/
theorem law_call {P : Program} {w : World} {K : PySem.W.Frag} {mg mb : Str → Option Value} {CX : CXT} {k : Nat} {fa a : Addr} {fd : FuncData} {x : Str} {sp : Sp} {s₁ : Shared} {vs : List Value} {ns : List Int}
    (KX : K.In s₁.heap) (hns : s₁.heap.Ns mainGlobals mg) (hb : s₁.heap.Ns builtinsNs mb) (hbb : ∀ x : Str, x ≠ "__name__" → mb x = bootBuiltins x) (hlim : s₁.heap.NoLimit) (hg : s₁.gens = #[])
    (ha : s₁.heap.get? a = some { cls := .type "list", data := .seq vs.toArray }) (hi : IntsAre vs ns) (hl : ns.length ≤ sizeLine) (hr : Room k callerA)
    (F : ∀ base : Heap, K.In base → base.Ns mainGlobals mg → FnOk P w K mg base CX k fa fd [x] sp) (hbind : ∀ (s : Shared) (u : Value), BindsTo s fd ⟨[u], []⟩ [(x, u)])
    (hsp : ∀ H : Hp, Only H → SqL K H a (ns.map V.int) → sp [.ref a] H (fun v _ => v = .bl true) fun _ _ _ => False)
    (hCX : ∀ H e s', CX [] H s₁ (fun _ _ _ => False) e s' → False) :
    codeAny (model P w) callerA (.call (.ref fa) ⟨[.ref a], []⟩) (fun r s' => r = .ok (.ret (.bool true)) ∧ OldK s₁.heap s'.heap ∧ s'.os = s₁.os ∧ AllBare s'.gens) s₁ := by
  have rv := vals_ints hi
  have lenV := hi.length
  -- from an abstract heap in which nothing but the script may be tracked
  have core : ∀ H : Hp, Only H → SqL K H a (ns.map V.int) → HOk P w H s₁.heap → (∀ b, H b ≠ none → b = a) → (H a ≠ none → K.lookup a = none) →
      codeAny (model P w) callerA (.call (.ref fa) ⟨[.ref a], []⟩) (fun r s' => r = .ok (.ret (.bool true)) ∧ OldK s₁.heap s'.heap ∧ s'.os = s₁.os ∧ AllBare s'.gens) s₁ := by
    intro H hO hS hok hA hK
    have base_of : ∀ {b : Addr} {o : Obj}, s₁.heap.get? b = some o → H b = none → (hidT s₁.heap H).get? b = some o := fun e n => hidT_get e n
    have noA : ∀ {b : Addr} {o : Obj} {es : Array DictEntry} {ep : Nat}, s₁.heap.get? b = some o → o.data = .dict es ep → H b = none := fun {b o es ep} e d => by
      cases q : H b with
      | none => rfl
      | some u =>
        have e' : b = a := hA b (by rw [q]; simp)
        subst e'
        rw [ha] at e; cases e
        have d' : Data.seq vs.toArray _ = Data.dict es ep := d
        cases d'
    have nsK : ∀ {b : Addr} {m : Str → Option Value}, s₁.heap.Ns b m → (hidT s₁.heap H).Ns b m := fun {b m} ⟨o, es, ep, e, d, r⟩ => ⟨o, es, ep, base_of e (noA e d), d, r⟩
    have hKb : K.In (hidT s₁.heap H) := fun b o e => base_of (KX b o e) (by
      cases q : H b with
      | none => rfl
      | some u =>
        have e' : b = a := hA b (by rw [q]; simp)
        subst e'
        rw [hK (by rw [q]; simp)] at e; cases e)
    have hM : Mod K mg (hidT s₁.heap H) := ⟨hKb, nsK hns, ⟨mb, nsK hb, hbb⟩, let ⟨mc, h1, h2⟩ := hlim; ⟨mc, nsK h1, h2⟩⟩
    have e0 : Env0 P w K mg (hidT s₁.heap H) callerA [] s₁ H := ⟨rfl, hM, fun b o e => of_hidT e, Nat.le_of_eq (hidT_size _ _), trivial, fun b hb => absurd (show b ∈ ([] : List Addr) from hb) (by simp), hok, .of_eq hg⟩
    refine codeAny_mono ((F _ hKb (nsK hns)).run callerA [] s₁ H ⟨[.ref a], []⟩ [.ref a] [.ref a] _ _ hr e0 (hbind s₁ (.ref a)) (.cons rfl .nil) (hsp H hO hS)) fun r s' h => ?_
    cases r with
    | error e => exact (hCX H e s' h).elim
    | ok fl =>
      cases fl with
      | next => exact False.elim h
      | brk => exact False.elim h
      | cont => exact False.elim h
      | ret u =>
        obtain ⟨v, H', os, bare, un, hok', r', q⟩ := h
        have q' : v = .bl true := q
        subst q'
        obtain rfl : u = Value.bool true := r'
        refine ⟨rfl, OldK.of_keep fun b o e => ?_, os, bare⟩
        cases q : H b with
        | none => exact un.keep b o e q (by intro z; exact absurd (show b ∈ ([] : List Addr) from z) (by simp)) (by simp)
        | some u =>
          rcases hO b with z | ⟨ob, xs, z⟩
          · rw [q] at z; cases z
          · have z2 := un.frzs b ob _ z
            obtain ⟨e1, _⟩ := hok b _ z
            obtain ⟨e2, _⟩ := hok' b _ z2
            rw [e] at e1; cases e1
            exact e2
  cases hk : K.lookup a with
  | some o =>
    -- the script is one of the module's own objects
    have e := KX a o hk
    rw [ha] at e
    cases e
    refine core (fun _ => none) (fun _ => .inl rfl) (.inr ⟨_, vs.toArray, _, hk, rfl, rfl, rfl, by rw [List.size_toArray, lenV]; exact hl, by simpa using rv⟩) (fun b u z => by have z' : (none : Option HO) = some u := z; cases z') (fun b z => absurd rfl z) fun z => absurd rfl z
  | none =>
    refine core (fun b => if b = a then some (.frz { cls := .type "list", data := .seq vs.toArray } (.lst (ns.map V.int))) else none) (fun b => ?_) (.inl (.inr ⟨{ cls := .type "list", data := .seq vs.toArray }, if_pos rfl⟩)) (fun b u z => ?_) (fun b z => ?_) fun _ => hk
    · by_cases hb : b = a
      · exact .inr ⟨_, _, if_pos hb⟩
      · exact .inl (if_neg hb)
    · by_cases hb : b = a
      · have z' := (if_pos hb).symm.trans z
        cases z'
        subst hb
        exact ⟨ha, by rw [List.length_map]; exact hl, vs, _, rv, ha⟩
      · have z' := (if_neg hb).symm.trans z
        cases z'
    · by_cases hb : b = a
      · exact hb
      · exact absurd (if_neg hb) z
end L2

namespace L2
open PySem PySem.Spec PyProof.Rows

abbrev KOf {K : PySem.W.Frag} {h : Heap} (_ : K.In h) : PySem.W.Frag := K

/-- the goal that k_head leaves (case hc), from the law's promise. F gives the function object fd (K's own) once, then the promise over every base -/
theorem walk_of {l : PySem.W.OpenLaw} {n k : Nat} {q : Program} {loose : List Str} {XP : (Str → Option Value) → Heap → Prop} {YP : World → Heap → Prop} {d : DefRec} {K : Params → PySem.W.Frag} {CX : World → CXT} {sp : World → Sp} {x : Str}
    (hn : l.most = some n) (hn2 : n ≤ sizeLine) (hdf : d.params.defaults = []) (hr : Room k callerA)
    (hY : ∀ (w : World) (h : Heap), YP w h → (K w.params).In h)
    (F : ∀ (w : World) (mg : Str → Option Value) (fa : Addr) (h : Heap), (K w.params).In h → h.Ns mainGlobals mg → mg d.name = some (.ref fa) →
      ∃ fd : FuncData, (∀ (s : Shared) (u : Value), BindsTo s fd ⟨[u], []⟩ [(x, u)]) ∧
        ∀ base : Heap, (K w.params).In base → base.Ns mainGlobals mg → FnOk l.prog w (K w.params) mg base (CX w) k fa fd [x] (sp w))
    (hsp : ∀ (w : World) (H : Hp) (a : Addr) (ns : List Int), ns.length ≤ n → Only H → SqL (K w.params) H a (ns.map V.int) → sp w [.ref a] H (fun v _ => v = .bl true) fun _ _ _ => False)
    (hCX : ∀ (w : World) (H : Hp) (s : Shared) (e : Value) (s' : Shared), CX w [] H s (fun _ _ _ => False) e s' → False) :
    PySem.W.WalkO q loose XP YP l.row.toRowW d [] (fun f vs => PySem.call f vs) := by
  refine Att.attach_call hn hdf fun w s₀ s₁ mg mb fa o pm cd doc a vs ns G Y ho hd hcd hmg hobj hints hlen hg => ?_
  have KX := hY w _ Y
  obtain ⟨fd, hb, hF⟩ := F w mg fa _ KX G.T.g hmg
  exact law_call KX G.T.g G.T.b G.T.builtins G.T.nolimit hg hobj hints (Nat.le_trans hlen hn2) hr hF hb (fun H hO hS => hsp w H a ns hlen hO hS) fun H e s' => hCX w H s₁ e s'
end L2


/-! SHORT WORDS over the layer: a def of the text, its body, what a loop and a test want. -/
namespace L2
open PySem PySem.Spec PyProof.Rows

/-! ### the text by places -/
/-- the j-th statement of a class's body -/
def inClass (s : Stmt) (j : Nat) : Stmt := match s with
  | .ClassDef _ _ _ body _ _ _ _ _ _ _ => body.getD j (.Pass ⟨0, 0, 0, 0⟩)
  | _ => .Pass ⟨0, 0, 0, 0⟩
def defArgs (s : Stmt) : Arguments := match s with
  | .FunctionDef _ a _ _ _ _ _ _ _ _ => a
  | _ => { posonlyargs := [], args := [], vararg := none, kwonlyargs := [], kw_defaults := [], kwarg := none, defaults := [] }
def defBody (s : Stmt) : List Stmt := match s with
  | .FunctionDef _ _ b _ _ _ _ _ _ _ => b
  | _ => []
def defScope (s : Stmt) : Scope := match s with
  | .FunctionDef _ _ _ _ _ _ sc _ _ _ => sc
  | _ => { kind := .function, names := [], isGenerator := false, isCoroutine := false }

/-! ### no exception leaves a def -/
abbrev CX0 : CXT := fun _ _ _ _ _ _ => False
abbrev E0 : XK := fun _ _ _ => False
theorem pass0 {X : Cx} : Passes CX0 X E0 := fun _ _ _ _ _ _ _ h => h.elim

/-! ### a def (or method) of the text as it stands behind the top -/
structure Fun (K : PySem.W.Frag) (x qual : Str) (st : Stmt) (f : Addr) (fd : FuncData) : Prop where
  ex : ∃ (oc : Value) (od : Option Addr) (kV doc pm : Value) (an : Option Addr) (cdv ct : Value) (osl : Array (Option Value)),
    fd = PySem.W.fnOf x qual (defArgs st) (defBody st) (defScope st) .none kV doc pm an cdv ct ∧ K.lookup f = some ⟨oc, od, .func fd, osl⟩ ∧ PySem.W.codeIn K cdv qual = true
  kp : PySem.W.keepIn K (.ref f) = true
section
variable {P : Program} {w : World} {K : PySem.W.Frag} {mg : Str → Option Value} {base : Heap}
/-- THE RULE for a def: its body as a term of rules, and the reading of that term -/
theorem Fun.ok {x qual : Str} {st : Stmt} {f : Addr} {fd : FuncData} {N ps : List Str} {k : Nat} {sp : Sp} (F : Fun K x qual st f fd) (S : FnScope N ps (defScope st)) (len : ∀ vs H Q E, sp vs H Q E → vs.length = ps.length)
    (hbody : ∀ (cdv : Value) (A : Around) (outer : List Env) (s : Shared) (H : Hp) (vs : List V) (Q : VK) (E : XK), Room k (A.deeper (envOfC qual (defScope st) s.heap.objs.size f cdv)) → sp vs H Q E →
      ∃ t, PSs (cxOf CX0 P w K mg base N qual (defScope st) f cdv A outer s H E).nox (defBody st) t ∧ t { nx := fun _ H' => Q .non H', rt := Q } (start N vs) H) : FnOk P w K mg base CX0 (k + 1) f fd ps sp := by
  obtain ⟨oc, od, kV, doc, pm, an, cdv, ct, osl, rfl, lk, hcd⟩ := F.ex
  refine fn_of lk hcd S len fun A outer s H vs Q E hr hsp => ?_
  obtain ⟨t, h, q⟩ := hbody cdv A outer s H vs Q E hr hsp
  exact ⟨t, h.nox, q⟩
/-- how its arguments bind (no defaults): h is «fun _ _ _ _ _ _ us hl => match us, hl with | [_, _], _ => rfl», one _ a parameter -/
theorem Fun.binds {x qual : Str} {st : Stmt} {f : Addr} {fd : FuncData} {ps : List Str} (F : Fun K x qual st f fd)
    (h : ∀ (kV doc pm : Value) (an : Option Addr) (cdv ct : Value) (us : List Value), us.length = ps.length → bindArgs (PySem.W.fnOf x qual (defArgs st) (defBody st) (defScope st) .none kV doc pm an cdv ct) ⟨us, []⟩ = pure (ps.zip us)) : Binds K fd ps [] := by
  obtain ⟨oc, od, kV, doc, pm, an, cdv, ct, osl, rfl, lk, hcd⟩ := F.ex
  exact .all (h kV doc pm an cdv ct)
theorem fun_mk {x qual : Str} {st : Stmt} {f : Addr} {oc : Value} {od an : Option Addr} {osl : Array (Option Value)} {kV doc pm cdv ct : Value} (l : K.lookup f = some ⟨oc, od, .func (PySem.W.fnOf x qual (defArgs st) (defBody st) (defScope st) .none kV doc pm an cdv ct), osl⟩)
    (c : PySem.W.codeIn K cdv qual = true) (k : PySem.W.keepIn K (.ref f) = true) : Fun K x qual st f (PySem.W.fnOf x qual (defArgs st) (defBody st) (defScope st) .none kV doc pm an cdv ct) := ⟨⟨oc, od, kV, doc, pm, an, cdv, ct, osl, rfl, l, c⟩, k⟩
end

/-! ### expressions in short: the name that stands in the i-th slot -/
section
variable {X : Cx}
end

/-! ### tests -/

/-! ### heaps -/
/-- all that was tracked is as it was -/
def Same (H H' : Hp) : Prop := ∀ b o, H b = some o → H' b = some o
theorem Same.refl (H : Hp) : Same H H := fun _ _ h => h
theorem Same.trans {H H1 H2 : Hp} (a : Same H H1) (b : Same H1 H2) : Same H H2 := fun c o h => b c o (a c o h)

end L2

namespace DL
open PySem PySem.Spec PyProof.Rows L2

/-! ### the data layer: values as data, lists that are under way as owned objects -/
/-- an owned object -/
inductive OO where
  | lst (ds : List PyData)
  /-- a dict whose keys are tuples: its keys -/
  | dct (ks : List (List Key))
  /-- a dict whose keys are tuples, with its values -/
  | dtv (kvs : List (List Key × PyData))
  /-- a dict whose keys are ints and texts, with its values -/
  | dkv (kvs : List (Key × PyData))
  /-- an object of which a fact of the heap is known -/
  | ext (φ : Heap → Prop)
abbrev Mp := Addr → Option OO
def mset (M : Mp) (a : Addr) (o : OO) : Mp := fun b => if b = a then some o else M b
def mdel (M : Mp) (a : Addr) : Mp := fun b => if b = a then none else M b
theorem mset_same {M : Mp} {a : Addr} {o : OO} : mset M a o a = some o := by unfold mset; rw [if_pos rfl]
theorem mset_ne {M : Mp} {a b : Addr} {o : OO} (h : b ≠ a) : mset M a o b = M b := by unfold mset; rw [if_neg h]
theorem mset_mset {M : Mp} {a : Addr} {o u : OO} : mset (mset M a o) a u = mset M a u := by
  funext b; unfold mset; split <;> rfl
theorem mdel_same {M : Mp} {a : Addr} : mdel M a a = none := by unfold mdel; rw [if_pos rfl]
theorem mdel_ne {M : Mp} {a b : Addr} (h : b ≠ a) : mdel M a b = M b := by unfold mdel; rw [if_neg h]

def kD : Key → PyData
  | .inl i => .int i
  | .inr x => .str x

def KTu (K : PySem.W.Frag) (a : Addr) (xs : List V) : Prop :=
  ∃ (o : Obj) (its : Array Value) (n : Nat), K.lookup a = some o ∧ o.cls = .type "tuple" ∧ o.data = .seq its n ∧ its.size ≤ sizeLine ∧ Vals xs its.toList
def KLs (K : PySem.W.Frag) (a : Addr) (xs : List V) : Prop :=
  ∃ (o : Obj) (its : Array Value) (n : Nat), K.lookup a = some o ∧ o.cls = .type "list" ∧ o.dict = none ∧ o.data = .seq its n ∧ its.size ≤ sizeLine ∧ Vals xs its.toList
def TupAt (K : PySem.W.Frag) (M : Mp) (H : Hp) (a : Addr) (xs : List V) : Prop := (M a = none ∧ Rd H a (.tup xs)) ∨ KTu K a xs
def LstAt (K : PySem.W.Frag) (M : Mp) (H : Hp) (a : Addr) (xs : List V) : Prop := (M a = none ∧ Rd H a (.lst xs)) ∨ KLs K a xs
theorem TupAt.sq {K : PySem.W.Frag} {M : Mp} {H : Hp} {a : Addr} {xs : List V} (h : TupAt K M H a xs) : SqT K H a xs := by
  rcases h with ⟨_, h⟩ | h
  · exact .inl h
  · exact .inr h
theorem LstAt.sq {K : PySem.W.Frag} {M : Mp} {H : Hp} {a : Addr} {xs : List V} (h : LstAt K M H a xs) : SqL K H a xs := by
  rcases h with ⟨_, h⟩ | h
  · exact .inl h
  · exact .inr h

mutual
inductive Dt (K : PySem.W.Frag) (M : Mp) (H : Hp) : V → PyData → Prop
  | non : Dt K M H .non .none
  | bl (b : Bool) : Dt K M H (.bl b) (.bool b)
  | int (i : Int) : Dt K M H (.int i) (.int i)
  | str (x : Str) : Dt K M H (.str x) (.str x)
  | tup {a : Addr} {xs : List V} {ds : List PyData} : TupAt K M H a xs → Dts K M H xs ds → Dt K M H (.ref a) (.tuple ds)
  | lst {a : Addr} {xs : List V} {ds : List PyData} : LstAt K M H a xs → Dts K M H xs ds → Dt K M H (.ref a) (.list ds)
  | dK {a : Addr} {kvs : List (Key × V)} {ds : List PyData} : M a = none → H a = some (.dK kvs) → Dts K M H (kvs.map (·.2)) ds → Dt K M H (.ref a) (.dict ((kvs.map fun kv => kD kv.1).zip ds))
  | dT {a : Addr} {kvs : List (List Key × V)} {ds : List PyData} : M a = none → H a = some (.dT kvs) → Dts K M H (kvs.map (·.2)) ds → Dt K M H (.ref a) (.dict ((kvs.map fun kv => PyData.tuple (kv.1.map kD)).zip ds))
  | dX {a b : Addr} {φ : Heap → Prop} {v : V} {dk d : PyData} : M a = none → H a = some (.ext φ) → (a == sysModules) = false →
      (∀ h, φ h → ∃ o es n u, h.get? a = some o ∧ o.cls = .type "dict" ∧ o.data = .dict es n ∧ es.toList.map (·.key) = [.ref b] ∧ es.toList.map (·.val) = [u] ∧ RelV v u) → Dt K M H (.ref b) dk → Dt K M H v d → Dt K M H (.ref a) (.dict [(dk, d)])
inductive Dts (K : PySem.W.Frag) (M : Mp) (H : Hp) : List V → List PyData → Prop
  | nil : Dts K M H [] []
  | cons {x : V} {xs : List V} {d : PyData} {ds : List PyData} : Dt K M H x d → Dts K M H xs ds → Dts K M H (x :: xs) (d :: ds)
end

/-- what is not owned stays, and is not owned later -/
structure Step (M : Mp) (H : Hp) (M' : Mp) (H' : Hp) : Prop where
  keep : ∀ b o, M b = none → H b = some o → H' b = some o
  free : ∀ b o, M b = none → H b = some o → M' b = none
theorem Step.refl {M : Mp} {H : Hp} : Step M H M H := ⟨fun _ _ _ h => h, fun _ _ h _ => h⟩
theorem Step.trans {M M1 M2 : Mp} {H H1 H2 : Hp} (a : Step M H M1 H1) (b : Step M1 H1 M2 H2) : Step M H M2 H2 :=
  ⟨fun c o h1 h2 => b.keep c o (a.free c o h1 h2) (a.keep c o h1 h2), fun c o h1 h2 => b.free c o (a.free c o h1 h2) (a.keep c o h1 h2)⟩
section
variable {K : PySem.W.Frag} {M M' : Mp} {H H' : Hp}
theorem rd_step {a : Addr} {u : HO} (st : Step M H M' H') (hm : M a = none) (h : Rd H a u) : M' a = none ∧ Rd H' a u := by
  rcases h with h | ⟨o, h⟩
  · exact ⟨st.free _ _ hm h, .inl (st.keep _ _ hm h)⟩
  · exact ⟨st.free _ _ hm h, .inr ⟨o, st.keep _ _ hm h⟩⟩
theorem TupAt.step {a : Addr} {xs : List V} (h : TupAt K M H a xs) (st : Step M H M' H') : TupAt K M' H' a xs := by
  rcases h with ⟨h1, h2⟩ | h
  · exact .inl (rd_step st h1 h2)
  · exact .inr h
theorem LstAt.step {a : Addr} {xs : List V} (h : LstAt K M H a xs) (st : Step M H M' H') : LstAt K M' H' a xs := by
  rcases h with ⟨h1, h2⟩ | h
  · exact .inl (rd_step st h1 h2)
  · exact .inr h
mutual
theorem Dt.step (st : Step M H M' H') : ∀ {v : V} {d : PyData}, Dt K M H v d → Dt K M' H' v d
  | _, _, .non => .non
  | _, _, .bl b => .bl b
  | _, _, .int i => .int i
  | _, _, .str x => .str x
  | _, _, .tup h1 h2 => .tup (h1.step st) (Dts.step st h2)
  | _, _, .lst h1 h2 => .lst (h1.step st) (Dts.step st h2)
  | _, _, .dK h0 h1 h2 => .dK (st.free _ _ h0 h1) (st.keep _ _ h0 h1) (Dts.step st h2)
  | _, _, .dT h0 h1 h2 => .dT (st.free _ _ h0 h1) (st.keep _ _ h0 h1) (Dts.step st h2)
  | _, _, .dX h0 h1 h2 h3 h4 h5 => .dX (st.free _ _ h0 h1) (st.keep _ _ h0 h1) h2 h3 (Dt.step st h4) (Dt.step st h5)
theorem Dts.step (st : Step M H M' H') : ∀ {vs : List V} {ds : List PyData}, Dts K M H vs ds → Dts K M' H' vs ds
  | _, _, .nil => .nil
  | _, _, .cons h1 h2 => .cons (Dt.step st h1) (Dts.step st h2)
end
theorem Dts.length : ∀ {vs : List V} {ds : List PyData}, Dts K M H vs ds → vs.length = ds.length
  | _, _, .nil => rfl
  | _, _, .cons _ h => by rw [List.length_cons, List.length_cons, Dts.length h]
theorem Dts.get : ∀ {vs : List V} {ds : List PyData} {i : Nat} {d : PyData}, Dts K M H vs ds → ds[i]? = some d → ∃ v, vs[i]? = some v ∧ Dt K M H v d
  | _, _, _, _, .nil, e => by simp at e
  | _, _, 0, _, .cons h _, e => by simp at e; subst e; exact ⟨_, rfl, h⟩
  | _, _, i + 1, d, .cons _ h, e => by
    obtain ⟨v, h1, h2⟩ := Dts.get (i := i) (d := d) h (by simpa using e)
    exact ⟨v, by simpa using h1, h2⟩
theorem Dts.getV : ∀ {vs : List V} {ds : List PyData} {i : Nat} {v : V}, Dts K M H vs ds → vs[i]? = some v → ∃ d, ds[i]? = some d ∧ Dt K M H v d
  | _, _, _, _, .nil, e => by simp at e
  | _, _, 0, _, .cons h _, e => by simp at e; subst e; exact ⟨_, rfl, h⟩
  | _, _, i + 1, v, .cons _ h, e => by
    obtain ⟨d, h1, h2⟩ := Dts.getV (i := i) (v := v) h (by simpa using e)
    exact ⟨d, by simpa using h1, h2⟩
theorem Dts.append : ∀ {vs ws : List V} {ds es : List PyData}, Dts K M H vs ds → Dts K M H ws es → Dts K M H (vs ++ ws) (ds ++ es)
  | _, _, _, _, .nil, h => h
  | _, _, _, _, .cons h1 h2, h => .cons h1 (Dts.append h2 h)
theorem Dts.take : ∀ {vs : List V} {ds : List PyData} (n : Nat), Dts K M H vs ds → Dts K M H (vs.take n) (ds.take n)
  | _, _, 0, _ => .nil
  | _, _, _ + 1, .nil => .nil
  | _, _, n + 1, .cons h1 h2 => .cons h1 (Dts.take n h2)
theorem Dts.drop : ∀ {vs : List V} {ds : List PyData} (n : Nat), Dts K M H vs ds → Dts K M H (vs.drop n) (ds.drop n)
  | _, _, 0, h => h
  | _, _, _ + 1, .nil => .nil
  | _, _, n + 1, .cons _ h2 => Dts.drop n h2
theorem Dts.set {v : V} {d : PyData} (h : Dt K M H v d) : ∀ {vs : List V} {ds : List PyData} (i : Nat), Dts K M H vs ds → Dts K M H (vs.set i v) (ds.set i d)
  | _, _, _, .nil => .nil
  | _, _, 0, .cons _ t => .cons h t
  | _, _, i + 1, .cons q t => .cons q (Dts.set h i t)
theorem Dts.ints : ∀ (ns : List Int), Dts K M H (ns.map V.int) (ns.map PyData.int)
  | [] => .nil
  | n :: ns => .cons (.int n) (Dts.ints ns)
theorem ofDts_ints : ∀ {vs : List V} {ns : List Int}, Dts K M H vs (ns.map PyData.int) → vs = ns.map V.int
  | vs, [], h => by
    rw [List.map_nil] at h
    cases h
    rfl
  | vs, n :: ns, h => by
    rw [List.map_cons] at h
    cases h with
    | cons h1 h2 =>
      cases h1
      rw [ofDts_ints h2, List.map_cons]
/-- an owned object is held -/
def OOk (K : PySem.W.Frag) (M : Mp) (H : Hp) (a : Addr) : OO → Prop
  | .lst ds => ∃ vs, H a = some (.lst vs) ∧ Dts K M H vs ds
  | .dct ks => ∃ kvs, H a = some (.dT kvs) ∧ kvs.map (·.1) = ks
  | .dtv ps => ∃ kvs, H a = some (.dT kvs) ∧ kvs.map (·.1) = ps.map (·.1) ∧ Dts K M H (kvs.map (·.2)) (ps.map (·.2))
  | .dkv ps => ∃ kvs, H a = some (.dK kvs) ∧ kvs.map (·.1) = ps.map (·.1) ∧ Dts K M H (kvs.map (·.2)) (ps.map (·.2))
  | .ext φ => H a = some (.ext φ)
theorem OOk.step {a : Addr} {o : OO} (h : OOk K M H a o) (st : Step M H M' H') (e : ∀ u, H a = some u → H' a = some u) : OOk K M' H' a o := by
  cases o with
  | lst ds => obtain ⟨vs, e1, e2⟩ := h; exact ⟨vs, e _ e1, e2.step st⟩
  | dct ks => obtain ⟨vs, e1, e2⟩ := h; exact ⟨vs, e _ e1, e2⟩
  | dtv ps => obtain ⟨vs, e1, e2, e3⟩ := h; exact ⟨vs, e _ e1, e2, e3.step st⟩
  | dkv ps => obtain ⟨vs, e1, e2, e3⟩ := h; exact ⟨vs, e _ e1, e2, e3.step st⟩
  | ext φ => exact e _ h
theorem OOk.some {a : Addr} {o : OO} (h : OOk K M H a o) : ∃ u, H a = some u := by
  cases o with
  | lst ds => obtain ⟨vs, e1, _⟩ := h; exact ⟨_, e1⟩
  | dct ks => obtain ⟨vs, e1, _⟩ := h; exact ⟨_, e1⟩
  | dtv ps => obtain ⟨vs, e1, _⟩ := h; exact ⟨_, e1⟩
  | dkv ps => obtain ⟨vs, e1, _⟩ := h; exact ⟨_, e1⟩
  | ext φ => exact ⟨_, h⟩
/-- the owned objects are held -/
structure DRel (K : PySem.W.Frag) (M : Mp) (H : Hp) : Prop where
  ok : ∀ a o, M a = some o → OOk K M H a o
theorem DRel.ls (r : DRel K M H) (a : Addr) (ds : List PyData) (h : M a = some (.lst ds)) : ∃ vs, H a = some (.lst vs) ∧ Dts K M H vs ds := r.ok a _ h
theorem DRel.dc (r : DRel K M H) (a : Addr) (ks : List (List Key)) (h : M a = some (.dct ks)) : ∃ kvs, H a = some (.dT kvs) ∧ kvs.map (·.1) = ks := r.ok a _ h
theorem DRel.tracked (r : DRel K M H) {a : Addr} (h : H a = none) : M a = none := by
  cases q : M a with
  | none => rfl
  | some o =>
    obtain ⟨u, e⟩ := (r.ok a o q).some
    rw [h] at e
    cases e
theorem Step.new {p : Addr} {o : HO} (h : H p = none) : Step M H M (upd H p o) :=
  ⟨fun b u _ e => by rw [upd_ne (ne_of_none e h)]; exact e, fun _ _ h _ => h⟩
theorem DRel.step_same (r : DRel K M H) (st : Step M H M H') (hk : ∀ a u, M a ≠ none → H a = some u → H' a = some u) : DRel K M H' :=
  ⟨fun a o e => (r.ok a o e).step st fun u hu => hk a u (by rw [e]; simp) hu⟩
theorem DRel.new (r : DRel K M H) {p : Addr} {o : HO} (h : H p = none) : DRel K M (upd H p o) :=
  r.step_same (Step.new h) fun a vs _ e => by rw [upd_ne (ne_of_none e h)]; exact e
theorem Step.ownNew {p : Addr} {o : HO} {q : OO} (h : H p = none) : Step M H (mset M p q) (upd H p o) :=
  ⟨fun b u _ e => by rw [upd_ne (ne_of_none e h)]; exact e, fun b u hm e => by rw [mset_ne (ne_of_none e h)]; exact hm⟩
theorem Step.ownPut {p : Addr} {o : HO} {q q' : OO} (h : M p = some q) : Step M H (mset M p q') (upd H p o) := by
  have ne : ∀ b, M b = none → b ≠ p := fun b hb e => by rw [e, h] at hb; cases hb
  exact ⟨fun b u hb e => by rw [upd_ne (ne b hb)]; exact e, fun b u hb e => by rw [mset_ne (ne b hb)]; exact hb⟩
theorem DRel.ownAny (r : DRel K M H) {p : Addr} {u : HO} {o : OO} (st : Step M H (mset M p o) (upd H p u)) (h : OOk K (mset M p o) (upd H p u) p o) : DRel K (mset M p o) (upd H p u) := by
  refine ⟨fun a q e => ?_⟩
  by_cases ha : a = p
  · subst ha
    rw [mset_same] at e
    cases e
    exact h
  · rw [mset_ne ha] at e
    exact (r.ok a q e).step st fun v hv => by rw [upd_ne ha]; exact hv
theorem DRel.ownSet (r : DRel K M H) {p : Addr} {vs : List V} {ds : List PyData} (st : Step M H (mset M p (.lst ds)) (upd H p (.lst vs))) (hv : Dts K M H vs ds) :
    DRel K (mset M p (.lst ds)) (upd H p (.lst vs)) := r.ownAny st ⟨vs, upd_same, hv.step st⟩
theorem DRel.ownDct (r : DRel K M H) {p : Addr} {kvs : List (List Key × V)} {ks : List (List Key)} (st : Step M H (mset M p (.dct ks)) (upd H p (.dT kvs))) (hv : kvs.map (·.1) = ks) :
    DRel K (mset M p (.dct ks)) (upd H p (.dT kvs)) := r.ownAny st ⟨kvs, upd_same, hv⟩
theorem Step.frz {p : Addr} : Step M H (mdel M p) H :=
  ⟨fun _ _ _ h => h, fun b o hb _ => by unfold mdel; split <;> first | rfl | exact hb⟩
theorem DRel.frz (r : DRel K M H) {p : Addr} : DRel K (mdel M p) H := by
  refine ⟨fun a o e => ?_⟩
  have hne : a ≠ p := fun z => by rw [z, mdel_same] at e; cases e
  rw [mdel_ne hne] at e
  exact (r.ok a o e).step Step.frz fun _ h => h

/-- a value of the data layer: data; the address of an owned object; a built-in type -/
inductive DV where
  | dat (d : PyData)
  | own (a : Addr)
  | ty (n : String)
def VRel (K : PySem.W.Frag) (M : Mp) (H : Hp) (v : V) : DV → Prop
  | .dat d => Dt K M H v d
  | .own a => v = .ref a
  | .ty n => v = .ty n
theorem VRel.step {v : V} {x : DV} (h : VRel K M H v x) (st : Step M H M' H') : VRel K M' H' v x := by
  cases x with
  | dat d => exact Dt.step st h
  | own a => exact h
  | ty n => exact h
abbrev VRels (K : PySem.W.Frag) (M : Mp) (H : Hp) : List V → List DV → Prop := Paired (VRel K M H)
theorem VRels.step {vs : List V} {xs : List DV} (h : VRels K M H vs xs) (st : Step M H M' H') : VRels K M' H' vs xs := Paired.mapP h fun _ _ q => VRel.step q st
theorem VRels.dats : ∀ {vs : List V} {ds : List PyData}, VRels K M H vs (ds.map DV.dat) → Dts K M H vs ds
  | vs, [], h => by rw [List.map_nil] at h; cases h; exact .nil
  | vs, d :: ds, h => by
    rw [List.map_cons] at h
    cases h with
    | cons h1 h2 => exact .cons h1 (VRels.dats h2)
/-! ### cases of values -/
def onV (o : Option (Option DV)) (P : DV → Prop) : Prop := match o with | some (some x) => P x | _ => False
theorem onV_ex {o : Option (Option DV)} {P : DV → Prop} (h : onV o P) : ∃ x, o = some (some x) ∧ P x := by
  unfold onV at h
  split at h
  · exact ⟨_, rfl, h⟩
  · exact h.elim
def onI (x : DV) (P : Int → Prop) : Prop := match x with | .dat (.int i) => P i | _ => False
theorem onI_ex {x : DV} {P : Int → Prop} (h : onI x P) : ∃ i, x = .dat (.int i) ∧ P i := by
  unfold onI at h
  split at h
  · exact ⟨_, rfl, h⟩
  · exact h.elim
def onB (x : DV) (P : Bool → Prop) : Prop := match x with | .dat (.bool i) => P i | _ => False
theorem onB_ex {x : DV} {P : Bool → Prop} (h : onB x P) : ∃ i, x = .dat (.bool i) ∧ P i := by
  unfold onB at h
  split at h
  · exact ⟨_, rfl, h⟩
  · exact h.elim
def onS (x : DV) (P : Str → Prop) : Prop := match x with | .dat (.str i) => P i | _ => False
def onT (x : DV) (P : List PyData → Prop) : Prop := match x with | .dat (.tuple i) => P i | _ => False
theorem onT_ex {x : DV} {P : List PyData → Prop} (h : onT x P) : ∃ i, x = .dat (.tuple i) ∧ P i := by
  unfold onT at h
  split at h
  · exact ⟨_, rfl, h⟩
  · exact h.elim
def onL (x : DV) (P : List PyData → Prop) : Prop := match x with | .dat (.list i) => P i | _ => False
theorem onL_ex {x : DV} {P : List PyData → Prop} (h : onL x P) : ∃ i, x = .dat (.list i) ∧ P i := by
  unfold onL at h
  split at h
  · exact ⟨_, rfl, h⟩
  · exact h.elim
def onD (x : DV) (P : PyData → Prop) : Prop := match x with | .dat i => P i | _ => False
theorem onD_ex {x : DV} {P : PyData → Prop} (h : onD x P) : ∃ i, x = .dat i ∧ P i := by
  unfold onD at h
  split at h
  · exact ⟨_, rfl, h⟩
  · exact h.elim
def onO (x : DV) (P : Addr → Prop) : Prop := match x with | .own i => P i | _ => False
theorem onO_ex {x : DV} {P : Addr → Prop} (h : onO x P) : ∃ i, x = .own i ∧ P i := by
  unfold onO at h
  split at h
  · exact ⟨_, rfl, h⟩
  · exact h.elim
/-- an owned list's items -/
def onOL (o : Option OO) (P : List PyData → Prop) : Prop := match o with | some (.lst ds) => P ds | _ => False
theorem onOL_ex {o : Option OO} {P : List PyData → Prop} (h : onOL o P) : ∃ ds, o = some (.lst ds) ∧ P ds := by
  unfold onOL at h
  split at h
  · exact ⟨_, rfl, h⟩
  · exact h.elim
def onOC (o : Option OO) (P : List (List Key) → Prop) : Prop := match o with | some (.dct ks) => P ks | _ => False
theorem onOC_ex {o : Option OO} {P : List (List Key) → Prop} (h : onOC o P) : ∃ ks, o = some (.dct ks) ∧ P ks := by
  unfold onOC at h
  split at h
  · exact ⟨_, rfl, h⟩
  · exact h.elim
/-- a tuple, a list, an owned list -/
def onQ (x : DV) (M : Mp) (P : List PyData → Prop) : Prop := match x with | .dat (.tuple ds) => P ds | .dat (.list ds) => P ds | .own l => onOL (M l) P | _ => False
theorem onQ_ex {x : DV} {M : Mp} {P : List PyData → Prop} (h : onQ x M P) : ∃ ds, (x = .dat (.tuple ds) ∨ x = .dat (.list ds) ∨ ∃ l, x = .own l ∧ M l = some (.lst ds)) ∧ P ds := by
  unfold onQ at h
  split at h
  · exact ⟨_, .inl rfl, h⟩
  · exact ⟨_, .inr (.inl rfl), h⟩
  · replace h := onOL_ex h
    obtain ⟨ds, e, h⟩ := h
    exact ⟨ds, .inr (.inr ⟨_, rfl, e⟩), h⟩
  · exact h.elim
/-- a list, an owned list -/
def onK (x : DV) (M : Mp) (P : List PyData → Prop) : Prop := match x with | .dat (.list ds) => P ds | .own l => onOL (M l) P | _ => False
theorem onK_ex {x : DV} {M : Mp} {P : List PyData → Prop} (h : onK x M P) : ∃ ds, (x = .dat (.list ds) ∨ ∃ l, x = .own l ∧ M l = some (.lst ds)) ∧ P ds := by
  unfold onK at h
  split at h
  · exact ⟨_, .inl rfl, h⟩
  · replace h := onOL_ex h
    obtain ⟨ds, e, h⟩ := h
    exact ⟨ds, .inr ⟨_, rfl, e⟩, h⟩
  · exact h.elim
/-- argument lists -/
def on1 (xs : List DV) (P : DV → Prop) : Prop := match xs with | [x] => P x | _ => False
theorem on1_ex {xs : List DV} {P : DV → Prop} (h : on1 xs P) : ∃ x, xs = [x] ∧ P x := by
  unfold on1 at h
  split at h
  · exact ⟨_, rfl, h⟩
  · exact h.elim
def on2 (xs : List DV) (P : DV → DV → Prop) : Prop := match xs with | [x, y] => P x y | _ => False
theorem on2_ex {xs : List DV} {P : DV → DV → Prop} (h : on2 xs P) : ∃ x y, xs = [x, y] ∧ P x y := by
  unfold on2 at h
  split at h
  · exact ⟨_, _, rfl, h⟩
  · exact h.elim
def on3 (xs : List DV) (P : DV → DV → DV → Prop) : Prop := match xs with | [x, y, z] => P x y z | _ => False
theorem on3_ex {xs : List DV} {P : DV → DV → DV → Prop} (h : on3 xs P) : ∃ x y z, xs = [x, y, z] ∧ P x y z := by
  unfold on3 at h
  split at h
  · exact ⟨_, _, _, rfl, h⟩
  · exact h.elim
def on4 (xs : List DV) (P : DV → DV → DV → DV → Prop) : Prop := match xs with | [x0, x1, x2, x3] => P x0 x1 x2 x3 | _ => False
def on5 (xs : List DV) (P : DV → DV → DV → DV → DV → Prop) : Prop := match xs with | [x0, x1, x2, x3, x4] => P x0 x1 x2 x3 x4 | _ => False
def on6 (xs : List DV) (P : DV → DV → DV → DV → DV → DV → Prop) : Prop := match xs with | [x0, x1, x2, x3, x4, x5] => P x0 x1 x2 x3 x4 x5 | _ => False
/-- data alone, a few of them -/
def datsD : List DV → Option (List PyData)
  | [] => some []
  | .dat d :: r => match datsD r with | some ds => some (d :: ds) | none => none
  | _ :: _ => none
theorem datsD_ex : ∀ {xs : List DV} {ds : List PyData}, datsD xs = some ds → xs = ds.map DV.dat
  | [], _, h => by cases h; rfl
  | .dat d :: r, ds, h => by
    rw [datsD] at h
    split at h
    · rename_i es e
      cases h
      rw [List.map_cons, ← datsD_ex e]
    · cases h
  | .own _ :: _, _, h => by cases h
  | .ty _ :: _, _, h => by cases h
def onDs (xs : List DV) (P : List PyData → Prop) : Prop := match Nat.ble xs.length 100 with
  | true => (match datsD xs with | some ds => P ds | none => False)
  | false => False
theorem onDs_ex {xs : List DV} {P : List PyData → Prop} (h : onDs xs P) : ∃ ds, xs = ds.map DV.dat ∧ ds.length ≤ 100 ∧ P ds := by
  unfold onDs at h
  split at h
  · rename_i e
    split at h
    · rename_i ds e2
      have e3 := datsD_ex e2
      refine ⟨ds, e3, ?_, h⟩
      have e4 := Nat.le_of_ble_eq_true e
      rwa [e3, List.length_map] at e4
    · exact h.elim
  · exact h.elim
abbrev DSt := List (Option DV)
structure ERel (K : PySem.W.Frag) (M : Mp) (H : Hp) (σ : L2.St) (Δ : DSt) : Prop where
  len : σ.length = Δ.length
  at' : ∀ (i : Nat) (x : DV), Δ[i]? = some (some x) → ∃ v, σ[i]? = some (some v) ∧ VRel K M H v x
theorem ERel.step {σ : L2.St} {Δ : DSt} (h : ERel K M H σ Δ) (st : Step M H M' H') : ERel K M' H' σ Δ :=
  ⟨h.len, fun i x e => let ⟨v, e1, e2⟩ := h.at' i x e; ⟨v, e1, e2.step st⟩⟩
theorem ERel.set {σ : L2.St} {Δ : DSt} {i : Nat} {v : V} {x : DV} (h : ERel K M H σ Δ) (r : VRel K M H v x) : ERel K M H (σ.set i (some v)) (Δ.set i (some x)) := by
  refine ⟨by rw [List.length_set, List.length_set, h.len], fun j y e => ?_⟩
  by_cases hj : i = j
  · subst hj
    by_cases hl : i < Δ.length
    · rw [List.getElem?_set_self hl] at e
      cases e
      exact ⟨v, List.getElem?_set_self (by rw [h.len]; exact hl), r⟩
    · rw [List.getElem?_eq_none (by rw [List.length_set]; omega)] at e
      cases e
  · rw [List.getElem?_set_ne hj] at e
    rw [List.getElem?_set_ne hj]
    exact h.at' j y e
def startD (N : List Str) (xs : List DV) : DSt := xs.map some ++ List.replicate (N.length - xs.length) none
theorem Paired.getR {α β : Type} {F : α → β → Prop} : ∀ {l : List α} {m : List β} {i : Nat} {b : β}, Paired F l m → m[i]? = some b → ∃ a, l[i]? = some a ∧ F a b
  | _, _, _, _, .nil, e => by simp at e
  | _, _, 0, _, .cons h _, e => by simp at e; subst e; exact ⟨_, rfl, h⟩
  | _, _, i + 1, b, .cons _ h, e => by
    obtain ⟨a, h1, h2⟩ := Paired.getR (i := i) (b := b) h (by simpa using e)
    exact ⟨a, by simpa using h1, h2⟩
theorem ERel.start {N : List Str} {vs : List V} {xs : List DV} (h : VRels K M H vs xs) : ERel K M H (start N vs) (startD N xs) := by
  have hl : vs.length = xs.length := Paired.length h
  refine ⟨by unfold L2.start startD; simp [hl], fun i x e => ?_⟩
  unfold startD at e
  unfold L2.start
  by_cases hi : i < xs.length
  · rw [List.getElem?_append_left (by simpa using hi), List.getElem?_map] at e
    cases q : xs[i]? with
    | none => rw [q] at e; cases e
    | some y =>
      rw [q] at e
      cases e
      obtain ⟨v, h1, h2⟩ := Paired.getR h q
      exact ⟨v, by rw [List.getElem?_append_left (by simpa [hl] using hi), List.getElem?_map, h1]; rfl, h2⟩
  · rw [List.getElem?_append_right (by simpa using hi), List.getElem?_replicate] at e
    split at e <;> cases e
end

/-! ### judgements -/
abbrev DK := DV → Mp → Prop
abbrev DTE := DSt → Mp → DK → Prop
abbrev DTT := DSt → Mp → (Bool → Mp → Prop) → Prop
abbrev DTA := DSt → Mp → (List DV → Mp → Prop) → Prop
structure DEnds where
  nx : DSt → Mp → Prop
  rt : DK
  bk : DSt → Mp → Prop := fun _ _ => False
  ct : DSt → Mp → Prop := fun _ _ => False
abbrev DTS := DEnds → DSt → Mp → Prop

/-- what is reached from M, H by an expression -/
def Rch (K : PySem.W.Frag) (M : Mp) (H : Hp) (Φ : DK) (Q : VK) : Prop := ∀ v H' x M', DRel K M' H' → Step M H M' H' → VRel K M' H' v x → Φ x M' → Q v H'
theorem Rch.step {K : PySem.W.Frag} {M M' : Mp} {H H' : Hp} {Φ : DK} {Q : VK} (h : Rch K M H Φ Q) (st : Step M H M' H') : Rch K M' H' Φ Q := fun v H2 x M2 r s2 q f => h v H2 x M2 r (st.trans s2) q f
theorem Rch.dat {K : PySem.W.Frag} {M M' : Mp} {H H' : Hp} {Φ : DK} {Q : VK} {v : V} {d : PyData} (h : Rch K M H Φ Q) (r : DRel K M' H') (st : Step M H M' H') (hd : Dt K M' H' v d) (f : Φ (.dat d) M') : Q v H' := h v H' (.dat d) M' r st hd f
def DE (X : Cx) (e : Expr) (τ : DTE) : Prop := ∃ t, PE X e t ∧ ∀ σ H Δ M Φ Q, DRel X.K M H → ERel X.K M H σ Δ → τ Δ M Φ → Rch X.K M H Φ Q → t σ H Q
def DT (X : Cx) (e : Expr) (τ : DTT) : Prop := ∃ t, PT X e t ∧ ∀ σ H Δ M Φ (Q : Bool → Hp → Prop), DRel X.K M H → ERel X.K M H σ Δ → τ Δ M Φ →
  (∀ b H' M', DRel X.K M' H' → Step M H M' H' → Φ b M' → Q b H') → t σ H Q
def DW (X : Cx) (e : Expr) (τ : DTT) : Prop := ∃ t, PW X e t ∧ ∀ σ H Δ M Φ (Q : Bool → Hp → Prop), DRel X.K M H → ERel X.K M H σ Δ → τ Δ M Φ →
  (∀ b H' M', DRel X.K M' H' → Step M H M' H' → Φ b M' → Q b H') → t σ H Q
def DA (X : Cx) (es : List Expr) (τ : DTA) : Prop := ∃ t, PA X es t ∧ ∀ σ H Δ M Φ (Q : List V → Hp → Prop), DRel X.K M H → ERel X.K M H σ Δ → τ Δ M Φ →
  (∀ vs H' xs M', DRel X.K M' H' → Step M H M' H' → VRels X.K M' H' vs xs → Φ xs M' → Q vs H') → t σ H Q
structure EndRel (K : PySem.W.Frag) (M : Mp) (H : Hp) (D : DEnds) (E : Ends) : Prop where
  nx : ∀ σ' H' Δ' M', DRel K M' H' → Step M H M' H' → ERel K M' H' σ' Δ' → D.nx Δ' M' → E.nx σ' H'
  rt : Rch K M H D.rt E.rt
  bk : ∀ σ' H' Δ' M', DRel K M' H' → Step M H M' H' → ERel K M' H' σ' Δ' → D.bk Δ' M' → E.bk σ' H'
  ct : ∀ σ' H' Δ' M', DRel K M' H' → Step M H M' H' → ERel K M' H' σ' Δ' → D.ct Δ' M' → E.ct σ' H'
theorem EndRel.step {K : PySem.W.Frag} {M M' : Mp} {H H' : Hp} {D : DEnds} {E : Ends} (h : EndRel K M H D E) (st : Step M H M' H') : EndRel K M' H' D E :=
  ⟨fun a b c d r s => h.nx a b c d r (st.trans s), h.rt.step st, fun a b c d r s => h.bk a b c d r (st.trans s), fun a b c d r s => h.ct a b c d r (st.trans s)⟩
def DS (X : Cx) (st : Stmt) (τ : DTS) : Prop := ∃ t, PS X st t ∧ ∀ σ H Δ M D E, DRel X.K M H → ERel X.K M H σ Δ → τ D Δ M → EndRel X.K M H D E → t E σ H
def DSs (X : Cx) (st : List Stmt) (τ : DTS) : Prop := ∃ t, PSs X st t ∧ ∀ σ H Δ M D E, DRel X.K M H → ERel X.K M H σ Δ → τ D Δ M → EndRel X.K M H D E → t E σ H

section
variable {X : Cx} {a b c : Expr} {ta tb tc : DTE} {pos : Pos}
/-! ### names, constants -/
def dVar (i : Nat) : DTE := fun Δ M Φ => onV Δ[i]? fun x => Φ x M
def dC (d : PyData) : DTE := fun _ M Φ => Φ (.dat d) M
theorem de_var (i : Nat) {x : Str} {pos : Pos} (hN : X.N[i]? = some x := by rfl) (hv : Vis X.env.scope x := by first | exact Or.inl rfl | exact Or.inr (Or.inl rfl) | exact Or.inr (Or.inr rfl)) (hd : (x == ("__debug__" : Str)) = false := by decide)
    (hcd : (x == ("__classdict__" : Str)) = false := by decide) : DE X (.Name x pos) (dVar i) := by
  refine ⟨_, pe_var hN hv hd hcd, fun σ H Δ M Φ Q r e h k => ?_⟩
  replace h := onV_ex h
  obtain ⟨x, e1, h⟩ := h
  obtain ⟨v, e2, q⟩ := e.at' i x e1
  exact ⟨v, e2, k v H x M r Step.refl q h⟩
theorem de_const {e : Expr} {v : V} {d : PyData} (h : PE X e (tC v)) (q : ∀ M H, Dt X.K M H v d) : DE X e (dC d) :=
  ⟨_, h, fun _ H _ M _ _ r _ h k => k v H (.dat d) M r Step.refl (q M H) h⟩
theorem de_int {i j pos} : DE X (.Constant (.int i) j pos) (dC (.int i)) := de_const pe_int fun _ _ => .int i
theorem de_bl {b j pos} : DE X (.Constant (.bool b) j pos) (dC (.bool b)) := de_const pe_bl fun _ _ => .bl b
theorem de_non {j pos} : DE X (.Constant .none j pos) (dC .none) := de_const pe_non fun _ _ => .non
theorem de_str {x j pos} : DE X (.Constant (.str x) j pos) (dC (.str x)) := de_const pe_str fun _ _ => .str x
def dTy (n : String) : DTE := fun _ M Φ => Φ (.ty n) M
theorem de_ty {x : Str} {n : String} {pos : Pos} (hg : Gl X x) (hm : X.mg x = none) (hv : bootBuiltins x = some (.type n)) (hn : x ≠ "__name__" := by decide) (hdb : (x == ("__debug__" : Str)) = false := by decide) : DE X (.Name x pos) (dTy n) :=
  ⟨_, pe_bltn (v := .ty n) hg hm hv rfl hn hdb, fun _ H _ M _ _ r _ h k => k (.ty n) H (.ty n) M r Step.refl rfl h⟩
end
end DL

namespace DL
open PySem PySem.Spec PyProof.Rows L2
section
variable {K : PySem.W.Frag} {M M' : Mp} {H H' : Hp} {v : V}
theorem VRel.bool {b : Bool} (h : VRel K M H v (.dat (.bool b))) : v = .bl b := by cases (show Dt K M H v (.bool b) from h); rfl
theorem VRel.int {i : Int} (h : VRel K M H v (.dat (.int i))) : v = .int i := by cases (show Dt K M H v (.int i) from h); rfl
theorem VRel.str {x : Str} (h : VRel K M H v (.dat (.str x))) : v = .str x := by cases (show Dt K M H v (.str x) from h); rfl
theorem VRel.tup {ds : List PyData} (h : VRel K M H v (.dat (.tuple ds))) : ∃ a xs, v = .ref a ∧ TupAt K M H a xs ∧ Dts K M H xs ds := by
  cases (show Dt K M H v (.tuple ds) from h) with
  | tup h1 h2 => exact ⟨_, _, rfl, h1, h2⟩
theorem VRel.lst {ds : List PyData} (h : VRel K M H v (.dat (.list ds))) : ∃ a xs, v = .ref a ∧ LstAt K M H a xs ∧ Dts K M H xs ds := by
  cases (show Dt K M H v (.list ds) from h) with
  | lst h1 h2 => exact ⟨_, _, rfl, h1, h2⟩
/-- a new tuple, a new list that is data at once -/
theorem Dt.newTup {p : Addr} {xs : List V} {ds : List PyData} (r : DRel K M H) (hp : H p = none) (h : Dts K M H xs ds) : Dt K M (upd H p (.tup xs)) (.ref p) (.tuple ds) :=
  .tup (.inl ⟨r.tracked hp, .inl upd_same⟩) (h.step (Step.new hp))
theorem Dt.newLst {p : Addr} {xs : List V} {ds : List PyData} (r : DRel K M H) (hp : H p = none) (h : Dts K M H xs ds) : Dt K M (upd H p (.lst xs)) (.ref p) (.list ds) :=
  .lst (.inl ⟨r.tracked hp, .inl upd_same⟩) (h.step (Step.new hp))
end
def Snd (K : PySem.W.Frag) (t : TE) (τ : DTE) : Prop := ∀ σ H Δ M Φ Q, DRel K M H → ERel K M H σ Δ → τ Δ M Φ → Rch K M H Φ Q → t σ H Q
theorem Snd.bin {K : PySem.W.Frag} {ta tb : TE} {τa τb : DTE} (qa : Snd K ta τa) (qb : Snd K tb τb) {M : Mp} {H : Hp} {σ : L2.St} {Δ : DSt} {S : DV → DV → Mp → Prop} {R : V → V → Hp → Prop} (r : DRel K M H) (e : ERel K M H σ Δ)
    (h : τa Δ M fun x M1 => τb Δ M1 fun y M2 => S x y M2)
    (k : ∀ v u H2 x y M2, DRel K M2 H2 → Step M H M2 H2 → VRel K M2 H2 v x → VRel K M2 H2 u y → S x y M2 → R v u H2) : ta σ H fun v H1 => tb σ H1 fun u H2 => R v u H2 :=
  qa σ H Δ M _ _ r e h fun v H1 x M1 r1 st rv hx => qb σ H1 Δ M1 _ _ r1 (e.step st) hx fun u H2 y M2 r2 st2 ru hy => k v u H2 x y M2 r2 (st.trans st2) (rv.step st2) ru hy

/-! ### operations by data -/
abbrev D2 := DV → DV → Mp → DK → Prop
def OpD (X : Cx) (f : Value → Value → Sem Value) (δ : D2) : Prop := ∃ r : R2, OpR X f r ∧ ∀ v u H x y M Φ Q, DRel X.K M H → VRel X.K M H v x → VRel X.K M H u y → δ x y M Φ → Rch X.K M H Φ Q → r v u H Q
def dOp (δ : D2) (ta tb : DTE) : DTE := fun Δ M Φ => ta Δ M fun x M1 => tb Δ M1 fun y M2 => δ x y M2 Φ
section
variable {X : Cx} {a b c : Expr} {ta tb tc : DTE} {pos : Pos} {op op' : CmpOp} {δ δ' : D2}
theorem Snd.opn {ta' tb' : TE} {r : R2} (ha : Snd X.K ta' ta) (hb : Snd X.K tb' tb) (q : ∀ v u H x y M Φ Q, DRel X.K M H → VRel X.K M H v x → VRel X.K M H u y → δ x y M Φ → Rch X.K M H Φ Q → r v u H Q) : Snd X.K (tOp r ta' tb') (dOp δ ta tb) :=
  fun _ _ _ _ _ _ dr e h k => Snd.bin ha hb dr e h fun v u H2 x y M2 r2 st rv ru hs => q v u H2 x y M2 _ _ r2 rv ru hs (k.step st)
theorem de_op {bop : Operator} (ho : OpD X (binaryOp bop) δ) (ha : DE X a ta) (hb : DE X b tb) : DE X (.BinOp a bop b pos) (dOp δ ta tb) := by
  obtain ⟨ta', pa, qa⟩ := ha
  obtain ⟨tb', pb, qb⟩ := hb
  obtain ⟨r, hr, q⟩ := ho
  exact ⟨_, pe_op hr pa pb, Snd.opn qa qb q⟩
theorem de_cmp (ho : OpD X (compareOp op) δ) (ha : DE X a ta) (hb : DE X b tb) (hm : behindInMarks op b = false := by first | exact nomark _ | rfl) : DE X (.Compare a [op] [b] pos) (dOp δ ta tb) := by
  obtain ⟨ta', pa, qa⟩ := ha
  obtain ⟨tb', pb, qb⟩ := hb
  obtain ⟨r, hr, q⟩ := ho
  exact ⟨_, pe_cmpR hr pa pb hm, Snd.opn qa qb q⟩
def dB (t : DTE) : DTT := fun Δ M Φ => t Δ M fun x M1 => onB x fun c => Φ c M1
theorem Snd.test {t : TE} {τ : DTE} (h : Snd X.K t τ) {σ : L2.St} {H : Hp} {Δ : DSt} {M : Mp} {Φ : Bool → Mp → Prop} {Q : Bool → Hp → Prop} (r : DRel X.K M H) (e : ERel X.K M H σ Δ) (hw : dB τ Δ M Φ)
    (k : ∀ b H' M', DRel X.K M' H' → Step M H M' H' → Φ b M' → Q b H') : t σ H fun x H1 => ∃ c, x = .bl c ∧ Q c H1 := by
  refine h σ H Δ M _ _ r e hw fun v H1 x M1 r1 st rv hx => ?_
  replace hx := onB_ex hx
  obtain ⟨c, rfl, hx⟩ := hx
  exact ⟨c, rv.bool, k c H1 M1 r1 st hx⟩
theorem dt_cmp (ho : OpD X (compareOp op) δ) (ha : DE X a ta) (hb : DE X b tb) (hm : behindInMarks op b = false := by first | exact nomark _ | rfl) : DT X (.Compare a [op] [b] pos) (dB (dOp δ ta tb)) := by
  obtain ⟨ta', pa, qa⟩ := ha
  obtain ⟨tb', pb, qb⟩ := hb
  obtain ⟨r, hr, q⟩ := ho
  exact ⟨_, pt_cmpR hr pa pb hm, fun _ _ _ _ _ _ dr e h k => Snd.test (Snd.opn qa qb q) dr e h k⟩
theorem dt_val {e : Expr} {τ : DTE} (h : DE X e τ) (he : ∀ whole, isTrue e X.env whole = (do let v ← whole; standAt e.pos; holding [v] (truthy v)) := by intro _; rfl) : DT X e (dB τ) := by
  obtain ⟨t, p, q⟩ := h
  exact ⟨_, pt_val p he, fun _ _ _ _ _ _ dr e h k => Snd.test q dr e h k⟩
/-- a op1 b op2 c -/
def dChain (δ δ' : D2) (ta tb tc : DTE) : DTE := fun Δ M Φ => ta Δ M fun x M1 => tb Δ M1 fun y M2 => δ x y M2 fun z M3 => onB z fun k => (if k = true then tc Δ M3 fun w' M4 => δ' y w' M4 Φ else Φ (.dat (.bool false)) M3)
theorem Snd.chain {ta' tb' tc' : TE} {r r' : R2} (ha : Snd X.K ta' ta) (hb : Snd X.K tb' tb) (hc : Snd X.K tc' tc) (q : ∀ v u H x y M Φ Q, DRel X.K M H → VRel X.K M H v x → VRel X.K M H u y → δ x y M Φ → Rch X.K M H Φ Q → r v u H Q)
    (q' : ∀ v u H x y M Φ Q, DRel X.K M H → VRel X.K M H v x → VRel X.K M H u y → δ' x y M Φ → Rch X.K M H Φ Q → r' v u H Q) : Snd X.K (tChain r r' ta' tb' tc') (dChain δ δ' ta tb tc) := by
  intro σ H Δ M Φ Q dr e h k
  refine Snd.bin ha hb dr e h fun v u H2 x y M2 r2 st rv ru hs => ?_
  refine q v u H2 x y M2 _ _ r2 rv ru hs fun z H3 zd M3 r3 st3 rz hz => ?_
  replace hz := onB_ex hz
  obtain ⟨kb, rfl, hz⟩ := hz
  refine ⟨kb, rz.bool, ?_⟩
  cases kb with
  | true =>
    have hz' : tc Δ M3 fun w' M4 => δ' y w' M4 Φ := by simpa using hz
    rw [if_pos rfl]
    refine hc σ H3 Δ M3 _ _ r3 (e.step (st.trans st3)) hz' fun w' H4 wd M4 r4 st4 rw4 hw4 => ?_
    exact q' u w' H4 y wd M4 _ _ r4 (ru.step (st3.trans st4)) rw4 hw4 (k.step (st.trans (st3.trans st4)))
  | false =>
    have hz' : Φ (.dat (.bool false)) M3 := by simpa using hz
    rw [if_neg Bool.false_ne_true]
    exact k.dat r3 (st.trans st3) (Dt.bl false) hz'
theorem de_chain (ho : OpD X (compareOp op) δ) (ho' : OpD X (compareOp op') δ') (ha : DE X a ta) (hb : DE X b tb) (hc : DE X c tc) (hm : lastMarks [op, op'] [b, c] = false := by with_unfolding_all rfl) :
    DE X (.Compare a [op, op'] [b, c] pos) (dChain δ δ' ta tb tc) := by
  obtain ⟨ta', pa, qa⟩ := ha
  obtain ⟨tb', pb, qb⟩ := hb
  obtain ⟨tc', pc, qc⟩ := hc
  obtain ⟨r, hr, q⟩ := ho
  obtain ⟨r', hr', q'⟩ := ho'
  exact ⟨_, pe_chain hr hr' pa pb pc hm, Snd.chain qa qb qc q q'⟩
theorem dt_chain (ho : OpD X (compareOp op) δ) (ho' : OpD X (compareOp op') δ') (ha : DE X a ta) (hb : DE X b tb) (hc : DE X c tc) (hm : lastMarks [op, op'] [b, c] = false := by with_unfolding_all rfl) :
    DT X (.Compare a [op, op'] [b, c] pos) (dB (dChain δ δ' ta tb tc)) := by
  obtain ⟨ta', pa, qa⟩ := ha
  obtain ⟨tb', pb, qb⟩ := hb
  obtain ⟨tc', pc, qc⟩ := hc
  obtain ⟨r, hr, q⟩ := ho
  obtain ⟨r', hr', q'⟩ := ho'
  exact ⟨_, pt_chain hr hr' pa pb pc hm, fun _ _ _ _ _ _ dr e h k => Snd.test (Snd.chain qa qb qc q q') dr e h k⟩
/-! ### and, or, not -/
variable {tA tB' : DTT} {rest : List Expr}
def dAnd (t u : DTT) : DTT := fun Δ M Φ => t Δ M fun c M1 => if c = true then u Δ M1 Φ else Φ false M1
def dOr (t u : DTT) : DTT := fun Δ M Φ => t Δ M fun c M1 => if c = true then Φ true M1 else u Δ M1 Φ
def dNot (t : DTT) : DTT := fun Δ M Φ => t Δ M fun c M1 => Φ (!c) M1
theorem DW.dt {e : Expr} {τ : DTT} (h : DW X e τ) : DT X e τ := by
  obtain ⟨t, p, q⟩ := h
  exact ⟨t, p.pt, q⟩
theorem dw_and1 (ha : DT X a tA) : DW X (.BoolOp .And [a] pos) tA := by
  obtain ⟨t, p, q⟩ := ha
  exact ⟨t, pw_and1 p, q⟩
theorem dw_or1 (ha : DT X a tA) : DW X (.BoolOp .Or [a] pos) tA := by
  obtain ⟨t, p, q⟩ := ha
  exact ⟨t, pw_or1 p, q⟩
theorem dw_and (ha : DT X a tA) (hb : DW X (.BoolOp .And (b :: rest) pos) tB') : DW X (.BoolOp .And (a :: b :: rest) pos) (dAnd tA tB') := by
  obtain ⟨t, p, q⟩ := ha
  obtain ⟨u, p2, q2⟩ := hb
  refine ⟨_, pw_and p p2, fun σ H Δ M Φ Q r e h k => ?_⟩
  refine q σ H Δ M _ _ r e h fun c H1 M1 r1 st hc => ?_
  cases c with
  | true => rw [if_pos rfl]; exact q2 σ H1 Δ M1 Φ Q r1 (e.step st) (by simpa using hc) fun b H2 M2 r2 st2 hb => k b H2 M2 r2 (st.trans st2) hb
  | false => rw [if_neg Bool.false_ne_true]; exact k false H1 M1 r1 st (by simpa using hc)
theorem dw_or (ha : DT X a tA) (hb : DW X (.BoolOp .Or (b :: rest) pos) tB') : DW X (.BoolOp .Or (a :: b :: rest) pos) (dOr tA tB') := by
  obtain ⟨t, p, q⟩ := ha
  obtain ⟨u, p2, q2⟩ := hb
  refine ⟨_, pw_or p p2, fun σ H Δ M Φ Q r e h k => ?_⟩
  refine q σ H Δ M _ _ r e h fun c H1 M1 r1 st hc => ?_
  cases c with
  | false => rw [if_neg Bool.false_ne_true]; exact q2 σ H1 Δ M1 Φ Q r1 (e.step st) (by simpa using hc) fun b H2 M2 r2 st2 hb => k b H2 M2 r2 (st.trans st2) hb
  | true => rw [if_pos rfl]; exact k true H1 M1 r1 st (by simpa using hc)
theorem dt_not (ha : DT X a tA) : DT X (.UnaryOp .Not a pos) (dNot tA) := by
  obtain ⟨t, p, q⟩ := ha
  exact ⟨_, pt_not p, fun σ H Δ M Φ Q r e h k => q σ H Δ M _ _ r e h fun c H1 M1 r1 st hc => k _ H1 M1 r1 st hc⟩
def dAndV (ta tb : DTE) : DTE := fun Δ M Φ => ta Δ M fun x M1 => onB x fun c => if c = true then tb Δ M1 Φ else Φ (.dat (.bool false)) M1
def dOrV (ta tb : DTE) : DTE := fun Δ M Φ => ta Δ M fun x M1 => onB x fun c => if c = true then Φ (.dat (.bool true)) M1 else tb Δ M1 Φ
def dNotV (ta : DTE) : DTE := fun Δ M Φ => ta Δ M fun x M1 => onB x fun c => Φ (.dat (.bool (!c))) M1
theorem de_one {bop} (h : DE X a ta) : DE X (.BoolOp bop [a] pos) ta := by
  obtain ⟨t, p, q⟩ := h
  exact ⟨t, pe_one p, q⟩
theorem de_and (ha : DE X a ta) (hb : DE X (.BoolOp .And (b :: rest) pos) tb) : DE X (.BoolOp .And (a :: b :: rest) pos) (dAndV ta tb) := by
  obtain ⟨t, p, q⟩ := ha
  obtain ⟨u, p2, q2⟩ := hb
  refine ⟨_, pe_and p p2, fun σ H Δ M Φ Q r e h k => ?_⟩
  refine q σ H Δ M _ _ r e h fun v H1 x M1 r1 st rv hx => ?_
  replace hx := onB_ex hx
  obtain ⟨c, rfl, hx⟩ := hx
  refine ⟨c, rv.bool, ?_⟩
  cases c with
  | true => rw [if_pos rfl]; exact q2 σ H1 Δ M1 Φ Q r1 (e.step st) (by simpa using hx) (k.step st)
  | false => rw [if_neg Bool.false_ne_true]; exact k.dat r1 st (Dt.bl false) (by simpa using hx)
theorem de_not (ha : DE X a ta) : DE X (.UnaryOp .Not a pos) (dNotV ta) := by
  obtain ⟨t, p, q⟩ := ha
  refine ⟨_, pe_not p, fun σ H Δ M Φ Q r e h k => ?_⟩
  refine q σ H Δ M _ _ r e h fun v H1 x M1 r1 st rv hx => ?_
  replace hx := onB_ex hx
  obtain ⟨c, rfl, hx⟩ := hx
  exact ⟨c, rv.bool, k.dat r1 st (Dt.bl (!c)) hx⟩
def dIf (t : DTT) (ta tb : DTE) : DTE := fun Δ M Φ => t Δ M fun c M1 => if c = true then ta Δ M1 Φ else tb Δ M1 Φ
theorem de_if (hc : DT X c tA) (ha : DE X a ta) (hb : DE X b tb) : DE X (.IfExp c a b pos) (dIf tA ta tb) := by
  obtain ⟨t, p, q⟩ := hc
  obtain ⟨u, p2, q2⟩ := ha
  obtain ⟨w, p3, q3⟩ := hb
  refine ⟨_, pe_ifExp p p2 p3, fun σ H Δ M Φ Q r e h k => ?_⟩
  refine q σ H Δ M _ _ r e h fun c H1 M1 r1 st hc => ?_
  cases c with
  | true => rw [if_pos rfl]; exact q2 σ H1 Δ M1 Φ Q r1 (e.step st) (by simpa using hc) (k.step st)
  | false => rw [if_neg Bool.false_ne_true]; exact q3 σ H1 Δ M1 Φ Q r1 (e.step st) (by simpa using hc) (k.step st)
/-! ### minus -/
def dUnI (g : Int → Int) (ta : DTE) : DTE := fun Δ M Φ => ta Δ M fun x M1 => onI x fun i => Φ (.dat (.int (g i))) M1
theorem de_neg (ha : DE X a ta) : DE X (.UnaryOp .USub a pos) (dUnI (fun i => -i) ta) := by
  obtain ⟨t, p, q⟩ := ha
  refine ⟨_, pe_un un_neg p, fun σ H Δ M Φ Q r e h k => ?_⟩
  refine q σ H Δ M _ _ r e h fun v H1 x M1 r1 st rv hx => ?_
  replace hx := onI_ex hx
  obtain ⟨i, rfl, hx⟩ := hx
  exact ⟨i, rv.int, k.dat r1 st (Dt.int (-i)) hx⟩
/-! ### ints -/
def δI (C : Int → Int → Prop) (g : Int → Int → PyData) : D2 := fun x y M Φ => onI x fun i => onI y fun j => C i j ∧ Φ (.dat (g i j)) M
def δI0 (g : Int → Int → PyData) : D2 := fun x y M Φ => onI x fun i => onI y fun j => Φ (.dat (g i j)) M
theorem od_I {f : Value → Value → Sem Value} {C : Int → Int → Prop} {g : Int → Int → Int} (h : OpR X f (rI C fun i j => .int (g i j))) : OpD X f (δI C fun i j => .int (g i j)) :=
  ⟨_, h, fun v u H x y M Φ Q r rv ru h k => by
    replace h := onI_ex h
    obtain ⟨i, e1, h⟩ := h
    replace h := onI_ex h
    obtain ⟨j, e2, hc, q⟩ := h
    subst e1 e2
    exact ⟨i, j, rv.int, ru.int, hc, k.dat r Step.refl (Dt.int _) q⟩⟩
theorem od_I0 {f : Value → Value → Sem Value} {g : Int → Int → Int} (h : OpR X f (rI0 fun i j => .int (g i j))) : OpD X f (δI0 fun i j => .int (g i j)) :=
  ⟨_, h, fun v u H x y M Φ Q r rv ru h k => by
    replace h := onI_ex h
    obtain ⟨i, e1, h⟩ := h
    replace h := onI_ex h
    obtain ⟨j, e2, q⟩ := h
    subst e1 e2
    exact ⟨i, j, rv.int, ru.int, k.dat r Step.refl (Dt.int _) q⟩⟩
theorem od_B0 {f : Value → Value → Sem Value} {g : Int → Int → Bool} (h : OpR X f (rI0 fun i j => .bl (g i j))) : OpD X f (δI0 fun i j => .bool (g i j)) :=
  ⟨_, h, fun v u H x y M Φ Q r rv ru h k => by
    replace h := onI_ex h
    obtain ⟨i, e1, h⟩ := h
    replace h := onI_ex h
    obtain ⟨j, e2, q⟩ := h
    subst e1 e2
    exact ⟨i, j, rv.int, ru.int, k.dat r Step.refl (Dt.bl _) q⟩⟩
theorem od_add : OpD X (binaryOp .Add) (δI0 fun i j => .int (i + j)) := od_I0 op_add
theorem od_sub : OpD X (binaryOp .Sub) (δI0 fun i j => .int (i - j)) := od_I0 op_sub
theorem od_mul : OpD X (binaryOp .Mult) (δI CMul fun i j => .int (i * j)) := od_I op_mul
theorem od_fdiv : OpD X (binaryOp .FloorDiv) (δI CDiv fun i j => .int (i / j)) := od_I op_fdiv
theorem od_mod : OpD X (binaryOp .Mod) (δI (fun _ j => 0 < j) fun i j => .int (i % j)) := od_I op_mod
theorem od_pow : OpD X (binaryOp .Pow) (δI CPow fun i j => .int (i ^ j.toNat)) := od_I op_pow
theorem od_lt : OpD X (compareOp .Lt) (δI0 fun i j => .bool (decide (i < j))) := od_B0 op_lt
theorem od_le : OpD X (compareOp .LtE) (δI0 fun i j => .bool (decide (i ≤ j))) := od_B0 op_le
theorem od_gt : OpD X (compareOp .Gt) (δI0 fun i j => .bool (decide (j < i))) := od_B0 op_gt
theorem od_ge : OpD X (compareOp .GtE) (δI0 fun i j => .bool (decide (j ≤ i))) := od_B0 op_ge
/-! ### is, is not, of truths -/
def δB (g : Bool → Bool → Bool) : D2 := fun x y M Φ => onB x fun c => onB y fun d => Φ (.dat (.bool (g c d))) M
/-! ### lists and tuples put together -/
def δCatT : D2 := fun x y M Φ => onT x fun ds => onT y fun es => ds ≠ [] ∧ ds.length + es.length ≤ sizeLine ∧ Φ (.dat (.tuple (ds ++ es))) M
theorem op_catSq : OpR X (binaryOp .Add) (fun x y H Q => ∃ l b xs zs, x = .ref l ∧ y = .ref b ∧ SqL X.K H l xs ∧ SqL X.K H b zs ∧ xs.length + zs.length ≤ sizeLine ∧ ∀ p, H p = none → Q (.ref p) (upd H p (.lst (xs ++ zs)))) := by
  intro pins s σ H x y v u Q I rx ry h
  obtain ⟨l, b, xs, zs, rfl, rfl, hl, hb, hz, q⟩ := h
  cases rx
  cases ry
  obtain ⟨its, r1, p1, _⟩ := I.list hl
  obtain ⟨its2, r2, p2, _⟩ := I.list hb
  obtain ⟨⟨cls, dd, data, sl⟩, ho, hc, n, hd⟩ := p1.isList
  obtain ⟨⟨cls2, dd2, data2, sl2⟩, ho2, hc2, n2, hd2⟩ := p2.isList
  simp only at hc hd hc2 hd2
  subst hc hd hc2 hd2
  have e : its.toArray ++ its2.toArray = (its ++ its2).toArray := by simp
  have hsz : its.toArray.size + its2.toArray.size ≤ sizeLine := by rw [List.size_toArray, List.size_toArray, ← r1.length, ← r2.length]; exact hz
  refine concat_meets ⟨_, ho, rfl⟩ ⟨_, ho2, rfl⟩ noFill_list_add seq_list_add PySem.F.slot_list_add PySem.F.entry_list_add (PySem.F.args_list_add_2 _ _) (list_addW l b its.toArray its2.toArray n n2 dd dd2 sl sl2 hsz) ⟨ho, ho2, ?_⟩
  rw [e]
  exact ⟨.ref _, _, I.lnew (t' := s.toks) (r1.append r2) (by rw [List.length_append]; exact hz), rfl, q _ I.fresh⟩
/-- a list of two: data; or owned -/
def δCatL : D2 := fun x y M Φ => onL x fun ds => onL y fun es => ds.length + es.length ≤ sizeLine ∧ Φ (.dat (.list (ds ++ es))) M
def δCatLO : D2 := fun x y M Φ => onL x fun ds => onL y fun es => ds.length + es.length ≤ sizeLine ∧ ∀ p, M p = none → Φ (.own p) (mset M p (.lst (ds ++ es)))
end

/-! ### argument lists, displays -/
def dNil : DTA := fun _ M Φ => Φ [] M
def dCons (ta : DTE) (tr : DTA) : DTA := fun Δ M Φ => ta Δ M fun x M1 => tr Δ M1 fun xs M2 => Φ (x :: xs) M2
section
variable {X : Cx} {e : Expr} {es : List Expr} {te : DTE} {t : DTA} {pos : Pos}
theorem da_nil : DA X [] dNil := ⟨_, pa_nil, fun _ H _ M _ _ r _ h k => k [] H [] M r Step.refl .nil h⟩
theorem da_cons (ha : DE X e te) (hr : DA X es t) (hs : starEach (e :: es) X.env = (false, eval e X.env) :: starEach es X.env := by rfl) : DA X (e :: es) (dCons te t) := by
  obtain ⟨u, p, q⟩ := ha
  obtain ⟨w, p2, q2⟩ := hr
  refine ⟨_, pa_cons p p2 hs, fun σ H Δ M Φ Q r e h k => ?_⟩
  refine q σ H Δ M _ _ r e h fun v H1 x M1 r1 st rv hx => ?_
  exact q2 σ H1 Δ M1 _ _ r1 (e.step st) hx fun vs H2 xs M2 r2 st2 rvs hxs => k (v :: vs) H2 (x :: xs) M2 r2 (st.trans st2) (.cons (rv.step st2) rvs) hxs
def dTup (t : DTA) : DTE := fun Δ M Φ => t Δ M fun xs M1 => onDs xs fun ds => Φ (.dat (.tuple ds)) M1
def dLst (t : DTA) : DTE := fun Δ M Φ => t Δ M fun xs M1 => onDs xs fun ds => Φ (.dat (.list ds)) M1
def dLstO (t : DTA) : DTE := fun Δ M Φ => t Δ M fun xs M1 => onDs xs fun ds => ∀ p, M1 p = none → Φ (.own p) (mset M1 p (.lst ds))
theorem de_tup {x1} (h : DA X es t) : DE X (.Tuple es x1 pos) (dTup t) := by
  obtain ⟨u, p, q⟩ := h
  refine ⟨_, pe_tup p, fun σ H Δ M Φ Q r e h k => ?_⟩
  refine q σ H Δ M _ _ r e h fun vs H1 xs M1 r1 st rv hx => ?_
  replace hx := onDs_ex hx
  obtain ⟨ds, rfl, hz', hx⟩ := hx
  have hz : ds.length ≤ sizeLine := by rw [sizeLine_eq]; omega
  have hd := rv.dats
  refine ⟨by rw [hd.length]; exact hz, fun p hp => ?_⟩
  exact k.dat (r1.new hp) (st.trans (Step.new hp)) (Dt.newTup r1 hp hd) hx
theorem de_lst (h : DA X es t) : DE X (.List es pos) (dLst t) := by
  obtain ⟨u, p, q⟩ := h
  refine ⟨_, pe_lst p, fun σ H Δ M Φ Q r e h k => ?_⟩
  refine q σ H Δ M _ _ r e h fun vs H1 xs M1 r1 st rv hx => ?_
  replace hx := onDs_ex hx
  obtain ⟨ds, rfl, hz', hx⟩ := hx
  have hz : ds.length ≤ sizeLine := by rw [sizeLine_eq]; omega
  have hd := rv.dats
  refine ⟨by rw [hd.length]; exact hz, fun p hp => ?_⟩
  exact k.dat (r1.new hp) (st.trans (Step.new hp)) (Dt.newLst r1 hp hd) hx
theorem de_lstO (h : DA X es t) : DE X (.List es pos) (dLstO t) := by
  obtain ⟨u, p, q⟩ := h
  refine ⟨_, pe_lst p, fun σ H Δ M Φ Q r e h k => ?_⟩
  refine q σ H Δ M _ _ r e h fun vs H1 xs M1 r1 st rv hx => ?_
  replace hx := onDs_ex hx
  obtain ⟨ds, rfl, hz', hx⟩ := hx
  have hz : ds.length ≤ sizeLine := by rw [sizeLine_eq]; omega
  have hd := rv.dats
  refine ⟨by rw [hd.length]; exact hz, fun p hp => ?_⟩
  exact k _ _ (.own p) _ (r1.ownSet (Step.ownNew hp) hd) (st.trans (Step.ownNew hp)) rfl (hx p (r1.tracked hp))
/-- an owned list becomes data -/
def dFrz (t : DTE) : DTE := fun Δ M Φ => t Δ M fun x M1 => onO x fun l => onOL (M1 l) fun ds => Φ (.dat (.list ds)) (mdel M1 l)
theorem de_frz (h : DE X e te) : DE X e (dFrz te) := by
  obtain ⟨u, p, q⟩ := h
  refine ⟨u, p, fun σ H Δ M Φ Q r e h k => ?_⟩
  refine q σ H Δ M _ _ r e h fun v H1 x M1 r1 st rv hx => ?_
  replace hx := onO_ex hx
  obtain ⟨l, rfl, hx⟩ := hx
  replace hx := onOL_ex hx
  obtain ⟨ds, hm, hx⟩ := hx
  obtain ⟨vs, e1, e2⟩ := r1.ls l ds hm
  cases (show v = .ref l from rv)
  exact k.dat r1.frz (st.trans Step.frz) (Dt.lst (.inl ⟨mdel_same, .inl e1⟩) (e2.step Step.frz)) hx
/-! ### items -/
/-- the item at i -/
def onNth : List PyData → Nat → (PyData → Prop) → Prop
  | [], _, _ => False
  | d :: _, 0, P => P d
  | _ :: r, n + 1, P => onNth r n P
def onAt (ds : List PyData) (i : Int) (P : PyData → Prop) : Prop := match i with
  | Int.ofNat n => onNth ds n P
  | Int.negSucc n => onNth ds.reverse n P
theorem onNth_ex : ∀ {ds : List PyData} {n : Nat} {P : PyData → Prop}, onNth ds n P → ∃ d, ds[n]? = some d ∧ P d
  | [], _, _, h => h.elim
  | d :: _, 0, _, h => ⟨d, rfl, h⟩
  | _ :: r, n + 1, _, h => by
    obtain ⟨d, e, hp⟩ := onNth_ex (ds := r) (n := n) h
    exact ⟨d, by rw [List.getElem?_cons_succ]; exact e, hp⟩
theorem onNth_of : ∀ {ds : List PyData} {n : Nat} {P : PyData → Prop} {d : PyData}, ds[n]? = some d → P d → onNth ds n P
  | [], _, _, _, e, _ => by simp at e
  | d :: _, 0, _, _, e, h => by simp at e; subst e; exact h
  | _ :: r, n + 1, _, _, e, h => onNth_of (ds := r) (n := n) (by rw [List.getElem?_cons_succ] at e; exact e) h
theorem onAt_ex {ds : List PyData} {i : Int} {P : PyData → Prop} (h : onAt ds i P) : ∃ d, atI ds i = some d ∧ P d := by
  unfold onAt at h
  split at h
  · rename_i n
    replace h := onNth_ex h
    obtain ⟨d, e, hp⟩ := h
    exact ⟨d, atI_nat e, hp⟩
  · rename_i n
    replace h := onNth_ex h
    obtain ⟨d, e, hp⟩ := h
    refine ⟨d, ?_, hp⟩
    have hl := (List.getElem?_eq_some_iff.mp e).1
    rw [List.length_reverse] at hl
    rw [List.getElem?_reverse hl] at e
    unfold L2.atI ixN
    have e1 : ¬ (0 ≤ Int.negSucc n) := by omega
    rw [if_neg e1]
    have e2 : -(ds.length : Int) ≤ Int.negSucc n := by omega
    rw [if_pos e2]
    have e3 : (Int.negSucc n + (ds.length : Int)).toNat = ds.length - 1 - n := by omega
    simp only [e3]
    exact e
theorem onAt_of {ds : List PyData} {i : Int} {P : PyData → Prop} {d : PyData} (e : atI ds i = some d) (h : P d) : onAt ds i P := by
  unfold L2.atI at e
  cases i with
  | ofNat n =>
    have hh : ixN ds.length (Int.ofNat n) = if n < ds.length then some n else none := by
      unfold ixN
      rw [if_pos (show (0 : Int) ≤ Int.ofNat n from Int.natCast_nonneg n)]
      by_cases hn : n < ds.length
      · rw [if_pos hn, if_pos (show Int.ofNat n < _ by show ((n : Nat) : Int) < _; omega)]
        rfl
      · rw [if_neg hn, if_neg (show ¬ Int.ofNat n < _ by show ¬ ((n : Nat) : Int) < _; omega)]
    rw [hh] at e
    split at e
    · exact onNth_of (by exact e) h
    · cases e
  | negSucc n =>
    unfold ixN at e
    rw [if_neg (by omega)] at e
    by_cases hn : -(ds.length : Int) ≤ Int.negSucc n
    · rw [if_pos hn] at e
      have e3 : (Int.negSucc n + (ds.length : Int)).toNat = ds.length - 1 - n := by omega
      simp only [e3] at e
      refine onNth_of (d := d) ?_ h
      rw [List.getElem?_reverse (by omega)]
      exact e
    · rw [if_neg hn] at e
      cases e
theorem onAt_last (l : List PyData) (a : PyData) (P : PyData → Prop) : onAt (l ++ [a]) (-1) P = P a := by
  show onNth (l ++ [a]).reverse 0 P = P a
  rw [List.reverse_append]
  rfl
def δIx : D2 := fun x y M Φ => onQ x M fun ds => onI y fun i => onAt ds i fun d => Φ (.dat d) M
theorem Dts.atI {K : PySem.W.Frag} {M : Mp} {H : Hp} {vs : List V} {ds : List PyData} {i : Int} {d : PyData} (h : Dts K M H vs ds) (e : L2.atI ds i = some d) : ∃ v, L2.atI vs i = some v ∧ Dt K M H v d := by
  unfold L2.atI at e ⊢
  rw [h.length]
  cases q : ixN ds.length i with
  | none => rw [q] at e; cases e
  | some j =>
    rw [q] at e
    exact h.get e
theorem de_ix {a b : Expr} {ta tb : DTE} (ha : DE X a ta) (hb : DE X b tb) (hs : PlainIx b := by intro _ _; rfl) : DE X (.Subscript a b pos) (dOp δIx ta tb) := by
  obtain ⟨ta', pa, qa⟩ := ha
  obtain ⟨tb', pb, qb⟩ := hb
  refine ⟨_, pe_ix ix_seq pa pb hs, Snd.opn qa qb fun v u H x y M Φ Q r rv ru h k => ?_⟩
  replace h := onQ_ex h
  obtain ⟨ds, hx, h⟩ := h
  replace h := onI_ex h
  obtain ⟨i, rfl, h⟩ := h
  replace h := onAt_ex h
  obtain ⟨d, hd, q⟩ := h
  cases ru.int
  rcases hx with rfl | rfl | ⟨l, rfl, hm⟩
  · obtain ⟨p, xs, rfl, h1, h2⟩ := rv.tup
    obtain ⟨w', e1, e2⟩ := h2.atI hd
    exact .inr (.inl ⟨p, xs, i, w', rfl, rfl, h1.sq, e1, k.dat r Step.refl e2 q⟩)
  · obtain ⟨p, xs, rfl, h1, h2⟩ := rv.lst
    obtain ⟨w', e1, e2⟩ := h2.atI hd
    exact .inl ⟨p, xs, i, w', rfl, rfl, h1.sq, e1, k.dat r Step.refl e2 q⟩
  · cases (show v = .ref l from rv)
    obtain ⟨vs, g1, g2⟩ := r.ls l ds hm
    obtain ⟨w', e1, e2⟩ := g2.atI hd
    exact .inl ⟨l, vs, i, w', rfl, rfl, SqL.of g1, e1, k.dat r Step.refl e2 q⟩
end

/-! ### calls of built-ins -/
abbrev D1 := List DV → Mp → DK → Prop
def CallD (X : Cx) (f : Value) (δ : D1) : Prop := ∃ r, CallR X f r ∧ ∀ vs H xs M Φ Q, DRel X.K M H → VRels X.K M H vs xs → δ xs M Φ → Rch X.K M H Φ Q → r vs H Q
def dCB (δ : D1) (t : DTA) : DTE := fun Δ M Φ => t Δ M fun xs M1 => δ xs M1 Φ
section
variable {X : Cx} {e : Expr} {es : List Expr} {t : DTA} {pos p : Pos} {x : Str} {id : String} {δ : D1}
theorem de_callB (hc : CallD X (.builtin id) δ) (hg : Gl X x) (hm : X.mg x = none) (hv : bootBuiltins x = some (.builtin id)) (ha : DA X (e :: es) t) (hn : x ≠ "__name__" := by decide) (hdb : (x == ("__debug__" : Str)) = false := by decide)
    (he : starEach (e :: es) X.env = (false, eval e X.env) :: starEach es X.env := by rfl) (hpl : (backTo pos (starEach es X.env)).any (·.1) = false := by rfl) : DE X (.Call (.Name x p) (e :: es) [] pos) (dCB δ t) := by
  obtain ⟨u, p, q⟩ := ha
  obtain ⟨r, hr, qr⟩ := hc
  refine ⟨_, pe_callB hr hg hm hv p hn hdb he hpl, fun σ H Δ M Φ Q r e h k => ?_⟩
  exact q σ H Δ M _ _ r e h fun vs H1 xs M1 r1 st rv hx => qr vs H1 xs M1 _ _ r1 rv hx (k.step st)
theorem de_callTy (hc : CallD X (.type id) δ) (hg : Gl X x) (hm : X.mg x = none) (hv : bootBuiltins x = some (.type id)) (ha : DA X (e :: es) t) (hn : x ≠ "__name__" := by decide) (hdb : (x == ("__debug__" : Str)) = false := by decide)
    (he : starEach (e :: es) X.env = (false, eval e X.env) :: starEach es X.env := by rfl) (hpl : (backTo pos (starEach es X.env)).any (·.1) = false := by rfl) : DE X (.Call (.Name x p) (e :: es) [] pos) (dCB δ t) := by
  obtain ⟨u, p, q⟩ := ha
  obtain ⟨r, hr, qr⟩ := hc
  refine ⟨_, pe_callTy hr hg hm hv p hn hdb he hpl, fun σ H Δ M Φ Q r e h k => ?_⟩
  exact q σ H Δ M _ _ r e h fun vs H1 xs M1 r1 st rv hx => qr vs H1 xs M1 _ _ r1 rv hx (k.step st)
theorem Paired.one {α β : Type} {F : α → β → Prop} {l : List α} {b : β} (h : Paired F l [b]) : ∃ a, l = [a] ∧ F a b := by
  cases h with
  | cons h1 h2 => cases h2; exact ⟨_, rfl, h1⟩
theorem Paired.two {α β : Type} {F : α → β → Prop} {l : List α} {b c : β} (h : Paired F l [b, c]) : ∃ a a', l = [a, a'] ∧ F a b ∧ F a' c := by
  cases h with
  | cons h1 h2 =>
    obtain ⟨a, rfl, h3⟩ := Paired.one h2
    exact ⟨_, a, rfl, h1, h3⟩
def δLen : D1 := fun xs M Φ => on1 xs fun x => onQ x M fun ds => Φ (.dat (.int ds.length)) M
theorem cd_len : CallD X (.builtin "len") δLen := by
  refine ⟨_, call_len_seq, fun vs H xs M Φ Q r rv h k => ?_⟩
  replace h := on1_ex h
  obtain ⟨x, rfl, h⟩ := h
  replace h := onQ_ex h
  obtain ⟨ds, hx, q⟩ := h
  have fin : Q (.int ds.length) H := k.dat r Step.refl (Dt.int _) q
  rcases hx with rfl | rfl | ⟨l, rfl, hm⟩
  · obtain ⟨v, rfl, h1⟩ := Paired.one rv
    obtain ⟨p, ys, rfl, g1, g2⟩ := VRel.tup h1
    exact ⟨p, ys, rfl, .inr g1.sq, by rw [g2.length]; exact fin⟩
  · obtain ⟨v, rfl, h1⟩ := Paired.one rv
    obtain ⟨p, ys, rfl, g1, g2⟩ := VRel.lst h1
    exact ⟨p, ys, rfl, .inl g1.sq, by rw [g2.length]; exact fin⟩
  · obtain ⟨v, rfl, h1⟩ := Paired.one rv
    cases (show v = .ref l from h1)
    obtain ⟨ws, g1, g2⟩ := r.ls l ds hm
    exact ⟨l, ws, rfl, .inl (SqL.of g1), by rw [g2.length]; exact fin⟩
def δLenS : D1 := fun xs M Φ => on1 xs fun x => onS x fun z => z.length ≤ sizeLine ∧ Φ (.dat (.int z.length)) M
def δStrI : D1 := fun xs M Φ => on1 xs fun x => onI x fun i => i.natAbs.log2 < 1920 ∧ Φ (.dat (.str (toString i))) M
def δAbs : D1 := fun xs M Φ => on1 xs fun x => onI x fun i => Φ (.dat (.int (if i < 0 then -i else i))) M
theorem cd_abs : CallD X (.builtin "abs") δAbs := by
  refine ⟨_, call_abs, fun vs H xs M Φ Q r rv h k => ?_⟩
  replace h := on1_ex h
  obtain ⟨x, rfl, h⟩ := h
  replace h := onI_ex h
  obtain ⟨i, rfl, q⟩ := h
  obtain ⟨v, rfl, h1⟩ := Paired.one rv
  exact ⟨i, by rw [VRel.int h1], k.dat r Step.refl (Dt.int _) q⟩
def δ2I (g : Int → Int → Int) : D1 := fun xs M Φ => on2 xs fun x y => onI x fun i => onI y fun j => Φ (.dat (.int (g i j))) M
theorem cd_max2 (hc : X.calm = true) : CallD X (.builtin "max") (δ2I fun i j => max i j) := by
  refine ⟨_, call_max2 hc, fun vs H xs M Φ Q r rv h k => ?_⟩
  replace h := on2_ex h
  obtain ⟨x, y, rfl, h⟩ := h
  replace h := onI_ex h
  obtain ⟨i, rfl, h⟩ := h
  replace h := onI_ex h
  obtain ⟨j, rfl, q⟩ := h
  obtain ⟨v, u, rfl, h1, h2⟩ := Paired.two rv
  have e : (if j > i then j else i) = max i j := by rw [Int.max_def]; split <;> split <;> omega
  exact ⟨i, j, by rw [VRel.int h1, VRel.int h2], by rw [e]; exact k.dat r Step.refl (Dt.int _) q⟩
theorem cd_min2 (hc : X.calm = true) : CallD X (.builtin "min") (δ2I fun i j => min i j) := by
  refine ⟨_, call_min2 hc, fun vs H xs M Φ Q r rv h k => ?_⟩
  replace h := on2_ex h
  obtain ⟨x, y, rfl, h⟩ := h
  replace h := onI_ex h
  obtain ⟨i, rfl, h⟩ := h
  replace h := onI_ex h
  obtain ⟨j, rfl, q⟩ := h
  obtain ⟨v, u, rfl, h1, h2⟩ := Paired.two rv
  have e : (if j < i then j else i) = min i j := by rw [Int.min_def]; split <;> split <;> omega
  exact ⟨i, j, by rw [VRel.int h1, VRel.int h2], by rw [e]; exact k.dat r Step.refl (Dt.int _) q⟩
/-- list(t): data -/
def δListOf : D1 := fun xs M Φ => on1 xs fun x => onQ x M fun ds => Φ (.dat (.list ds)) M
end
end DL

namespace DL
open PySem PySem.Spec PyProof.Rows L2
/-! ### data is read -/
mutual
def hasLst : PyData → Bool
  | .none | .bool _ | .int _ | .str _ => false
  | .list _ => true
  | .tuple xs => hasLstAll xs
  | .dict kvs => hasLstKv kvs
def hasLstAll : List PyData → Bool
  | [] => false
  | x :: xs => hasLst x || hasLstAll xs
def hasLstKv : List (PyData × PyData) → Bool
  | [] => false
  | (k, v) :: r => hasLst k || hasLst v || hasLstKv r
end
theorem hasLstKv_zip : ∀ (ks ds : List PyData), ks.length = ds.length → hasLstKv (ks.zip ds) = false → hasLstAll ds = false
  | [], [], _, _ => by simp [hasLstAll]
  | k :: ks, d :: ds, h, e => by
    rw [List.zip_cons_cons, hasLstKv] at e
    have e' : (hasLst k = false ∧ hasLst d = false) ∧ hasLstKv (ks.zip ds) = false := by simpa using e
    rw [hasLstAll, e'.1.2, hasLstKv_zip ks ds (by simpa using h) e'.2]; rfl
  | [], _ :: _, h, _ => by simp at h
  | _ :: _, [], h, _ => by simp at h
section
variable {X : Cx} {pins : List (Addr × Obj)} {σ : L2.St} {H : Hp} {s : Shared} {M : Mp}
theorem keys_read {h : Heap} {P : Program} {w : World} : ∀ {es : List DictEntry} {kvs : List (Key × Value)}, Pairs (mixKind P w) es kvs → ReadsAll h (es.map (·.key)) (kvs.map fun kv => kD kv.1) []
  | _, _, .nil => .nil
  | _, _, .cons (e := e) (kv := kv) h1 _ h3 => by
    rw [List.map_cons, List.map_cons]
    have hk : Reads h e.key (kD kv.1) [] := by
      rcases keyIs_shape (k := kv.1) (v := e.key) h1 with ⟨i, t, e1, e2⟩ | ⟨x, t, e1, e2⟩
      · rw [e1, e2]; exact .int i t
      · rw [e1, e2]; exact .str x t
    exact .cons (as := []) (bs := []) hk (keys_read h3)
theorem pairs_vals {P : Program} {w : World} : ∀ {es : List DictEntry} {kvs : List (Key × Value)}, Pairs (mixKind P w) es kvs → es.map (·.val) = kvs.map (·.2)
  | _, _, .nil => rfl
  | _, _, .cons h1 h2 h3 => by rw [List.map_cons, List.map_cons, h2, pairs_vals h3]
theorem KV.vals {kvs : List (Key × V)} {vs : List (Key × Value)} (r : KV kvs vs) : Vals (kvs.map (·.2)) (vs.map (·.2)) ∧ (kvs.map fun kv => kD kv.1) = vs.map fun kv => kD kv.1 := by
  unfold KV at r
  induction r with
  | nil => exact ⟨.nil, rfl⟩
  | cons h _ ih => exact ⟨.cons h.2 ih.1, by rw [List.map_cons, List.map_cons, h.1, ih.2]⟩
theorem kV_read {h : Heap} : ∀ {ks : List Key} {us : List Value}, Vals (ks.map kV) us → ReadsAll h us (ks.map kD) []
  | [], _, r => by rw [List.map_nil] at r; cases r; exact .nil
  | k :: ks, _, r => by
    rw [List.map_cons] at r
    cases r with
    | cons r1 r2 =>
      rw [List.map_cons]
      refine .cons (as := []) (bs := []) ?_ (kV_read r2)
      cases k with
      | inl i => obtain ⟨t, rfl⟩ := r1; exact .int i t
      | inr x => obtain ⟨t, rfl⟩ := r1; exact .str x t
theorem KT.read (I : Inv X pins σ H s) {kvs : List (List Key × V)} {xs : List (List Key × Addr × Value)} (r : KT H kvs xs) :
    ReadsAll s.heap (xs.map fun x => Value.ref x.2.1) (kvs.map fun kv => PyData.tuple (kv.1.map kD)) [] ∧ Vals (kvs.map (·.2)) (xs.map fun x => x.2.2) := by
  induction r with
  | nil => exact ⟨.nil, .nil⟩
  | @cons p q ps qs h _ ih =>
    obtain ⟨its, r, ⟨o, ho, hc, n, hd⟩, _⟩ := I.tuple (SqT.of (K := X.K) h.2.1)
    rw [List.map_cons, List.map_cons, List.map_cons, List.map_cons]
    exact ⟨.cons (as := []) (bs := []) (.tuple ho hc hd (by simpa using kV_read r)) ih.1, .cons h.2.2 ih.2⟩
mutual
theorem Dt.reads (I : Inv X pins σ H s) : ∀ {v : V} {d : PyData}, Dt X.K M H v d → ∀ {u : Value}, RelV v u → ∃ as, Reads s.heap u d as ∧ (hasLst d = false → sysModules ∉ as)
  | _, _, .non, _, r => by cases r; exact ⟨[], .none, fun _ h => nomatch h⟩
  | _, _, .bl b, _, r => by cases r; exact ⟨[], .bool b, fun _ h => nomatch h⟩
  | _, _, .int i, _, r => by obtain ⟨t, rfl⟩ := r; exact ⟨[], .int i t, fun _ h => nomatch h⟩
  | _, _, .str x, _, r => by obtain ⟨t, rfl⟩ := r; exact ⟨[], .str x t, fun _ h => nomatch h⟩
  | _, _, .tup h1 h2, _, r => by
    cases r
    obtain ⟨its, rv, ⟨o, ho, hc, n, hd⟩, _⟩ := I.tuple h1.sq
    obtain ⟨as, ra, hs⟩ := Dts.reads I h2 rv
    exact ⟨as, .tuple ho hc hd (by simpa using ra), fun h => hs (by simpa [hasLst] using h)⟩
  | _, _, .lst h1 h2, _, r => by
    cases r
    obtain ⟨its, rv, ⟨o, n, ho, hc, _, hd⟩, _⟩ := I.list h1.sq
    obtain ⟨as, ra, hs⟩ := Dts.reads I h2 rv
    exact ⟨_, .list ho hc hd (by simpa using ra), fun h => by simp [hasLst] at h⟩
  | _, _, .dK (a := a) (kvs := kvs) (ds := ds) h0 h1 h2, _, r => by
    cases r
    obtain ⟨_, hsys, vs, rel, o, es, ep, ho, hc, hd, _, hp, _⟩ := (show ObjOk X.prog X.w H s.heap a (.dK kvs) from I.hok a _ h1)
    obtain ⟨rv, hk⟩ := KV.vals rel
    obtain ⟨bs, rb, hs⟩ := Dts.reads I h2 rv
    have hl : (kvs.map fun kv => kD kv.1).length = ds.length := by rw [List.length_map, ← h2.length, List.length_map]
    refine ⟨a :: [] ++ bs, .dict (as := []) ho hc.1 hd ?_ ?_, fun h => ?_⟩
    · rw [List.map_fst_zip (Nat.le_of_eq hl), hk]
      exact keys_read hp
    · rw [List.map_snd_zip (Nat.le_of_eq hl.symm), pairs_vals hp]
      exact rb
    · have h' : hasLstAll ds = false := hasLstKv_zip _ _ hl (by rw [hasLst] at h; exact h)
      intro hm
      rcases List.mem_cons.mp hm with e | hm
      · rw [← e] at hsys
        simp at hsys
      · exact hs h' hm
  | _, _, .dT (a := a) (kvs := kvs) (ds := ds) h0 h1 h2, _, r => by
    cases r
    obtain ⟨_, hsys, xs, rel, o, es, ep, ho, hc, hd, he, _⟩ := (show ObjOk X.prog X.w H s.heap a (.dT kvs) from I.hok a _ h1)
    obtain ⟨rk, rv⟩ := KT.read I rel
    obtain ⟨bs, rb, hs⟩ := Dts.reads I h2 rv
    have hl : (kvs.map fun kv => PyData.tuple (kv.1.map kD)).length = ds.length := by rw [List.length_map, ← h2.length, List.length_map]
    refine ⟨a :: [] ++ bs, .dict (as := []) ho hc.1 hd ?_ ?_, fun h => ?_⟩
    · rw [List.map_fst_zip (Nat.le_of_eq hl), he, List.map_map]
      exact rk
    · rw [List.map_snd_zip (Nat.le_of_eq hl.symm), he, List.map_map]
      exact rb
    · have h' : hasLstAll ds = false := hasLstKv_zip _ _ hl (by rw [hasLst] at h; exact h)
      intro hm
      rcases List.mem_cons.mp hm with e | hm
      · rw [← e] at hsys
        simp at hsys
      · exact hs h' hm
  | _, _, .dX (a := a) (dk := dk) (d := d) h0 h1 hsys h3 h4 h5, _, r => by
    cases r
    obtain ⟨hφ, _⟩ := (show ObjOk X.prog X.w H s.heap a (.ext _) from I.hok a _ h1)
    obtain ⟨o, es, n, u, ho, hc, hd, ek, ev, ru⟩ := h3 s.heap hφ
    obtain ⟨as, ra, ha⟩ := Dt.reads I h4 (u := .ref _) rfl
    obtain ⟨bs, rb, hb⟩ := Dt.reads I h5 ru
    refine ⟨a :: (as ++ []) ++ (bs ++ []), .dict ho hc hd ?_ ?_, fun h => ?_⟩
    · rw [ek]; exact .cons ra .nil
    · rw [ev]; exact .cons rb .nil
    · have h' : hasLst dk = false ∧ hasLst d = false := by simpa [hasLst, hasLstKv] using h
      intro hm
      rw [List.append_nil, List.append_nil, List.cons_append] at hm
      rcases List.mem_cons.mp hm with e | hm
      · rw [← e] at hsys
        simp at hsys
      · rcases List.mem_append.mp hm with hm | hm
        · exact ha h'.1 hm
        · exact hb h'.2 hm
theorem Dts.reads (I : Inv X pins σ H s) : ∀ {vs : List V} {ds : List PyData}, Dts X.K M H vs ds → ∀ {us : List Value}, Vals vs us → ∃ as, ReadsAll s.heap us ds as ∧ (hasLstAll ds = false → sysModules ∉ as)
  | _, _, .nil, _, r => by cases r; exact ⟨[], .nil, fun _ h => nomatch h⟩
  | _, _, .cons (d := d) (ds := ds) h1 h2, _, r => by
    cases r with
    | cons r1 r2 =>
      obtain ⟨as, ra, ha⟩ := Dt.reads I h1 r1
      obtain ⟨bs, rb, hb⟩ := Dts.reads I h2 r2
      refine ⟨as ++ bs, .cons ra rb, fun h hm => ?_⟩
      have h' : hasLst d = false ∧ hasLstAll ds = false := by simpa [hasLstAll] using h
      rcases List.mem_append.mp hm with hm | hm
      · exact ha h'.1 hm
      · exact hb h'.2 hm
end
end
section
variable {X : Cx}
/-! ### repr -/
/-- data whose text can be shown -/
structure Shw (d : PyData) : Prop where
  s : d.showable = true
  m : (d.hasDict && hasLst d) = false
  dp : d.depth ≤ 64
  z : d.shown.length ≤ sizeLine
def δRepr : D1 := fun xs M Φ => on1 xs fun x => onD x fun d => Shw d ∧ Φ (.dat (.str d.shown)) M
/-! ### isinstance -/
def tyN : PyData → String
  | .none => "NoneType"
  | .bool _ => "bool"
  | .int _ => "int"
  | .str _ => "str"
  | .list _ => "list"
  | .tuple _ => "tuple"
  | .dict _ => "dict"
theorem call_isiD : CallR X (.builtin "isinstance") (fun xs H Q => ∃ v d M T b, xs = [v, .ty T] ∧ Dt X.K M H v d ∧ PySem.W.kitOne X.K (.type (tyN d)) (.type T) = some b ∧ Q (.bl b) H) := by
  intro pins s σ H xs us Q I r h
  obtain ⟨v, d, M, T, b, rfl, hd, e, q⟩ := h
  obtain ⟨u, w', rfl, ru, rt⟩ := vals2 r
  cases (show w' = Value.type T from rt)
  have fin : ∀ tk, EP X pins σ Q (.bool b) { s with toks := tk } := fun tk => ⟨.bl b, H, I.tok tk, rfl, q⟩
  cases hd with
  | non => cases ru; exact PySem.W.kia_one PySem.W.kitx_none I.kIn True.intro e (fun z => nomatch z) fin
  | bl y => cases ru; exact PySem.W.kia_one PySem.W.kitx_bool I.kIn True.intro e (fun z => nomatch z) fin
  | int i => obtain ⟨t, rfl⟩ := ru; exact PySem.W.kia_one PySem.W.kitx_int I.kIn True.intro e (fun z => nomatch z) fin
  | str y => obtain ⟨t, rfl⟩ := ru; exact PySem.W.kia_one PySem.W.kitx_str I.kIn True.intro e (fun z => nomatch z) fin
  | tup h1 _ =>
    cases ru
    obtain ⟨_, _, ⟨o, ho, hc, _⟩, _⟩ := I.tuple h1.sq
    exact PySem.W.kia_one PySem.W.kitx_tuple I.kIn ⟨o, ho, hc⟩ e (fun z => nomatch z) fin
  | lst h1 _ =>
    cases ru
    obtain ⟨_, _, ⟨o, n, ho, hc, _⟩, _⟩ := I.list h1.sq
    exact PySem.W.kia_one PySem.W.kitx_list I.kIn ⟨o, ho, hc⟩ e (fun z => nomatch z) fin
  | dK _ h1 _ =>
    cases ru
    obtain ⟨_, _, vs, _, p⟩ := (show ObjOk X.prog X.w H s.heap _ (.dK _) from I.hok _ _ h1)
    obtain ⟨o, es, ep, g1, g2, _⟩ := p
    exact PySem.W.kia_one PySem.W.kitx_dict I.kIn ⟨o, g1, g2.1⟩ e (fun z => nomatch z) fin
  | dT _ h1 _ =>
    cases ru
    obtain ⟨_, _, xs, _, o, es, ep, g1, g2, _⟩ := (show ObjOk X.prog X.w H s.heap _ (.dT _) from I.hok _ _ h1)
    exact PySem.W.kia_one PySem.W.kitx_dict I.kIn ⟨o, g1, g2.1⟩ e (fun z => nomatch z) fin
  | dX _ h1 _ h3 _ _ =>
    cases ru
    obtain ⟨hφ, _⟩ := (show ObjOk X.prog X.w H s.heap _ (.ext _) from I.hok _ _ h1)
    obtain ⟨o, es, n, u, ho, hc, _⟩ := h3 s.heap hφ
    exact PySem.W.kia_one PySem.W.kitx_dict I.kIn ⟨o, ho, hc⟩ e (fun z => nomatch z) fin
def isTyp (T : String) (d : PyData) : Bool := tyN d == T || (T == "int" && tyN d == "bool")
theorem kit_int (K : PySem.W.Frag) (d : PyData) : PySem.W.kitOne K (.type (tyN d)) (.type "int") = some (isTyp "int" d) := by cases d <;> rfl
theorem kit_bool (K : PySem.W.Frag) (d : PyData) : PySem.W.kitOne K (.type (tyN d)) (.type "bool") = some (isTyp "bool" d) := by cases d <;> rfl
theorem kit_tuple (K : PySem.W.Frag) (d : PyData) : PySem.W.kitOne K (.type (tyN d)) (.type "tuple") = some (isTyp "tuple" d) := by cases d <;> rfl
def δIsi (T : String) : D1 := fun xs M Φ => match xs with | [.dat d, .ty t] => t = T ∧ Φ (.dat (.bool (isTyp T d))) M | _ => False
theorem cd_isi {T : String} (ht : ∀ d, PySem.W.kitOne X.K (.type (tyN d)) (.type T) = some (isTyp T d)) : CallD X (.builtin "isinstance") (δIsi T) := by
  refine ⟨_, call_isiD, fun vs H xs M Φ Q r rv h k => ?_⟩
  replace h : ∃ d, xs = [.dat d, .ty T] ∧ Φ (.dat (.bool (isTyp T d))) M := by
    unfold δIsi at h
    split at h
    · exact ⟨_, by rw [h.1], h.2⟩
    · exact h.elim
  obtain ⟨d, rfl, q⟩ := h
  obtain ⟨v, u, rfl, h1, h2⟩ := Paired.two rv
  cases (show u = .ty T from h2)
  exact ⟨v, d, M, T, _, rfl, h1, ht d, k.dat r Step.refl (Dt.bl _) q⟩
/-! ### ==, != -/
theorem op_eqD (hu : X.A.units + 64 < cLine) : OpR X (compareOp .Eq) (fun x y H Q => ∃ M d e, Dt X.K M H x d ∧ Dt X.K M H y e ∧ d.canLay0 = true ∧ e.canLay0 = true ∧ min d.depth e.depth ≤ 64 ∧ Q (.bl (PyData.eqv d e)) H) := by
  intro pins s σ H x y v u Q I rx ry h
  obtain ⟨M, d, e, h1, h2, c1, c2, hdp, q⟩ := h
  obtain ⟨as, ra, _⟩ := h1.reads I rx
  obtain ⟨bs, rb, _⟩ := h2.reads I ry
  exact PySem.SeqAt.compareEq_reads ra rb c1 c2 (by omega) ⟨.bl _, H, I, rfl, q⟩
theorem op_neD (hu : X.A.units + 64 < cLine) : OpR X (compareOp .NotEq) (fun x y H Q => ∃ M d e, Dt X.K M H x d ∧ Dt X.K M H y e ∧ d.canLay0 = true ∧ e.canLay0 = true ∧ min d.depth e.depth ≤ 64 ∧ Q (.bl (!PyData.eqv d e)) H) := by
  intro pins s σ H x y v u Q I rx ry h
  obtain ⟨M, d, e, h1, h2, c1, c2, hdp, q⟩ := h
  obtain ⟨as, ra, _⟩ := h1.reads I rx
  obtain ⟨bs, rb, _⟩ := h2.reads I ry
  exact PySem.SeqAt.compareNe_reads ra rb c1 c2 (by omega) ⟨.bl _, H, I, rfl, q⟩
/-- may be compared -/
def okEq (d e : PyData) : Bool := d.canLay0 && e.canLay0 && Nat.ble (min d.depth e.depth) 64
def eqD : PyData → PyData → (Bool → Prop) → Prop
  | .int i, .int j, P => P (decide (i = j))
  | .str s, .str t, P => P (decide (s = t))
  | .bool a, .bool b, P => P (a == b)
  | d, e, P => okEq d e = true ∧ P (PyData.eqv d e)
theorem eqD_of {d e : PyData} {P : Bool → Prop} (h : okEq d e = true) (p : P (PyData.eqv d e)) : eqD d e P := by
  unfold eqD
  split
  · simp only [PyData.eqv] at p
    rw [show decide (_ = _) = (_ == _) from (Bool.beq_eq_decide_eq _ _).symm] at *
    exact p
  · simp only [PyData.eqv] at p
    rw [show decide (_ = _) = (_ == _) from (Bool.beq_eq_decide_eq _ _).symm] at *
    exact p
  · simp only [PyData.eqv] at p
    exact p
  · exact ⟨h, p⟩
theorem eqD_ex {d e : PyData} {P : Bool → Prop} (h : eqD d e P) : (d.canLay0 = true ∧ e.canLay0 = true ∧ min d.depth e.depth ≤ 64 ∧ P (PyData.eqv d e)) ∨ ∃ s t, d = .str s ∧ e = .str t ∧ P (decide (s = t)) := by
  unfold eqD at h
  split at h
  · refine .inl ⟨by simp [PyData.canLay0], by simp [PyData.canLay0], by simp [PyData.depth], ?_⟩
    simp only [PyData.eqv]
    rw [Bool.beq_eq_decide_eq]
    exact h
  · exact .inr ⟨_, _, rfl, rfl, h⟩
  · refine .inl ⟨by simp [PyData.canLay0], by simp [PyData.canLay0], by simp [PyData.depth], ?_⟩
    simp only [PyData.eqv]
    exact h
  · have h1 := h.1
    unfold okEq at h1
    simp only [Bool.and_eq_true] at h1
    exact .inl ⟨h1.1.1, h1.1.2, Nat.le_of_ble_eq_true h1.2, h.2⟩
theorem op_or {f : Value → Value → Sem Value} {r1 r2 : R2} (h1 : OpR X f r1) (h2 : OpR X f r2) : OpR X f (fun x y H Q => r1 x y H Q ∨ r2 x y H Q) :=
  fun pins s σ H x y v u Q I rx ry h => h.elim (h1 pins s σ H x y v u Q I rx ry) (h2 pins s σ H x y v u Q I rx ry)
def δEq : D2 := fun x y M Φ => onD x fun d => onD y fun e => eqD d e fun b => Φ (.dat (.bool b)) M
def δNe : D2 := fun x y M Φ => onD x fun d => onD y fun e => eqD d e fun b => Φ (.dat (.bool (!b))) M
theorem od_eq {k : Nat} (hr : Room k X.A) : OpD X (compareOp .Eq) δEq :=
  ⟨_, op_or (op_eqD hr.units) op_eq, fun v u H x y M Φ Q r rv ru h k => by
    obtain ⟨d, e1, h⟩ := onD_ex h
    obtain ⟨e, e2, h⟩ := onD_ex h
    subst e1 e2
    rcases eqD_ex h with ⟨c1, c2, hdp, q⟩ | ⟨s, t, rfl, rfl, q⟩
    · exact .inl ⟨M, d, e, rv, ru, c1, c2, hdp, k.dat r Step.refl (Dt.bl _) q⟩
    · have q' : Q (.bl (decide (s = t))) H := k.dat r Step.refl (Dt.bl _) q
      refine .inr ⟨by rw [rv.str, ru.str]; rfl, ?_⟩
      rw [rv.str, ru.str, dec_str, Bool.beq_eq_decide_eq]
      exact q'⟩
theorem od_ne {k : Nat} (hr : Room k X.A) : OpD X (compareOp .NotEq) δNe :=
  ⟨_, op_or (op_neD hr.units) op_ne, fun v u H x y M Φ Q r rv ru h k => by
    obtain ⟨d, e1, h⟩ := onD_ex h
    obtain ⟨e, e2, h⟩ := onD_ex h
    subst e1 e2
    rcases eqD_ex h with ⟨c1, c2, hdp, q⟩ | ⟨s, t, rfl, rfl, q⟩
    · exact .inl ⟨M, d, e, rv, ru, c1, c2, hdp, k.dat r Step.refl (Dt.bl _) q⟩
    · have q' : Q (.bl (!decide (s = t))) H := k.dat r Step.refl (Dt.bl _) q
      refine .inr ⟨by rw [rv.str, ru.str]; rfl, ?_⟩
      rw [rv.str, ru.str, dec_str, Bool.beq_eq_decide_eq]
      exact q'⟩
/-! != of texts (any size) -/
def δNeS : D2 := fun x y M Φ => onS x fun s => onS y fun t => Φ (.dat (.bool (!decide (s = t)))) M
def δEqS : D2 := fun x y M Φ => onS x fun s => onS y fun t => Φ (.dat (.bool (decide (s = t)))) M
/-! ### slices of tuples -/
abbrev DTO := DSt → Mp → (Option Int → Mp → Prop) → Prop
def DO (X : Cx) (e : Option Expr) (τ : DTO) : Prop := ∃ t, PO X e t ∧ ∀ σ H Δ M Φ (Q : Option Int → Hp → Prop), DRel X.K M H → ERel X.K M H σ Δ → τ Δ M Φ → (∀ o H' M', DRel X.K M' H' → Step M H M' H' → Φ o M' → Q o H') → t σ H Q
def dNoPart : DTO := fun _ M Φ => Φ none M
def dPart (t : DTE) : DTO := fun Δ M Φ => t Δ M fun x M1 => onI x fun i => Φ (some i) M1
theorem do_some {e : Expr} {te : DTE} (h : DE X e te) : DO X (some e) (dPart te) := by
  obtain ⟨t, p, q⟩ := h
  refine ⟨_, po_some p, fun σ H Δ M Φ Q r e h k => ?_⟩
  refine q σ H Δ M _ _ r e h fun v H1 x M1 r1 st rv hx => ?_
  replace hx := onI_ex hx
  obtain ⟨i, rfl, hx⟩ := hx
  exact ⟨i, rv.int, k _ H1 M1 r1 st hx⟩
def cutD (xs : List PyData) (lo hi : Option Int) : List PyData := (xs.drop (HT.sIx xs.length 0 lo)).take (HT.sIx xs.length xs.length hi - HT.sIx xs.length 0 lo)
theorem Dts.cut {K : PySem.W.Frag} {M : Mp} {H : Hp} {vs : List V} {ds : List PyData} (h : Dts K M H vs ds) (lo hi : Option Int) : Dts K M H (cutV vs lo hi) (cutD ds lo hi) := by
  unfold cutV cutD
  rw [h.length]
  exact (h.drop _).take _
def dSlT (te : DTE) (tl th : DTO) : DTE := fun Δ M Φ => te Δ M fun x M1 => tl Δ M1 fun l M2 => th Δ M2 fun u M3 => onT x fun ds => ¬ (HT.sIx ds.length 0 l = 0 ∧ HT.sIx ds.length ds.length u = ds.length) ∧ Φ (.dat (.tuple (cutD ds l u))) M3
theorem de_sliceT {e : Expr} {te : DTE} {lo hi : Option Expr} {tl th : DTO} {p2 pos : Pos} (he : DE X e te) (hl : DO X lo tl) (hu : DO X hi th) : DE X (.Subscript e (.Slice lo hi none p2) pos) (dSlT te tl th) := by
  obtain ⟨t1, p1, q1⟩ := he
  obtain ⟨t2, p2, q2⟩ := hl
  obtain ⟨t3, p3, q3⟩ := hu
  refine ⟨_, pe_slice sl_tup p1 p2 p3, fun σ H Δ M Φ Q r e h k => ?_⟩
  refine q1 σ H Δ M _ _ r e h fun v H1 x M1 r1 st rv hx => ?_
  refine q2 σ H1 Δ M1 _ _ r1 (e.step st) hx fun l H2 M2 r2 st2 hl => ?_
  refine q3 σ H2 Δ M2 _ _ r2 (e.step (st.trans st2)) hl fun u H3 M3 r3 st3 hu => ?_
  replace hu := onT_ex hu
  obtain ⟨ds, rfl, hw, hu⟩ := hu
  obtain ⟨a, xs, rfl, h1, h2⟩ := (rv.step (st2.trans st3)).tup
  refine ⟨a, xs, rfl, h1.sq, by rw [h2.length]; exact hw, fun p hp => ?_⟩
  exact k.dat (r3.new hp) ((st.trans (st2.trans st3)).trans (Step.new hp)) (Dt.newTup r3 hp (h2.cut l u)) hu
end
end DL

namespace DL
open PySem PySem.Spec PyProof.Rows L2
/-! ### statements -/
def dNext : DTS := fun D Δ M => D.nx Δ M
def dSeq (t u : DTS) : DTS := fun D Δ M => t { D with nx := u D } Δ M
section
variable {X : Cx} {st : Stmt} {rest : List Stmt} {t u : DTS} {e : Expr} {te : DTE} {pos : Pos}
theorem dss_nil : DSs X [] dNext := ⟨_, pss_nil, fun σ H Δ M D E r e h k => k.nx σ H Δ M r Step.refl e h⟩
theorem dss_cons (h1 : DS X st t) (h2 : DSs X rest u) : DSs X (st :: rest) (dSeq t u) := by
  obtain ⟨t1, p1, q1⟩ := h1
  obtain ⟨t2, p2, q2⟩ := h2
  refine ⟨_, pss_cons p1 p2, fun σ H Δ M D E r e h k => ?_⟩
  refine q1 σ H Δ M { D with nx := u D } { E with nx := t2 E } r e h ⟨fun σ' H' Δ' M' r' st' e' hn => ?_, k.rt, k.bk, k.ct⟩
  exact q2 σ' H' Δ' M' D E r' e' hn (k.step st')
theorem dss_one (h1 : DS X st t) : DSs X [st] t := by
  obtain ⟨t1, p1, q1⟩ := h1
  exact ⟨_, pss_one p1, q1⟩
def dBreak : DTS := fun D Δ M => D.bk Δ M
def dCont : DTS := fun D Δ M => D.ct Δ M
def dDrop (te : DTE) : DTS := fun D Δ M => te Δ M fun _ M1 => D.nx Δ M1
theorem ds_expr (he : DE X e te) (hs : swapsWith e none pos.line X.env = pure false := by rfl) : DS X (.Expr e pos) (dDrop te) := by
  obtain ⟨t, p, q⟩ := he
  refine ⟨_, ps_expr p hs, fun σ H Δ M D E r e h k => ?_⟩
  exact q σ H Δ M _ _ r e h fun v H1 x M1 r1 st rv hx => k.nx σ H1 Δ M1 r1 st (e.step st) hx
def dRet (te : DTE) : DTS := fun D Δ M => te Δ M D.rt
theorem ds_ret (he : DE X e te) : DS X (.Return (some e) pos) (dRet te) := by
  obtain ⟨t, p, q⟩ := he
  exact ⟨_, ps_ret p, fun σ H Δ M D E r e h k => q σ H Δ M _ _ r e h k.rt⟩
def dRetN : DTS := fun D _ M => D.rt (.dat .none) M
def dIfS (c : DTT) (t u : DTS) : DTS := fun D Δ M => c Δ M fun b M1 => if b = true then t D Δ M1 else u D Δ M1
theorem ds_if {c : Expr} {a b : List Stmt} {tc : DTT} (hc : DT X c tc) (ha : DSs X a t) (hb : DSs X b u) : DS X (.If c a b pos) (dIfS tc t u) := by
  obtain ⟨t0, p0, q0⟩ := hc
  obtain ⟨t1, p1, q1⟩ := ha
  obtain ⟨t2, p2, q2⟩ := hb
  refine ⟨_, ps_if p0 p1 p2, fun σ H Δ M D E r e h k => ?_⟩
  refine q0 σ H Δ M _ _ r e h fun c H1 M1 r1 st hc => ?_
  cases c with
  | true => rw [if_pos rfl]; exact q1 σ H1 Δ M1 D E r1 (e.step st) (by simpa using hc) (k.step st)
  | false => rw [if_neg Bool.false_ne_true]; exact q2 σ H1 Δ M1 D E r1 (e.step st) (by simpa using hc) (k.step st)
/-! ### targets -/
abbrev DTG := DV → DSt → Mp → (DSt → Mp → Prop) → Prop
abbrev DTGs := List DV → DSt → Mp → (DSt → Mp → Prop) → Prop
def DG (X : Cx) (tg : Expr) (τ : DTG) : Prop := ∃ t, PG X tg t ∧ ∀ v σ H x Δ M Φ (Q : L2.St → Hp → Prop), DRel X.K M H → ERel X.K M H σ Δ → VRel X.K M H v x → τ x Δ M Φ →
  (∀ σ' H' Δ' M', DRel X.K M' H' → Step M H M' H' → ERel X.K M' H' σ' Δ' → Φ Δ' M' → Q σ' H') → t v σ H Q
def DGs (X : Cx) (ts : List Expr) (τ : DTGs) : Prop := ∃ t, PGs X ts t ∧ ∀ vs σ H xs Δ M Φ (Q : L2.St → Hp → Prop), DRel X.K M H → ERel X.K M H σ Δ → VRels X.K M H vs xs → τ xs Δ M Φ →
  (∀ σ' H' Δ' M', DRel X.K M' H' → Step M H M' H' → ERel X.K M' H' σ' Δ' → Φ Δ' M' → Q σ' H') → t vs σ H Q
def dgName (i : Nat) : DTG := fun x Δ M Φ => Φ (Δ.set i (some x)) M
theorem dg_name (i : Nat) {x : Str} (hN : X.N.Nodup) (hi : X.N[i]? = some x := by rfl) (hx : Loc X.env.scope x := by first | exact Or.inl rfl | exact Or.inr rfl) (hf : X.fn x = true ∨ X.env.scope.names.lookup x = some .local := by first | exact .inl rfl | exact .inr rfl | assumption) :
    DG X (.Name x pos) (dgName i) :=
  ⟨_, pg_name hN hi hx hf, fun v σ H x Δ M Φ Q r e rv h k => k _ H _ M r Step.refl (e.set rv) h⟩
def dgNil : DTGs := fun xs Δ M Φ => match xs with | [] => Φ Δ M | _ => False
def dgCons (t : DTG) (u : DTGs) : DTGs := fun xs Δ M Φ => match xs with | x :: r => t x Δ M fun Δ' M' => u r Δ' M' Φ | [] => False
theorem dgs_nil : DGs X [] dgNil := ⟨_, pgs_nil, fun vs σ H xs Δ M Φ Q r e rv h k => by
  cases xs with
  | cons x r => exact h.elim
  | nil =>
  have h2 : Φ Δ M := h
  cases rv
  exact ⟨rfl, k σ H Δ M r Step.refl e h2⟩⟩
theorem dgs_cons {es : List Expr} {t : DTG} {u : DTGs} (h1 : DG X e t) (h2 : DGs X es u)
    (hs : (assignEach (e :: es) X.env).map (·.2) = assign e X.env :: (assignEach es X.env).map (·.2) := by rfl) : DGs X (e :: es) (dgCons t u) := by
  obtain ⟨t1, p1, q1⟩ := h1
  obtain ⟨t2, p2, q2⟩ := h2
  refine ⟨_, pgs_cons p1 p2 hs, fun vs σ H xs Δ M Φ Q r e rv h k => ?_⟩
  obtain ⟨x, xr, e1, h⟩ : ∃ x xr, xs = x :: xr ∧ t x Δ M fun Δ' M' => u xr Δ' M' Φ := by
    cases xs with
    | nil => exact h.elim
    | cons x xr => exact ⟨x, xr, rfl, h⟩
  subst e1
  cases rv with
  | cons ra rr =>
    refine ⟨_, _, rfl, q1 _ σ H x Δ M _ _ r e ra h fun σ' H' Δ' M' r' st e' h' => ?_⟩
    exact q2 _ σ' H' xr Δ' M' Φ Q r' e' (VRels.step rr st) h' fun σ2 H2 Δ2 M2 r2 st2 e2 hΦ => k σ2 H2 Δ2 M2 r2 (st.trans st2) e2 hΦ
/-- just n of them -/
def onNs : Nat → List PyData → (List DV → Prop) → Prop
  | 0, [], P => P []
  | n + 1, d :: r, P => onNs n r fun xs => P (.dat d :: xs)
  | 0, _ :: _, _ => False
  | _ + 1, [], _ => False
theorem onNs_ex : ∀ {n : Nat} {ds : List PyData} {P : List DV → Prop}, onNs n ds P → ds.length = n ∧ P (ds.map DV.dat)
  | 0, [], _, h => ⟨rfl, h⟩
  | n + 1, d :: r, P, h => by
    obtain ⟨a, b⟩ := onNs_ex (n := n) (ds := r) h
    exact ⟨by rw [List.length_cons, a], b⟩
  | 0, _ :: _, _, h => h.elim
  | _ + 1, [], _, h => h.elim
def dgTup (n : Nat) (t : DTGs) : DTG := fun x Δ M Φ => onT x fun ds => onNs n ds fun xs => t xs Δ M Φ
theorem Dts.vrels {K : PySem.W.Frag} {M : Mp} {H : Hp} : ∀ {vs : List V} {ds : List PyData}, Dts K M H vs ds → VRels K M H vs (ds.map DV.dat)
  | _, _, .nil => .nil
  | _, _, .cons h1 h2 => .cons h1 (Dts.vrels h2)
theorem dg_tup {es : List Expr} {k : Nat} {t : DTGs} {n : Nat} (hc : X.calm = true) (h : DGs X es t) (hn : (assignEach es X.env).length = n := by rfl) (hst : (assignEach es X.env).findIdx? (·.1) = none := by rfl) : DG X (.Tuple es k pos) (dgTup n t) := by
  obtain ⟨t1, p1, q1⟩ := h
  refine ⟨_, pg_tup hc p1 hn hst, fun v σ H x Δ M Φ Q r e rv h k => ?_⟩
  replace h := onT_ex h
  obtain ⟨ds, rfl, h⟩ := h
  replace h := onNs_ex h
  obtain ⟨hl, h⟩ := h
  obtain ⟨a, xs, rfl, h1, h2⟩ := rv.tup
  exact ⟨a, xs, rfl, h1.sq, by rw [h2.length]; exact hl, q1 xs σ H _ Δ M Φ Q r e h2.vrels h k⟩
/-- l[i] = v of an owned list -/
def dgSub (to ti : DTE) : DTG := fun x Δ M Φ => to Δ M fun o M1 => ti Δ M1 fun i M2 => onO o fun l => onI i fun k => onD x fun d => onOL (M2 l) fun ds => ∃ j, ixN ds.length k = some j ∧ Φ Δ (mset M2 l (.lst (ds.set j d)))
theorem dg_sub {o i : Expr} {to ti : DTE} (ho : DE X o to) (hi : DE X i ti)
    (ha : ∀ v, assign (.Subscript o i pos) X.env v = (do
      let ov ← holding [v] (eval o X.env)
      let iv ← holding [v, ov] (eval i X.env)
      standAt pos
      holding [v, ov, iv] (setItem ov iv v)
      release [v, ov, iv] []) := by intro _; rfl) : DG X (.Subscript o i pos) (dgSub to ti) := by
  obtain ⟨t1, p1, q1⟩ := ho
  obtain ⟨t2, p2, q2⟩ := hi
  refine ⟨_, pg_sub p1 p2 set_list ha, fun v σ H x Δ M Φ Q r e rv h k => ?_⟩
  refine Snd.bin q1 q2 r e h fun w1 w2 H2 o' i' M2 r2 st ro ri hs => ?_
  replace hs := onO_ex hs
  obtain ⟨l, rfl, hs⟩ := hs
  replace hs := onI_ex hs
  obtain ⟨kk, rfl, hs⟩ := hs
  replace hs := onD_ex hs
  obtain ⟨d, rfl, hs⟩ := hs
  replace hs := onOL_ex hs
  obtain ⟨ds, hm, j, hj, hΦ⟩ := hs
  obtain ⟨vs, g1, g2⟩ := r2.ls l ds hm
  cases (show w1 = .ref l from ro)
  have rv2 : Dt X.K M2 H2 v d := Dt.step st rv
  have st2 : Step M2 H2 (mset M2 l (.lst (ds.set j d))) (upd H2 l (.lst (vs.set j v))) := Step.ownPut hm
  refine ⟨l, vs, kk, j, rfl, ri.int, g1, by rw [g2.length]; exact hj, ?_⟩
  exact k σ _ Δ _ (r2.ownSet st2 (g2.set rv2 j)) (st.trans st2) (e.step (st.trans st2)) hΦ
def dAsg (te : DTE) (g : DTG) : DTS := fun D Δ M => te Δ M fun x M1 => g x Δ M1 D.nx
theorem ds_asg {tg : Expr} {g : DTG} (he : DE X e te) (hg : DG X tg g) (hs : swapsWithSole [tg] e pos.line X.env = pure false := by rfl) (hw : swappedStores [tg] e X.env = pure none := by rfl)
    (h1 : (assignEach [tg] X.env).map (·.2) = [assign tg X.env] := by rfl) : DS X (.Assign [tg] e pos) (dAsg te g) := by
  obtain ⟨t1, p1, q1⟩ := he
  obtain ⟨t2, p2, q2⟩ := hg
  refine ⟨_, ps_asg p1 p2 hs hw h1, fun σ H Δ M D E r e h k => ?_⟩
  refine q1 σ H Δ M _ _ r e h fun v H1 x M1 r1 st rv hx => ?_
  exact q2 v σ H1 x Δ M1 _ _ r1 (e.step st) rv hx fun σ' H' Δ' M' r' st' e' hn => k.nx σ' H' Δ' M' r' (st.trans st') e' hn
theorem ds_set (i : Nat) {x : Str} {pos' : Pos} (hN : X.N.Nodup) (he : DE X e te) (hi : X.N[i]? = some x := by rfl) (hx : Loc X.env.scope x := by first | exact Or.inl rfl | exact Or.inr rfl) (hs : swapsWith e (some (.Name x pos')) pos.line X.env = pure false := by rfl)
    (hf : X.fn x = true ∨ X.env.scope.names.lookup x = some .local := by first | exact .inl rfl | exact .inr rfl | assumption) : DS X (.Assign [.Name x pos'] e pos) (dAsg te (dgName i)) := by
  obtain ⟨t1, p1, q1⟩ := he
  refine ⟨_, ps_set hN hi hx p1 hs hf, fun σ H Δ M D E r e h k => ?_⟩
  refine q1 σ H Δ M _ _ r e h fun v H1 x M1 r1 st rv hx => ?_
  exact k.nx _ H1 _ M1 r1 st ((e.step st).set rv) hx
/-- l.append(e) of an owned list -/
def dAppend (to te : DTE) : DTE := fun Δ M Φ => to Δ M fun x M1 => onO x fun l => onOL (M1 l) fun _ => te Δ M1 fun y M2 => onD y fun d => onOL (M2 l) fun ds => ds.length < sizeLine ∧ Φ (.dat .none) (mset M2 l (.lst (ds ++ [d])))
theorem de_append {o : Expr} {to : DTE} {apos cpos : Pos} (ho : DE X o to) (he : DE X e te) (hbase : attributeBase o "append" X.env (eval o X.env) = eval o X.env := by rfl)
    (hfew : ((backTo cpos (starEach [e] X.env)).all (fun x => !x.1) && (backToKw cpos (keywordEach [] X.env)).all (fun x => x.1.isSome)
      && decide ([e].length + ([] : List Keyword).length + (if ([] : List Keyword).isEmpty then 0 else 1) < 30)) = true := by rfl)
    (hline : (apos.endLine == cpos.line) = true := by rfl) (hs : starEach [e] X.env = (false, eval e X.env) :: starEach [] X.env := by rfl) (hplain : (backTo cpos (starEach [] X.env)).any (·.1) = false := by rfl) :
    DE X (.Call (.Attribute o "append" apos) [e] [] cpos) (dAppend to te) := by
  obtain ⟨t1, p1, q1⟩ := ho
  obtain ⟨t2, p2, q2⟩ := he
  refine ⟨_, pe_bm PySem.F.plainAttrs_list PySem.F.slot_list_append PySem.F.type_list_append mt_append p1 (pa_cons p2 pa_nil hs) hbase hfew hline hs hplain, fun σ H Δ M Φ Q r e h k => ?_⟩
  refine q1 σ H Δ M _ _ r e h fun v H1 x M1 r1 st rv hx => ?_
  replace hx := onO_ex hx
  obtain ⟨l, rfl, hx⟩ := hx
  replace hx := onOL_ex hx
  obtain ⟨oo, ho, hx⟩ := hx
  cases (show v = .ref l from rv)
  have ty : tyV X.K "list" (.ref l) H1 := by
    obtain ⟨vs, g1, _⟩ := r1.ls l oo ho
    exact .inl ⟨rfl, vs, SqL.of g1⟩
  refine ⟨ty, q2 σ H1 Δ M1 _ _ r1 (e.step st) hx fun w H2 y M2 r2 st2 rw2 hy => ?_⟩
  replace hy := onD_ex hy
  obtain ⟨d, rfl, hy⟩ := hy
  replace hy := onOL_ex hy
  obtain ⟨ds, hm, hz, hy⟩ := hy
  obtain ⟨vs, g1, g2⟩ := r2.ls l ds hm
  have st3 : Step M2 H2 (mset M2 l (.lst (ds ++ [d]))) (upd H2 l (.lst (vs ++ [w]))) := Step.ownPut hm
  refine ⟨l, vs, w, rfl, rfl, g1, by rw [g2.length]; exact hz, ?_⟩
  exact k.dat (r2.ownSet st3 (g2.append (.cons rw2 .nil))) (st.trans (st2.trans st3)) Dt.non hy
end
/-! ### for -/
section
variable {X : Cx} {tg iter : Expr} {body : List Stmt} {g : DTG} {tb : DTS} {pos : Pos}
/-- the turns over the items ds, by what holds between two turns -/
def Turns (g : DTG) (tb : DTS) (D : DEnds) (ds : List PyData) (Δ : DSt) (M : Mp) : Prop :=
  ∃ J : Nat → DSt → Mp → Prop, J 0 Δ M ∧ (∀ i d Δ M, ds[i]? = some d → J i Δ M → g (.dat d) Δ M fun Δ2 M2 => tb { D with nx := J (i + 1), ct := J (i + 1), bk := D.nx } Δ2 M2) ∧ ∀ Δ M, J ds.length Δ M → D.nx Δ M
def dForL (te : DTE) (g : DTG) (tb : DTS) : DTS := fun D Δ M => te Δ M fun x M1 => onL x fun ds => Turns g tb D ds Δ M1
def dForT (te : DTE) (g : DTG) (tb : DTS) : DTS := fun D Δ M => te Δ M fun x M1 => onT x fun ds => Turns g tb D ds Δ M1
theorem ds_forL {te : DTE} (he : DE X iter te) (hg : DG X tg g) (hb : DSs X body tb) (hp : PassesOwn (model X.prog X.w) X.A X.env X.xe) (hc : X.calm = true) (hs : ∀ x, foldedSetIterable iter X.env x = pure x := by intro _; rfl) :
    DS X (.For tg iter body [] pos) (dForL te g tb) := by
  obtain ⟨t1, p1, q1⟩ := he
  obtain ⟨t2, p2, q2⟩ := hg
  obtain ⟨t3, p3, q3⟩ := hb
  refine ⟨_, ps_for hp hc (pi_list p1) p2 p3 hs, fun σ H Δ M D E r e h k => ?_⟩
  refine q1 σ H Δ M _ _ r e h fun v H1 x M1 r1 st rv hx => ?_
  replace hx := onL_ex hx
  obtain ⟨ds, rfl, J, j0, jt, jd⟩ := hx
  obtain ⟨a, xs, rfl, h1, h2⟩ := rv.lst
  refine ⟨a, rfl, ⟨xs, h1.sq⟩, for_list (xs := xs) (fun i σ H => ∃ Δ M, DRel X.K M H ∧ Step M1 H1 M H ∧ ERel X.K M H σ Δ ∧ J i Δ M) ⟨Δ, M1, r1, Step.refl, e.step st, j0⟩
    (fun i σ H _ ⟨Δ, M, _, st', _, _⟩ => (h1.step st').sq) (fun i y σ H hi ⟨Δ, M, r', st', e', j⟩ => ?_) (fun σ H ⟨Δ, M, r', st', e', j⟩ => ?_)⟩
  · obtain ⟨d, hd, hy⟩ := h2.getV hi
    refine q2 y σ H (.dat d) Δ M _ _ r' e' (Dt.step st' hy) (jt i d Δ M hd j) fun σ2 H2 Δ2 M2 r2 st2 e2 hb2 => ?_
    refine q3 σ2 H2 Δ2 M2 _ _ r2 e2 hb2 ?_
    have s12 : Step M1 H1 M2 H2 := st'.trans st2
    exact ⟨fun σ' H' Δ' M' a b c d => ⟨Δ', M', a, s12.trans b, c, d⟩, k.rt.step (st.trans s12), fun σ' H' Δ' M' a b c d => k.nx σ' H' Δ' M' a ((st.trans s12).trans b) c d,
      fun σ' H' Δ' M' a b c d => ⟨Δ', M', a, s12.trans b, c, d⟩⟩
  · rw [h2.length] at j
    exact k.nx σ H Δ M r' (st.trans st') e' (jd Δ M j)
theorem ds_forT {te : DTE} (he : DE X iter te) (hg : DG X tg g) (hb : DSs X body tb) (hp : PassesOwn (model X.prog X.w) X.A X.env X.xe) (hc : X.calm = true) (hs : ∀ x, foldedSetIterable iter X.env x = pure x := by intro _; rfl) :
    DS X (.For tg iter body [] pos) (dForT te g tb) := by
  obtain ⟨t1, p1, q1⟩ := he
  obtain ⟨t2, p2, q2⟩ := hg
  obtain ⟨t3, p3, q3⟩ := hb
  refine ⟨_, ps_for hp hc (pi_tup p1) p2 p3 hs, fun σ H Δ M D E r e h k => ?_⟩
  refine q1 σ H Δ M _ _ r e h fun v H1 x M1 r1 st rv hx => ?_
  replace hx := onT_ex hx
  obtain ⟨ds, rfl, J, j0, jt, jd⟩ := hx
  obtain ⟨a, xs, rfl, h1, h2⟩ := rv.tup
  refine ⟨a, rfl, ⟨xs, h1.sq⟩, for_tup (xs := xs) (fun i σ H => ∃ Δ M, DRel X.K M H ∧ Step M1 H1 M H ∧ ERel X.K M H σ Δ ∧ J i Δ M) ⟨Δ, M1, r1, Step.refl, e.step st, j0⟩
    (fun i σ H _ ⟨Δ, M, _, st', _, _⟩ => (h1.step st').sq) (fun i y σ H hi ⟨Δ, M, r', st', e', j⟩ => ?_) (fun σ H ⟨Δ, M, r', st', e', j⟩ => ?_)⟩
  · obtain ⟨d, hd, hy⟩ := h2.getV hi
    refine q2 y σ H (.dat d) Δ M _ _ r' e' (Dt.step st' hy) (jt i d Δ M hd j) fun σ2 H2 Δ2 M2 r2 st2 e2 hb2 => ?_
    refine q3 σ2 H2 Δ2 M2 _ _ r2 e2 hb2 ?_
    have s12 : Step M1 H1 M2 H2 := st'.trans st2
    exact ⟨fun σ' H' Δ' M' a b c d => ⟨Δ', M', a, s12.trans b, c, d⟩, k.rt.step (st.trans s12), fun σ' H' Δ' M' a b c d => k.nx σ' H' Δ' M' a ((st.trans s12).trans b) c d,
      fun σ' H' Δ' M' a b c d => ⟨Δ', M', a, s12.trans b, c, d⟩⟩
  · rw [h2.length] at j
    exact k.nx σ H Δ M r' (st.trans st') e' (jd Δ M j)
/-- for x in range(n): the turns' ints are lo + i, i below n -/
def TurnsR (g : DTG) (tb : DTS) (D : DEnds) (lo : Int) (n : Nat) (Δ : DSt) (M : Mp) : Prop :=
  ∃ J : Nat → DSt → Mp → Prop, J 0 Δ M ∧ (∀ i Δ M, i < n → J i Δ M → g (.dat (.int (lo + i))) Δ M fun Δ2 M2 => tb { D with nx := J (i + 1), ct := J (i + 1), bk := D.nx } Δ2 M2) ∧ ∀ Δ M, J n Δ M → D.nx Δ M
theorem turnsR {g' : TG} {tb' : TS} {lo : Int} {n : Nat} (q2 : ∀ v σ H x Δ M Φ (Q : L2.St → Hp → Prop), DRel X.K M H → ERel X.K M H σ Δ → VRel X.K M H v x → g x Δ M Φ →
    (∀ σ' H' Δ' M', DRel X.K M' H' → Step M H M' H' → ERel X.K M' H' σ' Δ' → Φ Δ' M' → Q σ' H') → g' v σ H Q)
    (q3 : ∀ σ H Δ M D E, DRel X.K M H → ERel X.K M H σ Δ → tb D Δ M → EndRel X.K M H D E → tb' E σ H) {D : DEnds} {E : Ends} {σ : L2.St} {H : Hp} {Δ : DSt} {M : Mp} (r : DRel X.K M H) (e : ERel X.K M H σ Δ) (h : TurnsR g tb D lo n Δ M) (k : EndRel X.K M H D E) :
    ∃ W : Nat → Nat → L2.St → Hp → Prop, (∃ m, W 0 m σ H) ∧ ∀ i m σ H, W i m σ H →
      ((Itr lo n).stop i H ∧ E.nx σ H) ∨ ((Itr lo n).go i H ∧ ∃ N : L2.St → Hp → Prop, (∀ σ' H', N σ' H' → ∃ m', m' < m ∧ W (i + 1) m' σ' H') ∧ ∀ x H', (Itr lo n).yld i H x H' → g' x σ H' fun σ2 H2 => tb' { E with nx := N, ct := N, bk := E.nx } σ2 H2) := by
  obtain ⟨J, j0, jt, jd⟩ := h
  refine for_range (fun i σ' H' => ∃ Δ' M', DRel X.K M' H' ∧ Step M H M' H' ∧ ERel X.K M' H' σ' Δ' ∧ J i Δ' M') ⟨Δ, M, r, Step.refl, e, j0⟩ (fun i σ1 H1 hi ⟨Δ1, M1, r', st', e', j⟩ => ?_) (fun σ1 H1 ⟨Δ1, M1, r', st', e', j⟩ => ?_)
  · refine q2 _ σ1 H1 (.dat (.int (lo + i))) Δ1 M1 _ _ r' e' (Dt.int _) (jt i Δ1 M1 hi j) fun σ2 H2 Δ2 M2 r2 st2 e2 hb2 => ?_
    refine q3 σ2 H2 Δ2 M2 _ _ r2 e2 hb2 ?_
    have s12 : Step M H M2 H2 := st'.trans st2
    exact ⟨fun σ' H' Δ' M' a b c d => ⟨Δ', M', a, s12.trans b, c, d⟩, k.rt.step s12, fun σ' H' Δ' M' a b c d => k.nx σ' H' Δ' M' a (s12.trans b) c d,
      fun σ' H' Δ' M' a b c d => ⟨Δ', M', a, s12.trans b, c, d⟩⟩
  · exact k.nx σ1 H1 Δ1 M1 r' st' e' (jd Δ1 M1 j)
/-- a number that range takes -/
def InR (j : Int) : Prop := -(2 ^ 62) ≤ j ∧ j < 2 ^ 62
def dForR1 (ta : DTA) (g : DTG) (tb : DTS) : DTS := fun D Δ M => ta Δ M fun xs M1 => on1 xs fun x => onI x fun j => InR j ∧ TurnsR g tb D 0 j.toNat Δ M1
theorem ds_forR1 {a : Expr} {ta : DTA} {p p2 : Pos} (hg0 : Gl X "range") (hm : X.mg "range" = none) (ha : DA X [a] ta) (hg : DG X tg g) (hb : DSs X body tb) (hp : PassesOwn (model X.prog X.w) X.A X.env X.xe) (hc : X.calm = true)
    (hs : starEach [a] X.env = [(false, eval a X.env)] := by rfl) (hs2 : ∀ x, foldedSetIterable (.Call (.Name "range" p) [a] [] p2) X.env x = pure x := by intro _; rfl) : DS X (.For tg (.Call (.Name "range" p) [a] [] p2) body [] pos) (dForR1 ta g tb) := by
  obtain ⟨t1, p1, q1⟩ := ha
  obtain ⟨t2, p2, q2⟩ := hg
  obtain ⟨t3, p3, q3⟩ := hb
  refine ⟨_, ps_for hp hc (pi_range1 hg0 hm p1 hs) p2 p3 hs2, fun σ H Δ M D E r e h k => ?_⟩
  refine q1 σ H Δ M _ _ r e h fun vs H1 xs M1 r1 st rv hx => ?_
  replace hx := on1_ex hx
  obtain ⟨x, rfl, hx⟩ := hx
  replace hx := onI_ex hx
  obtain ⟨j, rfl, ⟨h1, h2⟩, hx⟩ := hx
  obtain ⟨v, rfl, hv⟩ := Paired.one rv
  exact ⟨j, by rw [VRel.int hv], h1, h2, turnsR q2 q3 r1 (e.step st) hx (k.step st)⟩
def dForR2 (ta : DTA) (g : DTG) (tb : DTS) : DTS := fun D Δ M => ta Δ M fun xs M1 => on2 xs fun x y => onI x fun i => onI y fun j => (InR i ∧ InR j) ∧ TurnsR g tb D i (j - i).toNat Δ M1
end
/-! ### own defs -/
abbrev DSp := List DV → Mp → DK → Prop
def lift (K : PySem.W.Frag) (S : DSp) : Sp := fun vs H Q _ => ∃ xs M Φ, DRel K M H ∧ VRels K M H vs xs ∧ S xs M Φ ∧ Rch K M H Φ Q
def dCall (S : DSp) (t : DTA) : DTE := fun Δ M Φ => t Δ M fun xs M1 => S xs M1 Φ
section
variable {X : Cx} {CX : CXT} {k : Nat} {f : Addr} {fd : FuncData} {ps : List Str} {S : DSp} {E : XK} {x : Str} {p pos : Pos} {e : Expr} {es : List Expr} {t : DTA}
theorem de_call (F : FnOk X.prog X.w X.K X.mg X.base CX k f fd ps (lift X.K S)) (hr : Room k X.A) (hg : Gl X x) (hm : X.mg x = some (.ref f)) (hk : PySem.W.keepIn X.K (.ref f) = true) (hb : Binds X.K fd ps []) (hx : Passes CX X E)
    (ha : DA X (e :: es) t) (hdb : (x == ("__debug__" : Str)) = false := by decide) (he : starEach (e :: es) X.env = (false, eval e X.env) :: starEach es X.env := by rfl) (hpl : (backTo pos (starEach es X.env)).any (·.1) = false := by rfl) :
    DE X (.Call (.Name x p) (e :: es) [] pos) (dCall S t) := by
  obtain ⟨t1, p1, q1⟩ := ha
  refine ⟨_, pe_call F hr hg hm hk hb .nil hx p1 hdb he hpl, fun σ H Δ M Φ Q r e h k => ?_⟩
  refine q1 σ H Δ M _ _ r e h fun vs H1 xs M1 r1 st rv hx => ?_
  show lift X.K S (vs ++ []) H1 Q E
  rw [List.append_nil]
  exact ⟨xs, M1, Φ, r1, rv, hx, k.step st⟩
end
section
variable {P : Program} {w : World} {K : PySem.W.Frag} {mg : Str → Option Value} {base : Heap}
/-- THE RULE for a def by data -/
theorem okD {x qual : Str} {st : Stmt} {f : Addr} {fd : FuncData} {N ps : List Str} {k : Nat} {S : DSp} (F : Fun K x qual st f fd) (Sc : FnScope N ps (defScope st)) (len : ∀ xs M Φ, S xs M Φ → xs.length = ps.length)
    (hbody : ∀ (cdv : Value) (A : Around) (outer : List Env) (s : Shared) (H : Hp) (E : XK), Room k (A.deeper (envOfC qual (defScope st) s.heap.objs.size f cdv)) →
      ∃ τ, DSs (cxOf CX0 P w K mg base N qual (defScope st) f cdv A outer s H E).nox (defBody st) τ ∧ ∀ xs M Φ, S xs M Φ → τ { nx := fun _ M' => Φ (.dat .none) M', rt := Φ } (startD N xs) M) : FnOk P w K mg base CX0 (k + 1) f fd ps (lift K S) := by
  refine F.ok Sc (fun vs H Q E h => ?_) fun cdv A outer s H vs Q E hr h => ?_
  · obtain ⟨xs, M, Φ, _, rv, hs, _⟩ := h
    rw [Paired.length rv]
    exact len xs M Φ hs
  · obtain ⟨xs, M, Φ, r, rv, hs, kk⟩ := h
    obtain ⟨τ, ⟨t, p, q⟩, hτ⟩ := hbody cdv A outer s H E hr
    refine ⟨t, p, q (start N vs) H (startD N xs) M _ _ r (ERel.start rv) (hτ xs M Φ hs) ⟨fun σ' H' Δ' M' r' st' e' hn => ?_, kk, fun _ _ _ _ _ _ _ h => h.elim, fun _ _ _ _ _ _ _ h => h.elim⟩⟩
    exact kk.dat r' st' Dt.non hn
end
end DL

namespace DL
open PySem PySem.Spec PyProof.Rows L2
/-! ### dict displays of names and constants -/
section
variable {X : Cx} {k v : Expr} {pos : Pos}
/-- an expression that neither reads nor changes the heap -/
def At (X : Cx) (e : Expr) (τ : DTE) : Prop := ∃ t, PE X e t ∧ ∀ σ H Δ M Φ, ERel X.K M H σ Δ → τ Δ M Φ → ∃ v x, VRel X.K M H v x ∧ Φ x M ∧ ∀ (H' : Hp) (Q : VK), Q v H' → t σ H' Q
def dDict0 : DTE := fun _ M Φ => Φ (.dat (.dict [])) M
/-- an int or a text -/
def onKey (x : DV) (P : Key → Prop) : Prop := match x with | .dat (.int i) => P (.inl i) | .dat (.str s) => P (.inr s) | _ => False
/-- a tuple of ints and texts -/
def keysD : List PyData → Option (List Key)
  | [] => some []
  | .int i :: r => (keysD r).map (.inl i :: ·)
  | .str s :: r => (keysD r).map (.inr s :: ·)
  | _ :: _ => none
def onKs (ds : List PyData) (P : List Key → Prop) : Prop := match keysD ds with | some ks => P ks | none => False
def dDict1 (tk tv : DTE) : DTE := fun Δ M Φ => tk Δ M fun x M1 => tv Δ M1 fun y M2 => onKey x fun k => onD y fun d => Φ (.dat (.dict [(kD k, d)])) M2
def dDict2 (tk tv tk' tv' : DTE) : DTE := fun Δ M Φ => tk Δ M fun x M1 => tv Δ M1 fun y M2 => tk' Δ M2 fun x' M3 => tv' Δ M3 fun y' M4 => onKey x fun k => onD y fun d => onKey x' fun k' => onD y' fun d' => k ≠ k' ∧ Φ (.dat (.dict [(kD k, d), (kD k', d')])) M4
/-- what is true of the one object at a: a dict with one pair -/
def OneD (a b : Addr) (v : V) (h : Heap) : Prop := ∃ o es n u, h.get? a = some o ∧ o.cls = .type "dict" ∧ o.data = .dict es n ∧ es.toList.map (·.key) = [.ref b] ∧ es.toList.map (·.val) = [u] ∧ RelV v u
def dDict1T (tk tv : DTE) : DTE := fun Δ M Φ => tk Δ M fun x M1 => tv Δ M1 fun y M2 => onT x fun ds => onKs ds fun ks => onD y fun d => Φ (.dat (.dict [(.tuple (ks.map kD), d)])) M2
theorem SqT.new {K : PySem.W.Frag} {H : Hp} {a p : Addr} {xs : List V} {o : HO} (h : SqT K H a xs) (hp : H p = none) : SqT K (upd H p o) a xs := by
  rcases h with (h | ⟨ob, h⟩) | h
  · exact .inl (.inl (by rw [upd_ne (ne_of_none h hp)]; exact h))
  · exact .inl (.inr ⟨ob, by rw [upd_ne (ne_of_none h hp)]; exact h⟩)
  · exact .inr h
end
end DL

namespace DL
open PySem PySem.Spec PyProof.Rows L2
/-! ### how long a shown text is -/
mutual
def cost : PyData → Nat
  | .none => 4
  | .bool _ => 5
  | .int _ => 1921
  | .str x => (reprText x).length
  | .list xs => costAll xs + 2
  | .tuple xs => costAll xs + 3
  | .dict kvs => costKv kvs + 2
def costAll : List PyData → Nat
  | [] => 0
  | x :: xs => cost x + 2 + costAll xs
def costKv : List (PyData × PyData) → Nat
  | [] => 0
  | (k, v) :: r => cost k + 2 + cost v + 2 + costKv r
end
theorem textFrom_up : ∀ (ts : List Str) (k : Nat) (acc : Str), (textFrom k acc ts).length ≤ acc.length + piled ts
  | [], k, acc => Nat.le_add_right _ _
  | t :: r, k, acc => by
    have h := textFrom_up r (k + 1) (acc ++ (if k > 0 then ", " else "" : String) ++ t)
    have e : (acc ++ (if k > 0 then ", " else "" : String) ++ t).length = acc.length + (if k > 0 then 2 else 0) + t.length := by
      rw [strLen_append, strLen_append]
      split <;> rfl
    have d1 : (if k > 0 then 2 else 0 : Nat) ≤ 2 := by split <;> omega
    rw [e] at h
    rw [piled_cons]
    show (textFrom (k + 1) _ r).length ≤ _
    omega
theorem join_up (ts : List Str) : (Str.join ", " ts).length ≤ piled ts := by
  by_cases h : ts = []
  · subst h; exact Nat.le_of_eq rfl
  · have := join_length_add ts h
    omega
mutual
theorem shown_cost : ∀ d : PyData, d.showable = true → d.shown.length ≤ cost d
  | .none, _ => by simp only [PyData.shown, cost]; exact Nat.le_of_eq rfl
  | .bool b, _ => by
    simp only [PyData.shown, cost]
    cases b
    · exact Nat.le_of_eq rfl
    · exact (by decide : 4 ≤ 5)
  | .int i, h => by
    simp only [PyData.shown, cost]
    exact int_text_len_1921 (by simpa [PyData.showable] using h)
  | .str x, _ => by simp only [PyData.shown, cost]; exact Nat.le_refl _
  | .list xs, h => by
    have h1 := shownAll_cost xs (by simpa [PyData.showable] using h)
    have h2 := textFrom_up (PyData.shownAll xs) 0 "["
    have e1 : ((("[" : String) : Str)).length = 1 := rfl
    have e2 : ((("]" : String) : Str)).length = 1 := rfl
    simp only [PyData.shown, cost]
    unfold listText
    rw [strLen_append, e2]
    rw [e1] at h2
    omega
  | .tuple xs, h => by
    have h1 := shownAll_cost xs (by simpa [PyData.showable] using h)
    have h2 := join_up (PyData.shownAll xs)
    have e1 : ((("(" : String) : Str)).length = 1 := rfl
    have e3 : (((if (PyData.shownAll xs).length == 1 then ",)" else ")" : String) : Str)).length ≤ 2 := by split <;> decide
    simp only [PyData.shown, cost]
    unfold tupleText
    rw [strLen_append, strLen_append, e1]
    omega
  | .dict kvs, h => by
    have h1 := shownKv_cost kvs (by simpa [PyData.showable] using h)
    have h2 := join_up (PyData.shownKv kvs)
    have e : (dictText (PyData.shownKv kvs)).length = 1 + (Str.join ", " (PyData.shownKv kvs)).length + 1 := by
      unfold dictText
      rw [strLen_append, strLen_append]; rfl
    simp only [PyData.shown, cost]
    omega
theorem shownAll_cost : ∀ xs : List PyData, PyData.showableAll xs = true → piled (PyData.shownAll xs) ≤ costAll xs
  | [], _ => by simp only [PyData.shownAll, costAll]; exact Nat.le_of_eq rfl
  | x :: xs, h => by
    have h' : x.showable = true ∧ PyData.showableAll xs = true := by simpa [PyData.showableAll] using h
    have h1 := shown_cost x h'.1
    have h2 := shownAll_cost xs h'.2
    simp only [PyData.shownAll, costAll]
    rw [piled_cons]
    omega
theorem shownKv_cost : ∀ kvs : List (PyData × PyData), PyData.showableKv kvs = true → piled (PyData.shownKv kvs) ≤ costKv kvs
  | [], _ => by simp only [PyData.shownKv, costKv]; exact Nat.le_of_eq rfl
  | (k, v) :: r, h => by
    have h' : (k.showable = true ∧ v.showable = true) ∧ PyData.showableKv r = true := by simpa [PyData.showableKv] using h
    have h1 := shown_cost k h'.1.1
    have h2 := shown_cost v h'.1.2
    have h3 := shownKv_cost r h'.2
    have e : ((k.shown ++ ": " ++ v.shown : Str)).length = k.shown.length + 2 + v.shown.length := by rw [strLen_append, strLen_append]; rfl
    simp only [PyData.shownKv, costKv]
    rw [piled_cons, e]
    omega
end
theorem Shw.of {d : PyData} (s : d.showable = true) (m : (d.hasDict && hasLst d) = false) (dp : d.depth ≤ 64) (z : cost d ≤ 1000000) : Shw d :=
  ⟨s, m, dp, Nat.le_trans (shown_cost d s) (Nat.le_trans z (by rw [sizeLine_eq]; decide))⟩
/-! ### the law's own start; what the top holds of a def -/
structure Own (K : PySem.W.Frag) (mg : Str → Option Value) (x : Str) (st : Stmt) (ps : List Str) (f : Addr) (fd : FuncData) : Prop where
  F : Fun K x x st f fd
  m : mg x = some (.ref f)
  b : Binds K fd ps []
def spLaw : DSp := fun xs M Φ => ∃ ns : List Int, xs = [.dat (.list (ns.map PyData.int))] ∧ ns.length ≤ 63 ∧ ∀ M', Φ (.dat (.bool true)) M'
theorem law_start {K : PySem.W.Frag} {H : Hp} {a : Addr} {ns : List Int} (hl : ns.length ≤ 63) (_ : Only H) (hS : SqL K H a (ns.map V.int)) : lift K spLaw [.ref a] H (fun v _ => v = .bl true) fun _ _ _ => False := by
  refine ⟨[.dat (.list (ns.map PyData.int))], fun _ => none, fun x _ => x = .dat (.bool true), (show DRel K (fun _ => none) H from ⟨fun b o e => (by cases e)⟩), Paired.cons (Dt.lst ?_ (Dts.ints ns)) Paired.nil, ⟨ns, rfl, hl, fun _ => rfl⟩, fun v H' x M' _ _ rv hx => ?_⟩
  · rcases hS with h | h
    · exact .inl ⟨rfl, h⟩
    · exact .inr h
  · subst hx
    exact rv.bool
end DL

namespace DL
open PySem PySem.Spec PyProof.Rows L2
/-! ### for the readings -/
theorem atI_mem {α : Type} {l : List α} {i : Int} (h0 : 0 ≤ i) (h1 : i < l.length) : ∃ d, atI l i = some d ∧ d ∈ l := by
  have hl : i.toNat < l.length := by omega
  refine ⟨l[i.toNat], ?_, List.getElem_mem hl⟩
  have q : atI l ((i.toNat : Nat) : Int) = some l[i.toNat] := atI_nat (by simp [hl])
  rw [show ((i.toNat : Nat) : Int) = i by omega] at q
  exact q
theorem ixN_30 : ixN 3 0 = some 0 := rfl
theorem ixN_31 : ixN 3 1 = some 1 := rfl
theorem ixN_32 : ixN 3 2 = some 2 := rfl
theorem at_ints {ns : List Int} {j : Int} (h0 : 0 ≤ j) (h1 : j < ns.length) : ∃ c : Int, atI (ns.map PyData.int) j = some (.int c) := by
  obtain ⟨d, e, hm⟩ := atI_mem (l := ns.map PyData.int) h0 (by rw [List.length_map]; exact h1)
  obtain ⟨c, _, rfl⟩ := List.mem_map.mp hm
  exact ⟨c, e⟩
theorem mod_b (x : Int) {m : Int} (h : 0 < m) : 0 ≤ x % m ∧ x % m < m := ⟨Int.emod_nonneg _ (by omega), Int.emod_lt_of_pos _ h⟩
def sp1 (f : PyData → Bool) : DSp := fun xs M Φ => ∃ d, xs = [.dat d] ∧ Φ (.dat (.bool (f d))) M
theorem cp10 (k : Int) (h : 0 ≤ k ∧ k ≤ 1000000) : CPow 10 k := ⟨h.1, h.2, by decide⟩
theorem mdel_mset {M : Mp} {a : Addr} {o : OO} (h : M a = none) : mdel (mset M a o) a = M := by
  funext b
  unfold mdel mset
  split
  · rename_i e; rw [e, h]
  · rfl
theorem cases_true {p : Prop} [Decidable p] {A B : Prop} (h1 : p → A) (h2 : ¬ p → B) : if decide p = true then A else B := by
  by_cases h : p
  · rw [decide_eq_true h, if_pos rfl]; exact h1 h
  · rw [decide_eq_false h, if_neg Bool.false_ne_true]; exact h2 h
end DL

namespace DL
open PySem PySem.Spec PyProof.Rows L2
/-! ### comprehensions: the closure -/
def clos (env : Env) : List (Str × NameKind) → List (Str × Addr) → List (Str × Addr)
  | [], cs => cs
  | (n, k) :: r, cs => clos env r (if (k == NameKind.free) = true then (n, (env.cells.lookup n).getD 0) :: cs else cs)
theorem forIn_clos {env : Env} (f : Str × NameKind → List (Str × Addr) → Sem (ForInStep (List (Str × Addr)))) : ∀ (l : List (Str × NameKind)) (cs : List (Str × Addr)),
    (∀ y ∈ l, ∀ cs, f y cs = pure (.yield (if (y.2 == NameKind.free) = true then (y.1, (env.cells.lookup y.1).getD 0) :: cs else cs))) → forIn l cs f = pure (clos env l cs)
  | [], cs, _ => by rw [List.forIn_nil]; rfl
  | (n, k) :: r, cs, h => by
    rw [List.forIn_cons, h _ List.mem_cons_self, pure_bind]
    exact forIn_clos f r _ fun y hy => h y (List.mem_cons_of_mem _ hy)
theorem closureFor_clos {scope : Scope} {env : Env} (h : ∀ y ∈ scope.names, y.2 = .free → ∃ c, env.cells.lookup y.1 = some c) : closureFor scope env = pure (clos env scope.names []) := by
  simp only [closureFor]
  rw [forIn_clos (env := env) _ scope.names [] (fun y hy cs => by
    obtain ⟨n, k⟩ := y
    by_cases hk : k = .free
    · subst hk
      obtain ⟨c, e⟩ := h _ hy rfl
      have e' : env.cells.lookup n = some c := e
      simp only [beq_self_eq_true, if_true, cellOf, e', Option.getD_some, pure_bind]
    · have : (k == NameKind.free) = false := by simpa using hk
      simp only [this, Bool.false_eq_true, if_false])]
  rfl
theorem clos_mem {env : Env} : ∀ {l : List (Str × NameKind)} {cs : List (Str × Addr)} {x : Str} {c : Addr}, (x, c) ∈ clos env l cs → (x, c) ∈ cs ∨ ((x, NameKind.free) ∈ l ∧ c = (env.cells.lookup x).getD 0)
  | [], _, _, _, h => .inl h
  | (n, k) :: r, cs, x, c, h => by
    rcases clos_mem (l := r) h with h | ⟨h1, h2⟩
    · by_cases hk : k = .free
      · subst hk
        rw [if_pos (by simp)] at h
        rcases List.mem_cons.mp h with h | h
        · cases h
          exact .inr ⟨List.mem_cons_self, rfl⟩
        · exact .inl h
      · have : (k == NameKind.free) = false := by simpa using hk
        rw [if_neg (by rw [this]; exact Bool.false_ne_true)] at h
        exact .inl h
    · exact .inr ⟨List.mem_cons_of_mem _ h1, h2⟩
theorem clos_key {env : Env} : ∀ {l : List (Str × NameKind)} {cs : List (Str × Addr)} {x : Str}, ((x, NameKind.free) ∈ l ∨ ∃ c, (x, c) ∈ cs) → ∃ c, (x, c) ∈ clos env l cs
  | [], _, _, h => h.elim (fun z => nomatch z) id
  | (n, k) :: r, cs, x, h => by
    refine clos_key (l := r) ?_
    rcases h with h | ⟨c, h⟩
    · rcases List.mem_cons.mp h with h | h
      · cases h
        exact .inr ⟨_, by rw [if_pos (by simp)]; exact List.mem_cons_self⟩
      · exact .inl h
    · refine .inr ⟨c, ?_⟩
      split
      · exact List.mem_cons_of_mem _ h
      · exact h
theorem look_of_mem {β : Type} : ∀ {l : List (Str × β)} {x : Str} {c : β}, (x, c) ∈ l → ∃ c', l.lookup x = some c'
  | [], _, _, h => nomatch h
  | (n, d) :: r, x, c, h => by
    rw [List.lookup_cons]
    cases e : x == n with
    | true => exact ⟨d, rfl⟩
    | false =>
      rcases List.mem_cons.mp h with h | h
      · cases h
        simp at e
      · exact look_of_mem h
theorem clos_lookup {env : Env} {names : List (Str × NameKind)} (hf : ∀ y ∈ names, y.2 = .free → ∃ c, env.cells.lookup y.1 = some c) {x : Str} {c : Addr} (h : (clos env names []).lookup x = some c) :
    env.cells.lookup x = some c ∧ (x, NameKind.free) ∈ names := by
  rcases clos_mem (PySem.mem_of_lookup h) with h | ⟨h1, h2⟩
  · exact nomatch h
  · obtain ⟨c', e⟩ := hf _ h1 rfl
    have e' : env.cells.lookup x = some c' := e
    rw [e', Option.getD_some] at h2
    subst h2
    exact ⟨e', h1⟩
theorem clos_has {env : Env} {names : List (Str × NameKind)} (hf : ∀ y ∈ names, y.2 = .free → ∃ c, env.cells.lookup y.1 = some c) {x : Str} (h : (x, NameKind.free) ∈ names) : ∃ c, (clos env names []).lookup x = some c ∧ env.cells.lookup x = some c := by
  obtain ⟨c, hm⟩ := clos_key (env := env) (cs := []) (.inl h)
  obtain ⟨c', e⟩ := look_of_mem hm
  exact ⟨c', e, (clos_lookup hf e).1⟩
/-! ### the block's context -/
def compCx (X : Cx) (scope : Scope) (C : Addr) (N : List Str) (ex : List Addr) (s : Shared) (H : Hp) : Cx :=
  { X with N := N, s₀ := s, H₀ := H, env := compEnvC scope (clos X.env scope.names []) C X.env, outer := X.stack, ex := ex, fn := fun _ => false, pn := [], xe := fun _ _ => False }
def capSt (ix : List (Option Nat)) (σ : L2.St) : L2.St := ix.map fun o => o.bind fun i => (σ[i]?).join
def capD (ix : List (Option Nat)) (Δ : DSt) : DSt := ix.map fun o => o.bind fun i => (Δ[i]?).join
structure CompOk (X : Cx) (scope : Scope) (N : List Str) (ix : List (Option Nat)) : Prop where
  kind : scope.kind = .function
  cellF : ∀ y ∈ scope.names, y.2 ≠ .cell
  names : ∀ y ∈ scope.names, y.2 = .local → scope.names.lookup y.1 = some .local
  free : ∀ y ∈ scope.names, y.2 = .free → X.env.kindOf y.1 = some .cell
  len : N.length = ix.length
  cap : ∀ (j : Nat) (x : Str) (i : Nat), N[j]? = some x → ix[j]? = some (some i) → X.N[i]? = some x ∧ (x, NameKind.free) ∈ scope.names ∧ (relabel scope X.env).names.lookup x = some .cell
theorem capSt_get {ix : List (Option Nat)} {σ : L2.St} {j : Nat} {v : V} (h : (capSt ix σ)[j]? = some (some v)) : ∃ i, ix[j]? = some (some i) ∧ σ[i]? = some (some v) := by
  unfold capSt at h
  rw [List.getElem?_map] at h
  cases e : ix[j]? with
  | none => rw [e] at h; cases h
  | some o =>
    rw [e] at h
    cases o with
    | none => simp at h
    | some i =>
      refine ⟨i, rfl, ?_⟩
      have h' : (σ[i]?).join = some v := by simpa using h
      cases q : σ[i]? with
      | none => rw [q] at h'; cases h'
      | some o' => rw [q] at h'; exact congrArg some h'
theorem ERel.cap {K : PySem.W.Frag} {M : Mp} {H : Hp} {σ : L2.St} {Δ : DSt} (h : ERel K M H σ Δ) (ix : List (Option Nat)) : ERel K M H (capSt ix σ) (capD ix Δ) := by
  refine ⟨by unfold capSt capD; rw [List.length_map, List.length_map], fun j x e => ?_⟩
  unfold capD at e
  rw [List.getElem?_map] at e
  cases q : ix[j]? with
  | none => rw [q] at e; cases e
  | some o =>
    rw [q] at e
    cases o with
    | none => simp at e
    | some i =>
      have e' : (Δ[i]?).join = some x := by simpa using e
      have e2 : Δ[i]? = some (some x) := by
        cases q2 : Δ[i]? with
        | none => rw [q2] at e'; cases e'
        | some o' => rw [q2] at e'; exact congrArg some e'
      obtain ⟨v, hv, rv⟩ := h.at' i x e2
      refine ⟨v, ?_, rv⟩
      unfold capSt
      rw [List.getElem?_map, q]
      simp [hv]
section
variable {X : Cx} {pins : List (Addr × Obj)} {σ : L2.St} {H2 : Hp} {s2 : Shared} {scope : Scope} {N : List Str} {ix : List (Option Nat)} {C : Addr} {fp : List Addr}
theorem hfOf (ok : CompOk X scope N ix) (I2 : Inv X pins σ H2 s2) : ∀ y ∈ scope.names, y.2 = .free → ∃ c, X.env.cells.lookup y.1 = some c := fun y hy hk => I2.ok.has y.1 (.inl (ok.free y hy hk))
theorem comp_cx_ok (ok : CompOk X scope N ix) (I2 : Inv X pins σ H2 s2) (f2 : ∀ b ∈ fp, FpOk X pins H2 b) (ex : ∀ b ∈ fp, ∃ o, s2.heap.get? b = some o) (hC : s2.heap.objs.size ≤ C) : (compCx X scope C N fp s2 H2).Ok := by
  have hf := hfOf ok I2
  refine ⟨I2.ok.mod, ok.kind, I2.ok.glob, I2.ok.blt, hC, fun x y c h1 h2 => I2.ok.inj x y c (clos_lookup hf h1).1 (clos_lookup hf h2).1, fun x hx => ?_, fun x c h => absurd h Bool.false_ne_true, I2.ok.hd, I2.ok.frames, .inl rfl, fun b hb => ?_, fun b o e => I2.bs b o e, Nat.le_trans I2.ok.bsz I2.sz,
    fun b o e hb => ?_, fun b hb z => ?_, I2.stack, I2.stkFree⟩
  · have hx' : (relabel scope X.env).names.lookup x = some .cell ∨ (relabel scope X.env).names.lookup x = some .free := hx
    have key : (x, NameKind.free) ∈ scope.names := by
      have go : ∀ k', (relabel scope X.env).names.lookup x = some k' → (k' = .cell ∨ k' = .free) → (x, NameKind.free) ∈ scope.names := fun k' e hk => by
        have hm := PySem.mem_of_lookup e
        obtain ⟨⟨n, k⟩, hn, q⟩ := List.mem_map.mp hm
        by_cases hr : (k == NameKind.free && X.env.scope.kind == .function && X.env.kindOf n == some .cell) = true
        · have q' : (n, NameKind.cell) = (x, k') := by rw [← q]; simp [hr]
          cases q'
          have : k = .free := by simp only [Bool.and_eq_true] at hr; simpa using hr.1.1
          subst this
          exact hn
        · have q' : (n, k) = (x, k') := by rw [← q]; simp [hr]
          cases q'
          rcases hk with rfl | rfl
          · exact absurd rfl (ok.cellF _ hn)
          · exact hn
      rcases hx' with h | h
      · exact go _ h (.inl rfl)
      · exact go _ h (.inr rfl)
    obtain ⟨c, h1, _⟩ := clos_has hf key
    exact ⟨c, h1⟩
  · obtain ⟨o, e⟩ := ex b hb
    exact ⟨Nat.ne_of_lt (Nat.lt_of_lt_of_le (Heap.lt_size e) hC), fun x c h => (f2 b hb).2.2.2.2.1 x c (clos_lookup hf h).1⟩
  · rcases (f2 b hb).2.2.2.1 with z | z
    · exact I2.ok.noex b o e z
    · exact absurd (Nat.lt_of_lt_of_le (Heap.lt_size e) (Nat.le_trans I2.ok.bsz z)) (Nat.lt_irrefl _)
  · rcases List.mem_cons.mp (I2.stkSub b z) with z | z
    · exact (f2 b hb).2.1 z
    · exact (f2 b hb).2.2.1 z
/-- the captured names, as long as the cells stand -/
theorem comp_loc (ok : CompOk X scope N ix) (I2 : Inv X pins σ H2 s2) (f2 : ∀ b ∈ fp, FpOk X pins H2 b) {s : Shared} {H : Hp} {m : Str → Option Value} (u : Un (frs X.stack) fp H2 H s2.heap s.heap) :
    ∀ (i : Nat) (x : Str) (v : V), N[i]? = some x → (capSt ix σ)[i]? = some (some v) → ∃ w, RelV v w ∧ Look (compCx X scope C N fp s2 H2).env s.heap m x w := fun j x v hN hv => by
  obtain ⟨i, hi, hs⟩ := capSt_get hv
  obtain ⟨hx, hm, hr⟩ := ok.cap j x i hN hi
  have hk : X.env.kindOf x = some .cell := ok.free _ hm rfl
  obtain ⟨m0, _, hl⟩ := I2.loc
  obtain ⟨w, r, l⟩ := hl i x v hx hs (.inr (.inl hk))
  refine ⟨w, r, .inr ⟨.inl hr, ?_⟩⟩
  rcases l with ⟨z, _⟩ | ⟨_, c, e, hc⟩
  · rw [hk] at z; cases z
  · obtain ⟨c', h1, h2⟩ := clos_has (hfOf ok I2) hm
    rw [e] at h2
    cases h2
    refine ⟨c, h1, ?_⟩
    obtain ⟨o, ho, hd⟩ := hc
    obtain ⟨sl, q⟩ := u.any ho (I2.freeC x c e) fun z => (f2 c z).2.2.2.2.1 x c e rfl
    exact ⟨_, q, hd⟩
end
end DL

namespace DL
open PySem PySem.Spec PyProof.Rows L2
section
variable {prog : Program} {w : World} {A : Around} {R : Result → Shared → Prop} {s : Shared}
theorem compLoop_any {elt target iter : Expr} {ifs : List Expr} {scope : Scope} {pos : Pos} {it acc : Value} {env : Env} (I : Nat → Shared → Prop)
    (turn : ∀ n s, I n s → wpAny (model prog w) A (pyNext it) (fun r s₁ => match r with
      | none => R (.ok .next) s₁
      | some v => wpAny (model prog w) A (letOwnedTupleGo target it v) (fun _ s₁' => wpAny (model prog w) A (assign target env v) (fun _ s₂ =>
          wpAny (model prog w) A (forIn ifs true fun c r => if r = true then do let ok ← isTrue c env (eval c env); pure (ForInStep.yield ok) else pure (ForInStep.yield r)) (fun ok s₃ =>
            if ok = true then wpAny (model prog w) A (eval elt env) (fun x s₄ =>
              wpAny (model prog w) A (call (.builtin "list.append") [acc, x]) (fun _ s₅ => ∃ m, m < n ∧ I m s₅) (fun _ _ => False) s₄) (fun _ _ => False) s₃
            else ∃ m, m < n ∧ I m s₃) (fun _ _ => False) s₂) (fun _ _ => False) s₁') (fun _ _ => False) s₁) (fun _ _ => False) s)
    (n : Nat) (h : I n s) : codeAny (model prog w) A (.compLoop (.ListComp elt [⟨target, iter, ifs, 0⟩] scope pos) 0 it acc env) R s := by
  refine codeAny_loop rfl I (fun n s hI => ?_) n h
  show wpAny _ A ((compTurn (.ListComp elt [⟨target, iter, ifs, 0⟩] scope pos) 0 it acc env).onRaise (fun x => do noteFrame x env; theTreesLotGoes x)) _ _ s
  refine wpAny_noted ?_
  rw [compTurn_list]
  refine wpAny_bind (wpAny_standAt (wpAny_bind (wpAny_mono (turn n s hI) (fun r s₁ h₁ => ?_) fun _ _ h' => h'.elim)))
  cases r with
  | none => exact wpAny_pure h₁
  | some v =>
    refine wpAny_bind (wpAny_mono h₁ (fun _ s₁' h₁' => ?_) fun _ _ h' => h'.elim)
    refine wpAny_bind (wpAny_mono h₁' (fun _ s₂ h₂ => wpAny_bind (wpAny_mono h₂ (fun ok s₃ h₃ => ?_) fun _ _ h' => h'.elim)) fun _ _ h' => h'.elim)
    cases ok with
    | false => exact wpAny_pure ⟨rfl, h₃⟩
    | true =>
      exact wpAny_bind (wpAny_bind (wpAny_mono h₃ (fun x s₄ h₄ => wpAny_bind (wpAny_mono h₄ (fun _ s₅ h₅ => wpAny_pure (wpAny_pure ⟨rfl, h₅⟩)) fun _ _ h' => h'.elim)) fun _ _ h' => h'.elim))
end
/-! ### what is walked -/
def Yl (K : PySem.W.Frag) (J : It) (ds : List PyData) (M : Mp) (H : Hp) : Prop := ∀ M2 H2, Step M H M2 H2 → ∀ i,
  (i < ds.length → J.go i H2 ∧ ∀ x H', J.yld i H2 x H' → DRel K M2 H2 → DRel K M2 H' ∧ Step M2 H2 M2 H' ∧ ∃ d, ds[i]? = some d ∧ Dt K M2 H' x d) ∧ (ds.length ≤ i → J.stop i H2)
abbrev DSrc := DSt → Mp → (List PyData → Mp → Prop) → Prop
def DI (X : Cx) (tg iter : Expr) (src : DSrc) : Prop := ∃ wi, PI X tg iter wi ∧ ∀ σ H Δ M Ψ (R : It → Hp → Prop), DRel X.K M H → ERel X.K M H σ Δ → src Δ M Ψ →
  (∀ J H' M' ds, DRel X.K M' H' → Step M H M' H' → Yl X.K J ds M' H' → Ψ ds M' → R J H') → wi σ H R
section
variable {X : Cx} {tg iter : Expr}
def srcL (te : DTE) : DSrc := fun Δ M Ψ => te Δ M fun x M1 => onL x fun ds => Ψ ds M1
def srcT (te : DTE) : DSrc := fun Δ M Ψ => te Δ M fun x M1 => onT x fun ds => Ψ ds M1
theorem di_list {te : DTE} (he : DE X iter te) : DI X tg iter (srcL te) := by
  obtain ⟨t, p, q⟩ := he
  refine ⟨_, pi_list p, fun σ H Δ M Ψ R dr er h k => ?_⟩
  refine q σ H Δ M _ _ dr er h fun v H1 x M1 r1 st rv hx => ?_
  replace hx := onL_ex hx
  obtain ⟨ds, rfl, hΨ⟩ := hx
  obtain ⟨a, xs, rfl, h1, h2⟩ := rv.lst
  refine ⟨a, rfl, ⟨xs, h1.sq⟩, k _ H1 M1 ds r1 st (fun M2 H2 st2 i => ⟨fun hi => ?_, fun hi => ?_⟩) hΨ⟩
  · have hx : i < xs.length := by rw [h2.length]; exact hi
    refine ⟨⟨xs, xs[i], (h1.step st2).sq, by simp [hx]⟩, fun x H' y => ?_⟩
    obtain ⟨e, y⟩ := y
    obtain ⟨d, hd, hy⟩ := (h2.step st2).getV (y xs (h1.step st2).sq)
    subst e
    exact fun r => ⟨r, Step.refl, d, hd, hy⟩
  · exact ⟨xs, (h1.step st2).sq, by rw [h2.length]; exact hi⟩
def rngD (lo : Int) (n : Nat) : List PyData := (List.range n).map fun (i : Nat) => PyData.int (lo + (i : Int))
theorem rngD_len (lo : Int) (n : Nat) : (rngD lo n).length = n := by unfold rngD; rw [List.length_map, List.length_range]
theorem rngD_get {lo : Int} {n i : Nat} (h : i < n) : (rngD lo n)[i]? = some (.int (lo + (i : Int))) := by
  unfold rngD
  rw [List.getElem?_map, List.getElem?_range h]
  rfl
theorem yl_range {K : PySem.W.Frag} {M : Mp} {H : Hp} (lo : Int) (n : Nat) : Yl K (Itr lo n) (rngD lo n) M H := fun M2 H2 st2 i => by
  rw [rngD_len]
  refine ⟨fun hi => ⟨hi, fun x H' y => ?_⟩, fun hi => hi⟩
  obtain ⟨e, y⟩ := y
  subst y e
  exact fun r => ⟨r, Step.refl, _, rngD_get hi, Dt.int _⟩
def srcR1 (ta : DTA) : DSrc := fun Δ M Ψ => ta Δ M fun xs M1 => on1 xs fun x => onI x fun j => InR j ∧ Ψ (rngD 0 j.toNat) M1
theorem di_range1 {a : Expr} {ta : DTA} {p p2 : Pos} (hg0 : Gl X "range") (hm : X.mg "range" = none) (ha : DA X [a] ta) (hs : starEach [a] X.env = [(false, eval a X.env)] := by rfl) : DI X tg (.Call (.Name "range" p) [a] [] p2) (srcR1 ta) := by
  obtain ⟨t1, p1, q1⟩ := ha
  refine ⟨_, pi_range1 hg0 hm p1 hs, fun σ H Δ M Ψ R dr er h k => ?_⟩
  refine q1 σ H Δ M _ _ dr er h fun vs H1 xs M1 r1 st rv hx => ?_
  replace hx := on1_ex hx
  obtain ⟨x, rfl, hx⟩ := hx
  replace hx := onI_ex hx
  obtain ⟨j, rfl, ⟨h1, h2⟩, hΨ⟩ := hx
  obtain ⟨v, rfl, hv⟩ := Paired.one rv
  exact ⟨j, by rw [VRel.int hv], h1, h2, k _ H1 M1 _ r1 st (yl_range 0 j.toNat) hΨ⟩
def srcR2 (ta : DTA) : DSrc := fun Δ M Ψ => ta Δ M fun xs M1 => on2 xs fun x y => onI x fun i => onI y fun j => (InR i ∧ InR j) ∧ Ψ (rngD i (j - i).toNat) M1
end
/-! ### the comprehension -/
/-- what is done of the list that comes: data, or an owned one -/
def dEnd (ow : Bool) (Φ : DK) (acc : List PyData) (M : Mp) : Prop := match ow with | true => ∀ p, M p = none → Φ (.own p) (mset M p (.lst acc)) | false => Φ (.dat (.list acc)) M
def dComp (ow : Bool) (src : DSrc) (ix : List (Option Nat)) (g : DTG) (tc : DTT) (te : DTE) : DTE := fun Δ M Φ => src Δ M fun ds M1 => ds.length ≤ sizeLine ∧ ∃ J : Nat → List PyData → Mp → Prop, J 0 [] M1 ∧
  (∀ i d acc M', ds[i]? = some d → J i acc M' → g (.dat d) (capD ix Δ) M' fun Δ2 M2 => tc Δ2 M2 fun b M3 => if b = true then te Δ2 M3 fun y M4 => onD y fun e => J (i + 1) (acc ++ [e]) M4 else J (i + 1) acc M3) ∧
  ∀ acc M', J ds.length acc M' → dEnd ow Φ acc M'
/-- the tests of a clause: none, or one -/
def DTs (X : Cx) (ifs : List Expr) (τ : DTT) : Prop := ∀ (pins : List (Addr × Obj)) (s : Shared) (σ : L2.St) (H : Hp) (Δ : DSt) (M : Mp) (Φ : Bool → Mp → Prop), L2.Inv X pins σ H s → DRel X.K M H → ERel X.K M H σ Δ → τ Δ M Φ →
  wpAny (model X.prog X.w) X.A (forIn ifs true fun c r => if r = true then do let ok ← isTrue c X.env (eval c X.env); pure (ForInStep.yield ok) else pure (ForInStep.yield r))
    (fun b s' => ∃ H' M', L2.Inv X pins σ H' s' ∧ DRel X.K M' H' ∧ Step M H M' H' ∧ Φ b M') X.xe s
def tcNo : DTT := fun _ M Φ => Φ true M
theorem dts_nil {X : Cx} : DTs X [] tcNo := fun pins s σ H Δ M Φ I dr er h => wpAny_tests_nil ⟨H, M, I, dr, Step.refl, h⟩
theorem dts_one {X : Cx} {c : Expr} {τ : DTT} (hc : DT X c τ) : DTs X [c] τ := fun pins s σ H Δ M Φ I dr er h => by
  obtain ⟨t, p, q⟩ := hc
  refine wpAny_tests_one (thn (p pins s σ H (fun b H' => ∃ M', DRel X.K M' H' ∧ Step M H M' H' ∧ Φ b M') I (q σ H Δ M Φ _ dr er h fun b H' M' a c d => ⟨M', a, c, d⟩)) fun b s' h => ?_)
  obtain ⟨H', I', M', a, c, d⟩ := h
  exact ⟨H', M', I', a, c, d⟩
end DL

namespace DL
open PySem PySem.Spec PyProof.Rows L2
section
variable {X : Cx}
/-- the ends of a comprehension: how what comes is used -/
abbrev CompSrc (ds : List PyData) (M1 : Mp) (Δ : DSt) (ix : List (Option Nat)) (g : DTG) (tc : DTT) (te : DTE) (ψ : List PyData → Mp → Prop) : Prop := ds.length ≤ sizeLine ∧ ∃ J : Nat → List PyData → Mp → Prop, J 0 [] M1 ∧
  (∀ i d acc M', ds[i]? = some d → J i acc M' → g (.dat d) (capD ix Δ) M' fun Δ2 M2 => tc Δ2 M2 fun b M3 => if b = true then te Δ2 M3 fun y M4 => onD y fun e => J (i + 1) (acc ++ [e]) M4 else J (i + 1) acc M3) ∧ ∀ acc M', J ds.length acc M' → ψ acc M'
set_option maxHeartbeats 2000000 in
theorem comp_core {elt tg iter : Expr} {ifs : List Expr} {scope : Scope} {pos ps : Pos} {src : DSrc} {N : List Str} {ix : List (Option Nat)} {g : DTG} {tc : DTT} {te : DTE} {use : Option (Value → Sem Unit)} {QQ : Value → Shared → Prop} {ψ : List PyData → Mp → Prop} (ok : CompOk X scope N ix) (hi : DI X tg iter src)
    (hg : ∀ C ex s H, DG (compCx X scope C N ex s H) tg g) (ht : ∀ C ex s H, DTs (compCx X scope C N ex s H) ifs tc) (he : ∀ C ex s H, DE (compCx X scope C N ex s H) elt te) (hc : X.calm = true)
    (hs : ∀ x, foldedSetIterable iter X.env x = pure x) {σ : L2.St} {H : Hp} {Δ : DSt} {M : Mp} {pins : List (Addr × Obj)} {s : Shared} (dr : DRel X.K M H) (er : ERel X.K M H σ Δ) (h : src Δ M fun ds M1 => CompSrc ds M1 Δ ix g tc te ψ) (I : L2.Inv X pins σ H s)
    (hfin : ∀ (s4 : Shared) (C D : Addr) (H' : Hp) (M' : Mp) (vs : List V) (acc : List PyData), L2.Inv X pins σ (upd H' D (.lst vs)) s4 → H' D = none → DRel X.K M' H' → Step M H M' H' → Dts X.K M' H' vs acc → ψ acc M' → (∃ m, s4.heap.Ns C m) → FpOk X pins (upd H' D (.lst vs)) C →
      compPost (model X.prog X.w) X.A X.xe use QQ (.ref D) C (.ok .next) s4) :
    wpAny (model X.prog X.w) X.A (comprehension (.ListComp elt [⟨tg, iter, ifs, 0⟩] scope pos) scope X.env ps (newList []) false (eval iter X.env) use) QQ X.xe s := by
  obtain ⟨wi, pi, qi⟩ := hi
  refine wpAny_comprehension_free (use := use) (cl := clos X.env scope.names []) rfl hs (closureFor_clos (hfOf ok I)) ok.kind ok.names ?_
  show wpAny _ _ (eval iter X.env) _ _ s
  refine thn (pi pins s σ H (fun J H' => ∃ M' ds, DRel X.K M' H' ∧ Step M H M' H' ∧ Yl X.K J ds M' H' ∧ ds.length ≤ sizeLine ∧ ∃ W : Nat → List PyData → Mp → Prop, W 0 [] M' ∧
      (∀ i d acc M', ds[i]? = some d → W i acc M' → g (.dat d) (capD ix Δ) M' fun Δ2 M2 => tc Δ2 M2 fun b M3 => if b = true then te Δ2 M3 fun y M4 => onD y fun e => W (i + 1) (acc ++ [e]) M4 else W (i + 1) acc M3) ∧
      ∀ acc M', W ds.length acc M' → ψ acc M') I (qi σ H Δ M _ _ dr er h fun J H' M' ds a b c d => ⟨M', ds, a, b, c, d⟩)) fun x s1 h1 => thn h1 fun itv s2 h2 => ?_
  obtain ⟨it, fp, tn, J, H2, e, I2, T, st2, f2, M1, ds, dr1, stp, yl, hz, W, w0, wt, wd⟩ := h2
  subst e
  have exo : ∀ b ∈ fp, ∃ o, s2.heap.get? b = some o := fun b hb => let ⟨o, q, _⟩ := T.obj 0 _ st2 b hb; ⟨o, q⟩
  refine wpAny_newObj_type (wpAny_newFunctionEnv ok.cellF (by intro y hy; simp at hy) (fun h₁ hns₁ hsb₁ => ?_) ok.kind)
  dsimp only at hns₁ hsb₁ ⊢
  generalize hH2 : s2.heap.push { cls := .type "list", dict := none, data := .seq ([] : List Value).toArray } = HH at hns₁ hsb₁ ⊢
  have hC : HH.objs.size = s2.heap.objs.size + 1 := by rw [← hH2, Heap.size_push]
  have hDC : s2.heap.objs.size ≠ HH.objs.size := by rw [hC]; exact Nat.ne_of_lt (Nat.lt_succ_self _)
  have hCle : s2.heap.objs.size ≤ HH.objs.size := by rw [hC]; exact Nat.le_succ _
  have below : ∀ b, b < s2.heap.objs.size → b ≠ HH.objs.size ∧ b ≠ s2.heap.objs.size := fun b hb => ⟨by rw [hC]; exact Nat.ne_of_lt (Nat.lt_succ_of_lt hb), Nat.ne_of_lt hb⟩
  have old : ∀ b o, s2.heap.get? b = some o → h₁.get? b = some o := fun b o e => hsb₁.extBut b o (below b (Heap.lt_size e)).1 (Heap.get?_push_of_some _ (hH2 ▸ Heap.get?_push_of_some _ e))
  have hacc : h₁.get? s2.heap.objs.size = some { cls := .type "list", data := .seq ([] : List Value).toArray } := hsb₁.extBut _ _ hDC (Heap.get?_push_of_some _ (hH2 ▸ Heap.get?_push_size _ rfl))
  generalize hCC : HH.objs.size = C at *
  generalize hDD : s2.heap.objs.size = D at hDC hacc below hCle
  have hDs : s2.heap.objs.size ≤ D := Nat.le_of_eq hDD
  have hCs : s2.heap.objs.size ≤ C := by rw [hDD]; exact hCle
  have fD : ∀ b ∈ fp, b ≠ D ∧ b ≠ C := fun b hb => by
    obtain ⟨o, q⟩ := exo b hb
    exact ⟨(below b (by rw [← hDD]; exact Heap.lt_size q)).2, (below b (by rw [← hDD]; exact Heap.lt_size q)).1⟩
  -- the block's context
  have okY : (compCx X scope C N fp s2 H2).Ok := comp_cx_ok ok I2 f2 exo hCs
  have fsD : ∀ b ∈ frs X.stack, b < s2.heap.objs.size := fun b hb => by
    obtain ⟨_, o, ho, _⟩ := I2.stack.mem hb
    exact Heap.lt_size ho
  have cellD : ∀ x c, (compCx X scope C N fp s2 H2).env.cells.lookup x = some c → c < s2.heap.objs.size ∧ H2 c = none := fun x c e => by
    have e' := (clos_lookup (hfOf ok I2) e).1
    obtain ⟨v, q⟩ := I2.cell x c e'
    exact ⟨q.lt, I2.freeC x c e'⟩
  have fpY : ∀ {H' : Hp} {ps : List (Addr × Obj)}, (∀ b ∈ fp, H' b = none) → (∀ p ∈ ps, p.1 = D) → ∀ b ∈ fp, FpOk (compCx X scope C N fp s2 H2) ps H' b := fun {H' ps} hn hp b hb =>
    ⟨hn b hb, (fD b hb).2, okY.exfs b hb, .inl hb, (okY.exf b hb).2, fun p hp' z => by
      have q : p ∈ ps := hp'
      rw [hp p q] at z
      exact (fD b hb).1 z.symm⟩
  have onlyD : ∀ (o : Obj), ∀ p ∈ [(D, o)], p.1 = D := fun o p hp => by
    have q : p = (D, o) := by simpa using hp
    rw [q]
  -- the frame is made anew at each turn's end
  have reloc : ∀ {ps : List (Addr × Obj)} {σ' : L2.St} {H' : Hp} {s' : Shared} {o : Obj}, L2.Inv (compCx X scope C N fp s2 H2) ps σ' H' s' → s'.heap.get? D = some o → H' D = none → (∀ v, o.data ≠ .cell v) →
      L2.Inv (compCx X scope C N fp s2 H2) [(D, o)] (capSt ix σ) H' s' := fun {ps σ' H' s' o} J' hD hn hd => by
    obtain ⟨m, hm, _⟩ := J'.loc
    refine ⟨J'.ok, J'.os, J'.bare, J'.base, ⟨m, hm, fun i x v a b _ => comp_loc ok I2 f2 J'.base i x v a b⟩, J'.cell, J'.free, J'.freeC, fun p hp => ?_, J'.hok, ?_⟩
    · have q : p = (D, o) := by
        have z : p ∈ ([] : List (Addr × Obj)) ++ [(D, o)] := hp
        simpa using z
      subst q
      exact ⟨hD, hn, hDC, fun z => absurd (fsD D z) (Nat.not_lt.mpr hDs), hd⟩
    · show (capSt ix σ).length = N.length
      unfold capSt
      rw [List.length_map, ok.len]
  have start : L2.Inv (compCx X scope C N fp s2 H2) [(D, { cls := .type "list", data := .seq ([] : List Value).toArray })] (capSt ix σ) H2 { s2 with heap := h₁, toks := s2.toks + ([] : List (Str × Value)).length } := by
    refine ⟨okY, rfl, I2.bare, Un.kept old, ⟨_, hns₁, fun i x v a b _ => comp_loc ok I2 f2 (Un.kept old) i x v a b⟩, fun x c e => ?_, I2.hok.fresh hCs, fun x c e => (cellD x c e).2, fun p hp => ?_, I2.hok.kept old, ?_⟩
    · obtain ⟨v, o, ho, hd⟩ := I2.cell x c (clos_lookup (hfOf ok I2) e).1
      exact ⟨v, o, old c o ho, hd⟩
    · have q : p = (D, { cls := .type "list", data := .seq ([] : List Value).toArray }) := by
        have z : p ∈ ([] : List (Addr × Obj)) ++ [(D, { cls := .type "list", data := .seq ([] : List Value).toArray })] := hp
        simpa using z
      subst q
      exact ⟨hacc, I2.hok.fresh hDs, hDC, fun z => absurd (fsD D z) (Nat.not_lt.mpr hDs), fun v z => nomatch z⟩
    · show (capSt ix σ).length = N.length
      unfold capSt
      rw [List.length_map, ok.len]
  have loop : ∀ s₃ : Shared, s₃ = { s2 with heap := h₁, toks := s2.toks + ([] : List (Str × Value)).length } →
      codeAny (model X.prog X.w) X.A (.compLoop (.ListComp elt [⟨tg, iter, ifs, 0⟩] scope pos) 0 (.ref it) (.ref D) (compEnvC scope (clos X.env scope.names []) C X.env)) (compPost (model X.prog X.w) X.A X.xe use QQ (.ref D) C) s₃ := by
    rintro s₃ rfl
    refine compLoop_any (fun n s' => ∃ (i : Nat) (acc : List PyData) (vs : List V) (its : List Value) (nn : Nat) (H' : Hp) (M' : Mp), L2.Inv (compCx X scope C N fp s2 H2) [(D, { cls := .type "list", data := .seq its.toArray nn })] (capSt ix σ) H' s' ∧
      tn i s'.heap ∧ (∀ b ∈ fp, H' b = none) ∧ DRel X.K M' H' ∧ Step M1 H2 M' H' ∧ Vals vs its ∧ Dts X.K M' H' vs acc ∧ W i acc M' ∧ i ≤ ds.length ∧ acc.length ≤ i ∧ n = ds.length - i) ?_ ds.length
      ⟨0, [], [], [], 0, H2, M1, start, T.keep _ _ _ st2 (fun b _ o e => old b o e), fun b hb => (f2 b hb).1, dr1, Step.refl, .nil, .nil, w0, Nat.zero_le _, Nat.le_refl _, rfl⟩
    rintro n s' ⟨i, acc, vs, its, nn, H', M', IY, ti, fr, dr', stp', rv, rd, wi', hil, hal, rfl⟩
    have pinD := IY.pin (D, { cls := .type "list", data := .seq its.toArray nn }) (by simp)
    have fok := fpY (ps := [(D, { cls := .type "list", data := .seq its.toArray nn })]) fr (onlyD _)
    obtain ⟨ygo, ystop⟩ := yl M' H' stp' i
    by_cases hlt : i < ds.length
    · obtain ⟨jgo, jyl⟩ := ygo hlt
      refine thn (T.item (compCx X scope C N fp s2 H2) rfl rfl rfl hc i _ s' (capSt ix σ) H' (fun _ _ => False) IY fok ti jgo) fun r s4 ⟨u, hr, h4⟩ => ?_
      subst hr
      refine thn h4 fun _ s5 ⟨x, H5, I5, r5, y5, st5, fr5⟩ => ?_
      obtain ⟨dr5, stp5, d, hd, hxd⟩ := jyl x H5 y5 dr'
      replace dr' := dr5
      replace stp' := stp'.trans stp5
      replace rd := rd.step stp5
      have I5' := I5.pinned (fpY (ps := [(D, { cls := .type "list", data := .seq its.toArray nn })]) fr5 (onlyD _)) (T.obj _ _ st5)
      obtain ⟨tg', pg, qg⟩ := hg C fp s2 H2
      refine thn (pg _ s5 (capSt ix σ) H5 x u (fun σ6 H6 => ∃ Δ6 M6, DRel X.K M6 H6 ∧ Step M' H5 M6 H6 ∧ ERel X.K M6 H6 σ6 Δ6 ∧ tc Δ6 M6 fun b M3 => if b = true then te Δ6 M3 fun y M4 => onD y fun e => W (i + 1) (acc ++ [e]) M4 else W (i + 1) acc M3) I5' r5
        (qg x (capSt ix σ) H5 (.dat d) (capD ix Δ) M' _ _ dr' ((er.step (stp.trans stp')).cap ix) hxd (wt i d acc M' hd wi') fun σ6 H6 Δ6 M6 a b c d => ⟨Δ6, M6, a, b, c, d⟩)) fun _ s6 ⟨σ6, H6, I6, Δ6, M6, dr6, stp6, er6, q6⟩ => ?_
      refine thn (ht C fp s2 H2 _ s6 σ6 H6 Δ6 M6 _ I6 dr6 er6 q6) fun b s7 ⟨H7, M7, I7, dr7, stp7, q7⟩ => ?_
      have keepD : ∀ {σz : L2.St} {Hz : Hp} {sz : Shared}, L2.Inv (compCx X scope C N fp s2 H2) ([(D, { cls := .type "list", data := .seq its.toArray nn })] ++ pinsAt fp s5.heap) σz Hz sz →
          sz.heap.get? D = some { cls := .type "list", data := .seq its.toArray nn } ∧ Hz D = none ∧ tn (i + 1) sz.heap ∧ ∀ b ∈ fp, Hz b = none := fun {σz Hz sz} Iz => by
        have a := Iz.pin (D, { cls := .type "list", data := .seq its.toArray nn }) (by simp)
        refine ⟨a.1, a.2.1, T.keep _ _ _ st5 fun b hb o e => (Iz.pin (b, o) (List.mem_append_right _ (List.mem_append_right _ (mem_pinsAt hb e)))).1, fun b hb => ?_⟩
        obtain ⟨o, e, _⟩ := T.obj _ _ st5 b hb
        exact (Iz.pin (b, o) (List.mem_append_right _ (List.mem_append_right _ (mem_pinsAt hb e)))).2.1
      cases b with
      | false =>
        have q7' : W (i + 1) acc M7 := by simpa using q7
        obtain ⟨a1, a2, a3, a4⟩ := keepD I7
        have st17 : Step M' H5 M7 H7 := stp6.trans stp7
        exact ⟨ds.length - (i + 1), by omega, i + 1, acc, vs, its, nn, H7, M7, reloc I7 a1 a2 (fun v z => nomatch z), a3, a4, dr7, stp'.trans st17, rv, rd.step st17, q7', hlt, by omega, rfl⟩
      | true =>
        have q7' : te Δ6 M7 fun y M4 => onD y fun e => W (i + 1) (acc ++ [e]) M4 := by simpa using q7
        obtain ⟨te', pe', qe'⟩ := he C fp s2 H2
        refine thn (pe' _ s7 σ6 H7 (fun v H8 => ∃ e M8, DRel X.K M8 H8 ∧ Step M7 H7 M8 H8 ∧ Dt X.K M8 H8 v e ∧ W (i + 1) (acc ++ [e]) M8) I7 (qe' σ6 H7 Δ6 M7 _ _ dr7 (er6.step stp7) q7' fun v H8 x8 M8 a b c d => by
          replace d := onD_ex d
          obtain ⟨e, rfl, w8⟩ := d
          exact ⟨e, M8, a, b, c, w8⟩)) fun y s8 ⟨v, H8, I8, r8, e, M8, dr8, stp8, dv8, w8⟩ => ?_
        obtain ⟨a1, a2, a3, a4⟩ := keepD I8
        have st18 : Step M' H5 M8 H8 := stp6.trans (stp7.trans stp8)
        have lv := rv.length
        have ld := rd.length
        refine call_meets PySem.F.slot_list_append ⟨_, a1, rfl⟩ PySem.F.entry_list_append (PySem.F.args_list_append_2 _ _) (PySem.list_append D its.toArray nn y (by rw [List.size_toArray]; omega)) ⟨a1, ?_⟩
        have q := PySem.IsL.update a1 (·.push y)
        have I8' : L2.Inv (compCx X scope C N fp s2 H2) [] σ6 H8 s8 := I8.pins_of fun p hp => nomatch hp
        have I9 := I8'.turned (it := D) (h' := s8.heap.update D (Obj.mapSeq (·.push y))) (t' := s8.toks) (fun b o hb hu => (Heap.get?_update_other s8.heap (Obj.mapSeq (·.push y)) (Ne.symm hb)).trans hu) a2 hDC (.inr hDs)
          (fun x c e z => absurd (z ▸ (cellD x c e).1) (Nat.not_lt.mpr hDs)) (fun p hp => by have z : p ∈ ([] : List (Addr × Obj)) ++ [] := hp; simp at z)
        have ea : (its.toArray.push y) = (its ++ [y]).toArray := by simp
        rw [ea] at q
        refine ⟨ds.length - (i + 1), by omega, i + 1, acc ++ [e], vs ++ [v], its ++ [y], _, H8, M8, reloc I9 q a2 (fun v z => nomatch z), T.keep _ _ _ a3 (fun b hb o e => (Heap.get?_update_other s8.heap (Obj.mapSeq (·.push y)) (Ne.symm (fD b hb).1)).trans e), a4, dr8, stp'.trans st18,
          rv.append (.cons r8 .nil), (rd.step st18).append (.cons dv8 .nil), w8, hlt, by rw [List.length_append, List.length_singleton]; omega, rfl⟩
    · have hie : i = ds.length := by omega
      refine thn (T.done (compCx X scope C N fp s2 H2) rfl rfl rfl hc i _ s' (capSt ix σ) H' (fun _ _ => False) IY fok ti (ystop (by omega))) fun r s4 ⟨hr, I4⟩ => ?_
      subst hr
      obtain ⟨m4, hm4, _⟩ := I4.loc
      have pD := I4.pin (D, { cls := .type "list", data := .seq its.toArray nn }) (by simp)
      have hCn : H' C = none := I4.free
      have hDn : H' D = none := pD.2.1
      -- the list that was made is tracked from here on
      have hok4 : HOk X.prog X.w (upd H' D (.lst vs)) s4.heap := fun b u e => by
        by_cases hb : b = D
        · subst hb
          rw [upd_same] at e
          cases e
          exact ⟨by have := rv.length; have := rd.length; omega, its, nn, rv, pD.1⟩
        · rw [upd_ne hb] at e
          refine (I4.hok b u e).stay (fun c v hc' q => q) (fun c q => ?_) fun c xs q => ?_
          · rw [upd_ne (ne_of_none q pD.2.1)]; exact q
          · rw [upd_ne (ne_of_none q pD.2.1)]; exact q
      have bu : Un (frs X.stack) fp H2 H' s2.heap s4.heap := I4.base
      have un4 : Un (frs X.stack) fp H2 (upd H' D (.lst vs)) s2.heap s4.heap := by
        have nD : ∀ b o, s2.heap.get? b = some o → b ≠ D ∧ b ≠ C := fun b o e => ⟨fun z => absurd (z ▸ Heap.lt_size e) (Nat.not_lt.mpr hDs), fun z => absurd (z ▸ Heap.lt_size e) (Nat.not_lt.mpr hCs)⟩
        refine ⟨fun b o e n hb hx => bu.keep b o e n hb hx, fun b o e n hb hx => bu.slot b o e n hb hx, fun b o e n hx => by rw [upd_ne (nD b o e).1]; exact bu.free b o e n hx, fun b o e hx => bu.there b o e hx, fun b xs e => ?_, fun b o xs e => ?_, fun b ps e => ?_⟩
        · have q := bu.tups b xs e
          rw [upd_ne (ne_of_none q pD.2.1)]; exact q
        · have q := bu.frzs b o xs e
          rw [upd_ne (ne_of_none q pD.2.1)]; exact q
        · obtain ⟨mo, q⟩ := bu.tbls b ps e
          exact ⟨mo, by rw [upd_ne (ne_of_none q pD.2.1)]; exact q⟩
      have os4 : s4.os = s2.os := I4.os
      have IX : L2.Inv X pins σ (upd H' D (.lst vs)) s4 := I2.call' (s' := s4) os4 un4 hok4 I4.bare fun b hb => ⟨(f2 b hb).2.2.2.1, (f2 b hb).2.1, (f2 b hb).2.2.2.2.1, (f2 b hb).2.2.2.2.2⟩
      subst hie
      exact hfin s4 C D H' M' vs acc IX hDn dr' (stp.trans stp') rd (wd acc M' wi') ⟨m4, hm4⟩ (I2.fpOk hCs (by rw [upd_ne (Ne.symm hDC)]; exact hCn))
  have hst₁ : tn 0 h₁ := T.keep _ _ _ st2 fun b _ o e => old b o e
  exact codeAny_compStart_list (loop _ rfl) (T.self _ 0 _ _ _ hst₁ (loop _ rfl))
theorem ns_pin {h h' : Heap} {C : Addr} {m : Str → Option Value} (n : h.Ns C m) (k : ∀ o, h.get? C = some o → h'.get? C = some o) : h'.Ns C m := by
  obtain ⟨o, es, ep, ho, r⟩ := n
  exact ⟨o, es, ep, k o ho, r⟩
theorem gone {pins : List (Addr × Obj)} {σ : L2.St} {H : Hp} {s : Shared} {C : Addr} {h' : Heap} (I : L2.Inv X pins σ H s) (f : FpOk X pins H C) (hsb : Heap.SameBut C s.heap h') : L2.Inv X pins σ H { s with heap := h' } :=
  I.turned (t' := s.toks) (fun b o hb e => hsb.extBut b o hb e) f.1 f.2.1 f.2.2.2.1 f.2.2.2.2.1 f.2.2.2.2.2
theorem end_of {ow : Bool} {Φ : DK} {Q : VK} {M M' : Mp} {H H' : Hp} {D : Addr} {vs : List V} {acc : List PyData} (dr' : DRel X.K M' H') (st : Step M H M' H') (rd : Dts X.K M' H' vs acc) (hDn : H' D = none) (fin : dEnd ow Φ acc M') (k : Rch X.K M H Φ Q) : Q (.ref D) (upd H' D (.lst vs)) := by
  cases ow with
  | true =>
    have fin' : ∀ p, M' p = none → Φ (.own p) (mset M' p (.lst acc)) := by simpa [dEnd] using fin
    exact k _ _ (.own D) _ (dr'.ownSet (Step.ownNew hDn) rd) (st.trans (Step.ownNew hDn)) rfl (fin' D (dr'.tracked hDn))
  | false =>
    have fin' : Φ (.dat (.list acc)) M' := by simpa [dEnd] using fin
    exact k.dat (dr'.new hDn) (st.trans (Step.new hDn)) (Dt.newLst dr' hDn rd) fin'
theorem de_comp (ow : Bool) {elt tg iter : Expr} {ifs : List Expr} {scope : Scope} {pos : Pos} {src : DSrc} {N : List Str} {ix : List (Option Nat)} {g : DTG} {tc : DTT} {te : DTE} (ok : CompOk X scope N ix) (hi : DI X tg iter src)
    (hg : ∀ C ex s H, DG (compCx X scope C N ex s H) tg g) (ht : ∀ C ex s H, DTs (compCx X scope C N ex s H) ifs tc) (he : ∀ C ex s H, DE (compCx X scope C N ex s H) elt te) (hc : X.calm = true)
    (hs : ∀ x, foldedSetIterable iter X.env x = pure x := by intro _; rfl) : DE X (.ListComp elt [⟨tg, iter, ifs, 0⟩] scope pos) (dComp ow src ix g tc te) := by
  refine ⟨fun σ H Q => ∀ pins s, L2.Inv X pins σ H s → wpAny (model X.prog X.w) X.A (eval (.ListComp elt [⟨tg, iter, ifs, 0⟩] scope pos) X.env) (EP X pins σ Q) X.xe s, fun pins s σ H Q I h => h pins s I, fun σ H Δ M Φ Q dr er h k pins s I => ?_⟩
  rw [eval_ListComp]
  refine comp_core (ψ := dEnd ow Φ) ok hi hg ht he hc hs dr er h I fun s4 C D H' M' vs acc IX hDn dr' st rd fin hm f => ?_
  obtain ⟨m, hm⟩ := hm
  exact ⟨m, hm, fun h' hsb => ⟨.ref D, _, gone IX f hsb, rfl, end_of dr' st rd hDn fin k⟩⟩
/-- name = [.. for ..]: the name is bound while the block still stands -/
theorem ds_setC (i : Nat) (ow : Bool) {x : Str} {pos' spos : Pos} (hN : X.N.Nodup) {elt tg iter : Expr} {ifs : List Expr} {scope : Scope} {pos : Pos} {src : DSrc} {N : List Str} {ix : List (Option Nat)} {g : DTG} {tc : DTT} {te : DTE} (ok : CompOk X scope N ix) (hi : DI X tg iter src)
    (hg : ∀ C ex s H, DG (compCx X scope C N ex s H) tg g) (ht : ∀ C ex s H, DTs (compCx X scope C N ex s H) ifs tc) (he : ∀ C ex s H, DE (compCx X scope C N ex s H) elt te) (hc : X.calm = true)
    (hs : ∀ x, foldedSetIterable iter X.env x = pure x := by intro _; rfl) (hin : X.N[i]? = some x := by rfl) (hx : Loc X.env.scope x := by first | exact Or.inl rfl | exact Or.inr rfl)
    (hsw : swapsWith (.ListComp elt [⟨tg, iter, ifs, 0⟩] scope pos) (some (.Name x pos')) spos.line X.env = pure true := by rfl)
    (hf : X.fn x = true ∨ X.env.scope.names.lookup x = some .local := by first | exact .inl rfl | exact .inr rfl | assumption) :
    DS X (.Assign [.Name x pos'] (.ListComp elt [⟨tg, iter, ifs, 0⟩] scope pos) spos) (dAsg (dComp ow src ix g tc te) (dgName i)) := by
  refine ⟨fun E σ H => ∀ pins s, L2.Inv X pins σ H s → wpAny (model X.prog X.w) X.A (exec (.Assign [.Name x pos'] (.ListComp elt [⟨tg, iter, ifs, 0⟩] scope pos) spos) X.env) (SP X pins E) X.xe s, fun pins s σ H E I h => h pins s I, fun σ H Δ M D E dr er h k pins s I => ?_⟩
  rw [exec_Assign_Name_used _ _ _ _ hsw]
  refine wpAny_bind (wpAny_standAt (wpAny_bind ?_))
  show wpAny _ _ (do let _ ← comprehension (.ListComp elt [⟨tg, iter, ifs, 0⟩] scope pos) scope X.env _ (newList []) false (eval iter X.env) (some (assign (.Name x pos') X.env))) _ _ s
  refine wpAny_bind (wpAny_mono (comp_core (QQ := fun _ s' => SP X pins E .next s') (use := some (assign (.Name x pos') X.env)) (ψ := dEnd ow fun y M1 => D.nx (Δ.set i (some y)) M1) ok hi hg ht he hc hs dr er h I fun s4 C DD H' M' vs acc IX hDn dr' st rd fin hm f => ?_)
    (fun _ s' hq => wpAny_pure (wpAny_pure hq)) fun _ _ e => e)
  obtain ⟨m, hm⟩ := hm
  have hm0 := hm
  obtain ⟨oC, es, ep, hoC, hr1, hr2⟩ := hm0
  have IP : L2.Inv X (pins ++ [(C, oC)]) σ (upd H' DD (.lst vs)) s4 := IX.pins_of fun p hp => by
    rcases List.mem_append.mp hp with hp | hp
    · exact IX.pin p (List.mem_append_right _ hp)
    · rw [List.mem_singleton.mp hp]
      exact ⟨hoC, f.1, f.2.1, f.2.2.1, fun v z => nomatch (hr1.symm.trans z)⟩
  have nxt : ∀ Q' : L2.St → Hp → Prop, (Q' (σ.set i (some (.ref DD))) (upd H' DD (.lst vs))) → wpAny (model X.prog X.w) X.A (assign (.Name x pos') X.env (.ref DD)) (fun _ s' => ∃ σ' H', L2.Inv X (pins ++ [(C, oC)]) σ' H' s' ∧ Q' σ' H') X.xe s4 := fun Q' hq =>
    pg_name (pos := pos') hN hin hx hf _ s4 σ _ (.ref DD) (.ref DD) Q' IP rfl hq
  have kq : E.nx (σ.set i (some (.ref DD))) (upd H' DD (.lst vs)) := by
    cases ow with
    | true =>
      have fin' : ∀ p, M' p = none → D.nx (Δ.set i (some (.own p))) (mset M' p (.lst acc)) := by simpa [dEnd] using fin
      have st2 : Step M H (mset M' DD (.lst acc)) (upd H' DD (.lst vs)) := st.trans (Step.ownNew hDn)
      exact k.nx _ _ _ _ (dr'.ownSet (Step.ownNew hDn) rd) st2 ((er.step st2).set (v := .ref DD) (x := .own DD) rfl) (fin' DD (dr'.tracked hDn))
    | false =>
      have fin' : D.nx (Δ.set i (some (.dat (.list acc)))) M' := by simpa [dEnd] using fin
      have st2 : Step M H M' (upd H' DD (.lst vs)) := st.trans (Step.new hDn)
      exact k.nx _ _ _ _ (dr'.new hDn) st2 ((er.step st2).set (v := .ref DD) (x := .dat (.list acc)) (Dt.newLst dr' hDn rd)) fin'
  show wpAny _ _ (assign (.Name x pos') X.env (.ref DD)) _ _ s4
  refine thn (nxt (fun σ' H' => σ' = σ.set i (some (.ref DD)) ∧ E.nx σ' H') ⟨rfl, kq⟩) fun _ s5 ⟨σ5, H5, I5, _, q5⟩ => ?_
  have p5 := I5.pin (C, oC) (by simp)
  refine ⟨m, ns_pin hm fun o ho => ?_, fun h' hsb => ⟨σ5, H5, ?_, q5⟩⟩
  · rw [hoC] at ho
    cases ho
    exact p5.1
  · have I6 : L2.Inv X pins σ5 H5 s5 := I5.pins_of fun p hp => I5.pin p (List.mem_append_right _ (List.mem_append_left _ hp))
    exact gone I6 ⟨p5.2.1, f.2⟩ hsb
end
end DL

namespace DL
open PySem PySem.Spec PyProof.Rows L2
section
variable {X : Cx}
/-! ### lists of ints: sorted, min, max -/
/-- a list of ints: data, or owned -/
def IntsOf (xs : List DV) (M : Mp) (ns : List Int) : Prop := xs = [.dat (.list (ns.map PyData.int))] ∨ ∃ l, xs = [.own l] ∧ M l = some (.lst (ns.map PyData.int))
theorem IntsOf.sq {M : Mp} {H : Hp} {vs : List V} {xs : List DV} {ns : List Int} (h : IntsOf xs M ns) (r : DRel X.K M H) (rv : VRels X.K M H vs xs) : ∃ p, vs = [.ref p] ∧ SqL X.K H p (ns.map V.int) := by
  rcases h with rfl | ⟨l, rfl, hm⟩
  · obtain ⟨v, rfl, h1⟩ := Paired.one rv
    obtain ⟨p, ys, rfl, g1, g2⟩ := VRel.lst h1
    rw [ofDts_ints g2] at g1
    exact ⟨p, rfl, g1.sq⟩
  · obtain ⟨v, rfl, h1⟩ := Paired.one rv
    cases (show v = .ref l from h1)
    obtain ⟨ws, g1, g2⟩ := r.ls l _ hm
    rw [ofDts_ints g2] at g1
    exact ⟨l, rfl, SqL.of g1⟩
def δSortI : D1 := fun xs M Φ => ∃ ns : List Int, IntsOf xs M ns ∧ ns.length < 64 ∧ ∀ ns' : List Int, ns'.Perm ns → ns'.Pairwise (· ≤ ·) → Φ (.dat (.list (ns'.map PyData.int))) M
def δMinI : D1 := fun xs M Φ => ∃ ns : List Int, IntsOf xs M ns ∧ 0 < ns.length ∧ ∀ m ∈ ns, (∀ a ∈ ns, m ≤ a) → Φ (.dat (.int m)) M
def δMaxI : D1 := fun xs M Φ => ∃ ns : List Int, IntsOf xs M ns ∧ 0 < ns.length ∧ ∀ m ∈ ns, (∀ a ∈ ns, a ≤ m) → Φ (.dat (.int m)) M
/-- max of three -/
theorem Paired.three {α β : Type} {F : α → β → Prop} {l : List α} {b c d : β} (h : Paired F l [b, c, d]) : ∃ a a' a'', l = [a, a', a''] ∧ F a b ∧ F a' c ∧ F a'' d := by
  cases h with
  | cons h1 h2 =>
    obtain ⟨a, a', rfl, h3, h4⟩ := Paired.two h2
    exact ⟨_, a, a', rfl, h1, h3, h4⟩
def δ3I (g : Int → Int → Int → Int) : D1 := fun xs M Φ => on3 xs fun x y z => onI x fun i => onI y fun j => onI z fun l => Φ (.dat (.int (g i j l))) M
theorem call_max3 (hc : X.calm = true) : CallR X (.builtin "max") (fun xs H Q => ∃ i j l, xs = [.int i, .int j, .int l] ∧ Q (.int (max i (max j l))) H) := by
  intro pins s σ H xs us Q I r h
  obtain ⟨i, j, l, rfl, q⟩ := h
  obtain ⟨u, hu⟩ : ∃ u, us = u := ⟨us, rfl⟩
  cases r with
  | cons r1 r2 =>
    obtain ⟨u2, u3, rfl, r3, r4⟩ := vals2 r2
    obtain ⟨t1, rfl⟩ := r1
    obtain ⟨t2, rfl⟩ := r3
    obtain ⟨t3, rfl⟩ := r4
    refine max_three_ints (I.ok.hd hc) fun h' tk k => ⟨.int (max i (max j l)), H, I.kept k, ?_, q⟩
    by_cases c1 : j > i
    · rw [if_pos c1]
      by_cases c2 : l > j
      · rw [if_pos c2]; exact ⟨t3, by rw [show max i (max j l) = l by omega]⟩
      · rw [if_neg c2]; exact ⟨t2, by rw [show max i (max j l) = j by omega]⟩
    · rw [if_neg c1]
      by_cases c2 : l > i
      · rw [if_pos c2]; exact ⟨t3, by rw [show max i (max j l) = l by omega]⟩
      · rw [if_neg c2]; exact ⟨t1, by rw [show max i (max j l) = i by omega]⟩
theorem cd_max3 (hc : X.calm = true) : CallD X (.builtin "max") (δ3I fun i j l => max i (max j l)) := by
  refine ⟨_, call_max3 hc, fun vs H xs M Φ Q r rv h k => ?_⟩
  replace h := on3_ex h
  obtain ⟨x, y, z, rfl, h⟩ := h
  replace h := onI_ex h
  obtain ⟨i, rfl, h⟩ := h
  replace h := onI_ex h
  obtain ⟨j, rfl, h⟩ := h
  replace h := onI_ex h
  obtain ⟨l, rfl, q⟩ := h
  obtain ⟨v, u, w', rfl, h1, h2, h3⟩ := Paired.three rv
  exact ⟨i, j, l, by rw [VRel.int h1, VRel.int h2, VRel.int h3], k.dat r Step.refl (Dt.int _) q⟩
/-! ### tuple(l) -/
def δTupOf : D1 := fun xs M Φ => on1 xs fun x => onQ x M fun ds => Φ (.dat (.tuple ds)) M
theorem cd_tupleOf : CallD X (.type "tuple") δTupOf := by
  refine ⟨_, call_tuple_of, fun vs H xs M Φ Q r rv h k => ?_⟩
  replace h := on1_ex h
  obtain ⟨x, rfl, h⟩ := h
  replace h := onQ_ex h
  obtain ⟨ds, hx, q⟩ := h
  have hx' : x = .dat (.list ds) ∨ x = .dat (.tuple ds) ∨ ∃ l, x = .own l ∧ M l = some (.lst ds) := by
    rcases hx with a | a | a
    · exact .inr (.inl a)
    · exact .inl a
    · exact .inr (.inr a)
  rcases hx' with rfl | rfl | ⟨l, rfl, hm⟩
  · obtain ⟨v, rfl, h1⟩ := Paired.one rv
    obtain ⟨p, ys, rfl, g1, g2⟩ := VRel.lst h1
    exact ⟨p, ys, rfl, .inl ⟨g1.sq, fun l hl => k.dat (r.new hl) (Step.new hl) (Dt.newTup r hl g2) q⟩⟩
  · obtain ⟨v, rfl, h1⟩ := Paired.one rv
    obtain ⟨p, ys, rfl, g1, g2⟩ := VRel.tup h1
    exact ⟨p, ys, rfl, .inr ⟨g1.sq, k.dat r Step.refl (Dt.tup g1 g2) q⟩⟩
  · obtain ⟨v, rfl, h1⟩ := Paired.one rv
    cases (show v = .ref l from h1)
    obtain ⟨ws, g1, g2⟩ := r.ls l _ hm
    exact ⟨l, ws, rfl, .inl ⟨SqL.of g1, fun l hl => k.dat (r.new hl) (Step.new hl) (Dt.newTup r hl g2) q⟩⟩
/-! ### in -/
/-- a tuple or a list, data -/
def onW (x : DV) (P : List PyData → Prop) : Prop := match x with | .dat (.tuple ds) => P ds | .dat (.list ds) => P ds | _ => False
theorem onW_ex {x : DV} {P : List PyData → Prop} (h : onW x P) : ∃ ds, (x = .dat (.list ds) ∨ x = .dat (.tuple ds)) ∧ P ds := by
  unfold onW at h
  split at h
  · exact ⟨_, .inr rfl, h⟩
  · exact ⟨_, .inl rfl, h⟩
  · exact h.elim
def okIn (d : PyData) (ds : List PyData) : Bool := d.canLay0 && PyData.canLayAll0 ds && Nat.ble d.depth 64
theorem okIn_ex {d : PyData} {ds : List PyData} (h : okIn d ds = true) : d.canLay0 = true ∧ PyData.canLayAll0 ds = true ∧ d.depth ≤ 64 := by
  unfold okIn at h
  simp only [Bool.and_eq_true] at h
  exact ⟨h.1.1, h.1.2, Nat.le_of_ble_eq_true h.2⟩
def δIn : D2 := fun x y M Φ => onD x fun d => onW y fun ds => okIn d ds = true ∧ Φ (.dat (.bool (ds.any fun e => PyData.eqv e d))) M
/-! ### l.extend(m), both owned -/
def dExtend (to te : DTE) : DTE := fun Δ M Φ => to Δ M fun x M1 => onO x fun l => onOL (M1 l) fun _ => te Δ M1 fun y M2 => onO y fun b => onOL (M2 l) fun ds => onOL (M2 b) fun es => b ≠ l ∧ ds.length + es.length ≤ sizeLine ∧ Φ (.dat .none) (mdel (mset M2 l (.lst (ds ++ es))) b)
theorem de_extend {o e : Expr} {to te : DTE} {apos cpos : Pos} (ho : DE X o to) (he : DE X e te) (hbase : attributeBase o "extend" X.env (eval o X.env) = eval o X.env := by rfl)
    (hfew : ((backTo cpos (starEach [e] X.env)).all (fun x => !x.1) && (backToKw cpos (keywordEach [] X.env)).all (fun x => x.1.isSome)
      && decide ([e].length + ([] : List Keyword).length + (if ([] : List Keyword).isEmpty then 0 else 1) < 30)) = true := by rfl)
    (hline : (apos.endLine == cpos.line) = true := by rfl) (hs : starEach [e] X.env = (false, eval e X.env) :: starEach [] X.env := by rfl) (hplain : (backTo cpos (starEach [] X.env)).any (·.1) = false := by rfl) :
    DE X (.Call (.Attribute o "extend" apos) [e] [] cpos) (dExtend to te) := by
  obtain ⟨t1, p1, q1⟩ := ho
  obtain ⟨t2, p2, q2⟩ := he
  refine ⟨_, pe_bm PySem.F.plainAttrs_list PySem.F.slot_list_extend PySem.F.type_list_extend mt_extend p1 (pa_cons p2 pa_nil hs) hbase hfew hline hs hplain, fun σ H Δ M Φ Q r e h k => ?_⟩
  refine q1 σ H Δ M _ _ r e h fun v H1 x M1 r1 st rv hx => ?_
  replace hx := onO_ex hx
  obtain ⟨l, rfl, hx⟩ := hx
  replace hx := onOL_ex hx
  obtain ⟨oo, ho, hx⟩ := hx
  cases (show v = .ref l from rv)
  have ty : tyV X.K "list" (.ref l) H1 := by
    obtain ⟨vs, g1, _⟩ := r1.ls l oo ho
    exact .inl ⟨rfl, vs, SqL.of g1⟩
  refine ⟨ty, q2 σ H1 Δ M1 _ _ r1 (e.step st) hx fun w H2 y M2 r2 st2 rw2 hy => ?_⟩
  replace hy := onO_ex hy
  obtain ⟨b, rfl, hy⟩ := hy
  replace hy := onOL_ex hy
  obtain ⟨ds, hm, hy⟩ := hy
  replace hy := onOL_ex hy
  obtain ⟨es, hb, hne, hz, hy⟩ := hy
  cases (show w = .ref b from rw2)
  obtain ⟨vs, g1, g2⟩ := r2.ls l ds hm
  obtain ⟨ws, g3, g4⟩ := r2.ls b es hb
  have st3 : Step M2 H2 (mset M2 l (.lst (ds ++ es))) (upd H2 l (.lst (vs ++ ws))) := Step.ownPut hm
  refine ⟨l, b, vs, ws, rfl, rfl, g1, g3, by rw [g2.length, g4.length]; exact hz, ?_⟩
  exact k.dat (r2.ownSet st3 (g2.append g4)).frz (st.trans (st2.trans (st3.trans Step.frz))) Dt.non hy
/-! ### for x in range(a, b) -/
theorem ds_forR2 {tg a b : Expr} {body : List Stmt} {g : DTG} {tb : DTS} {pos : Pos} {ta : DTA} {p p2 : Pos} (hg0 : Gl X "range") (hm : X.mg "range" = none) (ha : DA X [a, b] ta) (hg : DG X tg g) (hb : DSs X body tb) (hp : PassesOwn (model X.prog X.w) X.A X.env X.xe) (hc : X.calm = true)
    (hs : starEach [a, b] X.env = [(false, eval a X.env), (false, eval b X.env)] := by rfl) (hs' : starEach [b] X.env = [(false, eval b X.env)] := by rfl) (hs2 : ∀ x, foldedSetIterable (.Call (.Name "range" p) [a, b] [] p2) X.env x = pure x := by intro _; rfl) :
    DS X (.For tg (.Call (.Name "range" p) [a, b] [] p2) body [] pos) (dForR2 ta g tb) := by
  obtain ⟨t1, p1, q1⟩ := ha
  obtain ⟨t2, p2, q2⟩ := hg
  obtain ⟨t3, p3, q3⟩ := hb
  refine ⟨_, ps_for hp hc (pi_range2 hg0 hm p1 hs hs') p2 p3 hs2, fun σ H Δ M D E r e h k => ?_⟩
  refine q1 σ H Δ M _ _ r e h fun vs H1 xs M1 r1 st rv hx => ?_
  replace hx := on2_ex hx
  obtain ⟨xx, yy, rfl, hx⟩ := hx
  replace hx := onI_ex hx
  obtain ⟨i, rfl, hx⟩ := hx
  replace hx := onI_ex hx
  obtain ⟨j, rfl, ⟨⟨a1, a2⟩, a3, a4⟩, hx⟩ := hx
  have h1 : -(2 ^ 62) ≤ i ∧ i < 2 ^ 62 ∧ -(2 ^ 62) ≤ j ∧ j < 2 ^ 62 := ⟨a1, a2, a3, a4⟩
  obtain ⟨v, u, rfl, hv, hu⟩ := Paired.two rv
  exact ⟨i, j, by rw [VRel.int hv, VRel.int hu], h1, turnsR q2 q3 r1 (e.step st) hx (k.step st)⟩
/-! ### slices of lists -/
def dSlL (te : DTE) (tl th : DTO) : DTE := fun Δ M Φ => te Δ M fun x M1 => tl Δ M1 fun l M2 => th Δ M2 fun u M3 => onL x fun ds => Φ (.dat (.list (cutD ds l u))) M3
/-! ### a comprehension's names, checked -/
def relabelS (scope sc : Scope) : List (Str × NameKind) := scope.names.map fun (n, k) => if (k == .free && sc.kind == .function && sc.names.lookup n == some .cell) then (n, .cell) else (n, k)
def capOk (sc : Scope) (XN : List Str) (scope : Scope) (N : List Str) (ix : List (Option Nat)) (j : Nat) : Bool :=
  match N[j]?, ix[j]? with
  | some x, some (some i) => decide (XN[i]? = some x) && (decide ((x, NameKind.free) ∈ scope.names) && decide ((relabelS scope sc).lookup x = some .cell))
  | _, _ => true
theorem compOk_of {sc : Scope} {XN : List Str} {scope : Scope} {N : List Str} {ix : List (Option Nat)} (hsc : X.env.scope = sc) (hN : X.N = XN)
    (h : scope.kind = .function ∧ (∀ y ∈ scope.names, y.2 ≠ .cell) ∧ (∀ y ∈ scope.names, y.2 = .local → scope.names.lookup y.1 = some .local) ∧ (∀ y ∈ scope.names, y.2 = .free → sc.names.lookup y.1 = some .cell) ∧ N.length = ix.length ∧
      ∀ j ∈ List.range N.length, capOk sc XN scope N ix j = true) : CompOk X scope N ix := by
  obtain ⟨h1, h2, h3, h4, h5, h6⟩ := h
  subst hsc hN
  refine ⟨h1, h2, h3, h4, h5, fun j x i hx hi => ?_⟩
  have hj : j < N.length := (List.getElem?_eq_some_iff.mp hx).1
  have q := h6 j (List.mem_range.mpr hj)
  unfold capOk at q
  rw [hx, hi] at q
  simp only [Bool.and_eq_true, decide_eq_true_eq] at q
  exact ⟨q.1, q.2.1, q.2.2⟩
end
end DL

namespace DL
open PySem PySem.Spec PyProof.Rows L2
/-! ### maps after a list was taken in; lists by turns -/
theorem ext_map {M : Mp} {p b : Addr} {o o2 o3 : OO} (h : mset M p o b = none) : mdel (mset (mset (mset M p o) b o2) p o3) b = mset M p o3 := by
  have hne : b ≠ p := fun e => by rw [e, mset_same] at h; cases h
  rw [mset_ne hne] at h
  funext c
  unfold mdel mset
  by_cases h1 : c = b
  · rw [if_pos h1, if_neg (by rw [h1]; exact hne), h1, h]
  · rw [if_neg h1]
    by_cases h2 : c = p
    · rw [if_pos h2, if_pos h2]
    · rw [if_neg h2, if_neg h1, if_neg h2, if_neg h2]
theorem fresh_ne {M : Mp} {p b : Addr} {o : OO} (h : mset M p o b = none) : b ≠ p := fun e => by rw [e, mset_same] at h; cases h
theorem take_snoc {α β : Type} {l : List α} {i : Nat} {a : α} (f : α → β) (h : l[i]? = some a) : (l.take i).map f ++ [f a] = (l.take (i + 1)).map f := by
  rw [List.take_add_one, h, List.map_append]
  rfl
theorem take_flat {α β : Type} {l : List α} {i : Nat} {a : α} (f : α → List β) (h : l[i]? = some a) : (l.take i).flatMap f ++ f a = (l.take (i + 1)).flatMap f := by
  rw [List.take_add_one, h, List.flatMap_append]
  simp
theorem map_get {α β : Type} {l : List α} {f : α → β} {i : Nat} {b : β} (h : (l.map f)[i]? = some b) : ∃ a, l[i]? = some a ∧ f a = b := by
  rw [List.getElem?_map] at h
  cases q : l[i]? with
  | none => rw [q] at h; cases h
  | some a => rw [q] at h; exact ⟨a, rfl, by simpa using h⟩
theorem flat_len {α β : Type} (f : α → List β) (n : Nat) : ∀ l : List α, (∀ a ∈ l, (f a).length ≤ n) → (l.flatMap f).length ≤ l.length * n
  | [], _ => by simp
  | a :: l, h => by
    have h1 := h a List.mem_cons_self
    have h2 := flat_len f n l fun b hb => h b (List.mem_cons_of_mem _ hb)
    rw [List.flatMap_cons, List.length_append, List.length_cons, Nat.succ_mul]
    omega
/-! ### what is owned and no more used is let go -/
def gc (Φ : DK) : DK := fun x M => ∃ ps : List Addr, Φ x (ps.foldl mdel M)
theorem gc_go {K : PySem.W.Frag} {M : Mp} {H : Hp} {Φ : DK} {Q : VK} (k : Rch K M H Φ Q) {v : V} {H' : Hp} {x : DV} : ∀ (ps : List Addr) (M' : Mp), DRel K M' H' → Step M H M' H' → VRel K M' H' v x → Φ x (ps.foldl mdel M') → Q v H'
  | [], M', r, st, rv, f => k v H' x M' r st rv f
  | p :: ps, M', r, st, rv, f => gc_go k ps (mdel M' p) r.frz (st.trans Step.frz) (rv.step Step.frz) f
theorem gc_rch {K : PySem.W.Frag} {M : Mp} {H : Hp} {Φ : DK} {Q : VK} (k : Rch K M H Φ Q) : Rch K M H (gc Φ) Q := fun _ _ _ M' r st rv ⟨ps, f⟩ => gc_go k ps M' r st rv f
theorem okG {P : Program} {w : World} {K : PySem.W.Frag} {mg : Str → Option Value} {base : Heap} {x qual : Str} {st : Stmt} {f : Addr} {fd : FuncData} {N ps : List Str} {k : Nat} {S : DSp} (F : Fun K x qual st f fd) (Sc : FnScope N ps (defScope st)) (len : ∀ xs M Φ, S xs M Φ → xs.length = ps.length)
    (hbody : ∀ (cdv : Value) (A : Around) (outer : List Env) (s : Shared) (H : Hp) (E : XK), Room k (A.deeper (envOfC qual (defScope st) s.heap.objs.size f cdv)) →
      ∃ τ, DSs (cxOf CX0 P w K mg base N qual (defScope st) f cdv A outer s H E).nox (defBody st) τ ∧ ∀ xs M Φ, S xs M Φ → τ { nx := fun _ M' => gc Φ (.dat .none) M', rt := gc Φ } (startD N xs) M) : FnOk P w K mg base CX0 (k + 1) f fd ps (lift K S) := by
  refine F.ok Sc (fun vs H Q E h => ?_) fun cdv A outer s H vs Q E hr h => ?_
  · obtain ⟨xs, M, Φ, _, rv, hs, _⟩ := h
    rw [Paired.length rv]
    exact len xs M Φ hs
  · obtain ⟨xs, M, Φ, r, rv, hs, kk⟩ := h
    obtain ⟨τ, ⟨t, p, q⟩, hτ⟩ := hbody cdv A outer s H E hr
    refine ⟨t, p, q (start N vs) H (startD N xs) M _ _ r (ERel.start rv) (hτ xs M Φ hs) ⟨fun σ' H' Δ' M' r' st' e' hn => ?_, gc_rch kk, fun _ _ _ _ _ _ _ h => h.elim, fun _ _ _ _ _ _ _ h => h.elim⟩⟩
    exact (gc_rch kk).dat r' st' Dt.non hn
theorem gc_one {Φ : DK} {x : DV} {M : Mp} {p : Addr} {o : OO} (hp : M p = none) (h : Φ x M) : gc Φ x (mset M p o) := ⟨[p], by
  show Φ x (mdel (mset M p o) p)
  rw [mdel_mset hp]; exact h⟩
theorem gc_no {Φ : DK} {x : DV} {M : Mp} (h : Φ x M) : gc Φ x M := ⟨[], h⟩
/-! ### plain data can be shown -/
theorem log2_lt' {n k : Nat} (h : n < 2 ^ k) (hk : 0 < k) : n.log2 < k := by
  by_cases h0 : n = 0
  · subst h0; simpa using hk
  · exact (Nat.log2_lt h0).mpr h
def Mid (i : Int) : Prop := -(10 ^ 70) ≤ i ∧ i ≤ 10 ^ 70
end DL

namespace DL
open PySem PySem.Spec PyProof.Rows L2
section
variable {X : Cx}
/-! ### sum of an int list -/
def δSumI : D1 := fun xs M Φ => ∃ ns : List Int, IntsOf xs M ns ∧ Φ (.dat (.int ns.sum)) M
/-! ### all, any of a list of truths -/
def δAllB : D1 := fun xs M Φ => ∃ bs : List Bool, xs = [.dat (.list (bs.map PyData.bool))] ∧ Φ (.dat (.bool (bs.all id))) M
def δAnyB : D1 := fun xs M Φ => ∃ bs : List Bool, xs = [.dat (.list (bs.map PyData.bool))] ∧ Φ (.dat (.bool (bs.any id))) M
/-! ### int of a truth -/
def δIntB : D1 := fun xs M Φ => on1 xs fun x => onB x fun b => Φ (.dat (.int (if b = true then 1 else 0))) M
/-! ### a, b = x, y -/
def dPar (i j : Nat) (ta : DTA) : DTS := fun D Δ M => ta Δ M fun xs M1 => on2 xs fun x y => D.nx ((Δ.set i (some x)).set j (some y)) M1
/-! ### lists read, data or owned -/
def LsOf (x : DV) (M : Mp) (ds : List PyData) : Prop := x = .dat (.list ds) ∨ ∃ l, x = .own l ∧ M l = some (.lst ds)
theorem LsOf.sq {x : DV} {M : Mp} {H : Hp} {v : V} {ds : List PyData} (h : LsOf x M ds) (r : DRel X.K M H) (rv : VRel X.K M H v x) : ∃ p ys, v = .ref p ∧ SqL X.K H p ys ∧ Dts X.K M H ys ds := by
  rcases h with rfl | ⟨l, rfl, hm⟩
  · obtain ⟨p, ys, rfl, g1, g2⟩ := VRel.lst rv
    exact ⟨p, ys, rfl, g1.sq, g2⟩
  · cases (show v = .ref l from rv)
    obtain ⟨ws, g1, g2⟩ := r.ls l _ hm
    exact ⟨l, ws, rfl, SqL.of g1, g2⟩
def δCatS : D2 := fun x y M Φ => onK x M fun ds => onK y M fun es => ds.length + es.length ≤ sizeLine ∧ Φ (.dat (.list (ds ++ es))) M
theorem od_catS : OpD X (binaryOp .Add) δCatS := by
  refine ⟨_, op_catSq, fun v u H x y M Φ Q r rv ru h k => ?_⟩
  replace h := onK_ex h
  obtain ⟨ds, hx, h⟩ := h
  replace h := onK_ex h
  obtain ⟨es, hy, hz, q⟩ := h
  replace hx : LsOf x M ds := hx
  replace hy : LsOf y M es := hy
  obtain ⟨a, xs, rfl, h1, h2⟩ := hx.sq r rv
  obtain ⟨b, ys, rfl, h3, h4⟩ := hy.sq r ru
  exact ⟨a, b, xs, ys, rfl, rfl, h1, h3, by rw [h2.length, h4.length]; exact hz, fun p hp => k.dat (r.new hp) (Step.new hp) (Dt.newLst r hp (h2.append h4)) q⟩
def dSlS (te : DTE) (tl th : DTO) : DTE := fun Δ M Φ => te Δ M fun x M1 => tl Δ M1 fun l M2 => th Δ M2 fun u M3 => onK x M3 fun ds => Φ (.dat (.list (cutD ds l u))) M3
/-! ### list(range(a, b)) -/
def rngV (lo : Int) (n : Nat) : List V := (List.range n).map fun (i : Nat) => V.int (lo + (i : Int))
def dListR2 (ta : DTA) : DTE := fun Δ M Φ => ta Δ M fun xs M1 => on2 xs fun x y => onI x fun i => onI y fun j => (InR i ∧ InR j) ∧ (j - i).toNat ≤ 16777216 ∧ Φ (.dat (.list (rngD i (j - i).toNat))) M1
/-! ### x += e of ints -/
def dAug (i : Nat) (te : DTE) (f : Int → Int → Int) : DTS := fun D Δ M => onV Δ[i]? fun z => onI z fun a => te Δ M fun x M1 => onI x fun b => D.nx (Δ.set i (some (.dat (.int (f a b))))) M1
end
end DL

namespace DL
open PySem PySem.Spec PyProof.Rows L2
/-! ### pairs of whole numbers: which goes first -/
def PrAt (h : Heap) (v : Value) (q : Int × Int) : Prop := ∃ a o n t u, v = .ref a ∧ h.get? a = some o ∧ o.cls = .type "tuple" ∧ o.data = .seq #[.int q.1 t, .int q.2 u] n
theorem PrAt.keep {h h' : Heap} {v : Value} {q : Int × Int} (p : PrAt h v q) (k : ∀ b o, h.get? b = some o → h'.get? b = some o) : PrAt h' v q := by
  obtain ⟨a, o, n, t, u, e, g, c, d⟩ := p
  exact ⟨a, o, n, t, u, e, k _ _ g, c, d⟩
def ltP (p q : Int × Int) : Bool := if p.1 = q.1 then decide (p.2 < q.2) else decide (p.1 < q.1)
theorem get_none {h : Heap} {b : Addr} (hb : h.objs.size ≤ b) : h.get? b = none := by
  cases q : h.get? b with
  | none => rfl
  | some o => exact absurd (Heap.lt_size q) (Nat.not_lt.mpr hb)
theorem ltP_irr (p : Int × Int) : ltP p p = false := by unfold ltP; rw [if_pos rfl]; exact decide_eq_false (by omega)
theorem ltP_tr {p q r : Int × Int} (h1 : ltP r q = false) (h2 : ltP p q = true) : ltP r p = false := by
  unfold ltP at *
  split at h1 <;> split at h2 <;> split <;> simp only [decide_eq_false_iff_not, decide_eq_true_eq] at * <;> omega
theorem best_least (f : Nat → Int × Int) : ∀ k, argBest (fun i j => ltP (f i) (f j)) k ≤ k ∧ ∀ j, j ≤ k → ltP (f j) (f (argBest (fun i j => ltP (f i) (f j)) k)) = false
  | 0 => ⟨Nat.le_refl _, fun j hj => by rw [show j = 0 by omega]; exact ltP_irr _⟩
  | k + 1 => by
    have ih := best_least f k
    unfold argBest
    split
    · rename_i c
      refine ⟨Nat.le_refl _, fun j hj => ?_⟩
      by_cases e : j = k + 1
      · rw [e]; exact ltP_irr _
      · exact ltP_tr (ih.2 j (by omega)) c
    · rename_i c
      refine ⟨by omega, fun j hj => ?_⟩
      by_cases e : j = k + 1
      · rw [e]; exact Bool.of_not_eq_true c
      · exact ih.2 j (by omega)
theorem sub_tt : isSubtype (.type "tuple") (.type "tuple") = pure true := by rw [isSubtype_type]; kernel_rfl
section
variable {prog : Program} {w : World} {A : Around} {E : Value → Shared → Prop} {s : Shared}
theorem itemsT {M : Model} {a : Addr} {o : Obj} {items n} {Q : Array Value → Shared → Prop} (ho : s.heap.get? a = some o) (hd : o.data = .seq items n) (h : Q items s) : wpAny M A (Builtin.Tuple.tupleItemsOf (.ref a)) Q E s := by
  unfold Builtin.Tuple.tupleItemsOf
  exact wpAny_bind (wpAny_seqItems ho hd (wpAny_pure h))
theorem lt_pairs_body {p q : Int × Int} {a b : Addr} {oa ob : Obj} {na nb : Nat} {t1 t2 u1 u2 : Tok} {P : Fin → Shared → Prop} (ha : s.heap.get? a = some oa) (da : oa.data = .seq #[.int p.1 t1, .int p.2 t2] na)
    (hb : s.heap.get? b = some ob) (cb : ob.cls = .type "tuple") (db : ob.data = .seq #[.int q.1 u1, .int q.2 u2] nb) (h : P (.done (.ret (.bool (ltP p q)))) s) :
    wpAny (model prog w) A (Builtin.«tuple.__lt__» ⟨[.ref a, .ref b], []⟩) P E s := by
  have hT : s.TypeIs (.ref b) "tuple" := ⟨ob, hb, cb⟩
  show wpAny _ _ (isInstance (.ref b) (.type "tuple") >>= _) _ _ s
  refine wpAny_bind (wpAny_isInstance hT sub_tt ?_)
  simp only [Bool.not_true, Bool.false_eq_true, if_false]
  refine wpAny_bind (itemsT ha da (wpAny_bind (itemsT hb db (wpAny_bind ?_))))
  show wpAny _ _ (forIn [(Value.int p.1 t1, Value.int q.1 u1), (Value.int p.2 t2, Value.int q.2 u2)] _ _) _ _ s
  rw [List.forIn_cons]
  refine wpAny_bind (wpAny_bind (wpAny_eqBool_int ?_))
  unfold ltP at h
  by_cases e1 : p.1 = q.1
  · rw [if_pos e1] at h
    rw [show (p.1 == q.1) = true from beq_iff_eq.mpr e1]
    simp only [Bool.not_true, Bool.false_eq_true, if_false]
    refine wpAny_pure ?_
    show wpAny _ _ (forIn [(Value.int p.2 t2, Value.int q.2 u2)] (none, ()) _) _ _ s
    rw [List.forIn_cons]
    refine wpAny_bind (wpAny_bind (wpAny_eqBool_int ?_))
    by_cases e2 : p.2 = q.2
    · rw [show (p.2 == q.2) = true from beq_iff_eq.mpr e2]
      simp only [Bool.not_true, Bool.false_eq_true, if_false]
      refine wpAny_pure ?_
      show wpAny _ _ (forIn [] (none, ()) _) _ _ s
      rw [List.forIn_nil]
      refine wpAny_pure ?_
      rw [decide_eq_false (by omega)] at h
      exact wpAny_pure h
    · rw [show (p.2 == q.2) = false from beq_eq_false_iff_ne.mpr e2]
      simp only [Bool.not_false, if_true]
      exact wpAny_bind (wpAny_rule (wpAny_bind (wpAny_lt_int (wpAny_bind (wpAny_pure (wpAny_pure (wpAny_pure (wpAny_pure h))))))))
  · rw [if_neg e1] at h
    rw [show (p.1 == q.1) = false from beq_eq_false_iff_ne.mpr e1]
    simp only [Bool.not_false, if_true]
    exact wpAny_bind (wpAny_rule (wpAny_bind (wpAny_lt_int (wpAny_bind (wpAny_pure (wpAny_pure (wpAny_pure (wpAny_pure h))))))))
theorem lt_pairs {p q : Int × Int} {v u : Value} {Q : Value → Shared → Prop} (hu : A.units < cLine) (hv : PrAt s.heap v p) (hw : PrAt s.heap u q) (h : Q (.bool (ltP p q)) s) : wpAny (model prog w) A (richCompare .Lt v u) Q E s := by
  obtain ⟨a, oa, na, t1, t2, rfl, ha, ca, da⟩ := hv
  obtain ⟨b, ob, nb, u1, u2, rfl, hb, cb, db⟩ := hw
  have hTa : s.TypeIs (.ref a) "tuple" := ⟨oa, ha, ca⟩
  have hTb : s.TypeIs (.ref b) "tuple" := ⟨ob, hb, cb⟩
  exact wpAny_richCompare_same_room (op := .Lt) hTa hTb F.slot_tuple_lt (wpAny_call_entry F.slot_tuple_lt hTa F.entry_tuple_lt (lt_pairs_body ha da hb cb db ⟨_, rfl, (fun z => nomatch z), h⟩) (F.args_tuple_lt_2 _ _)) hu
end
section
variable {prog : Program} {w : World} {A : Around} {R : Result → Shared → Prop} {I : Addr} {fp wr : List Addr} {n : Nat} {P : Nat → Value → Prop} {St : Nat → Heap → Prop}
/-- as CmpOf, of what an earlier heap holds -/
def CmpAt (prog : Program) (w : World) (A : Around) (h0 : Heap) (P : Nat → Value → Prop) (bt : Nat → Nat → Bool) : Prop :=
  ∀ i j x y (s : Shared) (Q : Value → Shared → Prop) (E : Value → Shared → Prop), (∀ b o, h0.get? b = some o → s.heap.get? b = some o) → P i x → P j y → Q (.bool (bt i j)) s → wpAny (model prog w) A (richCompare .Lt x y) Q E s
theorem least_name : (toString "min" ++ toString ".loop" : String) = "min.loop" := by decide
theorem least_turns {kw : List (Str × Value)} {h0 : Heap} {bt : Nat → Nat → Bool} (C : CmpAt prog w A.in1 h0 P bt) (W : Walks prog w A.in1 I fp wr n P St) {S : Addr} (hSf : S ∉ fp) (nS : h0.get? S = none) (nw : ∀ b ∈ wr, h0.get? b = none) :
    ∀ (k j : Nat) (s : Shared) (best : Value) (c : Nat), n - (j + 1) = k → j + 1 ≤ n → (∀ b o, h0.get? b = some o → s.heap.get? b = some o) → St (j + 1) s.heap → P (argBest bt j) best → s.heap.get? S = some { cls := .type "list", dict := none, data := .seq #[best, best] c, slots := #[] } →
      (∀ v h' tk, P (argBest bt (n - 1)) v → (∀ b o, h0.get? b = some o → h'.get? b = some o) → R (.ok (.ret v)) { s with heap := h', toks := tk }) →
      codeAny (model prog w) A (.builtin "min.loop" ⟨[.ref I, .none, .ref S], kw⟩) R s := by
  have hSw : S ∉ wr := fun z => hSf (W.sub _ z)
  have old : ∀ {b : Addr} {o : Obj}, h0.get? b = some o → b ∉ wr ∧ b ≠ S := fun {b o} e => ⟨fun z => (by rw [nw b z] at e; cases e), fun z => (by rw [z, nS] at e; cases e)⟩
  intro k
  induction k with
  | zero =>
    intro j s best c hk hj h0s hst hPb hS hR
    obtain rfl : j + 1 = n := by omega
    refine codeAny_builtin F.entry_min_loop ?_
    rw [Around.under_plainId F.plain_min_loop _]
    show wpAny _ A.in1 (seqItems? (.ref S) >>= _) _ _ s
    refine wpAny_bind (wpAny_seqItems hS rfl ?_)
    show wpAny _ A.in1 (tryCatch (pyNext (.ref I)) _ >>= _) _ _ s
    refine wpAny_bind (wpAny_tryCatch (W.done s _ _ hst fun h' tk keep => ?_))
    have hS' := keep S _ hSw hS
    show wpAny _ A.in1 (updateSeq S (fun _ => #[]) >>= _) _ _ _
    refine wpAny_bind (wpAny_updateSeq hS' rfl (wpAny_bind (wpAny_letGo (wpAny_pure ?_))))
    exact hR best _ tk hPb fun b o e => (Heap.get?_update_other _ _ (Ne.symm (old e).2)).trans (keep b o (old e).1 (h0s b o e))
  | succ k ih =>
    intro j s best c hk hj h0s hst hPb hS hR
    have hlt : j + 1 < n := by omega
    refine codeAny_builtin F.entry_min_loop ?_
    rw [Around.under_plainId F.plain_min_loop _]
    show wpAny _ A.in1 (seqItems? (.ref S) >>= _) _ _ s
    refine wpAny_bind (wpAny_seqItems hS rfl ?_)
    show wpAny _ A.in1 (tryCatch (pyNext (.ref I)) _ >>= _) _ _ s
    refine wpAny_bind (wpAny_tryCatch (W.item (j + 1) s _ _ hlt hst fun v h' tk hP hst' keep => ?_))
    have hS' := keep S _ hSw hS
    have h0' : ∀ b o, h0.get? b = some o → h'.get? b = some o := fun b o e => keep b o (old e).1 (h0s b o e)
    show wpAny _ A.in1 (tryCatch (holding [v, v] (richCompare .Lt v best >>= _)) _ >>= _) _ _ _
    refine wpAny_bind (wpAny_tryCatch (wpAny_holding (wpAny_bind (C (j + 1) (argBest bt j) v best _ _ _ h0' hP hPb ?_))))
    refine wpAny_bind (wpAny_holding (wpAny_truthy_bool (wpAny_bind (wpAny_letGo (wpAny_pure ?_)))))
    cases q : bt (j + 1) (argBest bt j) with
    | true =>
      simp only [if_true]
      refine wpAny_bind (wpAny_updateSeq hS' rfl (wpAny_bind (wpAny_letGo ?_)))
      rw [least_name]
      refine wpAny_pure ⟨plainId_quiet F.plain_min_loop _, ih (j + 1) _ v _ (by omega) hlt (fun b o e => (Heap.get?_update_other _ _ (Ne.symm (old e).2)).trans (h0' b o e)) (W.frame _ _ _ hst' fun b m o e => ?_) (by simp only [argBest, q, if_true]; exact hP) (Heap.get?_update_self _ hS' rfl) fun v' h'' tk'' hP' hk'' => hR v' h'' tk'' hP' hk''⟩
      exact (Heap.get?_update_other _ _ (fun z : S = b => hSf (by rw [z]; exact m))).trans e
    | false =>
      simp only [Bool.false_eq_true, if_false]
      refine wpAny_bind (wpAny_letGo ?_)
      rw [least_name]
      exact wpAny_pure ⟨plainId_quiet F.plain_min_loop _, ih (j + 1) _ best c (by omega) hlt h0' hst' (by simp only [argBest, q, Bool.false_eq_true, if_false]; exact hPb) hS' fun v' h'' tk'' hP' hk'' => hR v' h'' tk'' hP' hk''⟩
end
section
variable {prog : Program} {w : World} {A : Around} {E : Value → Shared → Prop} {s : Shared}
theorem least_call {x : Value} {Q : Value → Shared → Prop} {h0 : Heap}
    (h : wpAny (model prog w) A.in1 (pyIter x) (fun it s2 => ∃ I fp wr n P St bt, it = .ref I ∧ Walks prog w A.in1 I fp wr n P St ∧ St 0 s2.heap ∧ (∀ b ∈ fp, b < s2.heap.objs.size) ∧ (∀ b ∈ wr, h0.get? b = none) ∧ (∀ b o, h0.get? b = some o → s2.heap.get? b = some o) ∧ h0.get? s2.heap.objs.size = none ∧ 0 < n ∧ CmpAt prog w A.in1 h0 P bt ∧
      ∀ v h' tk, P (argBest bt (n - 1)) v → (∀ b o, h0.get? b = some o → h'.get? b = some o) → Q v { s2 with heap := h', toks := tk }) E s) : wpAny (model prog w) A (call (.builtin "min") [x]) Q E s := by
  refine call_function_tree F.kind_min F.plain_min F.entry_min (F.args_min1 _) ?_
  show wpAny _ A.in1 (Builtin.Builtins.bindParams "min" ["key", "default"] 0 ⟨[], []⟩ >>= _) _ _ s
  refine wpAny_bind (wpAny_of_eq (show Builtin.Builtins.bindParams "min" ["key", "default"] 0 ⟨[], []⟩ = pure [none, none] from rfl) (wpAny_bind (wpAny_pure ?_)))
  refine wpAny_bind (wpAny_mono h (fun it s2 h2 => ?_) fun _ _ z => z)
  obtain ⟨I, fp, wr, n, P, St, bt, rfl, W, hst, hfp, nw, h0s, nS, hn, C, hQ⟩ := h2
  refine wpAny_bind (wpAny_newObj_type ?_)
  have hSf : s2.heap.objs.size ∉ fp := fun z => Nat.lt_irrefl _ (hfp _ z)
  have hSw : s2.heap.objs.size ∉ wr := fun z => hSf (W.sub _ z)
  have old : ∀ {b : Addr} {o : Obj}, h0.get? b = some o → b ∉ wr ∧ b ≠ s2.heap.objs.size := fun {b o} e => ⟨fun z => (by rw [nw b z] at e; cases e), fun z => (by rw [z, nS] at e; cases e)⟩
  rw [least_name]
  refine wpAny_pure ⟨plainId_quiet F.plain_min_loop _, ?_⟩
  refine codeAny_builtin F.entry_min_loop ?_
  rw [Around.under_plainId F.plain_min_loop _]
  show wpAny _ A.in1 (seqItems? (.ref s2.heap.objs.size) >>= _) _ _ _
  refine wpAny_bind (wpAny_seqItems (Heap.get?_push_size _ rfl) rfl ?_)
  show wpAny _ A.in1 (tryCatch (pyNext (.ref I)) _ >>= _) _ _ _
  refine wpAny_bind (wpAny_tryCatch (W.item 0 _ _ _ hn (W.frame _ _ _ hst fun b _ o e => Heap.get?_push_of_some _ e) fun v h' tk hP hst' keep => ?_))
  have hS' := keep s2.heap.objs.size _ hSw (Heap.get?_push_size _ rfl)
  show wpAny _ A.in1 (updateSeq s2.heap.objs.size (fun _ => #[v, v]) >>= _) _ _ _
  refine wpAny_bind (wpAny_updateSeq hS' rfl ?_)
  rw [least_name]
  refine wpAny_pure ⟨plainId_quiet F.plain_min_loop _, least_turns C W hSf nS nw _ 0 _ v _ rfl hn (fun b o e => (Heap.get?_update_other _ _ (Ne.symm (old e).2)).trans (keep b o (old e).1 (Heap.get?_push_of_some _ (h0s b o e)))) (W.frame _ _ _ hst' fun b m o e => ?_) hP (Heap.get?_update_self _ hS' rfl) fun v' h'' tk'' hP' hk'' => hQ v' h'' tk'' hP' hk''⟩
  exact (Heap.get?_update_other _ _ (fun z : s2.heap.objs.size = b => hSf (by rw [z]; exact m))).trans e
theorem least_pairs {l : Addr} {its : Array Value} {qs : List (Int × Int)} {Q : Value → Shared → Prop} (hh : A.handled = none) (hu : A.in1.units < cLine) (hl : s.heap.IsList l its) (hz : its.size = qs.length) (hne : 0 < qs.length)
    (hq : ∀ i v, its[i]? = some v → PrAt s.heap v (qs.getD i (0, 0)))
    (h : ∀ i v h' tk, its[i]? = some v → i < qs.length → (∀ j, j < qs.length → ltP (qs.getD j (0, 0)) (qs.getD i (0, 0)) = false) → (∀ b o, s.heap.get? b = some o → h'.get? b = some o) → Q v { s with heap := h', toks := tk }) :
    wpAny (model prog w) A (call (.builtin "min") [.ref l]) Q E s := by
  have hlt : l < s.heap.objs.size := by obtain ⟨_, e, _⟩ := hl; exact Heap.lt_size e
  refine least_call (h0 := s.heap) (wpAny_pyIter_list hl ?_)
  refine ⟨s.heap.objs.size, [s.heap.objs.size, l], [s.heap.objs.size], its.size, _, _, fun i j => ltP (qs.getD i (0, 0)) (qs.getD j (0, 0)), rfl, Walks.list (A := A.in1) hh _ l (Nat.ne_of_lt hlt) its, ⟨⟨_, Heap.get?_push_size _ rfl, rfl, rfl⟩, hl.push _⟩, fun b hb => ?_, fun b hb => ?_, fun b o e => Heap.get?_push_of_some _ e, ?_, by omega, fun i j x y s' Q' E' old hx hy hQ => ?_, fun v h' tk hP keep => ?_⟩
  · show b < (s.heap.push _).objs.size
    rw [Heap.size_push]
    rcases List.mem_cons.mp hb with rfl | hb
    · exact Nat.lt_succ_self _
    · rw [List.mem_singleton.mp hb]
      exact Nat.lt_succ_of_lt hlt
  · rw [List.mem_singleton.mp hb]
    exact get_none (Nat.le_refl _)
  · show s.heap.get? (s.heap.push _).objs.size = none
    rw [Heap.size_push]
    exact get_none (Nat.le_succ _)
  · exact lt_pairs hu ((hq i x hx).keep old) ((hq j y hy).keep old) hQ
  · have b := best_least (fun i => qs.getD i (0, 0)) (its.size - 1)
    exact h _ v h' tk hP (by omega) (fun j hj => b.2 j (by omega)) keep
end
section
variable {X : Cx}
/-! ### // by a wider number -/
def CDivB (i j : Int) : Prop := 0 < j ∧ j.natAbs.log2 < 9000
theorem op_fdivB : OpR X (binaryOp .FloorDiv) (rI CDivB fun i j => .int (i / j)) := opI fun i j _ _ _ _ _ hc q => by
  have h1 : (0 : Int) < j := hc.1
  exact floordiv_int (by omega) (by rw [Int.fdiv_eq_ediv_of_nonneg i (by omega)]; exact q) (.inl (PyProof.noPylong_of_log2 hc.2))
theorem od_fdivB : OpD X (binaryOp .FloorDiv) (δI CDivB fun i j => .int (i / j)) := od_I op_fdivB
/-! ### min of pairs -/
theorem Vals.back {xs : List V} {us : List Value} {i : Nat} {u : Value} (r : Vals xs us) (e : us[i]? = some u) : ∃ x, xs[i]? = some x ∧ RelV x u := by
  cases q : xs[i]? with
  | none => rw [r.none_of q] at e; cases e
  | some x =>
    obtain ⟨u', e', h⟩ := r.get q
    rw [e] at e'
    cases e'
    exact ⟨x, rfl, h⟩
theorem call_minP (hc : X.calm = true) (hu : X.A.in1.units < cLine) : CallR X (.builtin "min") (fun xs H Q => ∃ (p : Addr) (vs : List V) (qs : List (Int × Int)), xs = [.ref p] ∧ SqL X.K H p vs ∧ vs.length = qs.length ∧ (∀ (i : Nat) (q : Int × Int), qs[i]? = some q → ∃ a : Addr, vs[i]? = some (V.ref a) ∧ SqT X.K H a [.int q.1, .int q.2]) ∧ 0 < qs.length ∧
    ∀ (i : Nat) (q : Int × Int) (v : V), qs[i]? = some q → vs[i]? = some v → (∀ r ∈ qs, ltP r q = false) → Q v H) := by
  intro pins s σ H xs us Q I r h
  obtain ⟨p, vs, qs, rfl, hq, hz, hp, h0, q⟩ := h
  obtain ⟨u, rfl, rx⟩ := vals1 r
  cases rx
  obtain ⟨its, rv, pl, _⟩ := I.list hq
  have hlen := rv.length
  have get : ∀ i, i < qs.length → qs[i]? = some (qs.getD i (0, 0)) := fun i hi => by rw [List.getElem?_eq_getElem hi, List.getD_eq_getElem?_getD, List.getElem?_eq_getElem hi]; rfl
  refine least_pairs (I.ok.hd hc) hu pl.isList (by rw [List.size_toArray, ← hlen]; exact hz) h0 (fun i v hv => ?_) fun i v h' tk hv hi hm hk => ?_
  · have hv' : its[i]? = some v := by simpa using hv
    have hi : i < qs.length := by
      have := (List.getElem?_eq_some_iff.mp hv').1
      omega
    obtain ⟨a, e, sq⟩ := hp i _ (get i hi)
    obtain ⟨w', e', rl⟩ := rv.get e
    rw [hv'] at e'
    cases e'
    cases (show v = .ref a from rl)
    obtain ⟨jts, rt, ⟨o, eo, co, n, d⟩, _⟩ := I.tuple sq
    obtain ⟨x1, x2, rfl, ⟨t1, rfl⟩, ⟨t2, rfl⟩⟩ := Vals.two rt
    exact ⟨a, o, n, t1, t2, rfl, eo, co, d⟩
  · have hv' : its[i]? = some v := by simpa using hv
    obtain ⟨x, e, rl⟩ := Vals.back rv hv'
    refine ⟨x, H, I.kept hk, rl, q i _ x (get i hi) e fun r hr => ?_⟩
    obtain ⟨j, hj, rfl⟩ := List.getElem_of_mem hr
    have := hm j hj
    rwa [List.getD_eq_getElem?_getD, List.getElem?_eq_getElem hj] at this
def prD (q : Int × Int) : PyData := .tuple [.int q.1, .int q.2]
def δMinP : D1 := fun xs M Φ => ∃ qs : List (Int × Int), xs = [.dat (.list (qs.map prD))] ∧ 0 < qs.length ∧ ∀ q ∈ qs, (∀ r ∈ qs, ltP r q = false) → Φ (.dat (prD q)) M
theorem cd_minP {k : Nat} (hr : Room k X.A) (hc : X.calm = true) : CallD X (.builtin "min") δMinP := by
  refine ⟨_, call_minP hc (by have := hr.un; show X.A.units + 1 < _; omega), fun vs H xs M Φ Q r rv h k => ?_⟩
  obtain ⟨qs, rfl, h0, q⟩ := h
  obtain ⟨v, rfl, h1⟩ := Paired.one rv
  obtain ⟨p, ys, rfl, g1, g2⟩ := VRel.lst h1
  refine ⟨p, ys, qs, rfl, g1.sq, by rw [g2.length, List.length_map], fun i q' e => ?_, h0, fun i q' v e ev hm => ?_⟩
  · obtain ⟨v, ev, d⟩ := g2.get (i := i) (d := prD q') (by rw [List.getElem?_map, e]; rfl)
    cases d with
    | tup t1 t2 =>
      cases t2 with
      | cons a b =>
        cases a
        cases b with
        | cons a b =>
          cases a
          cases b
          exact ⟨_, ev, t1.sq⟩
  · obtain ⟨v', ev', d⟩ := g2.get (i := i) (d := prD q') (by rw [List.getElem?_map, e]; rfl)
    rw [ev] at ev'
    cases ev'
    exact k.dat r Step.refl d (q q' (List.mem_of_getElem? e) hm)
end
end DL

namespace DL
open PySem PySem.Spec PyProof.Rows L2
/-! ### dicts whose keys are pairs, under way: which keys they hold -/
def memK {α : Type} [DecidableEq α] (ks : List α) (k : α) : Bool := decide (k ∈ ks)
theorem memK_iff {α : Type} [DecidableEq α] {ks : List α} {k : α} : memK ks k = true ↔ k ∈ ks := by
  unfold memK
  rw [decide_eq_true_eq]
theorem valV_keys {α : Type} [DecidableEq α] (kvs : List (α × V)) (k : α) : (valV kvs k).isSome = decide (k ∈ kvs.map (·.1)) := by
  rw [← valV_any, Bool.eq_iff_iff, List.any_eq_true, decide_eq_true_eq, List.mem_map]
  constructor
  · rintro ⟨x, hx, e⟩
    exact ⟨x, hx, of_decide_eq_true e⟩
  · rintro ⟨x, hx, e⟩
    exact ⟨x, hx, decide_eq_true e⟩
def addK {α : Type} [DecidableEq α] (ks : List α) (k : α) : List α := if k ∈ ks then ks else ks ++ [k]
theorem putK_keys {α : Type} [DecidableEq α] (kvs : List (α × V)) (k : α) (v : V) : (putK kvs k v).map (·.1) = addK (kvs.map (·.1)) k := by
  have e := valV_keys kvs k
  rw [← valV_any] at e
  unfold putK addK
  rw [e]
  by_cases h : k ∈ kvs.map (·.1)
  · rw [decide_eq_true h, if_pos rfl, if_pos h, List.map_map]
    refine List.map_congr_left fun x _ => ?_
    show (if x.1 = k then (x.1, v) else x).1 = x.1
    split <;> rfl
  · rw [decide_eq_false h, if_neg Bool.false_ne_true, if_neg h, List.map_append]
    rfl
theorem mem_addK {α : Type} [DecidableEq α] {ks : List α} {k x : α} : x ∈ addK ks k ↔ x ∈ ks ∨ x = k := by
  unfold addK
  split
  · rename_i h
    constructor
    · exact .inl
    · rintro (z | rfl)
      · exact z
      · exact h
  · rw [List.mem_append, List.mem_singleton]
theorem addK_len {α : Type} [DecidableEq α] (ks : List α) (k : α) : (addK ks k).length ≤ ks.length + 1 := by
  unfold addK
  split
  · omega
  · rw [List.length_append, List.length_singleton]
    exact Nat.le_refl _
section
variable {X : Cx}
def dDict0T : DTE := fun _ M Φ => ∀ p, M p = none → Φ (.own p) (mset M p (.dct []))
theorem de_dict0T {pos : Pos} : DE X (.Dict [] [] pos) dDict0T :=
  ⟨_, pe_dnewT, fun _ _ _ _ _ _ r _ h k p hp => k _ _ (.own p) _ (r.ownDct (Step.ownNew hp) rfl) (Step.ownNew hp) rfl (h p (r.tracked hp))⟩
def kP (i j : Int) : List Key := [.inl i, .inl j]
def dPutT (td : DTE) (ta : DTA) (tv : DTE) : DTS := fun D Δ M => tv Δ M fun x M1 => td Δ M1 fun y M2 => ta Δ M2 fun zs M3 => onD x fun _ => onO y fun l => on2 zs fun p q => onI p fun i => onI q fun j => onOC (M3 l) fun ks => ks.length < sizeLine ∧ D.nx Δ (mset M3 l (.dct (addK ks (kP i j))))
theorem ds_putT {k : Nat} {o value : Expr} {es : List Expr} {td tv : DTE} {ta : DTA} {kt} {pt pos' pos : Pos} (hr : Room k X.A) (ho : DE X o td) (hi : DA X es ta) (hv : DE X value tv)
    (hs : swapsWith value (some (.Subscript o (.Tuple es kt pt) pos')) pos.line X.env = pure false := by rfl) : DS X (.Assign [.Subscript o (.Tuple es kt pt) pos'] value pos) (dPutT td ta tv) := by
  obtain ⟨t1, p1, q1⟩ := hv
  obtain ⟨t2, p2, q2⟩ := ho
  obtain ⟨t3, p3, q3⟩ := hi
  refine ⟨_, ps_dput (by have := hr.un; omega) p2 (pe_tup p3) p1 hs, fun σ H Δ M D E r e h k => ?_⟩
  refine q1 σ H Δ M _ _ r e h fun v H1 x M1 r1 st1 rv hx => ?_
  refine q2 σ H1 Δ M1 _ _ r1 (e.step st1) hx fun w H2 y M2 r2 st2 rw2 hy => ?_
  refine q3 σ H2 Δ M2 _ _ r2 (e.step (st1.trans st2)) hy fun vs H3 zs M3 r3 st3 rvs hz => ?_
  replace hz := onD_ex hz
  obtain ⟨d, rfl, hz⟩ := hz
  replace hz := onO_ex hz
  obtain ⟨l, rfl, hz⟩ := hz
  replace hz := on2_ex hz
  obtain ⟨zi, zj, rfl, hz⟩ := hz
  replace hz := onI_ex hz
  obtain ⟨i, rfl, hz⟩ := hz
  replace hz := onI_ex hz
  obtain ⟨j, rfl, hz⟩ := hz
  replace hz := onOC_ex hz
  obtain ⟨ks, hm, hl, hn⟩ := hz
  obtain ⟨a, b, rfl, ha, hb⟩ := Paired.two rvs
  cases (show a = .int i from VRel.int ha)
  cases (show b = .int j from VRel.int hb)
  cases (show w = .ref l from rw2)
  refine ⟨by rw [sizeLine_eq]; show 2 ≤ 16777216; decide, fun p hp => ?_⟩
  obtain ⟨kvs, g1, g2⟩ := r3.dc l ks hm
  have hne : l ≠ p := ne_of_none g1 hp
  have g1' : upd H3 p (.tup [.int i, .int j]) l = some (.dT kvs) := by rw [upd_ne hne]; exact g1
  refine ⟨l, _, rfl, DPut.t (k := kP i j) g1' upd_same (by rw [← g2, List.length_map] at hl; exact hl), ?_⟩
  have r4 : DRel X.K M3 (upd H3 p (.tup [.int i, .int j])) := r3.new hp
  have st4 : Step M3 H3 M3 (upd H3 p (.tup [.int i, .int j])) := Step.new hp
  have st5 : Step M3 (upd H3 p (.tup [.int i, .int j])) (mset M3 l (.dct (addK ks (kP i j)))) (upd (upd H3 p (.tup [.int i, .int j])) l (.dT (putK kvs (kP i j) v))) := Step.ownPut hm
  have stA := st1.trans (st2.trans (st3.trans (st4.trans st5)))
  exact k.nx _ _ _ _ (r4.ownDct st5 (by rw [putK_keys, g2])) stA (e.step stA) hn
/-! ### (x, y) in d -/
theorem key_sq {pins : List (Addr × Obj)} {σ : L2.St} {H : Hp} {s : Shared} {b : Addr} {ks : List Key} (I : L2.Inv X pins σ H s) (h : SqT X.K H b (ks.map kV)) : (tupleKind (mixKind X.prog X.w)).is s.heap ks b := by
  obtain ⟨its, r, ⟨o, e, c, n, d⟩, _⟩ := I.tuple h
  exact ⟨o, its.toArray, n, e, c, d, by simpa using items_are r⟩
/-- a pair of ints -/
def onP (x : DV) (P : Int → Int → Prop) : Prop := match x with | .dat (.tuple [.int i, .int j]) => P i j | _ => False
theorem onP_ex {x : DV} {P : Int → Int → Prop} (h : onP x P) : ∃ i j, x = .dat (.tuple [.int i, .int j]) ∧ P i j := by
  unfold onP at h
  split at h
  · exact ⟨_, _, rfl, h⟩
  · exact h.elim
def δInT : D2 := fun x y M Φ => onP x fun i j => onO y fun l => onOC (M l) fun ks => Φ (.dat (.bool (memK ks (kP i j)))) M
end
/-! ### t[::-1] -/
section
variable {prog : Program} {w : World} {A : Around} {E : Value → Shared → Prop} {s : Shared}
end
section
variable {X : Cx}
def dRevT (te ts : DTE) : DTE := fun Δ M Φ => te Δ M fun x M1 => ts Δ M1 fun y M2 => onT x fun ds => onI y fun i => i = -1 ∧ Φ (.dat (.tuple ds.reverse)) M2
end
/-! ### t[lo:hi], the whole of it too -/
section
variable {prog : Program} {w : World} {A : Around} {E : Value → Shared → Prop} {s : Shared}
end
section
variable {X : Cx}
def rSlTW (K : PySem.W.Frag) : V → Option Int → Option Int → Hp → VK → Prop := fun x lo hi H Q => ∃ a xs, x = .ref a ∧ SqT K H a xs ∧ (HT.sIx xs.length 0 lo = 0 ∧ HT.sIx xs.length xs.length hi = xs.length) ∧ Q (.ref a) H
def dSlTW (te : DTE) (tl th : DTO) : DTE := fun Δ M Φ => te Δ M fun x M1 => tl Δ M1 fun l M2 => th Δ M2 fun u M3 => onT x fun ds => Φ (.dat (.tuple (cutD ds l u))) M3
end
section
variable {X : Cx}
/-- an owned list, or one that is data, becomes data -/
def onFr (x : DV) (M : Mp) (Φ : DK) : Prop := match x with | .dat (.list ds) => Φ (.dat (.list ds)) M | .own l => onOL (M l) fun ds => Φ (.dat (.list ds)) (mdel M l) | _ => False
def dFrzA (t : DTE) : DTE := fun Δ M Φ => t Δ M fun x M1 => onFr x M1 Φ
end
end DL

namespace DL
open PySem PySem.Spec PyProof.Rows L2
/-! ### loops and comprehensions over a few items, turn by turn -/
theorem ds_weak {X : Cx} {s : Stmt} {τ τ' : DTS} (h : DS X s τ) (k : ∀ D Δ M, τ' D Δ M → τ D Δ M) : DS X s τ' := by
  obtain ⟨t, p, q⟩ := h
  exact ⟨t, p, fun σ H Δ M D E a b c d => q σ H Δ M D E a b (k _ _ _ c) d⟩
def srcM (src : DSrc) : DSrc := fun Δ M Ψ => ∃ Ψ', src Δ M Ψ' ∧ ∀ ds M1, Ψ' ds M1 → Ψ ds M1
theorem DI.mono {X : Cx} {tg iter : Expr} {src : DSrc} (h : DI X tg iter src) : DI X tg iter (srcM src) := by
  obtain ⟨wi, p, q⟩ := h
  exact ⟨wi, p, fun σ H Δ M Ψ R dr er ⟨Ψ', h1, h2⟩ k => q σ H Δ M Ψ' R dr er h1 fun J H' M' ds a b c d => k J H' M' ds a b c (h2 _ _ d)⟩
def CompRun (g : DTG) (tc : DTT) (te : DTE) (Δc : DSt) (fin : List PyData → Mp → Prop) : List PyData → List PyData → Mp → Prop
  | [], acc, M => fin acc M
  | d :: ds, acc, M => g (.dat d) Δc M fun Δ2 M2 => tc Δ2 M2 fun b M3 => if b = true then te Δ2 M3 fun y M4 => onD y fun e => CompRun g tc te Δc fin ds (acc ++ [e]) M4 else CompRun g tc te Δc fin ds acc M3
theorem CompRun_n (g : DTG) (tc : DTT) (te : DTE) (Δc : DSt) (fin : List PyData → Mp → Prop) (acc : List PyData) (M : Mp) : CompRun g tc te Δc fin [] acc M = fin acc M := by rw [CompRun]
theorem CompRun_c (g : DTG) (tc : DTT) (te : DTE) (Δc : DSt) (fin : List PyData → Mp → Prop) (d : PyData) (ds acc : List PyData) (M : Mp) : CompRun g tc te Δc fin (d :: ds) acc M =
    g (.dat d) Δc M fun Δ2 M2 => tc Δ2 M2 fun b M3 => if b = true then te Δ2 M3 fun y M4 => onD y fun e => CompRun g tc te Δc fin ds (acc ++ [e]) M4 else CompRun g tc te Δc fin ds acc M3 := by rw [CompRun]
theorem comp_run {g : DTG} {tc : DTT} {te : DTE} {Δc : DSt} {fin : List PyData → Mp → Prop} {ds : List PyData} {M : Mp} (h : CompRun g tc te Δc fin ds [] M) : ∃ J : Nat → List PyData → Mp → Prop, J 0 [] M ∧
  (∀ i d acc M', ds[i]? = some d → J i acc M' → g (.dat d) Δc M' fun Δ2 M2 => tc Δ2 M2 fun b M3 => if b = true then te Δ2 M3 fun y M4 => onD y fun e => J (i + 1) (acc ++ [e]) M4 else J (i + 1) acc M3) ∧
  ∀ acc M', J ds.length acc M' → fin acc M' := by
  refine ⟨fun i acc M' => CompRun g tc te Δc fin (ds.drop i) acc M', by simpa using h, fun i d acc M' e k => ?_, fun acc M' k => ?_⟩
  · have ed : ds.drop i = d :: ds.drop (i + 1) := by
      obtain ⟨hi, e'⟩ := List.getElem?_eq_some_iff.mp e
      rw [← e', List.drop_eq_getElem_cons hi]
    dsimp only at k
    rw [ed] at k
    exact k
  · dsimp only at k
    rw [List.drop_length] at k
    exact k
def dCompU (ow : Bool) (src : DSrc) (ix : List (Option Nat)) (g : DTG) (tc : DTT) (te : DTE) : DTE := fun Δ M Φ => src Δ M fun ds M1 => ds.length ≤ sizeLine ∧ CompRun g tc te (capD ix Δ) (dEnd ow Φ) ds [] M1
theorem dCompU_w {ow : Bool} {src : DSrc} {ix : List (Option Nat)} {g : DTG} {tc : DTT} {te : DTE} (Δ : DSt) (M : Mp) (Φ : DK) (h : dCompU ow src ix g tc te Δ M Φ) : dComp ow (srcM src) ix g tc te Δ M Φ :=
  ⟨_, h, fun _ _ ⟨a, b⟩ => ⟨a, comp_run b⟩⟩
section
variable {X : Cx}
theorem ds_setCU (i : Nat) (ow : Bool) {x : Str} {pos' spos : Pos} (hN : X.N.Nodup) {elt tg iter : Expr} {ifs : List Expr} {scope : Scope} {pos : Pos} {src : DSrc} {N : List Str} {ix : List (Option Nat)} {g : DTG} {tc : DTT} {te : DTE} (ok : CompOk X scope N ix) (hi : DI X tg iter src)
    (hg : ∀ C ex s H, DG (compCx X scope C N ex s H) tg g) (ht : ∀ C ex s H, DTs (compCx X scope C N ex s H) ifs tc) (he : ∀ C ex s H, DE (compCx X scope C N ex s H) elt te) (hc : X.calm = true)
    (hs : ∀ x, foldedSetIterable iter X.env x = pure x := by intro _; rfl) (hin : X.N[i]? = some x := by rfl) (hx : Loc X.env.scope x := by first | exact Or.inl rfl | exact Or.inr rfl)
    (hsw : swapsWith (.ListComp elt [⟨tg, iter, ifs, 0⟩] scope pos) (some (.Name x pos')) spos.line X.env = pure true := by rfl)
    (hf : X.fn x = true ∨ X.env.scope.names.lookup x = some .local := by first | exact .inl rfl | exact .inr rfl | assumption) :
    DS X (.Assign [.Name x pos'] (.ListComp elt [⟨tg, iter, ifs, 0⟩] scope pos) spos) (dAsg (dCompU ow src ix g tc te) (dgName i)) :=
  ds_weak (ds_setC i ow hN ok hi.mono hg ht he hc hs hin hx hsw hf) fun D Δ M h => dCompU_w Δ M _ h
end
def TurnsU (g : DTG) (tb : DTS) (D : DEnds) : List PyData → DSt → Mp → Prop
  | [], Δ, M => D.nx Δ M
  | d :: ds, Δ, M => g (.dat d) Δ M fun Δ2 M2 => tb { D with nx := TurnsU g tb D ds, ct := TurnsU g tb D ds, bk := D.nx } Δ2 M2
theorem TurnsU_n (g : DTG) (tb : DTS) (D : DEnds) (Δ : DSt) (M : Mp) : TurnsU g tb D [] Δ M = D.nx Δ M := by rw [TurnsU]
theorem TurnsU_c (g : DTG) (tb : DTS) (D : DEnds) (d : PyData) (ds : List PyData) (Δ : DSt) (M : Mp) : TurnsU g tb D (d :: ds) Δ M = g (.dat d) Δ M fun Δ2 M2 => tb { D with nx := TurnsU g tb D ds, ct := TurnsU g tb D ds, bk := D.nx } Δ2 M2 := by rw [TurnsU]
theorem turnsU {g : DTG} {tb : DTS} {D : DEnds} {ds : List PyData} {Δ : DSt} {M : Mp} (h : TurnsU g tb D ds Δ M) : Turns g tb D ds Δ M := by
  refine ⟨fun i => TurnsU g tb D (ds.drop i), by simpa using h, fun i d Δ M e k => ?_, fun Δ M k => ?_⟩
  · have ed : ds.drop i = d :: ds.drop (i + 1) := by
      obtain ⟨hi, e'⟩ := List.getElem?_eq_some_iff.mp e
      rw [← e', List.drop_eq_getElem_cons hi]
    dsimp only at k
    rw [ed] at k
    exact k
  · dsimp only at k
    rw [List.drop_length] at k
    exact k
theorem rngD_s (lo : Int) (n : Nat) : rngD lo (n + 1) = .int lo :: rngD (lo + 1) n := by
  unfold rngD
  rw [List.range_succ_eq_map, List.map_cons, List.map_map]
  congr 1
  · simp
  · refine List.map_congr_left fun i _ => ?_
    show PyData.int _ = PyData.int _
    congr 1
    simp
    omega
theorem rngD_0 (lo : Int) : rngD lo 0 = [] := rfl
theorem rngD_1 (lo : Int) : rngD lo 1 = [.int lo] := by rw [rngD_s]; rfl
theorem rngD_2 (lo : Int) : rngD lo 2 = [.int lo, .int (lo + 1)] := by rw [rngD_s, rngD_1]
theorem rngD_3 (lo : Int) : rngD lo 3 = [.int lo, .int (lo + 1), .int (lo + 1 + 1)] := by rw [rngD_s, rngD_2]
theorem rngD_4 (lo : Int) : rngD lo 4 = [.int lo, .int (lo + 1), .int (lo + 1 + 1), .int (lo + 1 + 1 + 1)] := by rw [rngD_s, rngD_3]
theorem turnsRU {g : DTG} {tb : DTS} {D : DEnds} {lo : Int} {n : Nat} {Δ : DSt} {M : Mp} (h : TurnsU g tb D (rngD lo n) Δ M) : TurnsR g tb D lo n Δ M := by
  obtain ⟨J, a, b, c⟩ := turnsU h
  refine ⟨J, a, fun i Δ M hi k => b i _ Δ M (rngD_get hi) k, fun Δ M k => c Δ M ?_⟩
  rw [rngD_len]
  exact k
/-! ### for the readings -/
/-- the rest of a block out of sight -/
theorem seq_hide {A B : DTS} {D : DEnds} {Δ : DSt} {M : Mp} (h : ∀ R, R = B → dSeq A R D Δ M) : dSeq A B D Δ M := h B rfl
theorem atI_int {l : List Int} {r : Int} (h0 : 0 ≤ r) (h1 : r < l.length) : ∃ w ∈ l, atI (l.map PyData.int) r = some (.int w) := by
  obtain ⟨d, e, hm⟩ := atI_mem (l := l.map PyData.int) h0 (by rw [List.length_map]; exact h1)
  obtain ⟨w, hw, rfl⟩ := List.mem_map.mp hm
  exact ⟨w, hw, e⟩
end DL

namespace DL
open PySem PySem.Spec PyProof.Rows L2
/-! ### what kind, and alike: by the data's form -/
theorem ty_int_none  : isTyp "int" .none = false := rfl
theorem ty_int_bool (b : Bool) : isTyp "int" (.bool b) = true := rfl
theorem ty_int_int (i : Int) : isTyp "int" (.int i) = true := rfl
theorem ty_int_str (z : Str) : isTyp "int" (.str z) = false := rfl
theorem ty_int_list (l : List PyData) : isTyp "int" (.list l) = false := rfl
theorem ty_int_tuple (l : List PyData) : isTyp "int" (.tuple l) = false := rfl
theorem ty_int_dict (l : List (PyData × PyData)) : isTyp "int" (.dict l) = false := rfl
theorem ty_bool_none  : isTyp "bool" .none = false := rfl
theorem ty_bool_bool (b : Bool) : isTyp "bool" (.bool b) = true := rfl
theorem ty_bool_int (i : Int) : isTyp "bool" (.int i) = false := rfl
theorem ty_bool_str (z : Str) : isTyp "bool" (.str z) = false := rfl
theorem ty_bool_list (l : List PyData) : isTyp "bool" (.list l) = false := rfl
theorem ty_bool_tuple (l : List PyData) : isTyp "bool" (.tuple l) = false := rfl
theorem ty_bool_dict (l : List (PyData × PyData)) : isTyp "bool" (.dict l) = false := rfl
theorem ty_tuple_none  : isTyp "tuple" .none = false := rfl
theorem ty_tuple_bool (b : Bool) : isTyp "tuple" (.bool b) = false := rfl
theorem ty_tuple_int (i : Int) : isTyp "tuple" (.int i) = false := rfl
theorem ty_tuple_str (z : Str) : isTyp "tuple" (.str z) = false := rfl
theorem ty_tuple_list (l : List PyData) : isTyp "tuple" (.list l) = false := rfl
theorem ty_tuple_tuple (l : List PyData) : isTyp "tuple" (.tuple l) = true := rfl
theorem ty_tuple_dict (l : List (PyData × PyData)) : isTyp "tuple" (.dict l) = false := rfl
theorem ty_list_none  : isTyp "list" .none = false := rfl
theorem ty_list_bool (b : Bool) : isTyp "list" (.bool b) = false := rfl
theorem ty_list_int (i : Int) : isTyp "list" (.int i) = false := rfl
theorem ty_list_str (z : Str) : isTyp "list" (.str z) = false := rfl
theorem ty_list_list (l : List PyData) : isTyp "list" (.list l) = true := rfl
theorem ty_list_tuple (l : List PyData) : isTyp "list" (.tuple l) = false := rfl
theorem ty_list_dict (l : List (PyData × PyData)) : isTyp "list" (.dict l) = false := rfl
theorem ty_str_none  : isTyp "str" .none = false := rfl
theorem ty_str_bool (b : Bool) : isTyp "str" (.bool b) = false := rfl
theorem ty_str_int (i : Int) : isTyp "str" (.int i) = false := rfl
theorem ty_str_str (z : Str) : isTyp "str" (.str z) = true := rfl
theorem ty_str_list (l : List PyData) : isTyp "str" (.list l) = false := rfl
theorem ty_str_tuple (l : List PyData) : isTyp "str" (.tuple l) = false := rfl
theorem ty_str_dict (l : List (PyData × PyData)) : isTyp "str" (.dict l) = false := rfl
theorem ty_dict_none  : isTyp "dict" .none = false := rfl
theorem ty_dict_bool (b : Bool) : isTyp "dict" (.bool b) = false := rfl
theorem ty_dict_int (i : Int) : isTyp "dict" (.int i) = false := rfl
theorem ty_dict_str (z : Str) : isTyp "dict" (.str z) = false := rfl
theorem ty_dict_list (l : List PyData) : isTyp "dict" (.list l) = false := rfl
theorem ty_dict_tuple (l : List PyData) : isTyp "dict" (.tuple l) = false := rfl
theorem ty_dict_dict (l : List (PyData × PyData)) : isTyp "dict" (.dict l) = true := rfl
theorem eq_ii (i j : Int) : (PyData.int i).eqv (.int j) = decide (i = j) := by
  simp only [PyData.eqv]
  first | rfl | exact Bool.beq_eq_decide_eq _ _ | (rw [Bool.eq_iff_iff]; simp)
theorem eq_ss (x y : Str) : (PyData.str x).eqv (.str y) = decide (x = y) := by
  simp only [PyData.eqv]
  first | rfl | (rw [Bool.eq_iff_iff]; simp)
theorem eq_bb (x y : Bool) : (PyData.bool x).eqv (.bool y) = (x == y) := by
  simp only [PyData.eqv]
theorem eq_nn : PyData.none.eqv .none = true := by simp only [PyData.eqv]
theorem eq_tt (x y : List PyData) : (PyData.tuple x).eqv (.tuple y) = PyData.eqvAll x y := by simp only [PyData.eqv]
theorem eq_ll (x y : List PyData) : (PyData.list x).eqv (.list y) = PyData.eqvAll x y := by simp only [PyData.eqv]
theorem eqA_nil : PyData.eqvAll [] [] = true := by simp only [PyData.eqvAll]
theorem eqA_cons (x y : PyData) (xs ys : List PyData) : PyData.eqvAll (x :: xs) (y :: ys) = (x.eqv y && PyData.eqvAll xs ys) := by simp only [PyData.eqvAll]
theorem eqA_cn (x : PyData) (xs : List PyData) : PyData.eqvAll (x :: xs) [] = false := by simp only [PyData.eqvAll]
theorem eqA_nc (x : PyData) (xs : List PyData) : PyData.eqvAll [] (x :: xs) = false := by simp only [PyData.eqvAll]
end DL

namespace DL
open PySem PySem.Spec PyProof.Rows L2
/-! ### while, pop, is None, not in, min with a default -/
section
variable {X : Cx} {pos : Pos}
def dWhile (tc : DTT) (tb : DTS) : DTS := fun D Δ M => ∃ J : Nat → DSt → Mp → Prop, (∃ m, J m Δ M) ∧ ∀ n Δ M, J n Δ M → tc Δ M fun b M1 =>
  if b = true then tb { D with nx := fun Δ' M' => ∃ m, m < n ∧ J m Δ' M', ct := fun Δ' M' => ∃ m, m < n ∧ J m Δ' M', bk := D.nx } Δ M1 else D.nx Δ M1
theorem ds_while {c : Expr} {body : List Stmt} {tc : DTT} {tb : DTS} (hc : DT X c tc) (hb : DSs X body tb) (hp : PassesOwn (model X.prog X.w) X.A X.env X.xe) : DS X (.While c body [] pos) (dWhile tc tb) := by
  obtain ⟨t1, p1, q1⟩ := hc
  obtain ⟨t2, p2, q2⟩ := hb
  refine ⟨_, ps_while hp p1 p2, fun σ H Δ M D E r e h k => ?_⟩
  obtain ⟨J, ⟨m0, j0⟩, jt⟩ := h
  refine ⟨fun n σ' H' => ∃ Δ' M', DRel X.K M' H' ∧ Step M H M' H' ∧ ERel X.K M' H' σ' Δ' ∧ J n Δ' M', ⟨m0, Δ, M, r, Step.refl, e, j0⟩, ?_⟩
  rintro n σ1 H1 ⟨Δ1, M1, r1, st1, e1, j1⟩
  refine q1 σ1 H1 Δ1 M1 _ _ r1 e1 (jt n Δ1 M1 j1) fun b H2 M2 r2 st2 hb2 => ?_
  cases b with
  | true =>
    rw [if_pos rfl] at hb2 ⊢
    refine ⟨fun σ' H' => ∃ m', m' < n ∧ ∃ Δ' M', DRel X.K M' H' ∧ Step M H M' H' ∧ ERel X.K M' H' σ' Δ' ∧ J m' Δ' M', fun σ' H' h => h, ?_⟩
    have s12 := st1.trans st2
    refine q2 σ1 H2 Δ1 M2 _ _ r2 (e1.step st2) hb2 ⟨fun σ' H' Δ' M' a b c d => ?_, k.rt.step s12, fun σ' H' Δ' M' a b c d => k.nx σ' H' Δ' M' a (s12.trans b) c d, fun σ' H' Δ' M' a b c d => ?_⟩
    · obtain ⟨m, hm, j⟩ := d
      exact ⟨m, hm, Δ', M', a, s12.trans b, c, j⟩
    · obtain ⟨m, hm, j⟩ := d
      exact ⟨m, hm, Δ', M', a, s12.trans b, c, j⟩
  | false =>
    rw [if_neg Bool.false_ne_true] at hb2 ⊢
    exact k.nx σ1 H2 Δ1 M2 r2 (st1.trans st2) (e1.step st2) hb2
/-- l.pop() of an owned list -/
def dPop (to : DTE) : DTE := fun Δ M Φ => to Δ M fun x M1 => onO x fun l => ∃ ds d, M1 l = some (.lst (ds ++ [d])) ∧ Φ (.dat d) (mset M1 l (.lst ds))
theorem Dts.snoc_inv {K : PySem.W.Frag} {M : Mp} {H : Hp} : ∀ {vs : List V} {ds : List PyData} {d : PyData}, Dts K M H vs (ds ++ [d]) → ∃ ws v, vs = ws ++ [v] ∧ Dts K M H ws ds ∧ Dt K M H v d
  | vs, [], d, h => by
    cases h with
    | cons a b => cases b; exact ⟨[], _, rfl, .nil, a⟩
  | vs, e :: ds, d, h => by
    cases h with
    | cons a b =>
      obtain ⟨ws, v, rfl, h1, h2⟩ := Dts.snoc_inv b
      exact ⟨_ :: ws, v, rfl, .cons a h1, h2⟩
theorem de_pop {o : Expr} {to : DTE} {apos cpos : Pos} (ho : DE X o to) (hbase : attributeBase o "pop" X.env (eval o X.env) = eval o X.env := by rfl) (hline : (apos.endLine == cpos.line) = true := by rfl) :
    DE X (.Call (.Attribute o "pop" apos) [] [] cpos) (dPop to) := by
  obtain ⟨t1, p1, q1⟩ := ho
  refine ⟨_, pe_bm0 PySem.F.plainAttrs_list PySem.F.slot_list_pop PySem.F.type_list_pop mt_pop p1 hbase hline, fun σ H Δ M Φ Q r e h k => ?_⟩
  refine q1 σ H Δ M _ _ r e h fun v H1 x M1 r1 st rv hx => ?_
  replace hx := onO_ex hx
  obtain ⟨l, rfl, ds, d, hm, hx⟩ := hx
  cases (show v = .ref l from rv)
  obtain ⟨vs, g1, g2⟩ := r1.ls l _ hm
  obtain ⟨ws, v, rfl, h1, h2⟩ := Dts.snoc_inv g2
  refine ⟨.inl ⟨rfl, _, SqL.of g1⟩, l, _, v, rfl, rfl, g1, by simp, ?_⟩
  rw [List.dropLast_concat]
  have st2 : Step M1 H1 (mset M1 l (.lst ds)) (upd H1 l (.lst ws)) := Step.ownPut hm
  exact k.dat (r1.ownSet st2 h1) (st.trans st2) (h2.step st2) hx
/-- is None -/
def isNone : PyData → Bool
  | .none => true
  | _ => false
theorem dt_none {K : PySem.W.Frag} {M : Mp} {H : Hp} {v : V} {d : PyData} (h : Dt K M H v d) : decide (v = .non) = isNone d := by
  cases h <;> rfl
def onN (x : DV) (P : Prop) : Prop := match x with | .dat .none => P | _ => False
theorem onN_ex {x : DV} {P : Prop} (h : onN x P) : x = .dat .none ∧ P := by
  unfold onN at h
  split at h
  · exact ⟨rfl, h⟩
  · exact h.elim
def δIsN (b : Bool) : D2 := fun x y M Φ => onD x fun d => onN y <| Φ (.dat (.bool (isNone d != b))) M
theorem od_isN : OpD X (compareOp .Is) (δIsN false) := by
  refine ⟨_, op_isN, fun v u H x y M Φ Q r rv ru h k => ?_⟩
  replace h := onD_ex h
  obtain ⟨d, rfl, h⟩ := h
  replace h := onN_ex h
  obtain ⟨rfl, q⟩ := h
  cases (show Dt X.K M H u .none from ru)
  refine ⟨rfl, ?_⟩
  rw [dt_none rv]
  rw [show isNone d = (isNone d != false) by cases isNone d <;> rfl]
  exact k.dat r Step.refl (Dt.bl _) q
theorem isNone_none : isNone .none = true := rfl
theorem isNone_bool (b : Bool) : isNone (.bool b) = false := rfl
theorem isNone_int (b : Int) : isNone (.int b) = false := rfl
theorem isNone_str (b : Str) : isNone (.str b) = false := rfl
theorem isNone_list (b : List PyData) : isNone (.list b) = false := rfl
theorem isNone_tuple (b : List PyData) : isNone (.tuple b) = false := rfl
theorem isNone_dict (b : List (PyData × PyData)) : isNone (.dict b) = false := rfl
/-- is, is not True / False, of whatever data -/
def isBl (c : Bool) : PyData → Bool
  | .bool b => b == c
  | _ => false
/-! ### not in -/
theorem op_notInD (hu : X.A.units + 66 < cLine) : OpR X (compareOp .NotIn) (fun x y H Q => ∃ M d ds, Dt X.K M H x d ∧ (Dt X.K M H y (.list ds) ∨ Dt X.K M H y (.tuple ds)) ∧ d.canLay0 = true ∧ PyData.canLayAll0 ds = true ∧ d.depth ≤ 64 ∧ Q (.bl (!(ds.any fun e => PyData.eqv e d))) H) := by
  intro pins s σ H x y v u Q I rx ry h
  obtain ⟨M, d, ds, h1, h2, c1, c2, hdp, q⟩ := h
  obtain ⟨as, ra, _⟩ := h1.reads I rx
  rcases h2 with h2 | h2
  · obtain ⟨bs, rb, _⟩ := h2.reads I ry
    exact PySem.SeqAt.notIn_list_reads rb ra c2 c1 (by have := Nat.min_le_right (PyData.depthAll ds) d.depth; omega) ⟨.bl _, H, I, rfl, q⟩
  · obtain ⟨bs, rb, _⟩ := h2.reads I ry
    exact PySem.SeqAt.notIn_tuple_reads rb ra c2 c1 (by have := Nat.min_le_right (PyData.depthAll ds) d.depth; omega) ⟨.bl _, H, I, rfl, q⟩
def δNotIn : D2 := fun x y M Φ => onD x fun d => onW y fun ds => okIn d ds = true ∧ Φ (.dat (.bool (!(ds.any fun e => PyData.eqv e d)))) M
theorem od_notin {k : Nat} (hr : Room k X.A) : OpD X (compareOp .NotIn) δNotIn :=
  ⟨_, op_notInD (by have := hr.un; omega), fun v u H x y M Φ Q r rv ru h k => by
    obtain ⟨d, e1, h⟩ := onD_ex h
    obtain ⟨ds, e2, ho, q⟩ := onW_ex h
    obtain ⟨c1, c2, hdp⟩ := okIn_ex ho
    subst e1
    refine ⟨M, d, ds, rv, ?_, c1, c2, hdp, k.dat r Step.refl (Dt.bl _) q⟩
    rcases e2 with rfl | rfl
    · exact .inl ru
    · exact .inr ru⟩
/-- (x, y) not in d -/
theorem op_notinT (hu : X.A.units + 1 < cLine) : OpR X (compareOp .NotIn) (fun x y H Q => ∃ a b kvs k, x = .ref b ∧ y = .ref a ∧ H a = some (.dT kvs) ∧ SqT X.K H b (k.map kV) ∧ Q (.bl (!(valV kvs k).isSome)) H) := by
  intro pins s σ H x y v u Q I rx ry h
  obtain ⟨a, b, kvs, k, rfl, rfl, ha, hb, q⟩ := h
  cases (show v = .ref b from rx)
  cases (show u = .ref a from ry)
  obtain ⟨z, hd, xs, rel, dd⟩ := dt_rd I.hok (.inl ha)
  refine wpAny_notIn_heap (tupleKind_room_in1 hu) (key_sq I hb) hd dd ?_
  have q' := (rel.val k).isSome_eq
  rw [Option.isSome_map] at q'
  rw [← q']
  exact ⟨.bl _, H, I.tok _, rfl, q⟩
def δNotInT : D2 := fun x y M Φ => onP x fun i j => onO y fun l => onOC (M l) fun ks => Φ (.dat (.bool (!memK ks (kP i j)))) M
theorem od_notinT {k : Nat} (hr : Room k X.A) : OpD X (compareOp .NotIn) δNotInT := by
  refine ⟨_, op_notinT (by have := hr.un; omega), fun v u H x y M Φ Q r rv ru h k => ?_⟩
  replace h := onP_ex h
  obtain ⟨i, j, rfl, h⟩ := h
  replace h := onO_ex h
  obtain ⟨l, rfl, h⟩ := h
  replace h := onOC_ex h
  obtain ⟨ks, hm, q⟩ := h
  obtain ⟨b, xs, rfl, h1, h2⟩ := VRel.tup rv
  cases (show u = .ref l from ru)
  obtain ⟨kvs, g1, g2⟩ := r.dc l ks hm
  have e : xs = (kP i j).map kV := by
    cases h2 with
    | cons a t =>
      cases a
      cases t with
      | cons a t =>
        cases a
        cases t
        rfl
  rw [e] at h1
  refine ⟨l, b, kvs, kP i j, rfl, rfl, g1, h1.sq, ?_⟩
  rw [valV_keys, g2]
  show Q (.bl (!memK ks (kP i j))) H
  exact k.dat r Step.refl (Dt.bl _) q
end
/-! ### min(l, default=..) -/
section
variable {prog : Program} {w : World} {A : Around} {E : Value → Shared → Prop} {s : Shared}
theorem args_min_dflt (a v : Value) : argsOk "min" ⟨[a], [(Str.ofString "default", v)]⟩ := by unfold argsOk; kernel_rfl
theorem leastD_call {x d : Value} {Q : Value → Shared → Prop} {h0 : Heap}
    (h : wpAny (model prog w) A.in1 (pyIter x) (fun it s2 => ∃ I fp wr n P St bt, it = .ref I ∧ Walks prog w A.in1 I fp wr n P St ∧ St 0 s2.heap ∧ (∀ b ∈ fp, b < s2.heap.objs.size) ∧ (∀ b ∈ wr, h0.get? b = none) ∧ (∀ b o, h0.get? b = some o → s2.heap.get? b = some o) ∧ h0.get? s2.heap.objs.size = none ∧ CmpAt prog w A.in1 h0 P bt ∧
      (n = 0 → ∀ h' tk, (∀ b o, h0.get? b = some o → h'.get? b = some o) → Q d { s2 with heap := h', toks := tk }) ∧
      (0 < n → ∀ v h' tk, P (argBest bt (n - 1)) v → (∀ b o, h0.get? b = some o → h'.get? b = some o) → Q v { s2 with heap := h', toks := tk })) E s) : wpAny (model prog w) A (call (.builtin "min") [x] [(Str.ofString "default", d)]) Q E s := by
  refine kmk_tree F.kind_min F.plain_min F.entry_min (args_min_dflt _ _) ?_
  show wpAny _ A.in1 (Builtin.Builtins.bindParams "min" ["key", "default"] 0 ⟨[], [(Str.ofString "default", d)]⟩ >>= _) _ _ s
  refine wpAny_bind (wpAny_of_eq (show Builtin.Builtins.bindParams "min" ["key", "default"] 0 ⟨[], [(Str.ofString "default", d)]⟩ = pure [none, some d] from rfl) (wpAny_bind (wpAny_pure ?_)))
  refine wpAny_bind (wpAny_mono h (fun it s2 h2 => ?_) fun _ _ z => z)
  obtain ⟨I, fp, wr, n, P, St, bt, rfl, W, hst, hfp, nw, h0s, nS, C, hQ0, hQ⟩ := h2
  refine wpAny_bind (wpAny_newObj_type ?_)
  have hSf : s2.heap.objs.size ∉ fp := fun z => Nat.lt_irrefl _ (hfp _ z)
  have hSw : s2.heap.objs.size ∉ wr := fun z => hSf (W.sub _ z)
  have old : ∀ {b : Addr} {o : Obj}, h0.get? b = some o → b ∉ wr ∧ b ≠ s2.heap.objs.size := fun {b o} e => ⟨fun z => (by rw [nw b z] at e; cases e), fun z => (by rw [z, nS] at e; cases e)⟩
  rw [least_name]
  refine wpAny_pure ⟨plainId_quiet F.plain_min_loop _, ?_⟩
  refine codeAny_builtin F.entry_min_loop ?_
  rw [Around.under_plainId F.plain_min_loop _]
  show wpAny _ A.in1 (seqItems? (.ref s2.heap.objs.size) >>= _) _ _ _
  refine wpAny_bind (wpAny_seqItems (Heap.get?_push_size _ rfl) rfl ?_)
  show wpAny _ A.in1 (tryCatch (pyNext (.ref I)) _ >>= _) _ _ _
  by_cases hn : 0 < n
  · refine wpAny_bind (wpAny_tryCatch (W.item 0 _ _ _ hn (W.frame _ _ _ hst fun b _ o e => Heap.get?_push_of_some _ e) fun v h' tk hP hst' keep => ?_))
    have hS' := keep s2.heap.objs.size _ hSw (Heap.get?_push_size _ rfl)
    show wpAny _ A.in1 (updateSeq s2.heap.objs.size (fun _ => #[v, v]) >>= _) _ _ _
    refine wpAny_bind (wpAny_updateSeq hS' rfl ?_)
    rw [least_name]
    refine wpAny_pure ⟨plainId_quiet F.plain_min_loop _, least_turns C W hSf nS nw _ 0 _ v _ rfl hn (fun b o e => (Heap.get?_update_other _ _ (Ne.symm (old e).2)).trans (keep b o (old e).1 (Heap.get?_push_of_some _ (h0s b o e)))) (W.frame _ _ _ hst' fun b m o e => ?_) hP (Heap.get?_update_self _ hS' rfl) fun v' h'' tk'' hP' hk'' => hQ hn v' h'' tk'' hP' hk''⟩
    exact (Heap.get?_update_other _ _ (fun z : s2.heap.objs.size = b => hSf (by rw [z]; exact m))).trans e
  · obtain rfl : n = 0 := by omega
    refine wpAny_bind (wpAny_tryCatch (W.done _ _ _ (W.frame _ _ _ hst fun b _ o e => Heap.get?_push_of_some _ e) fun h' tk keep => ?_))
    refine wpAny_bind (wpAny_rule (wpAny_pure ?_))
    exact hQ0 rfl h' tk fun b o e => keep b o (old e).1 (Heap.get?_push_of_some _ (h0s b o e))
end
end DL

namespace DL
open PySem PySem.Spec PyProof.Rows L2
/-! ### the readings' rows for simp -/
theorem onV_mk_q (x : DV) (P : DV → Prop) : onV (some (some x)) P = P x := propext Iff.rfl
theorem onI_mk_q (i : Int) (P : Int → Prop) : onI (.dat (.int i)) P = P i := propext Iff.rfl
theorem onB_mk_q (i : Bool) (P : Bool → Prop) : onB (.dat (.bool i)) P = P i := propext Iff.rfl
theorem onS_mk_q (i : Str) (P : Str → Prop) : onS (.dat (.str i)) P = P i := propext Iff.rfl
theorem onT_mk_q (i : List PyData) (P : List PyData → Prop) : onT (.dat (.tuple i)) P = P i := propext Iff.rfl
theorem onL_mk_q (i : List PyData) (P : List PyData → Prop) : onL (.dat (.list i)) P = P i := propext Iff.rfl
theorem onD_mk_q (i : PyData) (P : PyData → Prop) : onD (.dat i) P = P i := propext Iff.rfl
theorem onO_mk_q (i : Addr) (P : Addr → Prop) : onO (.own i) P = P i := propext Iff.rfl
theorem onOL_mk_q (ds : List PyData) (P : List PyData → Prop) : onOL (some (.lst ds)) P = P ds := propext Iff.rfl
theorem onOC_mk_q (ks : List (List Key)) (P : List (List Key) → Prop) : onOC (some (.dct ks)) P = P ks := propext Iff.rfl
theorem onQ_t_q (ds : List PyData) (M : Mp) (P : List PyData → Prop) : onQ (.dat (.tuple ds)) M P = P ds := propext Iff.rfl
theorem onQ_l_q (ds : List PyData) (M : Mp) (P : List PyData → Prop) : onQ (.dat (.list ds)) M P = P ds := propext Iff.rfl
theorem onQ_o_q (l : Addr) (M : Mp) (P : List PyData → Prop) : onQ (.own l) M P = onOL (M l) P := propext Iff.rfl
theorem onK_l_q (ds : List PyData) (M : Mp) (P : List PyData → Prop) : onK (.dat (.list ds)) M P = P ds := propext Iff.rfl
theorem onK_o_q (l : Addr) (M : Mp) (P : List PyData → Prop) : onK (.own l) M P = onOL (M l) P := propext Iff.rfl
theorem on1_mk_q (x : DV) (P : DV → Prop) : on1 [x] P = P x := propext Iff.rfl
theorem on2_mk_q (x y : DV) (P : DV → DV → Prop) : on2 [x, y] P = P x y := propext Iff.rfl
theorem on3_mk_q (x y z : DV) (P : DV → DV → DV → Prop) : on3 [x, y, z] P = P x y z := propext Iff.rfl
theorem on4_mk_q (x0 x1 x2 x3 : DV) (P : DV → DV → DV → DV → Prop) : on4 [x0, x1, x2, x3] P = P x0 x1 x2 x3 := propext Iff.rfl
theorem on5_mk_q (x0 x1 x2 x3 x4 : DV) (P : DV → DV → DV → DV → DV → Prop) : on5 [x0, x1, x2, x3, x4] P = P x0 x1 x2 x3 x4 := propext Iff.rfl
theorem on6_mk_q (x0 x1 x2 x3 x4 x5 : DV) (P : DV → DV → DV → DV → DV → DV → Prop) : on6 [x0, x1, x2, x3, x4, x5] P = P x0 x1 x2 x3 x4 x5 := propext Iff.rfl
theorem onDs_0_q (P : List PyData → Prop) : onDs [] P = P [] := propext Iff.rfl
theorem onDs_1_q (a0 : PyData) (P : List PyData → Prop) : onDs [.dat a0] P = P [a0] := propext Iff.rfl
theorem onDs_2_q (a0 a1 : PyData) (P : List PyData → Prop) : onDs [.dat a0, .dat a1] P = P [a0, a1] := propext Iff.rfl
theorem onDs_3_q (a0 a1 a2 : PyData) (P : List PyData → Prop) : onDs [.dat a0, .dat a1, .dat a2] P = P [a0, a1, a2] := propext Iff.rfl
theorem onDs_4_q (a0 a1 a2 a3 : PyData) (P : List PyData → Prop) : onDs [.dat a0, .dat a1, .dat a2, .dat a3] P = P [a0, a1, a2, a3] := propext Iff.rfl
theorem onDs_5_q (a0 a1 a2 a3 a4 : PyData) (P : List PyData → Prop) : onDs [.dat a0, .dat a1, .dat a2, .dat a3, .dat a4] P = P [a0, a1, a2, a3, a4] := propext Iff.rfl
theorem onDs_6_q (a0 a1 a2 a3 a4 a5 : PyData) (P : List PyData → Prop) : onDs [.dat a0, .dat a1, .dat a2, .dat a3, .dat a4, .dat a5] P = P [a0, a1, a2, a3, a4, a5] := propext Iff.rfl
theorem onDs_7_q (a0 a1 a2 a3 a4 a5 a6 : PyData) (P : List PyData → Prop) : onDs [.dat a0, .dat a1, .dat a2, .dat a3, .dat a4, .dat a5, .dat a6] P = P [a0, a1, a2, a3, a4, a5, a6] := propext Iff.rfl
theorem onDs_8_q (a0 a1 a2 a3 a4 a5 a6 a7 : PyData) (P : List PyData → Prop) : onDs [.dat a0, .dat a1, .dat a2, .dat a3, .dat a4, .dat a5, .dat a6, .dat a7] P = P [a0, a1, a2, a3, a4, a5, a6, a7] := propext Iff.rfl
theorem onDs_9_q (a0 a1 a2 a3 a4 a5 a6 a7 a8 : PyData) (P : List PyData → Prop) : onDs [.dat a0, .dat a1, .dat a2, .dat a3, .dat a4, .dat a5, .dat a6, .dat a7, .dat a8] P = P [a0, a1, a2, a3, a4, a5, a6, a7, a8] := propext Iff.rfl
theorem onDs_10_q (a0 a1 a2 a3 a4 a5 a6 a7 a8 a9 : PyData) (P : List PyData → Prop) : onDs [.dat a0, .dat a1, .dat a2, .dat a3, .dat a4, .dat a5, .dat a6, .dat a7, .dat a8, .dat a9] P = P [a0, a1, a2, a3, a4, a5, a6, a7, a8, a9] := propext Iff.rfl
theorem onDs_11_q (a0 a1 a2 a3 a4 a5 a6 a7 a8 a9 a10 : PyData) (P : List PyData → Prop) : onDs [.dat a0, .dat a1, .dat a2, .dat a3, .dat a4, .dat a5, .dat a6, .dat a7, .dat a8, .dat a9, .dat a10] P = P [a0, a1, a2, a3, a4, a5, a6, a7, a8, a9, a10] := propext Iff.rfl
theorem onDs_12_q (a0 a1 a2 a3 a4 a5 a6 a7 a8 a9 a10 a11 : PyData) (P : List PyData → Prop) : onDs [.dat a0, .dat a1, .dat a2, .dat a3, .dat a4, .dat a5, .dat a6, .dat a7, .dat a8, .dat a9, .dat a10, .dat a11] P = P [a0, a1, a2, a3, a4, a5, a6, a7, a8, a9, a10, a11] := propext Iff.rfl
theorem dVar_q (i : Nat) (Δ : DSt) (M : Mp) (Φ : DK) : dVar i Δ M Φ = (onV Δ[i]? fun x => Φ x M) := propext Iff.rfl
theorem dC_q (d : PyData) (z0 : DSt) (M : Mp) (Φ : DK) : dC d z0 M Φ = (Φ (.dat d) M) := propext Iff.rfl
theorem dTy_q (n : String) (z0 : DSt) (M : Mp) (Φ : DK) : dTy n z0 M Φ = (Φ (.ty n) M) := propext Iff.rfl
theorem dOp_q (δ : D2) (ta tb : DTE) (Δ : DSt) (M : Mp) (Φ : DK) : dOp δ ta tb Δ M Φ = (ta Δ M fun x M1 => tb Δ M1 fun y M2 => δ x y M2 Φ) := propext Iff.rfl
theorem dB_q (t : DTE) (Δ : DSt) (M : Mp) (Φ : Bool → Mp → Prop) : dB t Δ M Φ = (t Δ M fun x M1 => onB x fun c => Φ c M1) := propext Iff.rfl
theorem dChain_q (δ δ' : D2) (ta tb tc : DTE) (Δ : DSt) (M : Mp) (Φ : DK) : dChain δ δ' ta tb tc Δ M Φ = (ta Δ M fun x M1 => tb Δ M1 fun y M2 => δ x y M2 fun z M3 => onB z fun k => (if k = true then tc Δ M3 fun w' M4 => δ' y w' M4 Φ else Φ (.dat (.bool false)) M3)) := propext Iff.rfl
theorem dAnd_q (t u : DTT) (Δ : DSt) (M : Mp) (Φ : Bool → Mp → Prop) : dAnd t u Δ M Φ = (t Δ M fun c M1 => if c = true then u Δ M1 Φ else Φ false M1) := propext Iff.rfl
theorem dOr_q (t u : DTT) (Δ : DSt) (M : Mp) (Φ : Bool → Mp → Prop) : dOr t u Δ M Φ = (t Δ M fun c M1 => if c = true then Φ true M1 else u Δ M1 Φ) := propext Iff.rfl
theorem dNot_q (t : DTT) (Δ : DSt) (M : Mp) (Φ : Bool → Mp → Prop) : dNot t Δ M Φ = (t Δ M fun c M1 => Φ (!c) M1) := propext Iff.rfl
theorem dAndV_q (ta tb : DTE) (Δ : DSt) (M : Mp) (Φ : DK) : dAndV ta tb Δ M Φ = (ta Δ M fun x M1 => onB x fun c => if c = true then tb Δ M1 Φ else Φ (.dat (.bool false)) M1) := propext Iff.rfl
theorem dOrV_q (ta tb : DTE) (Δ : DSt) (M : Mp) (Φ : DK) : dOrV ta tb Δ M Φ = (ta Δ M fun x M1 => onB x fun c => if c = true then Φ (.dat (.bool true)) M1 else tb Δ M1 Φ) := propext Iff.rfl
theorem dNotV_q (ta : DTE) (Δ : DSt) (M : Mp) (Φ : DK) : dNotV ta Δ M Φ = (ta Δ M fun x M1 => onB x fun c => Φ (.dat (.bool (!c))) M1) := propext Iff.rfl
theorem dIf_q (t : DTT) (ta tb : DTE) (Δ : DSt) (M : Mp) (Φ : DK) : dIf t ta tb Δ M Φ = (t Δ M fun c M1 => if c = true then ta Δ M1 Φ else tb Δ M1 Φ) := propext Iff.rfl
theorem dUnI_q (g : Int → Int) (ta : DTE) (Δ : DSt) (M : Mp) (Φ : DK) : dUnI g ta Δ M Φ = (ta Δ M fun x M1 => onI x fun i => Φ (.dat (.int (g i))) M1) := propext Iff.rfl
theorem δI_q (C : Int → Int → Prop) (g : Int → Int → PyData) (x : DV) (y : DV) (M : Mp) (Φ : DK) : δI C g x y M Φ = (onI x fun i => onI y fun j => C i j ∧ Φ (.dat (g i j)) M) := propext Iff.rfl
theorem δI0_q (g : Int → Int → PyData) (x : DV) (y : DV) (M : Mp) (Φ : DK) : δI0 g x y M Φ = (onI x fun i => onI y fun j => Φ (.dat (g i j)) M) := propext Iff.rfl
theorem δB_q (g : Bool → Bool → Bool) (x : DV) (y : DV) (M : Mp) (Φ : DK) : δB g x y M Φ = (onB x fun c => onB y fun d => Φ (.dat (.bool (g c d))) M) := propext Iff.rfl
theorem δCatT_q  (x : DV) (y : DV) (M : Mp) (Φ : DK) : δCatT x y M Φ = (onT x fun ds => onT y fun es => ds ≠ [] ∧ ds.length + es.length ≤ sizeLine ∧ Φ (.dat (.tuple (ds ++ es))) M) := propext Iff.rfl
theorem δCatL_q  (x : DV) (y : DV) (M : Mp) (Φ : DK) : δCatL x y M Φ = (onL x fun ds => onL y fun es => ds.length + es.length ≤ sizeLine ∧ Φ (.dat (.list (ds ++ es))) M) := propext Iff.rfl
theorem δCatLO_q  (x : DV) (y : DV) (M : Mp) (Φ : DK) : δCatLO x y M Φ = (onL x fun ds => onL y fun es => ds.length + es.length ≤ sizeLine ∧ ∀ p, M p = none → Φ (.own p) (mset M p (.lst (ds ++ es)))) := propext Iff.rfl
theorem dNil_q  (z0 : DSt) (M : Mp) (Φ : List DV → Mp → Prop) : dNil z0 M Φ = (Φ [] M) := propext Iff.rfl
theorem dCons_q (ta : DTE) (tr : DTA) (Δ : DSt) (M : Mp) (Φ : List DV → Mp → Prop) : dCons ta tr Δ M Φ = (ta Δ M fun x M1 => tr Δ M1 fun xs M2 => Φ (x :: xs) M2) := propext Iff.rfl
theorem dTup_q (t : DTA) (Δ : DSt) (M : Mp) (Φ : DK) : dTup t Δ M Φ = (t Δ M fun xs M1 => onDs xs fun ds => Φ (.dat (.tuple ds)) M1) := propext Iff.rfl
theorem dLst_q (t : DTA) (Δ : DSt) (M : Mp) (Φ : DK) : dLst t Δ M Φ = (t Δ M fun xs M1 => onDs xs fun ds => Φ (.dat (.list ds)) M1) := propext Iff.rfl
theorem dLstO_q (t : DTA) (Δ : DSt) (M : Mp) (Φ : DK) : dLstO t Δ M Φ = (t Δ M fun xs M1 => onDs xs fun ds => ∀ p, M1 p = none → Φ (.own p) (mset M1 p (.lst ds))) := propext Iff.rfl
theorem dFrz_q (t : DTE) (Δ : DSt) (M : Mp) (Φ : DK) : dFrz t Δ M Φ = (t Δ M fun x M1 => onO x fun l => onOL (M1 l) fun ds => Φ (.dat (.list ds)) (mdel M1 l)) := propext Iff.rfl
theorem onAt_0_q (a : PyData) (l : List PyData) (P : PyData → Prop) : onAt (a :: l) 0 P = P a := propext Iff.rfl
theorem onAt_1_q (a b : PyData) (l : List PyData) (P : PyData → Prop) : onAt (a :: b :: l) 1 P = P b := propext Iff.rfl
theorem onAt_2_q (a b c : PyData) (l : List PyData) (P : PyData → Prop) : onAt (a :: b :: c :: l) 2 P = P c := propext Iff.rfl
theorem onAt_3_q (a b c d : PyData) (l : List PyData) (P : PyData → Prop) : onAt (a :: b :: c :: d :: l) 3 P = P d := propext Iff.rfl
theorem onAt_4_q (a b c d e : PyData) (l : List PyData) (P : PyData → Prop) : onAt (a :: b :: c :: d :: e :: l) 4 P = P e := propext Iff.rfl
theorem onAt_5_q (a b c d e f : PyData) (l : List PyData) (P : PyData → Prop) : onAt (a :: b :: c :: d :: e :: f :: l) 5 P = P f := propext Iff.rfl
theorem onAt_6_q (a b c d e f g : PyData) (l : List PyData) (P : PyData → Prop) : onAt (a :: b :: c :: d :: e :: f :: g :: l) 6 P = P g := propext Iff.rfl
theorem onAt_7_q (a b c d e f g h : PyData) (l : List PyData) (P : PyData → Prop) : onAt (a :: b :: c :: d :: e :: f :: g :: h :: l) 7 P = P h := propext Iff.rfl
theorem δIx_q  (x : DV) (y : DV) (M : Mp) (Φ : DK) : δIx x y M Φ = (onQ x M fun ds => onI y fun i => onAt ds i fun d => Φ (.dat d) M) := propext Iff.rfl
theorem dCB_q (δ : D1) (t : DTA) (Δ : DSt) (M : Mp) (Φ : DK) : dCB δ t Δ M Φ = (t Δ M fun xs M1 => δ xs M1 Φ) := propext Iff.rfl
theorem δLen_q  (xs : List DV) (M : Mp) (Φ : DK) : δLen xs M Φ = (on1 xs fun x => onQ x M fun ds => Φ (.dat (.int ds.length)) M) := propext Iff.rfl
theorem δLenS_q  (xs : List DV) (M : Mp) (Φ : DK) : δLenS xs M Φ = (on1 xs fun x => onS x fun z => z.length ≤ sizeLine ∧ Φ (.dat (.int z.length)) M) := propext Iff.rfl
theorem δStrI_q  (xs : List DV) (M : Mp) (Φ : DK) : δStrI xs M Φ = (on1 xs fun x => onI x fun i => i.natAbs.log2 < 1920 ∧ Φ (.dat (.str (toString i))) M) := propext Iff.rfl
theorem δAbs_q  (xs : List DV) (M : Mp) (Φ : DK) : δAbs xs M Φ = (on1 xs fun x => onI x fun i => Φ (.dat (.int (if i < 0 then -i else i))) M) := propext Iff.rfl
theorem δ2I_q (g : Int → Int → Int) (xs : List DV) (M : Mp) (Φ : DK) : δ2I g xs M Φ = (on2 xs fun x y => onI x fun i => onI y fun j => Φ (.dat (.int (g i j))) M) := propext Iff.rfl
theorem δListOf_q  (xs : List DV) (M : Mp) (Φ : DK) : δListOf xs M Φ = (on1 xs fun x => onQ x M fun ds => Φ (.dat (.list ds)) M) := propext Iff.rfl
theorem δRepr_q  (xs : List DV) (M : Mp) (Φ : DK) : δRepr xs M Φ = (on1 xs fun x => onD x fun d => Shw d ∧ Φ (.dat (.str d.shown)) M) := propext Iff.rfl
theorem δIsi_mk_q (T : String) (d : PyData) (t : String) (M : Mp) (Φ : DK) : δIsi T [.dat d, .ty t] M Φ = (t = T ∧ Φ (.dat (.bool (isTyp T d))) M) := propext Iff.rfl
theorem eqD_ii_q (i j : Int) (P : Bool → Prop) : eqD (.int i) (.int j) P = P (decide (i = j)) := propext Iff.rfl
theorem eqD_ss_q (i j : Str) (P : Bool → Prop) : eqD (.str i) (.str j) P = P (decide (i = j)) := propext Iff.rfl
theorem eqD_bb_q (i j : Bool) (P : Bool → Prop) : eqD (.bool i) (.bool j) P = P (i == j) := propext Iff.rfl
theorem δEq_q  (x : DV) (y : DV) (M : Mp) (Φ : DK) : δEq x y M Φ = (onD x fun d => onD y fun e => eqD d e fun b => Φ (.dat (.bool b)) M) := propext Iff.rfl
theorem δNe_q  (x : DV) (y : DV) (M : Mp) (Φ : DK) : δNe x y M Φ = (onD x fun d => onD y fun e => eqD d e fun b => Φ (.dat (.bool (!b))) M) := propext Iff.rfl
theorem δNeS_q  (x : DV) (y : DV) (M : Mp) (Φ : DK) : δNeS x y M Φ = (onS x fun s => onS y fun t => Φ (.dat (.bool (!decide (s = t)))) M) := propext Iff.rfl
theorem δEqS_q  (x : DV) (y : DV) (M : Mp) (Φ : DK) : δEqS x y M Φ = (onS x fun s => onS y fun t => Φ (.dat (.bool (decide (s = t)))) M) := propext Iff.rfl
theorem dNoPart_q  (z0 : DSt) (M : Mp) (Φ : Option Int → Mp → Prop) : dNoPart z0 M Φ = (Φ none M) := propext Iff.rfl
theorem dPart_q (t : DTE) (Δ : DSt) (M : Mp) (Φ : Option Int → Mp → Prop) : dPart t Δ M Φ = (t Δ M fun x M1 => onI x fun i => Φ (some i) M1) := propext Iff.rfl
theorem dSlT_q (te : DTE) (tl th : DTO) (Δ : DSt) (M : Mp) (Φ : DK) : dSlT te tl th Δ M Φ = (te Δ M fun x M1 => tl Δ M1 fun l M2 => th Δ M2 fun u M3 => onT x fun ds => ¬ (HT.sIx ds.length 0 l = 0 ∧ HT.sIx ds.length ds.length u = ds.length) ∧ Φ (.dat (.tuple (cutD ds l u))) M3) := propext Iff.rfl
theorem dNext_q  (D : DEnds) (Δ : DSt) (M : Mp) : dNext D Δ M = (D.nx Δ M) := propext Iff.rfl
theorem dSeq_q (t u : DTS) (D : DEnds) (Δ : DSt) (M : Mp) : dSeq t u D Δ M = (t { D with nx := u D } Δ M) := propext Iff.rfl
theorem dBreak_q  (D : DEnds) (Δ : DSt) (M : Mp) : dBreak D Δ M = (D.bk Δ M) := propext Iff.rfl
theorem dCont_q  (D : DEnds) (Δ : DSt) (M : Mp) : dCont D Δ M = (D.ct Δ M) := propext Iff.rfl
theorem dDrop_q (te : DTE) (D : DEnds) (Δ : DSt) (M : Mp) : dDrop te D Δ M = (te Δ M fun _ M1 => D.nx Δ M1) := propext Iff.rfl
theorem dRet_q (te : DTE) (D : DEnds) (Δ : DSt) (M : Mp) : dRet te D Δ M = (te Δ M D.rt) := propext Iff.rfl
theorem dRetN_q  (D : DEnds) (z1 : DSt) (M : Mp) : dRetN D z1 M = (D.rt (.dat .none) M) := propext Iff.rfl
theorem dIfS_q (c : DTT) (t u : DTS) (D : DEnds) (Δ : DSt) (M : Mp) : dIfS c t u D Δ M = (c Δ M fun b M1 => if b = true then t D Δ M1 else u D Δ M1) := propext Iff.rfl
theorem dgName_q (i : Nat) (x : DV) (Δ : DSt) (M : Mp) (Φ : DSt → Mp → Prop) : dgName i x Δ M Φ = (Φ (Δ.set i (some x)) M) := propext Iff.rfl
theorem dgNil_mk_q (Δ : DSt) (M : Mp) (Φ : DSt → Mp → Prop) : dgNil [] Δ M Φ = Φ Δ M := propext Iff.rfl
theorem dgCons_mk_q (t : DTG) (u : DTGs) (x : DV) (r : List DV) (Δ : DSt) (M : Mp) (Φ : DSt → Mp → Prop) : dgCons t u (x :: r) Δ M Φ = t x Δ M fun Δ' M' => u r Δ' M' Φ := propext Iff.rfl
theorem onNs_0_q (P : List DV → Prop) : onNs 0 [] P = P [] := propext Iff.rfl
theorem onNs_s_q (n : Nat) (d : PyData) (r : List PyData) (P : List DV → Prop) : onNs (n + 1) (d :: r) P = onNs n r fun xs => P (.dat d :: xs) := propext Iff.rfl
theorem dgTup_q (n : Nat) (t : DTGs) (x : DV) (Δ : DSt) (M : Mp) (Φ : DSt → Mp → Prop) : dgTup n t x Δ M Φ = (onT x fun ds => onNs n ds fun xs => t xs Δ M Φ) := propext Iff.rfl
theorem dgSub_q (to ti : DTE) (x : DV) (Δ : DSt) (M : Mp) (Φ : DSt → Mp → Prop) : dgSub to ti x Δ M Φ = (to Δ M fun o M1 => ti Δ M1 fun i M2 => onO o fun l => onI i fun k => onD x fun d => onOL (M2 l) fun ds => ∃ j, ixN ds.length k = some j ∧ Φ Δ (mset M2 l (.lst (ds.set j d)))) := propext Iff.rfl
theorem dAsg_q (te : DTE) (g : DTG) (D : DEnds) (Δ : DSt) (M : Mp) : dAsg te g D Δ M = (te Δ M fun x M1 => g x Δ M1 D.nx) := propext Iff.rfl
theorem dAppend_q (to te : DTE) (Δ : DSt) (M : Mp) (Φ : DK) : dAppend to te Δ M Φ = (to Δ M fun x M1 => onO x fun l => onOL (M1 l) fun _ => te Δ M1 fun y M2 => onD y fun d => onOL (M2 l) fun ds => ds.length < sizeLine ∧ Φ (.dat .none) (mset M2 l (.lst (ds ++ [d])))) := propext Iff.rfl
theorem dForL_q (te : DTE) (g : DTG) (tb : DTS) (D : DEnds) (Δ : DSt) (M : Mp) : dForL te g tb D Δ M = (te Δ M fun x M1 => onL x fun ds => Turns g tb D ds Δ M1) := propext Iff.rfl
theorem dForT_q (te : DTE) (g : DTG) (tb : DTS) (D : DEnds) (Δ : DSt) (M : Mp) : dForT te g tb D Δ M = (te Δ M fun x M1 => onT x fun ds => Turns g tb D ds Δ M1) := propext Iff.rfl
theorem dForR1_q (ta : DTA) (g : DTG) (tb : DTS) (D : DEnds) (Δ : DSt) (M : Mp) : dForR1 ta g tb D Δ M = (ta Δ M fun xs M1 => on1 xs fun x => onI x fun j => InR j ∧ TurnsR g tb D 0 j.toNat Δ M1) := propext Iff.rfl
theorem dForR2_q (ta : DTA) (g : DTG) (tb : DTS) (D : DEnds) (Δ : DSt) (M : Mp) : dForR2 ta g tb D Δ M = (ta Δ M fun xs M1 => on2 xs fun x y => onI x fun i => onI y fun j => (InR i ∧ InR j) ∧ TurnsR g tb D i (j - i).toNat Δ M1) := propext Iff.rfl
theorem dCall_q (S : DSp) (t : DTA) (Δ : DSt) (M : Mp) (Φ : DK) : dCall S t Δ M Φ = (t Δ M fun xs M1 => S xs M1 Φ) := propext Iff.rfl
theorem dDict0_q  (z0 : DSt) (M : Mp) (Φ : DK) : dDict0 z0 M Φ = (Φ (.dat (.dict [])) M) := propext Iff.rfl
theorem onKey_i_q (i : Int) (P : Key → Prop) : onKey (.dat (.int i)) P = P (.inl i) := propext Iff.rfl
theorem onKey_s_q (i : Str) (P : Key → Prop) : onKey (.dat (.str i)) P = P (.inr i) := propext Iff.rfl
theorem dDict1_q (tk tv : DTE) (Δ : DSt) (M : Mp) (Φ : DK) : dDict1 tk tv Δ M Φ = (tk Δ M fun x M1 => tv Δ M1 fun y M2 => onKey x fun k => onD y fun d => Φ (.dat (.dict [(kD k, d)])) M2) := propext Iff.rfl
theorem dDict2_q (tk tv tk' tv' : DTE) (Δ : DSt) (M : Mp) (Φ : DK) : dDict2 tk tv tk' tv' Δ M Φ = (tk Δ M fun x M1 => tv Δ M1 fun y M2 => tk' Δ M2 fun x' M3 => tv' Δ M3 fun y' M4 => onKey x fun k => onD y fun d => onKey x' fun k' => onD y' fun d' => k ≠ k' ∧ Φ (.dat (.dict [(kD k, d), (kD k', d')])) M4) := propext Iff.rfl
theorem dDict1T_q (tk tv : DTE) (Δ : DSt) (M : Mp) (Φ : DK) : dDict1T tk tv Δ M Φ = (tk Δ M fun x M1 => tv Δ M1 fun y M2 => onT x fun ds => onKs ds fun ks => onD y fun d => Φ (.dat (.dict [(.tuple (ks.map kD), d)])) M2) := propext Iff.rfl
theorem sp1_q (f : PyData → Bool) (xs : List DV) (M : Mp) (Φ : DK) : sp1 f xs M Φ = (∃ d, xs = [.dat d] ∧ Φ (.dat (.bool (f d))) M) := propext Iff.rfl
theorem srcL_q (te : DTE) (Δ : DSt) (M : Mp) (Ψ : List PyData → Mp → Prop) : srcL te Δ M Ψ = (te Δ M fun x M1 => onL x fun ds => Ψ ds M1) := propext Iff.rfl
theorem srcT_q (te : DTE) (Δ : DSt) (M : Mp) (Ψ : List PyData → Mp → Prop) : srcT te Δ M Ψ = (te Δ M fun x M1 => onT x fun ds => Ψ ds M1) := propext Iff.rfl
theorem srcR1_q (ta : DTA) (Δ : DSt) (M : Mp) (Ψ : List PyData → Mp → Prop) : srcR1 ta Δ M Ψ = (ta Δ M fun xs M1 => on1 xs fun x => onI x fun j => InR j ∧ Ψ (rngD 0 j.toNat) M1) := propext Iff.rfl
theorem srcR2_q (ta : DTA) (Δ : DSt) (M : Mp) (Ψ : List PyData → Mp → Prop) : srcR2 ta Δ M Ψ = (ta Δ M fun xs M1 => on2 xs fun x y => onI x fun i => onI y fun j => (InR i ∧ InR j) ∧ Ψ (rngD i (j - i).toNat) M1) := propext Iff.rfl
theorem dEnd_t_q (Φ : DK) (acc : List PyData) (M : Mp) : dEnd true Φ acc M = ∀ p, M p = none → Φ (.own p) (mset M p (.lst acc)) := propext Iff.rfl
theorem dEnd_f_q (Φ : DK) (acc : List PyData) (M : Mp) : dEnd false Φ acc M = Φ (.dat (.list acc)) M := propext Iff.rfl
theorem dComp_q (ow : Bool) (src : DSrc) (ix : List (Option Nat)) (g : DTG) (tc : DTT) (te : DTE) (Δ : DSt) (M : Mp) (Φ : DK) : dComp ow src ix g tc te Δ M Φ = (src Δ M fun ds M1 => ds.length ≤ sizeLine ∧ ∃ J : Nat → List PyData → Mp → Prop, J 0 [] M1 ∧ (∀ i d acc M', ds[i]? = some d → J i acc M' → g (.dat d) (capD ix Δ) M' fun Δ2 M2 => tc Δ2 M2 fun b M3 => if b = true then te Δ2 M3 fun y M4 => onD y fun e => J (i + 1) (acc ++ [e]) M4 else J (i + 1) acc M3) ∧ ∀ acc M', J ds.length acc M' → dEnd ow Φ acc M') := propext Iff.rfl
theorem tcNo_q  (z0 : DSt) (M : Mp) (Φ : Bool → Mp → Prop) : tcNo z0 M Φ = (Φ true M) := propext Iff.rfl
theorem δSortI_q  (xs : List DV) (M : Mp) (Φ : DK) : δSortI xs M Φ = (∃ ns : List Int, IntsOf xs M ns ∧ ns.length < 64 ∧ ∀ ns' : List Int, ns'.Perm ns → ns'.Pairwise (· ≤ ·) → Φ (.dat (.list (ns'.map PyData.int))) M) := propext Iff.rfl
theorem δMinI_q  (xs : List DV) (M : Mp) (Φ : DK) : δMinI xs M Φ = (∃ ns : List Int, IntsOf xs M ns ∧ 0 < ns.length ∧ ∀ m ∈ ns, (∀ a ∈ ns, m ≤ a) → Φ (.dat (.int m)) M) := propext Iff.rfl
theorem δMaxI_q  (xs : List DV) (M : Mp) (Φ : DK) : δMaxI xs M Φ = (∃ ns : List Int, IntsOf xs M ns ∧ 0 < ns.length ∧ ∀ m ∈ ns, (∀ a ∈ ns, a ≤ m) → Φ (.dat (.int m)) M) := propext Iff.rfl
theorem δ3I_q (g : Int → Int → Int → Int) (xs : List DV) (M : Mp) (Φ : DK) : δ3I g xs M Φ = (on3 xs fun x y z => onI x fun i => onI y fun j => onI z fun l => Φ (.dat (.int (g i j l))) M) := propext Iff.rfl
theorem δTupOf_q  (xs : List DV) (M : Mp) (Φ : DK) : δTupOf xs M Φ = (on1 xs fun x => onQ x M fun ds => Φ (.dat (.tuple ds)) M) := propext Iff.rfl
theorem onW_t_q (ds : List PyData) (P : List PyData → Prop) : onW (.dat (.tuple ds)) P = P ds := propext Iff.rfl
theorem onW_l_q (ds : List PyData) (P : List PyData → Prop) : onW (.dat (.list ds)) P = P ds := propext Iff.rfl
theorem δIn_q  (x : DV) (y : DV) (M : Mp) (Φ : DK) : δIn x y M Φ = (onD x fun d => onW y fun ds => okIn d ds = true ∧ Φ (.dat (.bool (ds.any fun e => PyData.eqv e d))) M) := propext Iff.rfl
theorem dExtend_q (to te : DTE) (Δ : DSt) (M : Mp) (Φ : DK) : dExtend to te Δ M Φ = (to Δ M fun x M1 => onO x fun l => onOL (M1 l) fun _ => te Δ M1 fun y M2 => onO y fun b => onOL (M2 l) fun ds => onOL (M2 b) fun es => b ≠ l ∧ ds.length + es.length ≤ sizeLine ∧ Φ (.dat .none) (mdel (mset M2 l (.lst (ds ++ es))) b)) := propext Iff.rfl
theorem dSlL_q (te : DTE) (tl th : DTO) (Δ : DSt) (M : Mp) (Φ : DK) : dSlL te tl th Δ M Φ = (te Δ M fun x M1 => tl Δ M1 fun l M2 => th Δ M2 fun u M3 => onL x fun ds => Φ (.dat (.list (cutD ds l u))) M3) := propext Iff.rfl
theorem δSumI_q  (xs : List DV) (M : Mp) (Φ : DK) : δSumI xs M Φ = (∃ ns : List Int, IntsOf xs M ns ∧ Φ (.dat (.int ns.sum)) M) := propext Iff.rfl
theorem δAllB_q  (xs : List DV) (M : Mp) (Φ : DK) : δAllB xs M Φ = (∃ bs : List Bool, xs = [.dat (.list (bs.map PyData.bool))] ∧ Φ (.dat (.bool (bs.all id))) M) := propext Iff.rfl
theorem δAnyB_q  (xs : List DV) (M : Mp) (Φ : DK) : δAnyB xs M Φ = (∃ bs : List Bool, xs = [.dat (.list (bs.map PyData.bool))] ∧ Φ (.dat (.bool (bs.any id))) M) := propext Iff.rfl
theorem δIntB_q  (xs : List DV) (M : Mp) (Φ : DK) : δIntB xs M Φ = (on1 xs fun x => onB x fun b => Φ (.dat (.int (if b = true then 1 else 0))) M) := propext Iff.rfl
theorem dPar_q (i j : Nat) (ta : DTA) (D : DEnds) (Δ : DSt) (M : Mp) : dPar i j ta D Δ M = (ta Δ M fun xs M1 => on2 xs fun x y => D.nx ((Δ.set i (some x)).set j (some y)) M1) := propext Iff.rfl
theorem δCatS_q  (x : DV) (y : DV) (M : Mp) (Φ : DK) : δCatS x y M Φ = (onK x M fun ds => onK y M fun es => ds.length + es.length ≤ sizeLine ∧ Φ (.dat (.list (ds ++ es))) M) := propext Iff.rfl
theorem dSlS_q (te : DTE) (tl th : DTO) (Δ : DSt) (M : Mp) (Φ : DK) : dSlS te tl th Δ M Φ = (te Δ M fun x M1 => tl Δ M1 fun l M2 => th Δ M2 fun u M3 => onK x M3 fun ds => Φ (.dat (.list (cutD ds l u))) M3) := propext Iff.rfl
theorem dListR2_q (ta : DTA) (Δ : DSt) (M : Mp) (Φ : DK) : dListR2 ta Δ M Φ = (ta Δ M fun xs M1 => on2 xs fun x y => onI x fun i => onI y fun j => (InR i ∧ InR j) ∧ (j - i).toNat ≤ 16777216 ∧ Φ (.dat (.list (rngD i (j - i).toNat))) M1) := propext Iff.rfl
theorem dAug_q (i : Nat) (te : DTE) (f : Int → Int → Int) (D : DEnds) (Δ : DSt) (M : Mp) : dAug i te f D Δ M = (onV Δ[i]? fun z => onI z fun a => te Δ M fun x M1 => onI x fun b => D.nx (Δ.set i (some (.dat (.int (f a b))))) M1) := propext Iff.rfl
theorem δMinP_q  (xs : List DV) (M : Mp) (Φ : DK) : δMinP xs M Φ = (∃ qs : List (Int × Int), xs = [.dat (.list (qs.map prD))] ∧ 0 < qs.length ∧ ∀ q ∈ qs, (∀ r ∈ qs, ltP r q = false) → Φ (.dat (prD q)) M) := propext Iff.rfl
theorem dDict0T_q  (z0 : DSt) (M : Mp) (Φ : DK) : dDict0T z0 M Φ = (∀ p, M p = none → Φ (.own p) (mset M p (.dct []))) := propext Iff.rfl
theorem dPutT_q (td : DTE) (ta : DTA) (tv : DTE) (D : DEnds) (Δ : DSt) (M : Mp) : dPutT td ta tv D Δ M = (tv Δ M fun x M1 => td Δ M1 fun y M2 => ta Δ M2 fun zs M3 => onD x fun _ => onO y fun l => on2 zs fun p q => onI p fun i => onI q fun j => onOC (M3 l) fun ks => ks.length < sizeLine ∧ D.nx Δ (mset M3 l (.dct (addK ks (kP i j))))) := propext Iff.rfl
theorem onP_mk_q (i j : Int) (P : Int → Int → Prop) : onP (.dat (.tuple [.int i, .int j])) P = P i j := propext Iff.rfl
theorem δInT_q  (x : DV) (y : DV) (M : Mp) (Φ : DK) : δInT x y M Φ = (onP x fun i j => onO y fun l => onOC (M l) fun ks => Φ (.dat (.bool (memK ks (kP i j)))) M) := propext Iff.rfl
theorem dRevT_q (te ts : DTE) (Δ : DSt) (M : Mp) (Φ : DK) : dRevT te ts Δ M Φ = (te Δ M fun x M1 => ts Δ M1 fun y M2 => onT x fun ds => onI y fun i => i = -1 ∧ Φ (.dat (.tuple ds.reverse)) M2) := propext Iff.rfl
theorem dSlTW_q (te : DTE) (tl th : DTO) (Δ : DSt) (M : Mp) (Φ : DK) : dSlTW te tl th Δ M Φ = (te Δ M fun x M1 => tl Δ M1 fun l M2 => th Δ M2 fun u M3 => onT x fun ds => Φ (.dat (.tuple (cutD ds l u))) M3) := propext Iff.rfl
theorem onFr_l_q (ds : List PyData) (M : Mp) (Φ : DK) : onFr (.dat (.list ds)) M Φ = Φ (.dat (.list ds)) M := propext Iff.rfl
theorem onFr_o_q (l : Addr) (M : Mp) (Φ : DK) : onFr (.own l) M Φ = onOL (M l) fun ds => Φ (.dat (.list ds)) (mdel M l) := propext Iff.rfl
theorem dFrzA_q (t : DTE) (Δ : DSt) (M : Mp) (Φ : DK) : dFrzA t Δ M Φ = (t Δ M fun x M1 => onFr x M1 Φ) := propext Iff.rfl
theorem srcM_q (src : DSrc) (Δ : DSt) (M : Mp) (Ψ : List PyData → Mp → Prop) : srcM src Δ M Ψ = (∃ Ψ', src Δ M Ψ' ∧ ∀ ds M1, Ψ' ds M1 → Ψ ds M1) := propext Iff.rfl
theorem dCompU_q (ow : Bool) (src : DSrc) (ix : List (Option Nat)) (g : DTG) (tc : DTT) (te : DTE) (Δ : DSt) (M : Mp) (Φ : DK) : dCompU ow src ix g tc te Δ M Φ = (src Δ M fun ds M1 => ds.length ≤ sizeLine ∧ CompRun g tc te (capD ix Δ) (dEnd ow Φ) ds [] M1) := propext Iff.rfl
theorem dWhile_q (tc : DTT) (tb : DTS) (D : DEnds) (Δ : DSt) (M : Mp) : dWhile tc tb D Δ M = (∃ J : Nat → DSt → Mp → Prop, (∃ m, J m Δ M) ∧ ∀ n Δ M, J n Δ M → tc Δ M fun b M1 => if b = true then tb { D with nx := fun Δ' M' => ∃ m, m < n ∧ J m Δ' M', ct := fun Δ' M' => ∃ m, m < n ∧ J m Δ' M', bk := D.nx } Δ M1 else D.nx Δ M1) := propext Iff.rfl
theorem dPop_q (to : DTE) (Δ : DSt) (M : Mp) (Φ : DK) : dPop to Δ M Φ = (to Δ M fun x M1 => onO x fun l => ∃ ds d, M1 l = some (.lst (ds ++ [d])) ∧ Φ (.dat d) (mset M1 l (.lst ds))) := propext Iff.rfl
theorem onN_mk_q (P : Prop) : onN (.dat .none) P = P := propext Iff.rfl
theorem δIsN_q (b : Bool) (x : DV) (y : DV) (M : Mp) (Φ : DK) : δIsN b x y M Φ = (onD x fun d => onN y <| Φ (.dat (.bool (isNone d != b))) M) := propext Iff.rfl
theorem δNotIn_q  (x : DV) (y : DV) (M : Mp) (Φ : DK) : δNotIn x y M Φ = (onD x fun d => onW y fun ds => okIn d ds = true ∧ Φ (.dat (.bool (!(ds.any fun e => PyData.eqv e d)))) M) := propext Iff.rfl
theorem δNotInT_q  (x : DV) (y : DV) (M : Mp) (Φ : DK) : δNotInT x y M Φ = (onP x fun i j => onO y fun l => onOC (M l) fun ks => Φ (.dat (.bool (!memK ks (kP i j)))) M) := propext Iff.rfl
end DL

namespace DL
open PySem PySem.Spec PyProof.Rows L2
/-! ### min(l, default=None) of pairs -/
section
variable {prog : Program} {w : World} {A : Around} {E : Value → Shared → Prop} {s : Shared}
theorem leastD_pairs {l : Addr} {its : Array Value} {qs : List (Int × Int)} {d : Value} {Q : Value → Shared → Prop} (hh : A.handled = none) (hu : A.in1.units < cLine) (hl : s.heap.IsList l its) (hz : its.size = qs.length)
    (hq : ∀ i v, its[i]? = some v → PrAt s.heap v (qs.getD i (0, 0))) (h0 : qs = [] → ∀ h' tk, (∀ b o, s.heap.get? b = some o → h'.get? b = some o) → Q d { s with heap := h', toks := tk })
    (h : ∀ i v h' tk, its[i]? = some v → i < qs.length → (∀ j, j < qs.length → ltP (qs.getD j (0, 0)) (qs.getD i (0, 0)) = false) → (∀ b o, s.heap.get? b = some o → h'.get? b = some o) → Q v { s with heap := h', toks := tk }) :
    wpAny (model prog w) A (call (.builtin "min") [.ref l] [(Str.ofString "default", d)]) Q E s := by
  have hlt : l < s.heap.objs.size := by obtain ⟨_, e, _⟩ := hl; exact Heap.lt_size e
  refine leastD_call (h0 := s.heap) (wpAny_pyIter_list hl ?_)
  refine ⟨s.heap.objs.size, [s.heap.objs.size, l], [s.heap.objs.size], its.size, _, _, fun i j => ltP (qs.getD i (0, 0)) (qs.getD j (0, 0)), rfl, Walks.list (A := A.in1) hh _ l (Nat.ne_of_lt hlt) its, ⟨⟨_, Heap.get?_push_size _ rfl, rfl, rfl⟩, hl.push _⟩, fun b hb => ?_, fun b hb => ?_, fun b o e => Heap.get?_push_of_some _ e, ?_, fun i j x y s' Q' E' old hx hy hQ => ?_, fun hn h' tk keep => ?_, fun hn v h' tk hP keep => ?_⟩
  · show b < (s.heap.push _).objs.size
    rw [Heap.size_push]
    rcases List.mem_cons.mp hb with rfl | hb
    · exact Nat.lt_succ_self _
    · rw [List.mem_singleton.mp hb]
      exact Nat.lt_succ_of_lt hlt
  · rw [List.mem_singleton.mp hb]
    exact get_none (Nat.le_refl _)
  · show s.heap.get? (s.heap.push _).objs.size = none
    rw [Heap.size_push]
    exact get_none (Nat.le_succ _)
  · exact lt_pairs hu ((hq i x hx).keep old) ((hq j y hy).keep old) hQ
  · exact h0 (List.length_eq_zero_iff.mp (by omega)) h' tk keep
  · have b := best_least (fun i => qs.getD i (0, 0)) (its.size - 1)
    exact h _ v h' tk hP (by omega) (fun j hj => b.2 j (by omega)) keep
end
section
variable {X : Cx} {pos p kp kpos : Pos} {x : Str} {a : Expr} {t : TA} {kj}
def rMinD (K : PySem.W.Frag) : List V → Hp → VK → Prop := fun xs H Q => ∃ (p : Addr) (vs : List V) (qs : List (Int × Int)), xs = [.ref p] ∧ SqL K H p vs ∧ vs.length = qs.length ∧ (∀ (i : Nat) (q : Int × Int), qs[i]? = some q → ∃ a : Addr, vs[i]? = some (V.ref a) ∧ SqT K H a [.int q.1, .int q.2]) ∧
  (qs = [] → Q .non H) ∧ ∀ (i : Nat) (q : Int × Int) (v : V), qs[i]? = some q → vs[i]? = some v → (∀ r ∈ qs, ltP r q = false) → Q v H
theorem pe_minD (hc : X.calm = true) (hu : X.A.in1.units < cLine) (hg : Gl X x) (hm : X.mg x = none) (hv : bootBuiltins x = some (.builtin "min")) (ha : PA X [a] t) (hn : x ≠ "__name__" := by decide) (hdb : (x == ("__debug__" : Str)) = false := by decide)
    (he : ∀ pos, backTo pos (starEach [a] X.env) = (false, eval a X.env) :: backTo pos (starEach [] X.env) := by intro _; rfl) (hpl : ∀ pos, (backTo pos (starEach [a] X.env)).any (·.1) = false := by intro _; rfl) :
    PE X (.Call (.Name x p) [a] [⟨some (Str.ofString "default"), .Constant .none kj kpos, kp⟩] pos) (fun σ H Q => t σ H fun xs H1 => rMinD X.K xs H1 Q) := by
  intro pins s σ H Q I h
  refine wpAny_Call_Name_kw (ld_blt I hg hm hv ?_ hn hdb)
  refine callWith_kw (thn (ha pos pins s σ H _ I h) fun us s1 ⟨vs, H1, I1, r1, q1⟩ => ?_) (he pos) (hpl pos)
  refine kws_cons (thn ((pe_non (X := X)) pins s1 σ H1 (fun v H' => v = .non ∧ H' = H1) I1 ⟨rfl, rfl⟩) fun u s2 ⟨v, H2, I2, r2, e1, e2⟩ => kws_nil ?_)
  subst e1 e2
  obtain rfl : u = Value.none := r2
  obtain ⟨p', ws, qs, rfl, hq, hz, hp, q0, q⟩ := q1
  obtain ⟨u, rfl, rx⟩ := vals1 r1
  cases rx
  obtain ⟨its, rv, pl, _⟩ := I2.list hq
  have hlen := rv.length
  have get : ∀ i, i < qs.length → qs[i]? = some (qs.getD i (0, 0)) := fun i hi => by rw [List.getElem?_eq_getElem hi, List.getD_eq_getElem?_getD, List.getElem?_eq_getElem hi]; rfl
  refine leastD_pairs (I2.ok.hd hc) hu pl.isList (by rw [List.size_toArray, ← hlen]; exact hz) (fun i v hv => ?_) (fun e h' tk hk => ⟨.non, H2, I2.kept hk, rfl, q0 e⟩) fun i v h' tk hv hi hm hk => ?_
  · have hv' : its[i]? = some v := by simpa using hv
    have hi : i < qs.length := by
      have := (List.getElem?_eq_some_iff.mp hv').1
      omega
    obtain ⟨a, e, sq⟩ := hp i _ (get i hi)
    obtain ⟨w', e', rl⟩ := rv.get e
    rw [hv'] at e'
    cases e'
    cases (show v = .ref a from rl)
    obtain ⟨jts, rt, ⟨o, eo, co, n, d⟩, _⟩ := I2.tuple sq
    obtain ⟨x1, x2, rfl, ⟨t1, rfl⟩, ⟨t2, rfl⟩⟩ := Vals.two rt
    exact ⟨a, o, n, t1, t2, rfl, eo, co, d⟩
  · have hv' : its[i]? = some v := by simpa using hv
    obtain ⟨x, e, rl⟩ := Vals.back rv hv'
    refine ⟨x, H2, I2.kept hk, rl, q i _ x (get i hi) e fun r hr => ?_⟩
    obtain ⟨j, hj, rfl⟩ := List.getElem_of_mem hr
    have := hm j hj
    rwa [List.getD_eq_getElem?_getD, List.getElem?_eq_getElem hj] at this
def dMinD (ta : DTA) : DTE := fun Δ M Φ => ta Δ M fun xs M1 => on1 xs fun x => ∃ qs : List (Int × Int), LsOf x M1 (qs.map prD) ∧ (qs = [] → Φ (.dat .none) M1) ∧ ∀ q ∈ qs, (∀ r ∈ qs, ltP r q = false) → Φ (.dat (prD q)) M1
theorem dMinD_q (ta : DTA) (Δ : DSt) (M : Mp) (Φ : DK) : dMinD ta Δ M Φ = (ta Δ M fun xs M1 => on1 xs fun x => ∃ qs : List (Int × Int), LsOf x M1 (qs.map prD) ∧ (qs = [] → Φ (.dat .none) M1) ∧ ∀ q ∈ qs, (∀ r ∈ qs, ltP r q = false) → Φ (.dat (prD q)) M1) := propext Iff.rfl
theorem de_minD {ta : DTA} {k : Nat} (hr : Room k X.A) (hc : X.calm = true) (hg : Gl X x) (hm : X.mg x = none) (hv : bootBuiltins x = some (.builtin "min")) (ha : DA X [a] ta) (hn : x ≠ "__name__" := by decide) (hdb : (x == ("__debug__" : Str)) = false := by decide)
    (he : ∀ pos, backTo pos (starEach [a] X.env) = (false, eval a X.env) :: backTo pos (starEach [] X.env) := by intro _; rfl) (hpl : ∀ pos, (backTo pos (starEach [a] X.env)).any (·.1) = false := by intro _; rfl) :
    DE X (.Call (.Name x p) [a] [⟨some (Str.ofString "default"), .Constant .none kj kpos, kp⟩] pos) (dMinD ta) := by
  obtain ⟨t1, p1, q1⟩ := ha
  refine ⟨_, pe_minD hc (by have := hr.un; show X.A.units + 1 < _; omega) hg hm hv p1 hn hdb he hpl, fun σ H Δ M Φ Q r e h k => ?_⟩
  refine q1 σ H Δ M _ _ r e h fun vs H1 xs M1 r1 st rv hx => ?_
  replace hx := on1_ex hx
  obtain ⟨x, rfl, qs, hls, q0, q⟩ := hx
  obtain ⟨v, rfl, h1⟩ := Paired.one rv
  obtain ⟨p, ys, rfl, g1, g2⟩ := hls.sq r1 h1
  refine ⟨p, ys, qs, rfl, g1, by rw [g2.length, List.length_map], fun i q' e => ?_, fun e => k.dat r1 st Dt.non (q0 e), fun i q' v e ev hm => ?_⟩
  · obtain ⟨v, ev, d⟩ := g2.get (i := i) (d := prD q') (by rw [List.getElem?_map, e]; rfl)
    cases d with
    | tup t1 t2 =>
      cases t2 with
      | cons a b =>
        cases a
        cases b with
        | cons a b =>
          cases a
          cases b
          exact ⟨_, ev, t1.sq⟩
  · obtain ⟨v', ev', d⟩ := g2.get (i := i) (d := prD q') (by rw [List.getElem?_map, e]; rfl)
    rw [ev] at ev'
    cases ev'
    exact k.dat r1 st d (q q' (List.mem_of_getElem? e) hm)
end
end DL

namespace DL
open PySem PySem.Spec PyProof.Rows L2 PySem.W
/-! ### enumerate of a tuple -/
section
variable {prog : Program} {w : World} {A : Around} {E : Value → Shared → Prop} {s : Shared}
end
section
variable {prog : Program} {w : World} {A : Around} {E : Value → Shared → Prop} {s : Shared}
end
section
variable {X : Cx} {pins : List (Addr × Obj)} {σ : L2.St} {H : Hp} {s : Shared} {h' : Heap}
end
/-- number and item, as a new tuple each -/
def Ite (K : PySem.W.Frag) (a : Addr) : It :=
  ⟨fun i H => ∃ xs x, SqT K H a xs ∧ xs[i]? = some x, fun i H y H' => ∃ T x, (∀ xs, SqT K H a xs → xs[i]? = some x) ∧ H T = none ∧ y = .ref T ∧ H' = upd H T (.tup [.int i, x]), fun i H => ∃ xs, SqT K H a xs ∧ xs.length ≤ i⟩
section
variable {X : Cx}
def iEnum (K : PySem.W.Frag) (ta : TA) : TI := fun σ H R => ta σ H fun vs H1 => ∃ a, vs = [.ref a] ∧ (∃ xs, SqT K H1 a xs) ∧ R (Ite K a) H1
def enumD (ds : List PyData) : List PyData := ds.mapIdx fun i d => .tuple [.int i, d]
def srcE (ta : DTA) : DSrc := fun Δ M Ψ => ta Δ M fun xs M1 => on1 xs fun x => onT x fun ds => Ψ (enumD ds) M1
end
/-- a promise that asks what cannot be -/
theorem fnVoid {P : Program} {w : World} {K : PySem.W.Frag} {mg : Str → Option Value} {base : Heap} {k : Nat} {f : Addr} {fd : FuncData} {ps : List Str} {S : DSp} (h : ∀ xs M Φ, ¬ S xs M Φ) : FnOk P w K mg base CX0 k f fd ps (lift K S) :=
  ⟨fun vs H Q E z => by obtain ⟨xs, M, Φ, _, _, z, _⟩ := z; exact absurd z (h _ _ _), fun A outer s H args us vs Q E _ _ _ _ z => by obtain ⟨xs, M, Φ, _, _, z, _⟩ := z; exact absurd z (h _ _ _)⟩
end DL

namespace DL
open PySem PySem.Spec PyProof.Rows L2 PySem.W
/-! ### a, b = l of a list -/
section
variable {prog : Program} {w : World} {A : Around} {E : Value → Shared → Prop} {s : Shared}
end
section
variable {X : Cx} {pos : Pos}
def dgLst (n : Nat) (t : DTGs) : DTG := fun x Δ M Φ => onL x fun ds => onNs n ds fun xs => t xs Δ M Φ
theorem dgLst_q (n : Nat) (t : DTGs) (x : DV) (Δ : DSt) (M : Mp) (Φ : DSt → Mp → Prop) : dgLst n t x Δ M Φ = (onL x fun ds => onNs n ds fun xs => t xs Δ M Φ) := propext Iff.rfl
end
end DL

namespace DL
open PySem PySem.Spec PyProof.Rows L2 PySem.W
/-! ### a list beside the empty one; lists put together, owned; bool of a number -/
section
variable {X : Cx}
theorem op_neNil (hu : X.A.units < cLine) : OpR X (compareOp .NotEq) (fun x y H Q => ∃ a b xs, x = .ref a ∧ y = .ref b ∧ SqL X.K H a xs ∧ SqL X.K H b [] ∧ Q (.bl (!xs.isEmpty)) H) := by
  intro pins s σ H x y v u Q I rx ry h
  obtain ⟨a, b, xs, rfl, rfl, h1, h2, q⟩ := h
  cases rx
  cases ry
  obtain ⟨its, r, p, _⟩ := I.list h1
  obtain ⟨jts, r2, p2, _⟩ := I.list h2
  cases r2
  have hl := r.length
  cases xs with
  | nil =>
    have e : its.toArray.size = ([] : List Value).toArray.size := by rw [List.size_toArray, List.size_toArray]; exact hl.symm
    refine PySem.SeqAt.RcNeAt.lists (e := fun _ => true) p.isList p2.isList e hu (fun j h1 h2 => absurd h2 (Nat.not_lt_zero _)) _ _ _ _ ⟨.bl _, H, I, ?_, q⟩
    show Value.bool (!(List.range its.toArray.size).all fun _ => true) = _
    rw [e]
    rfl
  | cons x xs =>
    refine PySem.SeqAt.RcNeAt.lists_lengths p.isList p2.isList ?_ hu _ _ _ _ ⟨.bl _, H, I, rfl, q⟩
    rw [List.size_toArray, ← hl]
    rfl
def δNeNil : D2 := fun x y M Φ => onK x M fun ds => onK y M fun es => es = [] ∧ Φ (.dat (.bool (!ds.isEmpty))) M
theorem od_neNil {k : Nat} (hr : Room k X.A) : OpD X (compareOp .NotEq) δNeNil := by
  refine ⟨_, op_neNil (by have := hr.un; omega), fun v u H x y M Φ Q r rv ru h k => ?_⟩
  replace h := onK_ex h
  obtain ⟨ds, hx, h⟩ := h
  replace h := onK_ex h
  obtain ⟨es, hy, rfl, q⟩ := h
  replace hx : LsOf x M ds := hx
  replace hy : LsOf y M [] := hy
  obtain ⟨a, xs, rfl, h1, h2⟩ := hx.sq r rv
  obtain ⟨b, ys, rfl, h3, h4⟩ := hy.sq r ru
  cases h4
  refine ⟨a, b, xs, rfl, rfl, h1, h3, ?_⟩
  have e : xs.isEmpty = ds.isEmpty := by cases h2 <;> rfl
  rw [e]
  exact k.dat r Step.refl (Dt.bl _) q
def δCatSO : D2 := fun x y M Φ => onK x M fun ds => onK y M fun es => ds.length + es.length ≤ sizeLine ∧ ∀ p, M p = none → Φ (.own p) (mset M p (.lst (ds ++ es)))
theorem od_catSO : OpD X (binaryOp .Add) δCatSO := by
  refine ⟨_, op_catSq, fun v u H x y M Φ Q r rv ru h k => ?_⟩
  replace h := onK_ex h
  obtain ⟨ds, hx, h⟩ := h
  replace h := onK_ex h
  obtain ⟨es, hy, hz, q⟩ := h
  replace hx : LsOf x M ds := hx
  replace hy : LsOf y M es := hy
  obtain ⟨a, xs, rfl, h1, h2⟩ := hx.sq r rv
  obtain ⟨b, ys, rfl, h3, h4⟩ := hy.sq r ru
  refine ⟨a, b, xs, ys, rfl, rfl, h1, h3, by rw [h2.length, h4.length]; exact hz, fun p hp => ?_⟩
  exact k _ _ (.own p) _ (r.ownSet (Step.ownNew hp) (h2.append h4)) (Step.ownNew hp) rfl (q p (r.tracked hp))
def δBoolI : D1 := fun xs M Φ => on1 xs fun x => onI x fun i => Φ (.dat (.bool (i != 0))) M
theorem δNeNil_q (x y : DV) (M : Mp) (Φ : DK) : δNeNil x y M Φ = (onK x M fun ds => onK y M fun es => es = [] ∧ Φ (.dat (.bool (!ds.isEmpty))) M) := propext Iff.rfl
theorem δCatSO_q (x y : DV) (M : Mp) (Φ : DK) : δCatSO x y M Φ = (onK x M fun ds => onK y M fun es => ds.length + es.length ≤ sizeLine ∧ ∀ p, M p = none → Φ (.own p) (mset M p (.lst (ds ++ es)))) := propext Iff.rfl
theorem δBoolI_q (xs : List DV) (M : Mp) (Φ : DK) : δBoolI xs M Φ = (on1 xs fun x => onI x fun i => Φ (.dat (.bool (i != 0))) M) := propext Iff.rfl
end
/-! ### == of any data and a text -/
def isS (h : PyData) (s : Str) : Bool := match h with | .str t => decide (t = s) | _ => false
theorem eqD_str {h : PyData} {s : Str} {P : Bool → Prop} (hl : h.canLay0 = true) (hs : (PyData.str s).canLay0 = true) (p : P (isS h s)) : eqD h (.str s) P := by
  cases h with
  | str t => exact p
  | dict _ => simp [PyData.canLay0] at hl
  | _ =>
    refine ⟨?_, ?_⟩
    · unfold okEq
      rw [hl, hs]
      simp [PyData.depth]
    · simp only [PyData.eqv]
      exact p
end DL

namespace DL
open PySem PySem.Spec PyProof.Rows L2 PySem.W PySem.SeqAt PySem.MeetsSeq
/-! ### any data beside a text -/
theorem dict_eq_declines_str (l : Addr) (es : Array DictEntry) (n : Nat) (dd : Option Addr) (sl : Array (Option Value)) (b : Str) (u : Tok) :
    Meets (Builtin.«dict.__eq__» ⟨[.ref l, .str b u], []⟩) (fun _ R s => s.heap.get? l = some { cls := .type "dict", dict := dd, data := .dict es n, slots := sl } ∧ R (.ok (.ret .notImplemented)) s) :=
  .of_wp fun prog w A R s h => by
    obtain ⟨hp, g, d, tk, os⟩ := s; obtain ⟨hl, h⟩ := h
    have f1 := F.sub_str_dict
    wp_walk using wpAny_loadPart' hl
    exact ⟨_, rfl, h⟩
theorem str_eq_declines_dict (b : Str) (u : Tok) (l : Addr) (c : Value) (es : Array DictEntry) (n : Nat) (dd : Option Addr) (sl : Array (Option Value)) :
    Meets (Builtin.«str.__eq__» ⟨[.str b u, .ref l], []⟩) (fun _ R s => s.heap.get? l = some { cls := c, dict := dd, data := .dict es n, slots := sl } ∧ R (.ok (.ret .notImplemented)) s) :=
  .of_wp fun prog w A R s h => by obtain ⟨hp, g, d, tk, os⟩ := s; obtain ⟨hl, h⟩ := h; wp_walk using wpAny_loadPart' hl, wpAny_load hl; exact ⟨_, rfl, h⟩
section
variable {A : Around} {s : Shared}
def IsDc (h : Heap) (l : Addr) : Prop := ∃ (o : Obj) (es : Array DictEntry) (n : Nat), h.get? l = some o ∧ o.cls = .type "dict" ∧ o.data = .dict es n
theorem rc_str_dict {l : Addr} (b : Str) (u : Tok) (hl : IsDc s.heap l) (hu : A.units < cLine) : RcAt A s (.str b u) (.ref l) false := fun prog w E Q h => by
  obtain ⟨⟨cls, dd, data, sl⟩, es, n, ho, hc, hd⟩ := hl
  simp only at hc hd
  subst hc hd
  exact rc_eq_decline_or (k := false) (typeIs_str s b u) ⟨_, ho, rfl⟩ (by decide) F.sub_dict_str F.slot_str_eq F.slot_dict_eq_refl
    (fun _ hq => call_meets F.slot_str_eq (typeIs_str s b u) F.entry_str_eq (F.args_str_eq_2 _ _) (str_eq_declines_dict b u l (.type "dict") es n dd sl) ⟨ho, hq⟩)
    (fun _ hq => call_meets F.slot_dict_eq_refl ⟨_, ho, rfl⟩ F.entry_dict_eq (F.args_dict_eq_2 _ _) (dict_eq_declines_str l es n dd sl b u) ⟨ho, hq⟩)
    (fun _ hq => wpAny_of_eq (rfl : isSame (.str b u) (.ref l) = pure false) hq) (.inr hu) h
theorem eq_str_dict {l : Addr} (b : Str) (u : Tok) (hl : IsDc s.heap l) (hu : A.units < cLine) : EqAt A s (.str b u) (.ref l) false := fun prog w E Q h => by
  unfold eqBool
  refine wpAny_holding ?_
  refine wpAny_ite_split (fun hab => absurd (eq_of_beq hab) nofun) (fun _ => ?_)
  exact wpAny_bind (rc_str_dict b u hl hu prog w E _ (wpAny_truthy_bool h))
end
section
variable {X : Cx}
/-- a value's data beside a text: what is known of it on the heap -/
inductive Bs (h : Heap) (b : Bool) (t : Str) : Value → Prop
  | non : b = false → Bs h b t .none
  | bl (k : Bool) : b = false → Bs h b t (.bool k)
  | int (i : Int) (u : Tok) : b = false → Bs h b t (.int i u)
  | str (x : Str) (u : Tok) : b = decide (x = t) → Bs h b t (.str x u)
  | tup {a : Addr} {items : Array Value} : h.IsTuple a items → b = false → Bs h b t (.ref a)
  | lst {a : Addr} {items : Array Value} : h.IsList a items → b = false → Bs h b t (.ref a)
  | dic {a : Addr} : IsDc h a → b = false → Bs h b t (.ref a)
theorem Bs.eq {A : Around} {s : Shared} {b : Bool} {t : Str} {v : Value} (u : Tok) (h : Bs s.heap b t v) (hu : A.units < cLine) : EqAt A s (.str t u) v b := by
  cases h with
  | non e => rw [e]; exact EqAt.str_none t u
  | bl k e => rw [e]; exact EqAt.str_bool t u k
  | int i w e => rw [e]; exact EqAt.str_int t u i w
  | str x w e =>
    have e2 : b = (t == x) := by rw [e, Bool.beq_eq_decide_eq, decide_eq_decide]; exact eq_comm
    rw [e2]
    exact EqAt.str_str t u x w
  | tup p e => rw [e]; exact EqAt.str_tuple t u p hu
  | lst p e => rw [e]; exact EqAt.str_list t u p hu
  | dic p e => rw [e]; exact eq_str_dict t u p hu
def δEqX : D2 := fun x y M Φ => onD x fun d => onS y fun t => Φ (.dat (.bool (isS d t))) M
def δInX : D2 := fun x y M Φ => onD x fun d => onT y fun ds => ∃ ts : List Str, ds = ts.map PyData.str ∧ Φ (.dat (.bool (ts.any (isS d)))) M
end
end DL

namespace DL
open PySem PySem.Spec PyProof.Rows L2 PySem.W
/-! ### {text: data, ..} of six, owned; [..] * n -/
section
variable {X : Cx} {pos : Pos}
def dDict6 (tk0 tk1 tk2 tk3 tk4 tk5 tv0 tv1 tv2 tv3 tv4 tv5 : DTE) : DTE := fun Δ M Φ => tk0 Δ M fun x0 M1 => tv0 Δ M1 fun y0 M2 => tk1 Δ M2 fun x1 M3 => tv1 Δ M3 fun y1 M4 => tk2 Δ M4 fun x2 M5 => tv2 Δ M5 fun y2 M6 => tk3 Δ M6 fun x3 M7 => tv3 Δ M7 fun y3 M8 => tk4 Δ M8 fun x4 M9 => tv4 Δ M9 fun y4 M10 => tk5 Δ M10 fun x5 M11 => tv5 Δ M11 fun y5 M12 => onS x0 fun s0 => onD y0 fun d0 => onS x1 fun s1 => onD y1 fun d1 => onS x2 fun s2 => onD y2 fun d2 => onS x3 fun s3 => onD y3 fun d3 => onS x4 fun s4 => onD y4 fun d4 => onS x5 fun s5 => onD y5 fun d5 => ([s0, s1, s2, s3, s4, s5] : List Str).Nodup ∧ ∀ p, M12 p = none → Φ (.own p) (mset M12 p (.dkv [(Sum.inr s0, d0), (Sum.inr s1, d1), (Sum.inr s2, d2), (Sum.inr s3, d3), (Sum.inr s4, d4), (Sum.inr s5, d5)]))
def δRep : D2 := fun x y M Φ => onO x fun l => onI y fun i => onOL (M l) fun ds => (0 ≤ i ∧ i < 2 ^ 63 ∧ ds.length * i.toNat ≤ sizeLine) ∧ Φ (.dat (.list (List.replicate i.toNat ds).flatten)) M
end
end DL

namespace DL
open PySem PySem.Spec PyProof.Rows L2 PySem.W PySem.SeqAt PySem.MeetsSeq
/-! ### t + u of any two tuples; t * n; fourteen items -/
section
variable {X : Cx}
def δRepT : D2 := fun x y M Φ => onT x fun ds => onI y fun k => (2 ≤ k ∧ k ≤ 1000 ∧ 1 ≤ ds.length ∧ ds.length ≤ 1000) ∧ Φ (.dat (.tuple (List.replicate k.toNat ds).flatten)) M
def δCatT0 : D2 := fun x y M Φ => onT x fun ds => onT y fun es => ds.length + es.length ≤ sizeLine ∧ Φ (.dat (.tuple (ds ++ es))) M
end
end DL

namespace DL
open PySem PySem.Spec PyProof.Rows L2 PySem.W
/-! ### tables of sets -/
def Rsg (l : List Nat) : Prop := l.Pairwise (· < ·)
theorem Rsg.lt {l : List Nat} (h : Rsg l) {i j u v : Nat} (hi : l[i]? = some u) (hj : l[j]? = some v) (hij : i < j) : u < v := by
  obtain ⟨h1, rfl⟩ := List.getElem?_eq_some_iff.mp hi
  obtain ⟨h2, rfl⟩ := List.getElem?_eq_some_iff.mp hj
  exact (List.pairwise_iff_getElem.mp h) i j h1 h2 hij
def Spl (l : List Nat) (j r : Nat) : Prop := (∀ k v, k < r → l[k]? = some v → v < j) ∧ (∀ k v, r ≤ k → l[k]? = some v → j ≤ v) ∧ r ≤ l.length
theorem below_go {xs : Array Nat} (h : Rsg xs.toList) (j : Nat) : ∀ fuel lo hi, hi - lo ≤ fuel → lo ≤ hi → hi ≤ xs.size → (∀ k v, k < lo → xs.toList[k]? = some v → v < j) → (∀ k v, hi ≤ k → xs.toList[k]? = some v → j ≤ v) → Spl xs.toList j (SetTable.below.go xs j fuel lo hi)
  | 0, lo, hi, hf, hl, hs, h1, h2 => by
    have e : hi = lo := by omega
    subst e
    exact ⟨h1, h2, by rw [Array.length_toList]; exact hs⟩
  | fuel + 1, lo, hi, hf, hl, hs, h1, h2 => by
    unfold SetTable.below.go
    by_cases hlt : lo < hi
    · rw [if_pos hlt]
      dsimp only
      have hm : (lo + hi) / 2 < xs.size := by omega
      have hg : xs.toList[(lo + hi) / 2]? = some (xs.getD ((lo + hi) / 2) j) := by
        rw [Array.getElem?_toList, Array.getElem?_eq_getElem hm]
        simp [Array.getD, hm]
      by_cases hc : xs.getD ((lo + hi) / 2) j < j
      · rw [if_pos hc]
        refine below_go h j fuel _ _ (by omega) (by omega) hs (fun k v hk hv => ?_) h2
        by_cases e : k = (lo + hi) / 2
        · rw [e, hg] at hv
          cases hv
          exact hc
        · exact Nat.lt_trans (h.lt hv hg (by omega)) hc
      · rw [if_neg hc]
        refine below_go h j fuel _ _ (by omega) (by omega) (by omega) h1 (fun k v hk hv => ?_)
        by_cases e : k = (lo + hi) / 2
        · rw [e, hg] at hv
          cases hv
          omega
        · have := h.lt hg hv (by omega)
          omega
    · rw [if_neg hlt]
      have e : hi = lo := by omega
      subst e
      exact ⟨h1, h2, by rw [Array.length_toList]; exact hs⟩
theorem below_spl {xs : Array Nat} (h : Rsg xs.toList) (j : Nat) : Spl xs.toList j (SetTable.below xs j) := by
  unfold SetTable.below
  exact below_go h j _ _ _ (by omega) (by omega) (Nat.le_refl _) (fun k v hk => absurd hk (by omega)) fun k v hk hv => by
    have := (List.getElem?_eq_some_iff.mp hv).1
    rw [Array.length_toList] at this
    omega
theorem insert_rsg {xs : Array Nat} (h : Rsg xs.toList) {j : Nat} (hn : xs[SetTable.below xs j]? ≠ some j) : Rsg (SetTable.insertAt xs (SetTable.below xs j) j).toList := by
  obtain ⟨h1, h2, h3⟩ := below_spl h j
  rw [SetTable.toList_insertAt]
  have hd : ∀ v ∈ xs.toList.drop (SetTable.below xs j), j < v := fun v hv => by
    obtain ⟨k, hk⟩ := List.mem_iff_getElem?.mp hv
    rw [List.getElem?_drop] at hk
    have l1 := h2 _ v (Nat.le_add_right _ k) hk
    by_cases e : k = 0
    · rw [e, Nat.add_zero, Array.getElem?_toList] at hk
      rcases Nat.lt_or_eq_of_le l1 with z | z
      · exact z
      · rw [← z] at hk
        exact absurd hk hn
    · have hb := (List.getElem?_eq_some_iff.mp hk).1
      have := h.lt (List.getElem?_eq_getElem (show SetTable.below xs j < xs.toList.length by omega)) hk (by omega)
      have := h2 _ _ (Nat.le_refl _) (List.getElem?_eq_getElem (show SetTable.below xs j < xs.toList.length by omega))
      omega
  have ht : ∀ u ∈ xs.toList.take (SetTable.below xs j), u < j := fun u hu => by
    obtain ⟨k, hk⟩ := List.mem_iff_getElem?.mp hu
    rw [List.getElem?_take] at hk
    split at hk
    · exact h1 k u (by assumption) hk
    · cases hk
  refine List.pairwise_append.mpr ⟨h.sublist (List.take_sublist _ _), List.pairwise_cons.mpr ⟨hd, h.sublist (List.drop_sublist _ _)⟩, fun u hu v hv => ?_⟩
  rcases List.mem_cons.mp hv with rfl | hv
  · exact ht u hu
  · exact Nat.lt_trans (ht u hu) (hd v hv)
/-- a table as it comes of adding alone -/
structure TOk (bt : Bool) (t : SetTable) : Prop where
  led : t.led = !bt
  dm : t.dummies = #[]
  up : t.plain = true → Rsg t.place.toList
theorem slot_dm {t : SetTable} (h : t.dummies = #[]) (j : Nat) : t.slot j ≠ .dummy := by
  unfold SetTable.slot SetTable.has
  rw [h]
  dsimp only
  split
  · exact fun e => nomatch e
  · simp
theorem probe_empty {t : SetTable} {f : Nat → Int} {h : Int} (hd : t.dummies = #[]) : ∀ (fuel : Nat) (p : SetTable.Probe), p.dummy = none → ∀ j d, SetTable.probe.go t f h fuel p = some (.empty j d) → d = none ∧ t.slot j = .empty
  | 0, p, _, j, d, e => by unfold SetTable.probe.go at e; cases e
  | fuel + 1, p, hp, j, d, e => by
    unfold SetTable.probe.go at e
    cases q : t.slot p.j with
    | empty =>
      rw [q] at e
      cases e
      exact ⟨hp, q⟩
    | dummy => exact absurd q (slot_dm hd _)
    | live i =>
      rw [q] at e
      dsimp only at e
      split at e
      · cases e
      · refine probe_empty hd fuel _ ?_ j d e
        unfold SetTable.advance
        split
        · exact hp
        · exact hp
theorem free_new {t : SetTable} {h : Int} {j : Nat} {b : Bool} (hd : t.dummies = #[]) (e : t.freeSlot h = some (j, b)) : t.place[SetTable.below t.place j]? ≠ some j := by
  unfold SetTable.freeSlot at e
  split at e
  · rename_i j' d' q
    unfold SetTable.probe at q
    obtain ⟨rfl, hs⟩ := probe_empty hd _ _ rfl _ _ q
    simp only [Option.getD_none, Option.isSome_none, Option.some.injEq, Prod.mk.injEq] at e
    obtain ⟨rfl, _⟩ := e
    unfold SetTable.slot at hs
    dsimp only at hs
    intro z
    rw [if_pos (by rw [z]; simp)] at hs
    cases hs
  · cases e
theorem TOk.stand {bt : Bool} {t : SetTable} (h : TOk bt t) (n : Nat) : TOk bt (t.standIn n) := ⟨h.led, rfl, fun e => by simp [SetTable.standIn] at e⟩
theorem TOk.new {bt : Bool} {t : SetTable} (h : TOk bt t) (es : Array (Int × Value)) (k : Int) (x : Value) : TOk bt (layNew t es k x).2.1 := by
  unfold layNew
  split
  · rename_i sl wd e
    have hn := free_new h.dm e
    have hp : TOk bt (t.put sl).1 := by
      unfold SetTable.put
      refine ⟨h.led, ?_, fun e => insert_rsg (h.up e) hn⟩
      show (if SetTable.has t.dummies sl = true then _ else t.dummies) = #[]
      rw [h.dm]
      split
      · simp [SetTable.eraseAt]
      · rfl
    dsimp only
    unfold SetTable.orStandIn
    split
    · exact hp
    · exact hp.stand _
  · exact h.stand _
theorem rng_rsg (f : Nat → Option Nat) (n : Nat) : Rsg ((((List.range n).filterMap fun j => (f j).map (j, ·)).map (·.1))) := by
  have h : (((List.range n).filterMap fun j => (f j).map (j, ·)).map (·.1)).Sublist (List.range n) := by
    induction (List.range n) with
    | nil => exact .slnil
    | cons a l ih =>
      rw [List.filterMap_cons]
      cases f a with
      | none => exact ih.cons a
      | some v => exact ih.cons₂ a
  exact List.pairwise_lt_range.sublist h
theorem TOk.re {bt : Bool} {t : SetTable} (h : TOk bt t) (es : Array (Int × Value)) (n : Nat) : TOk bt (relayAll t es n).2.1 := by
  unfold relayAll
  split
  · rename_i t' order e
    dsimp only
    split
    · unfold SetTable.relaid SetTable.laid at e
      cases q : SetTable.layClean (SetTable.sizeAbove n - 1) (es.map (·.1)) with
      | none => rw [q] at e; cases e
      | some ow =>
        rw [q] at e
        simp only [Option.pure_def, Option.bind_eq_bind, Option.bind_some, Option.some.injEq, Prod.mk.injEq] at e
        obtain ⟨rfl, _⟩ := e
        exact ⟨h.led, rfl, fun _ => by simpa using rng_rsg (fun j => ow.getD j none) _⟩
    · exact h.stand _
  · exact h.stand _
end DL

namespace DL
open PySem PySem.Spec PyProof.Rows L2 PySem.W
/-! ### sets of ints: adding -/
def intV : Value → Int
  | .int i _ => i
  | _ => 0
abbrev Ents := Array (Int × Value)
def ksOf (es : Ents) : List Int := es.toList.map fun e => intV e.2
structure SObj (P : Program) (w : World) (o : Obj) (es : Ents) (t : SetTable) : Prop where
  ex : o.ExactSet
  dt : ∃ ep, o.data = .set es ep t
  el : ElemsOf (intKind P w) es.toList
  bd : es.size < scanBound
  ft : t.fits es.size = true
  ok : TOk (w.params.followText "set-order") t
  nd : (ksOf es).Nodup
def SI (P : Program) (w : World) (h : Heap) (a : Addr) (ks : List Int) : Prop := ∃ o es t, h.get? a = some o ∧ SObj P w o es t ∧ ks = ksOf es
section
variable {P : Program} {w : World} {A : Around} {E : Value → Shared → Prop} {s : Shared}
theorem elem_int {es : List (Int × Value)} (h : ElemsOf (intKind P w) es) {e : Int × Value} (he : e ∈ es) : ∃ t, e.2 = .int (intV e.2) t := by
  obtain ⟨⟨k, hk, _⟩, _⟩ := h e he
  obtain ⟨t, q⟩ := Value.isInt_shape (k := k) (v := e.2) hk
  rw [q]
  exact ⟨t, rfl⟩
theorem SI.size {h : Heap} {a : Addr} {ks : List Int} (hS : SI P w h a ks) : ks.length < scanBound := by
  obtain ⟨o, es, t, _, so, rfl⟩ := hS
  unfold ksOf
  rw [List.length_map, Array.length_toList]
  exact so.bd
theorem SI.same {h h' : Heap} {a : Addr} {ks : List Int} (hS : SI P w h a ks) (k : ∀ o, h.get? a = some o → h'.get? a = some o) : SI P w h' a ks := by
  obtain ⟨o, es, t, g, r⟩ := hS
  exact ⟨o, es, t, k o g, r⟩
theorem stored {a : Addr} {o : Obj} {es es' : Ents} {t t' : SetTable} (g : s.heap.get? a = some o) (so : SObj P w o es t) (el : ElemsOf (intKind P w) es'.toList) (bd : es'.size < scanBound) (ft : t'.fits es'.size = true) (ok : TOk (w.params.followText "set-order") t') (nd : (ksOf es').Nodup) :
    ∃ o', (s.heap.update a (Obj.putSet es' t')).get? a = some o' ∧ SObj P w o' es' t' := by
  obtain ⟨ep, hd⟩ := so.dt
  have e := putSet_of es' t' hd
  have q := Heap.get?_update_self (Obj.putSet es' t') g (by rw [e]; rfl)
  rw [e] at q
  exact ⟨_, q, so.ex, ⟨_, rfl⟩, el, bd, ft, ok, nd⟩
theorem put_wp {a : Addr} {o : Obj} {es es' : Ents} {t t' : SetTable} {Q : Unit → Shared → Prop} (g : s.heap.get? a = some o) (so : SObj P w o es t) (bd : es'.size < scanBound) (h : Q () { s with heap := s.heap.update a (Obj.putSet es' t') }) : wpAny (model P w) A (storeSet a es' t') Q E s := by
  obtain ⟨ep, hd⟩ := so.dt
  exact wpAny_storeSet_of g hd h (fits_of_scanBound bd)
theorem set_add {a : Addr} {k : Int} {tok : Tok} {ks : List Int} {Q : Bool → Shared → Prop} (hS : SI P w s.heap a ks) (room : ks.length + 1 < scanBound)
    (h : ∀ h' ks' b, Heap.SameBut a s.heap h' → SI P w h' a ks' → (∀ z, z ∈ ks' ↔ z ∈ ks ∨ z = k) → ks'.length ≤ ks.length + 1 → Q b { s with heap := h' }) :
    wpAny (model P w) A (setAddHashed a (.int k tok) ((intKind P w).hash k)) Q E s := by
  obtain ⟨o, es, t, g, so, rfl⟩ := hS
  obtain ⟨ep, hd⟩ := so.dt
  have len : (ksOf es).length = es.size := by unfold ksOf; rw [List.length_map, Array.length_toList]
  have key : (intKind P w).is k (.int k tok) = true := intKind_is _ _ _ _
  have gv : ∀ (b : Bool) {s₁ : Shared} {Q' : Unit → Shared → Prop}, Q' () s₁ → wpAny (model P w) A (match b with | true => rule "set.scan.the-table-gave-way" | false => pure ()) Q' E s₁ :=
    fun b s₁ Q' hq => match b with | false => wpAny_pure hq | true => wpAny_rule hq
  unfold setAddHashed setAddHashedIn
  refine wpAny_holding (wpAny_bind (wpAny_setState_of g hd so.ft ?_)); dsimp only
  rw [byScan_of (knd := intKind P w) (x := .int k tok) rfl so.bd so.el]; simp only [↓reduceIte]; unfold setAddByScan
  refine wpAny_bind (wpAny_bind (wpAny_rule (wpAny_bind (wpAny_setScan_of key g hd so.ft so.el ?_))))
  cases hr : List.findIdx? (fun e => (intKind P w).is k e.2) es.toList with
  | some j =>
    obtain ⟨hj, hpj, _⟩ := List.findIdx?_eq_some_iff_getElem.mp hr
    have hin : k ∈ ksOf es := by
      obtain ⟨t', q⟩ := Value.isInt_shape (k := k) hpj
      exact List.mem_map.mpr ⟨es.toList[j], List.getElem_mem hj, by rw [q]; rfl⟩
    refine wpAny_pure (wpAny_pure ?_)
    exact h s.heap (ksOf es) false (Heap.SameBut.refl a s.heap) ⟨o, es, t, g, so, rfl⟩ (fun z => ⟨.inl, fun q => q.elim id fun e => e ▸ hin⟩) (Nat.le_succ _)
  | none =>
    have hno : k ∉ ksOf es := fun hm => by
      obtain ⟨e, he, q⟩ := List.mem_map.mp hm
      obtain ⟨t', q'⟩ := elem_int so.el he
      have := List.findIdx?_eq_none_iff.mp hr e he
      rw [q', q] at this
      exact absurd (intKind_is P w k t') (by rw [this]; exact Bool.false_ne_true)
    have pm := layNew_perm t es ((intKind P w).hash k) (.int k tok)
    have ft := layNew_fits t es ((intKind P w).hash k) (.int k tok)
    have tk := so.ok.new es ((intKind P w).hash k) (.int k tok)
    dsimp only
    generalize layNew t es ((intKind P w).hash k) (.int k tok) = L at pm ft tk ⊢
    obtain ⟨e1, t1, wd, gave⟩ := L; dsimp only at pm ft tk ⊢; rw [Array.toList_push] at pm
    have el1 : ElemsOf (intKind P w) e1.toList := (so.el.push key rfl).perm pm
    have pk : (ksOf e1).Perm (ksOf es ++ [k]) := by
      have := pm.map fun e : Int × Value => intV e.2
      rw [List.map_append] at this
      exact this
    have sz1 : e1.size = es.size + 1 := by rw [← Array.length_toList, pm.length_eq, List.length_append, Array.length_toList]; rfl
    have bd1 : e1.size < scanBound := by omega
    have nd1 : (ksOf e1).Nodup := pk.nodup_iff.mpr (List.nodup_append.mpr ⟨so.nd, List.nodup_cons.mpr ⟨(fun q => nomatch q), List.nodup_nil⟩, fun x hx y hy e => hno (by rw [List.mem_singleton.mp hy] at e; rw [← e]; exact hx)⟩)
    have mem1 : ∀ z, z ∈ ksOf e1 ↔ z ∈ ksOf es ∨ z = k := fun z => by rw [pk.mem_iff, List.mem_append, List.mem_singleton]
    have fin : ∀ (t2 : SetTable), t2.fits e1.size = true → TOk (w.params.followText "set-order") t2 → wpAny (model P w) A (do
          storeSet a e1 t2
          if (!wd && t2.tooFull) = true then do
              (match (relayAll t2 e1 (SetTable.grown e1.size)).2.2 with | true => rule "set.scan.the-table-gave-way" | false => pure ())
              storeSet a (relayAll t2 e1 (SetTable.grown e1.size)).1 (relayAll t2 e1 (SetTable.grown e1.size)).2.1
              pure (some true)
            else pure (some true)) (fun r s' => ∃ h' ks', s' = { s with heap := h' } ∧ r = some true ∧ Heap.SameBut a s.heap h' ∧ SI P w h' a ks' ∧ (∀ z, z ∈ ks' ↔ z ∈ ksOf es ∨ z = k) ∧ ks'.length ≤ (ksOf es).length + 1) E s := fun t2 ft2 tk2 => by
      obtain ⟨o1, g1, so1⟩ := stored (s := s) g so el1 bd1 ft2 tk2 nd1
      refine wpAny_bind (put_wp g so bd1 ?_)
      have sb1 := Heap.SameBut.update s.heap a (Obj.putSet e1 t2)
      have ln1 : (ksOf e1).length ≤ (ksOf es).length + 1 := by rw [pk.length_eq, List.length_append]; exact Nat.le_refl _
      split
      · have pm2 := relayAll_perm t2 e1 (SetTable.grown e1.size)
        have ft3 := relayAll_fits t2 e1 (SetTable.grown e1.size)
        have tk3 := tk2.re e1 (SetTable.grown e1.size)
        generalize relayAll t2 e1 (SetTable.grown e1.size) = L at pm2 ft3 tk3 ⊢
        obtain ⟨e2, t3, gave2⟩ := L; dsimp only at pm2 ft3 tk3 ⊢
        have pk2 : (ksOf e2).Perm (ksOf e1) := pm2.map _
        have sz2 : e2.size = e1.size := by rw [← Array.length_toList, pm2.length_eq, Array.length_toList]
        have bd2 : e2.size < scanBound := by omega
        obtain ⟨o2, g2, so2⟩ := stored (s := { s with heap := s.heap.update a (Obj.putSet e1 t2) }) g1 so1 (el1.perm pm2) bd2 ft3 tk3 (pk2.nodup_iff.mpr nd1)
        refine wpAny_bind (gv _ (wpAny_bind (put_wp (s := { s with heap := s.heap.update a (Obj.putSet e1 t2) }) g1 so1 bd2 (wpAny_pure ?_))))
        exact ⟨_, _, rfl, rfl, sb1.trans (Heap.SameBut.update _ a _), ⟨o2, e2, t3, g2, so2, rfl⟩, fun z => (pk2.mem_iff).trans (mem1 z), by rw [pk2.length_eq]; exact ln1⟩
      · exact wpAny_pure ⟨_, _, rfl, rfl, sb1, ⟨o1, e1, t2, g1, so1, rfl⟩, mem1, ln1⟩
    refine wpAny_bind (gv _ ?_)
    split
    · rw [hashByValue_scannable 8 (x := .int k tok) rfl]
      refine wpAny_bind (wpAny_pure ?_)
      rw [show plainKind (Value.int k tok) = true from rfl]; simp only [↓reduceIte]
      exact wpAny_mono (fin t1 ft tk) (fun r s' ⟨h', ks', e1, e2, sb, hs, hm, hl⟩ => by subst e1 e2; exact wpAny_pure (h h' ks' true sb hs hm hl)) fun _ _ q => q
    · refine wpAny_bind (wpAny_pure ?_); simp only [↓reduceIte]
      exact wpAny_mono (fin t1 ft tk) (fun r s' ⟨h', ks', e1, e2, sb, hs, hm, hl⟩ => by subst e1 e2; exact wpAny_pure (h h' ks' true sb hs hm hl)) fun _ _ q => q
end
end DL

namespace DL
open PySem PySem.Spec PyProof.Rows L2 PySem.W
/-! ### set(list of ints) -/
section
variable {P : Program} {w : World} {A : Around} {R : Result → Shared → Prop} {I : Addr} {fp wr : List Addr} {G : Array GenState → Array GenState → Prop} {n : Nat} {Pv : Nat → Value → Prop} {St : Nat → Shared → Prop}
theorem set_loop (W : WalksS P w A.in1 I fp wr G n Pv St) (S : Addr) (hSf : S ∉ fp) (val : Nat → Int) (hval : ∀ i v, Pv i v → ∃ t, v = .int (val i) t) (hb : n + 1 < scanBound) :
    ∀ (k i : Nat) (s : Shared) (ks : List Int), n - i = k → i ≤ n → St i s → SI P w s.heap S ks → ks.length ≤ i → (∀ z, z ∈ ks ↔ ∃ j, j < i ∧ z = val j) →
      (∀ s' ks', Moved (S :: wr) G s s' → SI P w s'.heap S ks' → (∀ z, z ∈ ks' ↔ ∃ j, j < n ∧ z = val j) → ks'.length ≤ n → R (.ok (.ret .none)) s') →
      codeAny (model P w) A (.builtin "set.update.loop" ⟨[.ref S, .ref I], []⟩) R s := by
  have hSw : S ∉ wr := fun h => hSf (W.sub _ h)
  have up : ∀ b, b ∈ wr → b ∈ S :: wr := fun _ h => List.mem_cons_of_mem _ h
  intro k
  induction k with
  | zero =>
    intro i s ks hk hi hst hS hl hm hR
    obtain rfl : i = n := by omega
    refine codeAny_builtin PyProof.Rows.F.entry_set_update_loop ?_; rw [Around.under_plainId PyProof.Rows.F.plain_set_update_loop _]
    refine wpAny_bind (W.done s _ _ hst fun s' mv => wpAny_pure ?_)
    exact hR s' ks (mv.mono up) (hS.same fun o e => mv.heap S o hSw e) hm hl
  | succ k ih =>
    intro i s ks hk hi hst hS hl hm hR
    have hlt : i < n := by omega
    refine codeAny_builtin PyProof.Rows.F.entry_set_update_loop ?_; rw [Around.under_plainId PyProof.Rows.F.plain_set_update_loop _]
    refine wpAny_bind (W.item i s _ _ hlt hst fun v s' hP hst' mv => ?_)
    obtain ⟨t, rfl⟩ := hval i v hP
    have hS' : SI P w s'.heap S ks := hS.same fun o e => mv.heap S o hSw e
    refine wpAny_bind (wpAny_holding ?_); unfold setAdd
    refine wpAny_holding (wpAny_bind ((intKind P w).pyHash (k := val i) (intKind_is _ _ _ _) ?_))
    refine set_add (s := { s' with toks := s'.toks + 1 }) hS' (by omega) fun h' ks' b sb hS2 hm2 hl2 => ?_
    refine wpAny_pure ⟨plainId_quiet PyProof.Rows.F.plain_set_update_loop _, ih (i + 1) _ ks' (by omega) hlt (W.frame _ s' _ _ hst' (Nat.le_succ _) fun b hb o e => ?_) hS2 (by omega) (fun z => ?_) fun s'' ks'' mv'' hS'' hm'' hl'' => ?_⟩
    · exact (sb.2 b fun h : b = S => hSf (by rw [← h]; exact hb)).trans e
    · rw [hm2, hm]
      constructor
      · rintro (⟨j, hj, e⟩ | e)
        · exact ⟨j, by omega, e⟩
        · exact ⟨i, by omega, e⟩
      · rintro ⟨j, hj, e⟩
        by_cases ej : j = i
        · exact .inr (by rw [e, ej])
        · exact .inl ⟨j, by omega, e⟩
    · exact hR s'' ks'' (Moved.trans W.gtrans ((mv.mono up).then_heap (Nat.le_succ _) fun b o hb e => (sb.2 b fun h : b = S => hb (by rw [h]; exact List.mem_cons_self)).trans e) mv'') hS'' hm'' hl''
end
section
variable {P : Program} {w : World} {A : Around} {E : Value → Shared → Prop} {s : Shared}
def emptyS (w : World) : Obj := { cls := .type "set", dict := none, data := .set #[] 0 (.fresh 0 0 (!w.params.followText "set-order")) }
theorem empty_si {h : Heap} {a : Addr} (g : h.get? a = some (emptyS w)) : SI P w h a [] :=
  ⟨_, #[], _, g, ⟨⟨rfl, rfl, rfl⟩, ⟨0, rfl⟩, fun e he => by simp at he, by decide, rfl, ⟨rfl, rfl, fun _ => List.Pairwise.nil⟩, by simp [ksOf]⟩, rfl⟩
theorem new_wp (a : Value) {Q₁ : Value → Shared → Prop} (h : Q₁ (.ref s.heap.objs.size) { s with heap := s.heap.push (emptyS w) }) :
    codeAny (model P w) A (.call (.builtin "set.__new__") ⟨[.type "set", a], []⟩) (wants Q₁ E) s := by
  refine codeAny_of_tree ?_
  refine wpAny_bind (m := checkBuiltinCall "set.__new__" ⟨[.type "set", a], []⟩) (wpAny_of_eq (PySem.F.newCall_set_1 a) (wpAny_pure ⟨plainId_quiet PySem.F.plain_set_new _, codeAny_builtin PySem.F.entry_set_new ?_⟩))
  rw [Around.under_plainId PySem.F.plain_set_new _]; unfold Builtin.«set.__new__» Builtin.Frozenset.newClass
  have hsub := sub_set_self
  obtain ⟨hp, g, d, tk, os⟩ := s; dsimp only; wp_walk
  refine wpAny_askSetting (wpAny_pure ?_); dsimp only; simp only [newObj]
  exact wpAny_bind (wpAny_alloc (wpAny_pure (wpAny_pure h)))
theorem getD_mem {ns : List Int} {n : Nat} (hn : ns.length = n) (z : Int) : (∃ j, j < n ∧ z = ns.getD j 0) ↔ z ∈ ns := by
  subst hn
  constructor
  · rintro ⟨j, hj, rfl⟩
    rw [List.getD_eq_getElem?_getD, List.getElem?_eq_getElem hj]
    exact List.getElem_mem hj
  · intro hz
    obtain ⟨j, hj, e⟩ := List.mem_iff_getElem.mp hz
    exact ⟨j, hj, by rw [List.getD_eq_getElem?_getD, List.getElem?_eq_getElem hj]; exact e.symm⟩
set_option maxHeartbeats 4000000 in
theorem set_list {l : Addr} {items : Array Value} {ns : List Int} {Q : Value → Shared → Prop} (hh : A.handled = none) (hl : s.heap.IsList l items) (hi : IntsAre items.toList ns) (hb : items.size + 1 < scanBound)
    (h : ∀ (h' : Heap) (tk : Nat) (ks : List Int), SI P w h' s.heap.objs.size ks → (∀ z, z ∈ ks ↔ z ∈ ns) → ks.length ≤ ns.length → (∀ b o, b < s.heap.objs.size → s.heap.get? b = some o → h'.get? b = some o) → Q (.ref s.heap.objs.size) { s with heap := h', toks := tk }) :
    wpAny (model P w) A (call (.type "set") [.ref l]) Q E s := by
  obtain ⟨c, tl, hmro⟩ := PySem.F.called_set.mro
  have ln : ns.length = items.size := by rw [← IntsAre.length hi, Array.length_toList]
  have hmade := PySem.F.called_set.made; have hsub := PySem.F.called_set.sub
  refine wpAny_call (codeAny_of_tree ?_); show wpAny _ _ (callAny (.type "set") _) _ _ _
  refine wpAny_pure ⟨Code.quiet_builtin _ (by decide +kernel), codeAny_builtin PySem.F.entry_type_call ?_⟩
  rw [Around.under_plain (weight_type_call_type "set" [.ref l] []) rfl]
  have h1 := PySem.F.called_set.notType; have h2 := PySem.F.called_set.canCreate; have hct := PySem.F.typeCall_set_1 (.ref l)
  repeat (any_goals (first | assumption | wp_step))
  refine codeAny_mono (new_wp (P := P) (w := w) (.ref l) (E := E) (Q₁ := fun obj s₁ => obj = .ref s.heap.objs.size ∧ s₁ = { s with heap := s.heap.push (emptyS w) }) ⟨rfl, rfl⟩) fun r s₁ hr => ?_
  cases r with
  | error e => exact hr
  | ok fl =>
    cases fl with
    | ret obj =>
      obtain ⟨rfl, rfl⟩ := hr
      have hS : (s.heap.push (emptyS w)).get? s.heap.objs.size = some (emptyS w) := Heap.get?_push_size _ rfl
      have hT : Shared.TypeIs { s with heap := s.heap.push (emptyS w) } (.ref s.heap.objs.size) "set" := ⟨_, hS, rfl⟩
      have hli := PySem.F.called_set.init.lookup; have hbi := PySem.F.called_set.init.bind (.ref s.heap.objs.size)
      repeat (any_goals (first | assumption | wp_step))
      refine codeAny_mono (codeAny_call_builtin (R := wants (fun r s₂ => r = .none ∧ ∃ h' tk ks, s₂ = { s with heap := h', toks := tk } ∧ SI P w h' s.heap.objs.size ks ∧ (∀ z, z ∈ ks ↔ z ∈ ns) ∧ ks.length ≤ ns.length ∧ (∀ b o, b < s.heap.objs.size → s.heap.get? b = some o → h'.get? b = some o)) E)
        PySem.F.called_set.init.plain PySem.F.entry_set_init (check_set_init_1 hT ?_)) fun r₂ s₂ hr₂ => ?_
      · obtain ⟨ol, hol, hcl, nl, hdl⟩ := hl
        obtain ⟨ocls, odict, odata, oslots⟩ := ol
        simp only at hcl hdl
        subst hcl; subst hdl
        have hol' : (s.heap.push (emptyS w)).get? l = some { cls := .type "list", dict := odict, data := .seq items nl, slots := oslots } := Heap.get?_push_of_some _ hol
        have hsls := PySem.F.sub_list_set; have hslf := PySem.F.sub_list_frozenset; have hne : (Value.type "list" == Value.type "dict") = false := by decide
        have hl1 : (s.heap.push (emptyS w)).IsList l items := ⟨_, hol', rfl, nl, rfl⟩
        unfold Builtin.«set.__init__» noKeywords Builtin.Frozenset.updateFrom
        generalize hPI : pyIter = PI; wp_walk; subst hPI
        refine wpAny_pyIter_list hl1 (wpAny_bind (wpAny_runValue ?_))
        have lS : l < s.heap.objs.size := Heap.lt_size hol
        have nI : l ≠ (s.heap.push (emptyS w)).objs.size := by rw [Heap.size_push]; exact Nat.ne_of_lt (Nat.lt_succ_of_lt lS)
        have nS : s.heap.objs.size ∉ [(s.heap.push (emptyS w)).objs.size, l] := by
          rw [Heap.size_push]; simp only [List.mem_cons, List.not_mem_nil, or_false, not_or]; exact ⟨Nat.ne_of_lt (Nat.lt_succ_self _), Nat.ne_of_gt lS⟩
        refine set_loop (P := P) (w := w) ((Walks.list (show A.in1.in1.in1.handled = none by simp [hh]) _ l nI items).toS) s.heap.objs.size nS (fun i => ns.getD i 0) (fun i v hv => IntsAre.int_at hi i v (by rw [Array.getElem?_toList]; exact hv)) hb (items.size - 0) 0 _ [] (by omega) (Nat.zero_le _)
          ⟨⟨_, Heap.get?_push_size _ rfl, rfl, rfl⟩, (hl1.push _)⟩ (empty_si (Heap.get?_push_of_some _ hS)) (Nat.le_refl _) (fun z => ⟨fun q => (nomatch q), fun ⟨j, hj, _⟩ => by omega⟩) ?_
        intro s' ks mv hS' hm hlk
        obtain ⟨h', g', d', tk', os'⟩ := s'
        have eg : g' = s.gens := mv.gens
        have ed : d' = s.drawn := mv.drawn
        have eo : os' = s.os := mv.os
        subst eg ed eo
        refine wpAny_pure (wpAny_pure ⟨rfl, h', tk', ks, rfl, hS', fun z => (hm z).trans (getD_mem ln z), by rw [ln]; exact hlk, fun b o hb e => ?_⟩)
        have b2 : b ≠ (s.heap.push (emptyS w)).objs.size := by rw [Heap.size_push]; exact Nat.ne_of_lt (Nat.lt_succ_of_lt hb)
        exact mv.heap b o (by simp only [List.mem_cons, List.not_mem_nil, or_false, not_or]; exact ⟨Nat.ne_of_lt hb, b2⟩) (Heap.get?_push_of_some _ (Heap.get?_push_of_some _ e))
      · cases r₂ with
        | error e => exact hr₂
        | ok fl₂ =>
          cases fl₂ with
          | ret r =>
            obtain ⟨rfl, h', tk, ks, rfl, q1, q2, q3, q4⟩ := hr₂
            repeat (any_goals (first | assumption | wp_step))
            exact h _ _ ks q1 q2 q3 q4
          | _ => exact hr₂.elim
    | _ => exact hr.elim
end
end DL

namespace DL
open PySem PySem.Spec PyProof.Rows L2 PySem.W
/-! ### a walk over a set -/
section
variable {P : Program} {w : World} {A : Around} {E : Value → Shared → Prop} {s : Shared}
theorem choose_wp {src : Source} {n : Nat} {Q : Nat → Shared → Prop} (hn : n ≠ 0) (h : ∀ r, r < n → Q r { s with drawn := s.drawn.bump src }) : wpAny (model P w) A (choose src n) Q E s := fun _ _ _ => ⟨hn, h _ (Nat.mod_lt _ (Nat.pos_of_ne_zero hn))⟩
theorem erase_perm {α : Type} : ∀ (l : List α) (r : Nat) (h : r < l.length), (l[r] :: l.eraseIdx r).Perm l
  | a :: l, 0, _ => .refl _
  | a :: l, r + 1, h => by
    rw [List.getElem_cons_succ, List.eraseIdx_cons_succ]
    exact (List.Perm.swap a _ _).trans ((erase_perm l r (Nat.lt_of_succ_lt_succ h)).cons a)
theorem draw_wp {α : Type} : ∀ (n : Nat) (xs : List α) (s : Shared) (Q : List α → Shared → Prop), xs.length = n → (∀ ys d, ys.Perm xs → Q ys { s with drawn := d }) → wpAny (model P w) A (drawOrder n xs) Q E s
  | 0, xs, s, Q, hl, h => by
    cases xs with
    | nil => exact wpAny_pure (h [] s.drawn (.refl _))
    | cons a l => cases hl
  | n + 1, [], s, Q, hl, h => by cases hl
  | n + 1, a :: l, s, Q, hl, h => by
    unfold drawOrder
    refine wpAny_bind (choose_wp (by simp) fun r hr => ?_)
    rw [List.getElem?_eq_getElem hr]; dsimp only
    refine wpAny_bind (draw_wp n _ _ _ (by rw [List.length_eraseIdx, if_pos hr]; simpa using hl) fun ys d hp => wpAny_pure ?_)
    exact h _ d ((hp.cons _).trans (erase_perm _ _ hr))
theorem pick_go {α : Type} (next : Nat → Nat) : ∀ (fuel k : Nat) (left : List α) (out : Array α), left.length = fuel → (pickOrder.go next fuel k left out).toList.Perm (out.toList ++ left)
  | 0, k, left, out, hl => by
    rw [List.length_eq_zero_iff.mp hl, List.append_nil]
    unfold pickOrder.go
    exact .refl _
  | fuel + 1, k, left, out, hl => by
    have hr : next k % left.length < left.length := Nat.mod_lt _ (by omega)
    unfold pickOrder.go
    rw [List.getElem?_eq_getElem hr]; dsimp only
    refine (pick_go next fuel (k + 1) _ _ (by rw [List.length_eraseIdx, if_pos hr, hl]; rfl)).trans ?_
    rw [Array.toList_push, List.append_assoc]
    exact (List.Perm.refl _).append (erase_perm _ _ hr)
theorem pick_perm {α : Type} (next : Nat → Nat) (xs : Array α) : (pickOrder next xs).toList.Perm xs.toList := by
  unfold pickOrder
  have := pick_go next xs.size 0 xs.toList #[] (by rw [Array.length_toList])
  simpa using this
abbrev IsSetIt (h : Heap) (it : Addr) (first : Value) (i : Nat) (S : Addr) (n ep : Nat) : Prop :=
  h.get? it = some { cls := .type "set_iterator", dict := none, data := .fields #[first, rawInt i, .ref S, rawInt n, rawInt ep], slots := #[] }
/-- which entries come, in which order -/
def Md (w : World) (h : Heap) (first : Value) (i : Nat) (S : Addr) (es : Ents) (ep : Nat) (t : SetTable) (L : List Value) : Prop :=
  (w.params.followText "set-order" = true ∧ first = rawInt 0 ∧ L = (pickOrder (w.params.setOrder S ep) es).toList.map (·.2)) ∨
  (w.params.followText "set-order" = false ∧ ∃ (T : Addr) (ps : List Nat), first = .ref T ∧ IsTup h T (ps.map fun p : Nat => rawInt (p : Int)).toArray ∧ ps.Perm (List.range es.size) ∧ L = ps.map fun p => (es.getD p (0, .none)).2) ∨
  (w.params.followText "set-order" = false ∧ first = rawInt (if i = 0 then 0 else t.place.getD (i - 1) 0 + 1) ∧ Rsg t.place.toList ∧ t.led = true ∧ (t.plain = true ∨ es.size ≤ 1) ∧ L = es.toList.map (·.2))
theorem tail2 {it S : Addr} {first x : Value} {i n ep : Nat} {z : Int} {Q : PySem.Fin → Shared → Prop} (hit : IsSetIt s.heap it first i S n ep) (hQ : ∀ h', IsSetIt h' it (rawInt z) (i + 1) S n ep → Heap.SameBut it s.heap h' → Q (.done (.ret x)) { s with heap := h' }) :
    wpAny (model P w) A (do setField (.ref it) 0 (rawInt z); setField (.ref it) 1 (rawInt ((i : Int) + 1)); ret x) Q E s := by
  refine wpAny_bind (wpAny_setField_rec hit (by simp) fun h1 g1 s1 => ?_)
  refine wpAny_bind (wpAny_setField_rec (s := { s with heap := h1 }) g1 (by simp) fun h2 g2 s2 => wpAny_pure ?_)
  exact hQ h2 g2 (s1.trans s2)
theorem tail1 {it S : Addr} {first x : Value} {i n ep : Nat} {Q : PySem.Fin → Shared → Prop} (hit : IsSetIt s.heap it first i S n ep) (hQ : ∀ h', IsSetIt h' it first (i + 1) S n ep → Heap.SameBut it s.heap h' → Q (.done (.ret x)) { s with heap := h' }) :
    wpAny (model P w) A (do setField (.ref it) 1 (rawInt ((i : Int) + 1)); ret x) Q E s :=
  wpAny_bind (wpAny_setField_rec hit (by simp) fun h1 g1 s1 => wpAny_pure (hQ h1 g1 s1))
theorem walk_wp {S : Addr} {ep : Nat} {o : Obj} {es : Ents} {t : SetTable} {Q : Ents → Shared → Prop} (ho : s.heap.get? S = some o) (hd : o.data = .set es ep t) (hf : t.fits es.size = true) (bt : w.params.followText "set-order" = true) (h : Q (pickOrder (w.params.setOrder S ep) es) s) : wpAny (model P w) A (setWalk S) Q E s := by
  unfold setWalk setsByText
  refine wpAny_bind (wpAny_setState_of ho hd hf ?_); dsimp only
  refine wpAny_bind (wpAny_bind (wpAny_askSetting (wpAny_pure ?_)))
  rw [if_pos (show (model P w).w.params.followText "set-order" = true from bt)]
  exact wpAny_bind (wpAny_askSetting (wpAny_pure h))
theorem below_at {xs : Array Nat} (h : Rsg xs.toList) {i : Nat} (hi : i < xs.size) : SetTable.below xs (if i = 0 then 0 else xs.getD (i - 1) 0 + 1) = i := by
  have sp := below_spl h (if i = 0 then 0 else xs.getD (i - 1) 0 + 1)
  generalize SetTable.below xs (if i = 0 then 0 else xs.getD (i - 1) 0 + 1) = r at sp
  obtain ⟨s1, s2, s3⟩ := sp
  rw [Array.length_toList] at s3
  have at' : ∀ k, k < xs.size → xs.toList[k]? = some (xs.getD k 0) := fun k hk => by rw [Array.getElem?_toList, Array.getElem?_eq_getElem hk]; simp [Array.getD, hk]
  by_cases e : i = 0
  · subst e
    rw [if_pos rfl] at s1
    by_cases hr : r = 0
    · exact hr
    · exact absurd (s1 0 _ (by omega) (at' 0 (by omega))) (Nat.not_lt_zero _)
  · rw [if_neg e] at s1 s2
    have h1 : ¬ r ≤ i - 1 := fun z => by
      have := s2 _ _ z (at' (i - 1) (by omega))
      omega
    have h2 : ¬ i < r := fun z => by
      have a := s1 i _ z (at' i hi)
      have b := h.lt (at' (i - 1) (by omega)) (at' i hi) (by omega)
      omega
    omega
theorem next_wp {it S : Addr} {first : Value} {i n ep : Nat} {o : Obj} {es : Ents} {t : SetTable} {L : List Value} {Q : Fin → Shared → Prop} (hit : IsSetIt s.heap it first i S n ep) (ho : s.heap.get? S = some o) (hd : o.data = .set es ep t) (hf : t.fits es.size = true) (hn : es.size = n)
    (md : Md w s.heap first i S es ep t L) (hi : i < n)
    (hQ : ∀ h' v first', L[i]? = some v → IsSetIt h' it first' (i + 1) S n ep → Heap.SameBut it s.heap h' → (∀ h'', (∀ b o, s.heap.get? b = some o → b ≠ it → h''.get? b = some o) → Md w h'' first' (i + 1) S es ep t L) → (∀ T', first' = .ref T' → first = .ref T') → Q (.done (.ret v)) { s with heap := h' }) :
    wpAny (model P w) A (Builtin.«set_iterator.__next__» ⟨[.ref it], []⟩) Q E s := by
  subst hn
  show wpAny _ _ (fieldsOf (.ref it) >>= _) _ _ _
  refine wpAny_bind (wpAny_fieldsOf hit rfl ?_)
  refine wpAny_bind (wpAny_setEntries_of ho hd hf ?_)
  rw [if_neg (by simp)]; dsimp only
  rcases md with ⟨bt, rfl, rfl⟩ | ⟨bt, T, ps, rfl, hT, hp, rfl⟩ | ⟨bt, rfl, up, led, pl, rfl⟩
  · show wpAny _ _ (setNext S 0 ((i : Int)).toNat ((ep : Int)).toNat >>= _) _ _ _
    rw [Int.toNat_natCast, Int.toNat_natCast]
    unfold setNext setsByText
    refine wpAny_bind (wpAny_bind (wpAny_setState_of ho hd hf ?_)); dsimp only
    refine wpAny_bind (wpAny_bind (wpAny_askSetting (wpAny_pure ?_)))
    rw [if_pos (show (model P w).w.params.followText "set-order" = true from bt), if_neg (by simp)]
    refine wpAny_bind (walk_wp ho hd hf bt (wpAny_pure ?_))
    have lp : (pickOrder (w.params.setOrder S ep) es).size = es.size := by rw [← Array.length_toList, (pick_perm _ es).length_eq, Array.length_toList]
    rw [Array.getElem?_eq_getElem (by rw [lp]; exact hi)]
    refine tail2 (z := ((0 : Nat) : Int)) hit fun h' g sb => hQ h' _ _ ?_ g sb (fun h'' _ => .inl ⟨bt, rfl, rfl⟩) fun T' e => nomatch e
    rw [List.getElem?_map, Array.getElem?_toList, Array.getElem?_eq_getElem (by rw [lp]; exact hi)]
    rfl
  · show wpAny _ _ (seqItems? (.ref T) >>= _) _ _ _
    obtain ⟨oT, gT, cT, nT, dT⟩ := hT
    have lp : ps.length = es.size := by rw [hp.length_eq, List.length_range]
    refine wpAny_bind (wpAny_seqItems gT dT ?_); dsimp only
    have ip : i < ps.length := by omega
    have pe : ps[i] < es.size := List.mem_range.mp (hp.mem_iff.mp (List.getElem_mem ip))
    rw [Int.toNat_natCast, List.getElem?_toArray, List.getElem?_map, List.getElem?_eq_getElem ip]
    show wpAny _ _ (setNextDrawn S ((ps[i] : Int)).toNat ((ep : Int)).toNat >>= _) _ _ _
    rw [Int.toNat_natCast, Int.toNat_natCast]; unfold setNextDrawn
    refine wpAny_bind (wpAny_bind (wpAny_setState_of ho hd hf ?_)); dsimp only
    rw [if_neg (by simp), Array.getElem?_eq_getElem pe]; dsimp only
    refine wpAny_pure (tail1 hit fun h' g sb => hQ h' _ _ ?_ g sb (fun h'' kk => .inr (.inl ⟨bt, T, ps, rfl, ⟨oT, kk T oT gT ?_, cT, nT, dT⟩, hp, rfl⟩)) fun T' e => e)
    · rw [List.getElem?_map, List.getElem?_eq_getElem ip]
      simp [Array.getD, pe]
    · intro e
      rw [e, hit] at gT
      cases gT
      exact absurd (Value.type.inj cT) (by decide)
  · have sz : t.place.size = es.size := by
      unfold SetTable.fits at hf
      rw [Bool.and_eq_true] at hf
      exact eq_of_beq hf.1
    show wpAny _ _ (setNext S ((if i = 0 then (0 : Int) else (t.place.getD (i - 1) 0 : Int) + 1)).toNat ((i : Int)).toNat ((ep : Int)).toNat >>= _) _ _ _
    have ez : (if i = 0 then (0 : Int) else (t.place.getD (i - 1) 0 : Int) + 1).toNat = (if i = 0 then 0 else t.place.getD (i - 1) 0 + 1) := by split <;> omega
    rw [ez, Int.toNat_natCast, Int.toNat_natCast]
    unfold setNext setsByText
    refine wpAny_bind (wpAny_bind (wpAny_setState_of ho hd hf ?_)); dsimp only
    refine wpAny_bind (wpAny_bind (wpAny_askSetting (wpAny_pure ?_)))
    rw [if_neg (show ¬ (model P w).w.params.followText "set-order" = true by rw [show (model P w).w.params.followText "set-order" = false from bt]; exact Bool.false_ne_true)]
    have nd : (!t.plain && decide (es.size > 1)) = false := by
      rcases pl with pl | pl
      · rw [pl]; rfl
      · rw [decide_eq_false (by omega), Bool.and_false]
    show wpAny _ _ (if (!t.plain && decide (es.size > 1)) = true then _ else _) _ _ _
    rw [nd, if_neg Bool.false_ne_true]
    show wpAny _ _ ((if (!t.led && !es.isEmpty) = true then unsupported "set:maker-not-led" else pure ()) >>= _) _ _ _
    rw [led]; simp only [Bool.not_true, Bool.false_and, Bool.false_eq_true, if_false]
    refine wpAny_bind (wpAny_pure (wpAny_pure ?_))
    rw [below_at up (by rw [sz]; exact hi), Array.getElem?_eq_getElem hi, Array.getElem?_eq_getElem (by rw [sz]; exact hi)]; dsimp only
    refine tail2 (z := ((t.place[i]'(by rw [sz]; exact hi) + 1 : Nat) : Int)) hit fun h' g sb => hQ h' _ _ ?_ g sb (fun h'' _ => .inr (.inr ⟨bt, ?_, up, led, pl, rfl⟩)) fun T' e => nomatch e
    · rw [List.getElem?_map, Array.getElem?_toList, Array.getElem?_eq_getElem hi]
      rfl
    · rw [if_neg (Nat.succ_ne_zero i)]
      simp [Array.getD, sz, hi]
end
end DL

namespace DL
open PySem PySem.Spec PyProof.Rows L2 PySem.W
/-! ### a walk over a set: from its start to its end -/
theorem slot_sit : Slot "set_iterator" "__next__" "set_iterator.__next__" := .of (owner := "set_iterator") (n := "__next__") (by rw [typeLookup_type, builtinLookup_eq_fast]; kernel_rfl) (by decide +kernel) (by decide +kernel) (by decide +kernel) (by first | exact .inl (by decide +kernel) | exact .inr (by decide +kernel)) (by rw [isSubtype_type]; kernel_rfl)
theorem entry_sit : entryFor table "set_iterator.__next__" = some Builtin.«set_iterator.__next__» := entryFor_of_tree (by kernel_rfl)
theorem args_sit (a : Value) : argsOk "set_iterator.__next__" ⟨[a], []⟩ := by unfold argsOk; kernel_rfl
theorem slot_siit : Slot "set_iterator" "__iter__" "set_iterator.__iter__" := .of (owner := "set_iterator") (n := "__iter__") (by rw [typeLookup_type, builtinLookup_eq_fast]; kernel_rfl) (by decide +kernel) (by decide +kernel) (by decide +kernel) (by first | exact .inl (by decide +kernel) | exact .inr (by decide +kernel)) (by rw [isSubtype_type]; kernel_rfl)
theorem entry_siit : entryFor table "set_iterator.__iter__" = some Builtin.«dict_keyiterator.__iter__» :=
  entryFor_alias (id' := "dict_keyiterator.__iter__") (by kernel_rfl) (by first | rfl | decide +kernel | (unfold String.splitOn; simp +decide [String.splitOnAux])) (by decide +kernel) (by kernel_rfl)
theorem args_siit (a : Value) : argsOk "set_iterator.__iter__" ⟨[a], []⟩ := by unfold argsOk; kernel_rfl
theorem entry_siter : entryFor table "set.__iter__" = some Builtin.«frozenset.__iter__» :=
  entryFor_alias (id' := "frozenset.__iter__") (by kernel_rfl) (by first | rfl | decide +kernel | (unfold String.splitOn; simp +decide [String.splitOnAux])) (by decide +kernel) (by kernel_rfl)
section
variable {P : Program} {w : World} {A : Around} {E : Value → Shared → Prop} {s : Shared}
theorem stop_wp {α : Type} {Q : α → Shared → Prop} (hh : A.handled = none) (hE : ∀ h' e, (∀ b o, s.heap.get? b = some o → h'.get? b = some o) → (∃ o, h'.get? e = some o ∧ o.cls = .type "StopIteration") → E (.ref e) { s with heap := h' }) :
    wpAny (model P w) A (newExc (.type "StopIteration") [] >>= fun e => (raiseNew e : Sem α)) Q E s := by
  refine wpAny_bind ?_
  simp only [newExc, newTuple]
  refine wpAny_bind (wpAny_newObj_type ?_ (by size_fits))
  refine wpAny_bind (m := firstArgMember _ _) (wpAny_of_eq (a := Value.none) (by first | rfl | (simp only [firstArgMember]; rfl)) ?_)
  refine wpAny_newObj_type ?_ (by size_fits)
  simp only [raiseNew]
  refine wpAny_bind (wpAny_handled ?_)
  rw [hh]
  refine wpAny_bind (wpAny_pure (wpAny_throw ?_))
  exact hE _ _ (fun b o q => Heap.get?_push_of_some _ (Heap.get?_push_of_some _ q)) ⟨_, Heap.get?_push_size _ rfl, rfl⟩
theorem end_wp {it S : Addr} {first : Value} {n ep : Nat} {o : Obj} {es : Ents} {t : SetTable} {L : List Value} {Q : PySem.Fin → Shared → Prop} (hh : A.handled = none) (hit : IsSetIt s.heap it first n S n ep) (ho : s.heap.get? S = some o) (hd : o.data = .set es ep t) (hf : t.fits es.size = true) (hn : es.size = n)
    (md : Md w s.heap first n S es ep t L) (hE : ∀ h' e, (∀ b o, b ≠ it → s.heap.get? b = some o → h'.get? b = some o) → (∃ o, h'.get? e = some o ∧ o.cls = .type "StopIteration") → E (.ref e) { s with heap := h' }) :
    wpAny (model P w) A (Builtin.«set_iterator.__next__» ⟨[.ref it], []⟩) Q E s := by
  subst hn
  have fin : wpAny (model P w) A (do setField (.ref it) 2 .none; raiseNew (← newExc (.type "StopIteration") []) : Sem PySem.Fin) Q E s :=
    wpAny_bind (wpAny_setField_rec hit (by simp) fun h1 g1 s1 => stop_wp (s := { s with heap := h1 }) hh fun h' e k x => hE h' e (fun b o hb q => k b o ((s1.2 b hb).trans q)) x)
  show wpAny _ _ (fieldsOf (.ref it) >>= _) _ _ _
  refine wpAny_bind (wpAny_fieldsOf hit rfl (wpAny_bind (wpAny_setEntries_of ho hd hf ?_)))
  rw [if_neg (by simp)]; dsimp only
  rcases md with ⟨bt, rfl, rfl⟩ | ⟨bt, T, ps, rfl, hT, hp, rfl⟩ | ⟨bt, rfl, up, led, pl, rfl⟩
  · show wpAny _ _ (setNext S 0 ((es.size : Int)).toNat ((ep : Int)).toNat >>= _) _ _ _
    rw [Int.toNat_natCast, Int.toNat_natCast]; unfold setNext setsByText
    refine wpAny_bind (wpAny_bind (wpAny_setState_of ho hd hf (wpAny_bind (wpAny_bind (wpAny_askSetting (wpAny_pure ?_))))))
    rw [if_pos (show (model P w).w.params.followText "set-order" = true from bt), if_neg (by simp)]
    refine wpAny_bind (walk_wp ho hd hf bt (wpAny_pure ?_))
    have lp : (pickOrder (w.params.setOrder S ep) es).size = es.size := by rw [← Array.length_toList, (pick_perm _ es).length_eq, Array.length_toList]
    rw [Array.getElem?_eq_none (by rw [lp]; exact Nat.le_refl _)]
    exact fin
  · show wpAny _ _ (seqItems? (.ref T) >>= _) _ _ _
    obtain ⟨oT, gT, cT, nT, dT⟩ := hT
    have lp : ps.length = es.size := by rw [hp.length_eq, List.length_range]
    refine wpAny_bind (wpAny_seqItems gT dT ?_); dsimp only
    rw [Int.toNat_natCast, List.getElem?_toArray, List.getElem?_map, List.getElem?_eq_none (by omega)]; dsimp only [Option.map_none]
    refine wpAny_bind (wpAny_setField_rec hit (by simp) fun h0 g0 s0 => ?_)
    exact wpAny_bind (wpAny_setField_rec (s := { s with heap := h0 }) g0 (by simp) fun h1 g1 s1 => stop_wp (s := { s with heap := h1 }) hh fun h' e k x => hE h' e (fun b o hb q => k b o ((s1.2 b hb).trans ((s0.2 b hb).trans q))) x)
  · have sz : t.place.size = es.size := by
      unfold SetTable.fits at hf
      rw [Bool.and_eq_true] at hf
      exact eq_of_beq hf.1
    show wpAny _ _ (setNext S ((if es.size = 0 then (0 : Int) else (t.place.getD (es.size - 1) 0 : Int) + 1)).toNat ((es.size : Int)).toNat ((ep : Int)).toNat >>= _) _ _ _
    rw [Int.toNat_natCast, Int.toNat_natCast]; unfold setNext setsByText
    refine wpAny_bind (wpAny_bind (wpAny_setState_of ho hd hf (wpAny_bind (wpAny_bind (wpAny_askSetting (wpAny_pure ?_))))))
    rw [if_neg (show ¬ (model P w).w.params.followText "set-order" = true by rw [show (model P w).w.params.followText "set-order" = false from bt]; exact Bool.false_ne_true)]
    have nd : (!t.plain && decide (es.size > 1)) = false := by
      rcases pl with pl | pl
      · rw [pl]; rfl
      · rw [decide_eq_false (by omega), Bool.and_false]
    show wpAny _ _ (if (!t.plain && decide (es.size > 1)) = true then _ else _) _ _ _
    rw [nd, if_neg Bool.false_ne_true]
    show wpAny _ _ ((if (!t.led && !es.isEmpty) = true then unsupported "set:maker-not-led" else pure ()) >>= _) _ _ _
    rw [led]; simp only [Bool.not_true, Bool.false_and, Bool.false_eq_true, if_false]
    refine wpAny_bind (wpAny_pure (wpAny_pure ?_))
    have bl : SetTable.below t.place ((if es.size = 0 then (0 : Int) else (t.place.getD (es.size - 1) 0 : Int) + 1)).toNat = es.size := by
      obtain ⟨s1, s2, s3⟩ := below_spl up ((if es.size = 0 then (0 : Int) else (t.place.getD (es.size - 1) 0 : Int) + 1)).toNat
      rw [Array.length_toList, sz] at s3
      by_cases e : es.size = 0
      · omega
      · rw [if_neg e] at s1 s2 s3 ⊢
        by_cases hr : SetTable.below t.place ((t.place.getD (es.size - 1) 0 : Int) + 1).toNat ≤ es.size - 1
        · have := s2 _ _ hr (show t.place.toList[es.size - 1]? = some (t.place.getD (es.size - 1) 0) by rw [Array.getElem?_toList, Array.getElem?_eq_getElem (by omega)]; simp [Array.getD, sz]; omega)
          omega
        · omega
    rw [bl, Array.getElem?_eq_none (Nat.le_refl _)]
    exact fin
/-- the walk's state -/
def SetSt (w : World) (it S T : Addr) (es : Ents) (ep : Nat) (t : SetTable) (L : List Value) (i : Nat) (h : Heap) : Prop :=
  ∃ first o, IsSetIt h it first i S es.size ep ∧ h.get? S = some o ∧ o.data = .set es ep t ∧ t.fits es.size = true ∧ Md w h first i S es ep t L ∧ ∀ T', first = .ref T' → T' = T
theorem Md.keep {h h' : Heap} {first : Value} {i : Nat} {S : Addr} {es : Ents} {ep : Nat} {t : SetTable} {L : List Value} (md : Md w h first i S es ep t L) (k : ∀ T, first = .ref T → ∀ o, h.get? T = some o → h'.get? T = some o) : Md w h' first i S es ep t L := by
  rcases md with md | ⟨bt, T, ps, e, ⟨o, g, r⟩, r'⟩ | md
  · exact .inl md
  · exact .inr (.inl ⟨bt, T, ps, e, ⟨o, k T e o g, r⟩, r'⟩)
  · exact .inr (.inr md)
theorem sit_walks {es : Ents} {ep : Nat} {t : SetTable} {L : List Value} (hh : A.handled = none) (it S T : Addr) (hS : S ≠ it) (hT : T ≠ it) : Walks P w A it [it, S, T] [it] es.size (fun i v => L[i]? = some v) (SetSt w it S T es ep t L) where
  sub := fun b hb => by simp at hb; simp [hb]
  frame := fun i h h' st hk => by
    obtain ⟨first, o, g1, g2, d, f, md, hf⟩ := st
    exact ⟨first, o, hk it (by simp) _ g1, hk S (by simp) _ g2, d, f, md.keep fun T' e o q => hk T' (by rw [hf T' e]; simp) o q, hf⟩
  item := fun i s Q E hi st hQ => by
    obtain ⟨first, o, g1, g2, d, f, md, hf⟩ := st
    have hTy : s.TypeIs (.ref it) "set_iterator" := ⟨_, g1, rfl⟩
    unfold pyNext
    refine wpAny_bind (wpAny_attempt (wpAny_callSpecial?_slot (name := Str.ofString "__next__") hTy slot_sit (wpAny_call_entry slot_sit hTy entry_sit (next_wp g1 g2 d f rfl md hi fun h' v first' hv g' sb mk fr => ⟨v, rfl, wpAny_pure ?_⟩) (args_sit _))))
    exact hQ v h' s.toks hv ⟨first', o, g', (sb.2 S hS).trans g2, d, f, mk h' fun b o q hb => (sb.2 b hb).trans q, fun T' e => hf T' (fr T' e)⟩ fun b o hb q => (sb.2 b fun e => hb (by simp [e])).trans q
  done := fun s Q E st hQ => by
    obtain ⟨first, o, g1, g2, d, f, md, hf⟩ := st
    have hTy : s.TypeIs (.ref it) "set_iterator" := ⟨_, g1, rfl⟩
    unfold pyNext
    refine wpAny_bind (wpAny_attempt (wpAny_callSpecial?_slot (name := Str.ofString "__next__") hTy slot_sit (wpAny_call_entry slot_sit hTy entry_sit (end_wp (by first | exact hh | simp [hh]) g1 g2 d f rfl md fun h' e k x => ?_) (args_sit _))))
    obtain ⟨oe, ge, ce⟩ := x
    refine wpAny_bind (wpAny_isInstance (T := "StopIteration") (b := true) ⟨oe, ge, ce⟩ isSubtype_stop (wpAny_pure ?_))
    exact hQ h' s.toks fun b o hb q => k b o (fun e => hb (by simp [e])) q
  self := fun i s Q E st hQ => by
    obtain ⟨first, o, g1, _⟩ := st
    have hTy : s.TypeIs (.ref it) "set_iterator" := ⟨_, g1, rfl⟩
    refine wpAny_pyIter_slot hTy slot_siit (wpAny_call_entry slot_siit hTy entry_siit ?_ (args_siit _))
    exact wpAny_pure ⟨_, rfl, "set_iterator", _, hTy, slot_sit.lookup, hQ⟩
theorem iter_wp {S : Addr} {ks : List Int} {Q : Value → Shared → Prop} (hS : SI P w s.heap S ks)
    (hQ : ∀ it T es ep t L h' d, SetSt w it S T es ep t L 0 h' → S ≠ it → T ≠ it → s.heap.objs.size ≤ it → (T = S ∨ s.heap.objs.size ≤ T) → (L.map intV).Perm ks → (∀ v ∈ L, ∃ t, v = .int (intV v) t) → es.size = ks.length → (∀ b o, s.heap.get? b = some o → h'.get? b = some o) → Q (.ref it) { s with heap := h', drawn := d }) :
    wpAny (model P w) A (pyIter (.ref S)) Q E s := by
  obtain ⟨o, es, t, g, so, rfl⟩ := hS
  obtain ⟨ep, hd⟩ := so.dt
  have hTy : s.TypeIs (.ref S) "set" := ⟨o, g, so.ex.1⟩
  have all : ∀ v ∈ es.toList.map (·.2), ∃ t, v = .int (intV v) t := fun v hv => by
    obtain ⟨e, he, rfl⟩ := List.mem_map.mp hv
    exact elem_int so.el he
  have len : es.size = (ksOf es).length := by unfold ksOf; rw [List.length_map, Array.length_toList]
  have lt : S < s.heap.objs.size := Heap.lt_size g
  refine wpAny_pyIter_slot hTy PySem.F.slot_set_iter (wpAny_call_entry PySem.F.slot_set_iter hTy entry_siter ?_ (PySem.F.args_set_iter_1 _))
  show wpAny _ _ (Builtin.Frozenset.sizeOf S >>= _) _ _ _
  unfold Builtin.Frozenset.sizeOf
  refine wpAny_bind (wpAny_bind (wpAny_setEntries_of g hd so.ft (wpAny_pure ?_)))
  unfold setDrawn setsByText
  refine wpAny_bind (wpAny_bind (wpAny_setState_of g hd so.ft ?_)); dsimp only
  refine wpAny_bind (wpAny_bind (wpAny_askSetting (wpAny_pure (wpAny_pure ?_))))
  have fin : ∀ (first : Value) (s₁ : Shared), s₁.heap.get? S = some o → wpAny (model P w) A.in1 (do
        let e ← setEpoch S
        let it ← newFields "set_iterator" [first, rawInt 0, Value.ref S, rawInt (es.size : Int), rawInt (e : Int)]
        ret it) (fun fin s' => ∃ v, fin = PySem.Fin.done (Flow.ret v) ∧ v = .ref s₁.heap.objs.size ∧ s' = { s₁ with heap := s₁.heap.push { cls := .type "set_iterator", dict := none, data := .fields #[first, rawInt 0, .ref S, rawInt es.size, rawInt ep], slots := #[] } }) E s₁ := fun first s₁ g₁ => by
    refine wpAny_bind (wpAny_setEpoch_of g₁ hd so.ft ?_)
    unfold newFields
    refine wpAny_bind (wpAny_newObj_type ?_ (by size_fits))
    exact wpAny_pure ⟨_, rfl, rfl, rfl⟩
  have nx : ∀ (s' : Shared) (it : Addr) (first : Value), s'.heap.get? it = some { cls := .type "set_iterator", dict := none, data := .fields #[first, rawInt 0, .ref S, rawInt es.size, rawInt ep], slots := #[] } → s'.TypeIs (.ref it) "set_iterator" := fun _ _ _ q => ⟨_, q, rfl⟩
  show wpAny _ _ (if (!w.params.followText "set-order" && (!t.plain && decide (es.size > 1))) = true then _ else _) _ _ _
  cases bt : w.params.followText "set-order" with
  | true =>
    simp only [Bool.not_true, Bool.false_and, Bool.false_eq_true, if_false]
    refine wpAny_bind (wpAny_pure (wpAny_mono (fin (rawInt 0) s g) (fun r s' ⟨v, e1, e2, e3⟩ => ?_) fun _ _ q => q))
    subst e1 e2 e3
    have gi : (s.heap.push { cls := .type "set_iterator", dict := none, data := .fields #[rawInt 0, rawInt 0, .ref S, rawInt es.size, rawInt ep], slots := #[] }).get? s.heap.objs.size = some _ := Heap.get?_push_size _ rfl
    refine ⟨_, rfl, "set_iterator", _, nx _ _ _ gi, slot_sit.lookup, hQ _ S es ep t _ _ s.drawn ⟨_, o, gi, Heap.get?_push_of_some _ g, hd, so.ft, .inl ⟨bt, rfl, rfl⟩, fun T' e => nomatch e⟩ (Nat.ne_of_lt lt) (Nat.ne_of_lt lt) (Nat.le_refl _) (.inl rfl) ?_ ?_ len fun b o q => Heap.get?_push_of_some _ q⟩
    · rw [List.map_map]
      exact (pick_perm _ es).map _
    · intro v hv
      exact all v (((pick_perm _ es).map _).mem_iff.mp hv)
  | false =>
    cases dr : (!t.plain && decide (es.size > 1)) with
    | false =>
      simp only [Bool.not_false, Bool.true_and, Bool.false_eq_true, if_false]
      refine wpAny_bind (wpAny_pure (wpAny_mono (fin (rawInt 0) s g) (fun r s' ⟨v, e1, e2, e3⟩ => ?_) fun _ _ q => q))
      subst e1 e2 e3
      have gi : (s.heap.push { cls := .type "set_iterator", dict := none, data := .fields #[rawInt 0, rawInt 0, .ref S, rawInt es.size, rawInt ep], slots := #[] }).get? s.heap.objs.size = some _ := Heap.get?_push_size _ rfl
      have pl : t.plain = true ∨ es.size ≤ 1 := by
        cases hp : t.plain with
        | true => exact .inl rfl
        | false =>
          rw [hp] at dr
          have := of_decide_eq_false (show decide (es.size > 1) = false from dr)
          exact .inr (by omega)
      have up : Rsg t.place.toList := by
        rcases pl with pl | pl
        · exact so.ok.up pl
        · have sz : t.place.toList.length ≤ 1 := by
            have hf := so.ft
            unfold SetTable.fits at hf
            rw [Bool.and_eq_true] at hf
            rw [Array.length_toList, eq_of_beq hf.1]
            exact pl
          match t.place.toList, sz with
          | [], _ => exact List.Pairwise.nil
          | [a], _ => exact List.pairwise_singleton _ _
      refine ⟨_, rfl, "set_iterator", _, nx _ _ _ gi, slot_sit.lookup, hQ _ S es ep t _ _ s.drawn ⟨_, o, gi, Heap.get?_push_of_some _ g, hd, so.ft, .inr (.inr ⟨bt, rfl, up, by rw [so.ok.led, bt]; rfl, pl, rfl⟩), fun T' e => nomatch e⟩ (Nat.ne_of_lt lt) (Nat.ne_of_lt lt) (Nat.le_refl _) (.inl rfl) ?_ all len fun b o q => Heap.get?_push_of_some _ q⟩
      rw [List.map_map]
      exact .refl _
    | true =>
      simp only [Bool.not_false, Bool.true_and, if_true]
      refine wpAny_bind (draw_wp _ _ _ _ List.length_range fun ps d hp => ?_)
      have lp : ps.length = es.size := by rw [hp.length_eq, List.length_range]
      refine wpAny_bind (wpAny_newTuple ?_ (by rw [List.length_map, lp]; exact fits_of_scanBound so.bd))
      refine wpAny_mono (fin (.ref s.heap.objs.size) _ (Heap.get?_push_of_some _ g)) (fun r s' ⟨v, e1, e2, e3⟩ => ?_) fun _ _ q => q
      subst e1 e2 e3
      have sz : (s.heap.push { cls := .type "tuple", data := .seq (ps.map fun p : Nat => rawInt (p : Int)).toArray }).objs.size = s.heap.objs.size + 1 := Heap.size_push ..
      have gT : (s.heap.push { cls := .type "tuple", data := .seq (ps.map fun p : Nat => rawInt (p : Int)).toArray }).get? s.heap.objs.size = some _ := Heap.get?_push_size _ rfl
      have gi : ((s.heap.push { cls := .type "tuple", data := .seq (ps.map fun p : Nat => rawInt (p : Int)).toArray }).push { cls := .type "set_iterator", dict := none, data := .fields #[.ref s.heap.objs.size, rawInt 0, .ref S, rawInt es.size, rawInt ep], slots := #[] }).get? (s.heap.push { cls := .type "tuple", data := .seq (ps.map fun p : Nat => rawInt (p : Int)).toArray }).objs.size = some _ := Heap.get?_push_size _ rfl
      have pm : (ps.map fun p => (es.getD p (0, Value.none)).2).Perm (es.toList.map (·.2)) := by
        refine (hp.map _).trans (.of_eq ?_)
        refine List.ext_getElem (by simp) fun i h1 h2 => ?_
        have hi : i < es.size := by simpa using h1
        simp [Array.getD, hi]
      refine ⟨_, rfl, "set_iterator", _, nx _ _ _ gi, slot_sit.lookup, hQ _ s.heap.objs.size es ep t _ _ d ⟨_, o, gi, Heap.get?_push_of_some _ (Heap.get?_push_of_some _ g), hd, so.ft, .inr (.inl ⟨bt, s.heap.objs.size, ps, rfl, ⟨_, Heap.get?_push_of_some _ gT, rfl, _, rfl⟩, hp, rfl⟩), fun T' e => by cases e; rfl⟩ ?_ ?_ ?_ (.inr (Nat.le_refl _)) ?_ ?_ len fun b o q => Heap.get?_push_of_some _ (Heap.get?_push_of_some _ q)⟩
      · intro e
        rw [sz] at e
        exact absurd e (Nat.ne_of_lt (Nat.lt_succ_of_lt lt))
      · intro e
        rw [sz] at e
        exact absurd e (Nat.ne_of_lt (Nat.lt_succ_self _))
      · rw [sz]
        exact Nat.le_succ _
      · have := pm.map intV
        rw [List.map_map (f := fun x : Int × Value => x.2)] at this
        exact this
      · intro v hv
        exact all v (pm.mem_iff.mp hv)
end
end DL

namespace DL
open PySem PySem.Spec PyProof.Rows L2 PySem.W
/-! ### sorted(set(list of ints)) -/
theorem set_len : Slot "set" "__len__" "set.__len__" := .of (owner := "set") (n := "__len__") (by rw [typeLookup_type, builtinLookup_eq_fast]; kernel_rfl) (by decide +kernel) (by decide +kernel) (by decide +kernel) (by first | exact .inl (by decide +kernel) | exact .inr (by decide +kernel)) (by rw [isSubtype_type]; kernel_rfl)
theorem ints_mk : ∀ L : List Value, (∀ v ∈ L, ∃ t, v = .int (intV v) t) → IntsAre L (L.map intV)
  | [], _ => .nil
  | v :: L, h => by
    obtain ⟨t, e⟩ := h v List.mem_cons_self
    have := ints_mk L fun x hx => h x (List.mem_cons_of_mem _ hx)
    rw [List.map_cons, e]
    exact .cons _ t this
section
variable {P : Program} {w : World} {A : Around} {E : Value → Shared → Prop} {s : Shared}
theorem collect_set {S : Addr} {ks : List Int} {Q : List Value → Shared → Prop} (hh : A.handled = none) (hS : SI P w s.heap S ks)
    (hQ : ∀ (vs : List Value) (s' : Shared), IntsAre vs (vs.map intV) → (vs.map intV).Perm ks → s'.gens = s.gens → s'.os = s.os → s.toks ≤ s'.toks → (∀ b o, s.heap.get? b = some o → s'.heap.get? b = some o) → Q vs s') :
    wpAny (model P w) A (collect (.ref S)) Q E s := by
  have hz := hS.size
  obtain ⟨o, es0, t0, g, so, e0⟩ := id hS
  have lt : S < s.heap.objs.size := Heap.lt_size g
  unfold collect
  refine wpAny_bind (wpAny_runValue (codeAny_builtin PySem.F.entry_proto_collect ?_)); rw [Around.under_plainId PySem.F.plain_proto_collect _]
  show wpAny _ A.in1 (newList [] >>= fun l => again (.builtin "list.__iadd__" ⟨[l, .ref S], []⟩)) _ _ s
  refine wpAny_bind (wpAny_newObj_type (wpAny_pure ⟨plainId_quiet PySem.F.plain_list_iadd _, codeAny_builtin PySem.F.entry_list_iadd ?_⟩)); rw [Around.under_plainId PySem.F.plain_list_iadd _]
  show wpAny _ A.in1 (Builtin.List.listExtendWith (.ref s.heap.objs.size) (.ref S) (.ref s.heap.objs.size)) _ _ _
  have hS1 : SI P w (s.heap.push { cls := .type "list", data := .seq ([] : List Value).toArray }) S ks := hS.same fun o q => Heap.get?_push_of_some _ q
  have hTy : Shared.TypeIs { s with heap := s.heap.push { cls := .type "list", data := .seq ([] : List Value).toArray } } (.ref S) "set" := ⟨o, Heap.get?_push_of_some _ g, so.ex.1⟩
  unfold Builtin.List.listExtendWith
  refine wpAny_bind (wpAny_typeOf hTy ?_)
  have h1 : Builtin.List.listSameRef (.ref s.heap.objs.size) (.ref S) = false := by simp [Builtin.List.listSameRef]; exact fun e => absurd e (Nat.ne_of_gt lt)
  simp only [h1, show (Value.type "set" == Value.type "list") = false by decide, show (Value.type "set" == Value.type "tuple") = false by decide, Bool.or_false, Bool.false_eq_true, if_false]
  refine wpAny_bind (iter_wp hS1 fun it T es ep t L h2 d st nS nT lit lT pL hL len k2 => ?_)
  have hTy2 : Shared.TypeIs { s with heap := h2, drawn := d } (.ref S) "set" := ⟨o, k2 S o (Heap.get?_push_of_some _ g), so.ex.1⟩
  refine wpAny_bind (wpAny_holding ?_)
  unfold Builtin.List.listLengthHint
  refine wpAny_bind (wpAny_specialOf hTy2 set_len.lookup ?_)
  (generalize hid : ("set.__len__" : String) = id0; (fail_if_success (clear hid id0)); wp_delta; rw [show splitId id0 = some ("set", "__len__") from by subst hid; decide +kernel]; subst hid)
  refine wpAny_bind (wpAny_isInstance (b := true) hTy2 sub_set_self ?_)
  rw [if_neg (by decide)]; dsimp only
  rw [if_pos (by decide +kernel)]
  refine wpAny_bind (wpAny_typeOf hTy2 (wpAny_pure ?_))
  rw [if_pos (by decide +kernel)]
  have gN : h2.get? s.heap.objs.size = some { cls := .type "list", data := .seq ([] : List Value).toArray } := k2 _ _ (Heap.get?_push_size _ rfl)
  have szp : (s.heap.push { cls := .type "list", data := .seq ([] : List Value).toArray }).objs.size = s.heap.objs.size + 1 := size_push' _ _
  have nN : s.heap.objs.size ∉ [it, S, T] := fun hm => by
    rw [show (Shared.heap { s with heap := s.heap.push { cls := .type "list", data := .seq ([] : List Value).toArray } }).objs.size = s.heap.objs.size + 1 from szp] at lit lT
    simp at hm
    rcases hm with e | e | e
    · omega
    · exact absurd e (Nat.ne_of_gt lt)
    · rcases lT with q | q
      · exact absurd (e.trans q) (Nat.ne_of_gt lt)
      · omega
  have W := (sit_walks (P := P) (w := w) (A := A.in1) (es := es) (ep := ep) (t := t) (L := L) hh it S T nS nT)
  have g2 := Heap.get?_update_self (Obj.mapSeq (·.push Value.none)) gN rfl
  have g3 := Heap.get?_update_self (Obj.mapSeq (·.pop)) g2 rfl
  have oth : ∀ b o, b ≠ s.heap.objs.size → h2.get? b = some o → ((h2.update s.heap.objs.size (Obj.mapSeq (·.push Value.none))).update s.heap.objs.size (Obj.mapSeq (·.pop))).get? b = some o :=
    fun b o hb e => (Heap.get?_update_other _ _ (Ne.symm hb)).trans ((Heap.get?_update_other _ _ (Ne.symm hb)).trans e)
  refine wpAny_bind (wpAny_rule (wpAny_bind ?_))
  show wpAny _ A.in1 (updateSeq s.heap.objs.size (·.push .none) >>= fun _ => updateSeq s.heap.objs.size (·.pop)) _ _ _
  refine wpAny_bind (wpAny_updateSeq gN rfl (wpAny_updateSeq g2 rfl ?_))
  have lL : L.length = es.size := by rw [len, ← pL.length_eq, List.length_map]
  refine wpAny_pure ⟨plainId_quiet PySem.F.plain_extend_loop _, codeAny_extend_loopS W.toS (by rw [len]; exact Nat.le_trans (Nat.le_of_lt hz) (by decide)) _ nN _ es.size 0 _ _ _ rfl (Nat.zero_le _) (W.frame 0 h2 _ st fun b hb o e => oth b o (fun q => nN (q ▸ hb)) e) g3 (ItemsOf.nil _) fun s' acc c hm hS' hacc => ?_⟩
  have eL : acc.toList = L := by
    refine List.ext_getElem? fun j => ?_
    by_cases hj : j < acc.size
    · rw [Array.getElem?_toList, Array.getElem?_eq_getElem hj]
      exact (hacc.2 j _ (Array.getElem?_eq_getElem hj)).symm
    · rw [List.getElem?_eq_none (by rw [Array.length_toList]; omega), List.getElem?_eq_none (by rw [lL, ← hacc.1]; omega)]
  show wpAny _ A (load s.heap.objs.size >>= _) _ _ s'
  refine wpAny_bind (wpAny_load hS' (wpAny_pure ?_))
  rw [eL]
  refine hQ L s' (ints_mk L hL) pL hm.gens hm.os hm.toks fun b o q => ?_
  have bl : b < s.heap.objs.size := Heap.lt_size q
  refine hm.heap b o (fun hb => ?_) (oth b o (Nat.ne_of_lt bl) (k2 b o (Heap.get?_push_of_some _ q)))
  rw [show (Shared.heap { s with heap := s.heap.push { cls := .type "list", data := .seq ([] : List Value).toArray } }).objs.size = s.heap.objs.size + 1 from szp] at lit
  rcases List.mem_cons.mp hb with e | e
  · exact absurd e (Nat.ne_of_lt bl)
  · rw [List.mem_singleton.mp e] at bl; exact absurd (Nat.lt_of_lt_of_le bl (Nat.le_of_succ_le lit)) (Nat.lt_irrefl _)
end
theorem SI.nodup {P : Program} {w : World} {h : Heap} {a : Addr} {ks : List Int} (q : SI P w h a ks) : ks.Nodup := by
  obtain ⟨o, es, t, _, so, rfl⟩ := q
  exact so.nd
theorem sort_old {h : Heap} {vs : List Value} {out : Array Value} {b : Addr} {o : Obj} (q : h.get? b = some o) : (sortedHeap (h.push (seqObj "list" vs.toArray 0)) h.objs.size vs out).get? b = some o := by
  have bl : b < h.objs.size := Heap.lt_size q
  unfold sortedHeap
  exact (Heap.get?_update_other _ _ (Nat.ne_of_gt bl)).trans (Heap.get?_push_of_some _ (Heap.get?_push_of_some _ ((Heap.get?_update_other _ _ (Nat.ne_of_gt bl)).trans (Heap.get?_push_of_some _ q))))
theorem sort_at (h : Heap) (vs : List Value) (out : Array Value) : ∃ e, (sortedHeap (h.push (seqObj "list" vs.toArray 0)) h.objs.size vs out).get? h.objs.size = some (seqObj "list" out e) := by
  unfold sortedHeap
  have h1 : (h.push (seqObj "list" vs.toArray 0)).get? h.objs.size = some (seqObj "list" vs.toArray 0) := Heap.get?_push_size _ rfl
  exact ⟨_, get?_update_seq (Heap.get?_push_of_some _ (Heap.get?_push_of_some _ (get?_update_seq h1 (fun _ => #[])))) (fun _ => out)⟩
section
variable {P : Program} {w : World} {A : Around} {E : Value → Shared → Prop} {s : Shared}
theorem sorted_set {S : Addr} {ks : List Int} {Q : Value → Shared → Prop} (hh : A.handled = none) (hS : SI P w s.heap S ks) (h64 : ks.length < 64)
    (h : ∀ (out : Array Value) (ns : List Int) (s1 : Shared) (h' : Heap) (e : Nat), IntsAre out.toList ns → ns.Perm ks → ns.Pairwise (· ≤ ·) → s1.gens = s.gens → s1.os = s.os → (∀ b o, s.heap.get? b = some o → s1.heap.get? b = some o) → (∀ b o, s1.heap.get? b = some o → h'.get? b = some o) → h'.get? s1.heap.objs.size = some (seqObj "list" out e) → Q (.ref s1.heap.objs.size) { s1 with heap := h' }) :
    wpAny (model P w) A (call (.builtin "sorted") [.ref S]) Q E s := by
  refine Calls.call_function_entry kind_sorted plain_sorted entry_sorted (args_sorted1 _) ?_; unfold Builtin.«sorted»
  refine wpAny_bind (m := checkCount "sorted" 1 1 _) (wpAny_pure (wpAny_bind (collect_set (by exact hh) hS fun vs s1 a1 a2 a3 a4 a5 a6 => wpAny_bind (wpAny_newList ?_ (by have := a2.length_eq; rw [List.length_map] at this; rw [sizeLine_eq]; omega)))))
  have hoL : (s1.heap.push (seqObj "list" vs.toArray 0)).get? s1.heap.objs.size = some (seqObj "list" vs.toArray 0) := Heap.get?_push_size _ rfl
  have hl : vs.length < 64 := by have := a2.length_eq; rw [List.length_map] at this; omega
  show wpAny _ _ _ _ _ { s1 with heap := s1.heap.push (seqObj "list" vs.toArray 0) }
  refine wpAny_bind (wpAny_holding (wpAny_call_entry slot_list_sort ⟨_, hoL, rfl⟩ entry_list_sort (list_sort_tree hoL a1 hl fun out ns' b1 b2 b3 => ⟨_, rfl, ?_⟩) (args_list_sort _)))
  obtain ⟨e, he⟩ := sort_at s1.heap vs out
  exact wpAny_pure ⟨_, rfl, h out ns' s1 _ e b1 (b2.trans a2) b3 a3 a4 a6 (fun b o q => sort_old q) he⟩
end
section
variable {X : Cx} {e : Expr} {t : TA} {p pos p2 pos2 : Pos}
def tSS (X : Cx) (t : TA) : TE := fun σ H Q => t σ H fun xs H1 => ∃ (l : Addr) (ns : List Int), xs = [.ref l] ∧ SqL X.K H1 l (ns.map V.int) ∧ ns.length < 64 ∧ ∀ ks : List Int, ks.Pairwise (· ≤ ·) → ks.Nodup → (∀ z, z ∈ ks ↔ z ∈ ns) → ∀ l, H1 l = none → Q (.ref l) (upd H1 l (.lst (ks.map V.int)))
theorem pe_sortedSet (hc : X.calm = true) (hg : Gl X "sorted") (hm : X.mg "sorted" = none) (hg2 : Gl X "set") (hm2 : X.mg "set" = none) (ha : PA X [e] t) (he : starEach [e] X.env = [(false, eval e X.env)] := by rfl) :
    PE X (.Call (.Name "sorted" p) [.Call (.Name "set" p2) [e] [] pos2] [] pos) (tSS X t) := by
  intro pins s σ H Q I h
  refine wpAny_Call_Name_kw (ld_blt I hg hm (u := .builtin "sorted") (by rfl) ?_ (by decide) (by decide))
  refine PyProof.Rows.callWith_builtin1 ?_ (by rfl) (by rfl)
  refine Calls.spliced_cons (wpAny_Call_Name_kw (ld_blt I hg2 hm2 (u := .type "set") (by rfl) ?_ (by decide) (by decide)))
  refine PyProof.Rows.callWith_type1 (thn (ha pos2 pins s σ H _ I h) fun us s1 ⟨vs, H1, I1, r1, q1⟩ => ?_) he (by rfl)
  obtain ⟨l, ns, rfl, hq, h64, q⟩ := q1
  obtain ⟨u, rfl, rx⟩ := vals1 r1
  cases rx
  obtain ⟨its, rv, pl, hz⟩ := I1.list hq
  have hi : IntsAre its ns := intsAre_of rv
  have hlen : its.length < 64 := by have := rv.length; rw [List.length_map] at this; omega
  refine set_list (I1.ok.hd hc) pl.isList (by simpa using hi) (by simpa using Nat.lt_trans (Nat.succ_lt_succ hlen) (by decide)) fun h' tk ks a1 a2 a3 a4 => ?_
  have k1 : ∀ b o, s1.heap.get? b = some o → h'.get? b = some o := fun b o q => a4 b o (Heap.lt_size q) q
  refine Calls.spliced_nil ?_
  refine sorted_set (s := { s1 with heap := h', toks := tk }) (I1.ok.hd hc) a1 (by omega) fun out ns' s2 h2 e b1 b2 b3 b4 b5 b6 b7 b8 => ?_
  have I2 := I1.kept (t' := tk) k1
  have I3 : Inv X pins σ H1 s2 := I2.call' (ch := []) b5 (Un.kept b6) (I2.hok.kept b6) (by rw [b4]; exact I2.bare) (fun _ z => nomatch z)
  have hn : H1 s2.heap.objs.size = none := I3.hok.fresh (Nat.le_refl _)
  refine ⟨.ref s2.heap.objs.size, _, I3.laid (t' := s2.toks) (a := s2.heap.objs.size) (o := .lst (ns'.map V.int)) b7 (Nat.le_refl _) ⟨?_, out.toList, e, vals_ints b1, b8⟩, rfl, q ns' b3 ?_ (fun z => (b2.mem_iff).trans (a2 z)) _ hn⟩
  · rw [List.length_map, b2.length_eq, sizeLine_eq]
    omega
  · exact b2.nodup_iff.mpr (SI.nodup a1)
def dSS (t : DTA) : DTE := fun Δ M Φ => t Δ M fun xs M1 => ∃ ns : List Int, IntsOf xs M1 ns ∧ ns.length < 64 ∧ ∀ ks : List Int, ks.Pairwise (· ≤ ·) → ks.Nodup → (∀ z, z ∈ ks ↔ z ∈ ns) → Φ (.dat (.list (ks.map PyData.int))) M1
theorem dSS_q (t : DTA) (Δ : DSt) (M : Mp) (Φ : DK) : dSS t Δ M Φ = (t Δ M fun xs M1 => ∃ ns : List Int, IntsOf xs M1 ns ∧ ns.length < 64 ∧ ∀ ks : List Int, ks.Pairwise (· ≤ ·) → ks.Nodup → (∀ z, z ∈ ks ↔ z ∈ ns) → Φ (.dat (.list (ks.map PyData.int))) M1) := propext Iff.rfl
theorem de_sortedSet {t : DTA} (hg : Gl X "sorted") (hm : X.mg "sorted" = none) (hg2 : Gl X "set") (hm2 : X.mg "set" = none) (ha : DA X [e] t) (hc : X.calm = true := by rfl) (he : starEach [e] X.env = [(false, eval e X.env)] := by rfl) :
    DE X (.Call (.Name "sorted" p) [.Call (.Name "set" p2) [e] [] pos2] [] pos) (dSS t) := by
  obtain ⟨u, pa, q⟩ := ha
  refine ⟨_, pe_sortedSet hc hg hm hg2 hm2 pa he, fun σ H Δ M Φ Q r e h k => ?_⟩
  refine q σ H Δ M _ _ r e h fun vs H1 xs M1 r1 st rv hx => ?_
  obtain ⟨ns, hx, h64, q⟩ := hx
  obtain ⟨p, rfl, hs⟩ := hx.sq r1 rv
  exact ⟨p, ns, rfl, hs, h64, fun ks a b c l hl => (k.step st).dat (r1.new hl) (Step.new hl) (Dt.newLst r1 hl (Dts.ints ks)) (q ks a b c)⟩
end
end DL

namespace DL
open PySem PySem.Spec PyProof.Rows L2
/-! ### the truth of a list or a tuple -/
section
variable {X : Cx}
def dTru (τ : DTE) : DTT := fun Δ M Φ => τ Δ M fun x M1 => onQ x M1 fun ds => Φ (!ds.isEmpty) M1
theorem dTru_q (τ : DTE) (Δ : DSt) (M : Mp) (Φ : Bool → Mp → Prop) : dTru τ Δ M Φ = (τ Δ M fun x M1 => onQ x M1 fun ds => Φ (!ds.isEmpty) M1) := propext Iff.rfl
theorem dts_empty {K : PySem.W.Frag} {M : Mp} {H : Hp} {vs : List V} {ds : List PyData} (h : Dts K M H vs ds) : (!vs.isEmpty) = !ds.isEmpty := by
  have := Dts.length h
  cases vs <;> cases ds <;> simp at this ⊢
theorem dt_tru {e : Expr} {τ : DTE} (h : DE X e τ) (he : ∀ whole, isTrue e X.env whole = (do let v ← whole; standAt e.pos; holding [v] (truthy v)) := by intro _; rfl) : DT X e (dTru τ) := by
  obtain ⟨t, p, q⟩ := h
  refine ⟨_, pt_truth p he, fun σ H Δ M Φ Q dr e h k => ?_⟩
  refine q σ H Δ M _ _ dr e h fun v H1 x M1 r1 st rv hx => ?_
  replace hx := onQ_ex hx
  obtain ⟨ds, hx, hq⟩ := hx
  refine ⟨!ds.isEmpty, ?_, k _ _ _ r1 st hq⟩
  rcases hx with rfl | rfl | ⟨l, rfl, hm⟩
  · obtain ⟨p, xs, rfl, h1, h2⟩ := rv.tup
    exact .inr (.inl ⟨xs, h1.sq, (dts_empty h2).symm⟩)
  · obtain ⟨p, xs, rfl, h1, h2⟩ := rv.lst
    exact .inl ⟨xs, h1.sq, (dts_empty h2).symm⟩
  · cases (show v = .ref l from rv)
    obtain ⟨vs, g1, g2⟩ := r1.ls l ds hm
    exact .inl ⟨vs, SqL.of g1, (dts_empty g2).symm⟩
end
end DL

namespace My
open PySem PySem.Spec PyProof.Rows L2 DL
set_option maxHeartbeats 8000000
def top (i : Nat) : Stmt := PySem.Challenge.pw_landsentered_k10_covered_or_not.main.body.getD i (.Pass ⟨0, 0, 0, 0⟩)
abbrev s_is_whole : Stmt := top 1
abbrev s_has_spots : Stmt := top 3
abbrev s_has : Stmt := top 4
abbrev s_has_all : Stmt := top 5
abbrev s_steps_to : Stmt := top 6
abbrev s_steps_between : Stmt := top 7
abbrev s_gap : Stmt := top 8
abbrev s_up_to : Stmt := top 9
abbrev s_onward_from : Stmt := top 10
abbrev s_common : Stmt := top 11
abbrev s_cut_out : Stmt := top 12
abbrev s_left_over : Stmt := top 13
abbrev s_covered : Stmt := top 15
abbrev s_cover_of : Stmt := top 16
abbrev s_cut_places : Stmt := top 17
abbrev s_holds_cover : Stmt := top 18
abbrev s_is_number_of : Stmt := top 19
abbrev s_cuts : Stmt := top 20
abbrev s_pen : Stmt := top 22
abbrev s_draw : Stmt := top 23
abbrev s_hole : Stmt := top 24
abbrev s_box : Stmt := top 25
abbrev s_boxes : Stmt := top 26
abbrev s_l_frame : Stmt := top 27
abbrev s_laid : Stmt := top 28
abbrev s_cells : Stmt := top 29
abbrev s_l_has : Stmt := top 30
abbrev s_parts : Stmt := top 31
abbrev s_whole : Stmt := top 32
abbrev s_leaf_holds : Stmt := top 33
abbrev s_holds : Stmt := top 34
abbrev s_missing : Stmt := top 35
abbrev s_in : Stmt := top 36
abbrev s_asked : Stmt := top 37
abbrev s_deep : Stmt := top 38
abbrev s_no : Stmt := top 39
abbrev s_law : Stmt := top 40
theorem sc_is_whole : FnScope ["thing"] ["thing"] (defScope s_is_whole) := ⟨rfl, rfl, rfl, by decide +kernel, rfl, by decide +kernel, by decide +kernel⟩
theorem sc_has_spots : FnScope ["box"] ["box"] (defScope s_has_spots) := ⟨rfl, rfl, rfl, by decide +kernel, rfl, by decide +kernel, by decide +kernel⟩
theorem sc_has : FnScope ["box", "spot"] ["box", "spot"] (defScope s_has) := ⟨rfl, rfl, rfl, by decide +kernel, rfl, by decide +kernel, by decide +kernel⟩
theorem sc_has_all : FnScope ["box", "other"] ["box", "other"] (defScope s_has_all) := ⟨rfl, rfl, rfl, by decide +kernel, rfl, by decide +kernel, by decide +kernel⟩
theorem sc_steps_to : FnScope ["box", "spot"] ["box", "spot"] (defScope s_steps_to) := ⟨rfl, rfl, rfl, by decide +kernel, rfl, by decide +kernel, by decide +kernel⟩
theorem sc_steps_between : FnScope ["one", "other"] ["one", "other"] (defScope s_steps_between) := ⟨rfl, rfl, rfl, by decide +kernel, rfl, by decide +kernel, by decide +kernel⟩
theorem sc_gap : FnScope ["one", "other", "way"] ["one", "other", "way"] (defScope s_gap) := ⟨rfl, rfl, rfl, by decide +kernel, rfl, by decide +kernel, by decide +kernel⟩
theorem sc_up_to : FnScope ["box", "way", "at", "high"] ["box", "way", "at"] (defScope s_up_to) := ⟨rfl, rfl, rfl, by decide +kernel, rfl, by decide +kernel, by decide +kernel⟩
theorem sc_onward_from : FnScope ["box", "way", "at", "low"] ["box", "way", "at"] (defScope s_onward_from) := ⟨rfl, rfl, rfl, by decide +kernel, rfl, by decide +kernel, by decide +kernel⟩
theorem sc_common : FnScope ["one", "other", "low", "high"] ["one", "other"] (defScope s_common) := ⟨rfl, rfl, rfl, by decide +kernel, rfl, by decide +kernel, by decide +kernel⟩
theorem sc_cut_out : FnScope ["one", "other", "middle", "left", "right", "below", "above"] ["one", "other"] (defScope s_cut_out) := ⟨rfl, rfl, rfl, by decide +kernel, rfl, by decide +kernel, by decide +kernel⟩
theorem sc_left_over : FnScope ["box", "others", "pieces", "other", "rest", "piece"] ["box", "others"] (defScope s_left_over) := ⟨rfl, rfl, rfl, by decide +kernel, rfl, by decide +kernel, by decide +kernel⟩
theorem sc_covered : FnScope ["shape", "box", "lacking"] ["shape", "box"] (defScope s_covered) := ⟨rfl, rfl, rfl, by decide +kernel, rfl, by decide +kernel, by decide +kernel⟩
theorem sc_cover_of : FnScope ["shape", "box", "k", "across", "along", "way", "places", "at", "first"] ["shape", "box"] (defScope s_cover_of) := ⟨rfl, rfl, rfl, by decide +kernel, rfl, by decide +kernel, by decide +kernel⟩
theorem sc_cut_places : FnScope ["shape", "box", "way", "places", "other"] ["shape", "box", "way"] (defScope s_cut_places) := ⟨rfl, rfl, rfl, by decide +kernel, rfl, by decide +kernel, by decide +kernel⟩
theorem sc_holds_cover : FnScope ["shape", "box", "thing", "first", "second"] ["shape", "box", "thing"] (defScope s_holds_cover) := ⟨rfl, rfl, rfl, by decide +kernel, rfl, by decide +kernel, by decide +kernel⟩
theorem sc_is_number_of : FnScope ["shape", "k"] ["shape", "k"] (defScope s_is_number_of) := ⟨rfl, rfl, rfl, by decide +kernel, rfl, by decide +kernel, by decide +kernel⟩
theorem sc_cuts : FnScope ["box", "way", "at"] ["box", "way", "at"] (defScope s_cuts) := ⟨rfl, rfl, rfl, by decide +kernel, rfl, by decide +kernel, by decide +kernel⟩
theorem sc_pen : FnScope ["_law_script", "_law_k", "_law_cell"] ["_law_script", "_law_k"] (defScope s_pen) := ⟨rfl, rfl, rfl, by decide +kernel, rfl, by decide +kernel, by decide +kernel⟩
theorem sc_draw : FnScope ["_law_pen_here", "_law_many", "_law_number", "_law_found"] ["_law_pen_here", "_law_many"] (defScope s_draw) := ⟨rfl, rfl, rfl, by decide +kernel, rfl, by decide +kernel, by decide +kernel⟩
theorem sc_hole : FnScope ["_law_pen_here", "_law_low", "_law_high", "_law_thick", "_law_found"] ["_law_pen_here"] (defScope s_hole) := ⟨rfl, rfl, rfl, by decide +kernel, rfl, by decide +kernel, by decide +kernel⟩
theorem sc_box : FnScope ["_law_pen_here", "_law_box_here", "_law_begin", "_law_end", "_law_way", "_law_first", "_law_at"] ["_law_pen_here", "_law_box_here"] (defScope s_box) := ⟨rfl, rfl, rfl, by decide +kernel, rfl, by decide +kernel, by decide +kernel⟩
theorem sc_boxes : FnScope ["_law_pen_here", "_law_way", "_law_found", "_law_k", "_law_low", "_law_high"] ["_law_pen_here"] (defScope s_boxes) := ⟨rfl, rfl, rfl, by decide +kernel, rfl, by decide +kernel, by decide +kernel⟩
theorem sc_l_frame : FnScope ["_law_pen_here", "_law_times", "_law_begins"] ["_law_pen_here"] (defScope s_l_frame) := ⟨rfl, rfl, rfl, by decide +kernel, rfl, by decide +kernel, by decide +kernel⟩
theorem sc_laid : FnScope ["_law_boxes_here", "_law_frame_here", "_law_found", "_law_times", "_law_x", "_law_y", "_law_low", "_law_high", "_law_begin"] ["_law_boxes_here", "_law_frame_here"] (defScope s_laid) := ⟨rfl, rfl, rfl, by decide +kernel, rfl, by decide +kernel, by decide +kernel⟩
theorem sc_cells : FnScope ["_law_boxes_here", "_law_found", "_law_low", "_law_high", "_law_x", "_law_y"] ["_law_boxes_here"] (defScope s_cells) := ⟨rfl, rfl, rfl, by decide +kernel, rfl, by decide +kernel, by decide +kernel⟩
theorem sc_l_has : FnScope ["_law_one", "_law_box_here", "_law_low", "_law_high"] ["_law_one", "_law_box_here"] (defScope s_l_has) := ⟨rfl, rfl, rfl, by decide +kernel, rfl, by decide +kernel, by decide +kernel⟩
theorem sc_parts : FnScope ["_law_box_here", "_law_way", "_law_at", "_law_low", "_law_high"] ["_law_box_here", "_law_way", "_law_at"] (defScope s_parts) := ⟨rfl, rfl, rfl, by decide +kernel, rfl, by decide +kernel, by decide +kernel⟩
theorem sc_whole : FnScope ["_law_thing"] ["_law_thing"] (defScope s_whole) := ⟨rfl, rfl, rfl, by decide +kernel, rfl, by decide +kernel, by decide +kernel⟩
theorem sc_leaf_holds : FnScope ["_law_shape", "_law_box_here", "_law_paper"] ["_law_shape", "_law_box_here", "_law_paper"] (defScope s_leaf_holds) := ⟨rfl, rfl, rfl, by decide +kernel, rfl, by decide +kernel, by decide +kernel⟩
theorem sc_holds : FnScope ["_law_shape", "_law_box_here", "_law_thing", "_law_waiting", "_law_here", "_law_paper", "_law_parts_here", "_law_way", "_law_at"] ["_law_shape", "_law_box_here", "_law_thing"] (defScope s_holds) := ⟨rfl, rfl, rfl, by decide +kernel, rfl, by decide +kernel, by decide +kernel⟩
theorem sc_missing : FnScope ["_law_cells_here", "_law_frame_here", "_law_box_here", "_law_here", "_law_found", "_law_x", "_law_low", "_law_high", "_law_y", "_law_at"] ["_law_cells_here", "_law_frame_here", "_law_box_here"] (defScope s_missing) := ⟨rfl, rfl, rfl, by decide +kernel, rfl, by decide +kernel, by decide +kernel⟩
theorem sc_in : FnScope ["_law_pen_here", "_law_box_here", "_law_found", "_law_way", "_law_low", "_law_high"] ["_law_pen_here", "_law_box_here"] (defScope s_in) := ⟨rfl, rfl, rfl, by decide +kernel, rfl, by decide +kernel, by decide +kernel⟩
theorem sc_asked : FnScope ["_law_pen_here", "_law_shape", "_law_one", "_law_other", "_law_low", "_law_high", "_law_more", "_law_way"] ["_law_pen_here", "_law_shape"] (defScope s_asked) := ⟨rfl, rfl, rfl, by decide +kernel, rfl, by decide +kernel, by decide +kernel⟩
theorem sc_deep : FnScope ["_law_paper"] ["_law_paper"] (defScope s_deep) := ⟨rfl, rfl, rfl, by decide +kernel, rfl, by decide +kernel, by decide +kernel⟩
theorem sc_no : FnScope ["_law_found", "_law_due"] ["_law_found", "_law_due"] (defScope s_no) := ⟨rfl, rfl, rfl, by decide +kernel, rfl, by decide +kernel, by decide +kernel⟩
theorem sc_law : FnScope ["_law_script", "_law_k", "_law_pen_here", "_law_boxes_here", "_law_frame_here", "_law_shape", "_law_cells_here", "_law_paper", "_law_turn", "_law_box_here", "_law_due", "_law_found", "_law_held"] ["_law_script"] (defScope s_law) := ⟨rfl, rfl, rfl, by decide +kernel, rfl, by decide +kernel, by decide +kernel⟩
theorem bt_abs : bootBuiltins "abs" = some (.builtin "abs") := by decide +kernel
theorem bt_bool : bootBuiltins "bool" = some (.type "bool") := by decide +kernel
theorem bt_int : bootBuiltins "int" = some (.type "int") := by decide +kernel
theorem bt_isinstance : bootBuiltins "isinstance" = some (.builtin "isinstance") := by decide +kernel
theorem bt_len : bootBuiltins "len" = some (.builtin "len") := by decide +kernel
theorem bt_max : bootBuiltins "max" = some (.builtin "max") := by decide +kernel
theorem bt_min : bootBuiltins "min" = some (.builtin "min") := by decide +kernel
theorem bt_tuple : bootBuiltins "tuple" = some (.type "tuple") := by decide +kernel
set_option genInjectivity false in
/-- what the top holds -/
structure Tx (K : PySem.W.Frag) (mg : Str → Option Value) where
  f_is_whole : Addr
  d_is_whole : FuncData
  o_is_whole : Own K mg "is_whole" s_is_whole ["thing"] f_is_whole d_is_whole
  f_has_spots : Addr
  d_has_spots : FuncData
  o_has_spots : Own K mg "has_spots" s_has_spots ["box"] f_has_spots d_has_spots
  f_has : Addr
  d_has : FuncData
  o_has : Own K mg "has" s_has ["box", "spot"] f_has d_has
  f_has_all : Addr
  d_has_all : FuncData
  o_has_all : Own K mg "has_all" s_has_all ["box", "other"] f_has_all d_has_all
  f_steps_to : Addr
  d_steps_to : FuncData
  o_steps_to : Own K mg "steps_to" s_steps_to ["box", "spot"] f_steps_to d_steps_to
  f_steps_between : Addr
  d_steps_between : FuncData
  o_steps_between : Own K mg "steps_between" s_steps_between ["one", "other"] f_steps_between d_steps_between
  f_gap : Addr
  d_gap : FuncData
  o_gap : Own K mg "gap" s_gap ["one", "other", "way"] f_gap d_gap
  f_up_to : Addr
  d_up_to : FuncData
  o_up_to : Own K mg "up_to" s_up_to ["box", "way", "at"] f_up_to d_up_to
  f_onward_from : Addr
  d_onward_from : FuncData
  o_onward_from : Own K mg "onward_from" s_onward_from ["box", "way", "at"] f_onward_from d_onward_from
  f_common : Addr
  d_common : FuncData
  o_common : Own K mg "common" s_common ["one", "other"] f_common d_common
  f_cut_out : Addr
  d_cut_out : FuncData
  o_cut_out : Own K mg "cut_out" s_cut_out ["one", "other"] f_cut_out d_cut_out
  f_left_over : Addr
  d_left_over : FuncData
  o_left_over : Own K mg "left_over" s_left_over ["box", "others"] f_left_over d_left_over
  f_covered : Addr
  d_covered : FuncData
  o_covered : Own K mg "covered" s_covered ["shape", "box"] f_covered d_covered
  f_cover_of : Addr
  d_cover_of : FuncData
  o_cover_of : Own K mg "cover_of" s_cover_of ["shape", "box"] f_cover_of d_cover_of
  f_cut_places : Addr
  d_cut_places : FuncData
  o_cut_places : Own K mg "cut_places" s_cut_places ["shape", "box", "way"] f_cut_places d_cut_places
  f_holds_cover : Addr
  d_holds_cover : FuncData
  o_holds_cover : Own K mg "holds_cover" s_holds_cover ["shape", "box", "thing"] f_holds_cover d_holds_cover
  f_is_number_of : Addr
  d_is_number_of : FuncData
  o_is_number_of : Own K mg "is_number_of" s_is_number_of ["shape", "k"] f_is_number_of d_is_number_of
  f_cuts : Addr
  d_cuts : FuncData
  o_cuts : Own K mg "cuts" s_cuts ["box", "way", "at"] f_cuts d_cuts
  f_pen : Addr
  d_pen : FuncData
  o_pen : Own K mg "_law_pen" s_pen ["_law_script", "_law_k"] f_pen d_pen
  f_draw : Addr
  d_draw : FuncData
  o_draw : Own K mg "_law_draw" s_draw ["_law_pen_here", "_law_many"] f_draw d_draw
  f_hole : Addr
  d_hole : FuncData
  o_hole : Own K mg "_law_hole" s_hole ["_law_pen_here"] f_hole d_hole
  f_box : Addr
  d_box : FuncData
  o_box : Own K mg "_law_box" s_box ["_law_pen_here", "_law_box_here"] f_box d_box
  f_boxes : Addr
  d_boxes : FuncData
  o_boxes : Own K mg "_law_boxes" s_boxes ["_law_pen_here"] f_boxes d_boxes
  f_l_frame : Addr
  d_l_frame : FuncData
  o_l_frame : Own K mg "_law_frame" s_l_frame ["_law_pen_here"] f_l_frame d_l_frame
  f_laid : Addr
  d_laid : FuncData
  o_laid : Own K mg "_law_laid" s_laid ["_law_boxes_here", "_law_frame_here"] f_laid d_laid
  f_cells : Addr
  d_cells : FuncData
  o_cells : Own K mg "_law_cells" s_cells ["_law_boxes_here"] f_cells d_cells
  f_l_has : Addr
  d_l_has : FuncData
  o_l_has : Own K mg "_law_has" s_l_has ["_law_one", "_law_box_here"] f_l_has d_l_has
  f_parts : Addr
  d_parts : FuncData
  o_parts : Own K mg "_law_parts" s_parts ["_law_box_here", "_law_way", "_law_at"] f_parts d_parts
  f_whole : Addr
  d_whole : FuncData
  o_whole : Own K mg "_law_whole" s_whole ["_law_thing"] f_whole d_whole
  f_leaf_holds : Addr
  d_leaf_holds : FuncData
  o_leaf_holds : Own K mg "_law_leaf_holds" s_leaf_holds ["_law_shape", "_law_box_here", "_law_paper"] f_leaf_holds d_leaf_holds
  f_holds : Addr
  d_holds : FuncData
  o_holds : Own K mg "_law_holds" s_holds ["_law_shape", "_law_box_here", "_law_thing"] f_holds d_holds
  f_missing : Addr
  d_missing : FuncData
  o_missing : Own K mg "_law_missing" s_missing ["_law_cells_here", "_law_frame_here", "_law_box_here"] f_missing d_missing
  f_in : Addr
  d_in : FuncData
  o_in : Own K mg "_law_in" s_in ["_law_pen_here", "_law_box_here"] f_in d_in
  f_asked : Addr
  d_asked : FuncData
  o_asked : Own K mg "_law_asked" s_asked ["_law_pen_here", "_law_shape"] f_asked d_asked
  f_deep : Addr
  d_deep : FuncData
  o_deep : Own K mg "_law_deep" s_deep ["_law_paper"] f_deep d_deep
  f_no : Addr
  d_no : FuncData
  o_no : Own K mg "_law_no" s_no ["_law_found", "_law_due"] f_no d_no
  f_law : Addr
  d_law : FuncData
  o_law : Own K mg "law" s_law ["_law_script"] f_law d_law
  n_abs : mg "abs" = none
  n_bool : mg "bool" = none
  n_int : mg "int" = none
  n_isinstance : mg "isinstance" = none
  n_len : mg "len" = none
  n_max : mg "max" = none
  n_min : mg "min" = none
  n_range : mg "range" = none
  n_set : mg "set" = none
  n_sorted : mg "sorted" = none
  n_tuple : mg "tuple" = none
local macro_rules | `(tactic| walk_at "hd") => `(tactic| (subst_vars; (try dsimp only); refine DL.seq_hide fun R hR => ?_))
/-! ### the steps -/
def ab (i : Int) : Int := if i < 0 then -i else i
def cheb (x y x' y' : Int) : Int := max (ab (x - x')) (ab (y - y'))
def gp (a b a' b' : Int) : Int := max 0 (max (a' - b) (a - b'))
def btw (x y X Y x' y' X' Y' : Int) : Int := max (gp x X x' X') (gp y Y y' Y')
/-! ### boxes -/
structure B4 where
  x : Int
  y : Int
  X : Int
  Y : Int
def bD (b : B4) : PyData := .tuple [.tuple [.int b.x, .int b.y], .tuple [.int b.X, .int b.Y]]
def apartB (a b : B4) : Int := btw a.x a.y a.X a.Y b.x b.y b.X b.Y
def distB (p : B4) (u v : Int) : Int := btw p.x p.y p.X p.Y u v u v
def hasB (b : B4) (u v : Int) : Bool := decide (b.x ≤ u ∧ u ≤ b.X ∧ b.y ≤ v ∧ v ≤ b.Y)
def okB (b : B4) : Bool := decide (b.x ≤ b.X) && decide (b.y ≤ b.Y)
def commB (a b : B4) : B4 := ⟨max a.x b.x, max a.y b.y, min a.X b.X, min a.Y b.Y⟩
def cut4 (a b : B4) : List B4 :=
  let mx := max a.x b.x
  let my := max a.y b.y
  let mX := min a.X b.X
  let mY := min a.Y b.Y
  [⟨a.x, a.y, mx - 1, a.Y⟩, ⟨mX + 1, a.y, a.X, a.Y⟩, ⟨mx, a.y, mX, my - 1⟩, ⟨mx, mY + 1, mX, a.Y⟩]
def cutB (a b : B4) : List B4 := if 0 < apartB a b then [a] else (cut4 a b).filter okB
def leftB (a : B4) (bs : List B4) : List B4 := bs.foldl (fun ps b => ps.flatMap fun p => cutB p b) [a]
def squareB (u v r : Int) : B4 := ⟨u - r, v - r, u + r, v + r⟩
/-! ### boxes and shapes as arguments -/
def onX (x : DV) (P : B4 → Prop) : Prop := match x with | .dat (.tuple [.tuple [.int x, .int y], .tuple [.int X, .int Y]]) => P ⟨x, y, X, Y⟩ | _ => False
theorem onX_mk_q (b : B4) (P : B4 → Prop) : onX (.dat (bD b)) P = P b := propext Iff.rfl
theorem onX_m4_q (x y X Y : Int) (P : B4 → Prop) : onX (.dat (.tuple [.tuple [.int x, .int y], .tuple [.int X, .int Y]])) P = P ⟨x, y, X, Y⟩ := propext Iff.rfl
theorem onX_ex {x : DV} {P : B4 → Prop} (h : onX x P) : ∃ b, x = .dat (bD b) ∧ P b := by
  unfold onX at h
  split at h
  · exact ⟨⟨_, _, _, _⟩, rfl, h⟩
  · exact h.elim
theorem onQ_bD_q (b : B4) (M : Mp) (P : List PyData → Prop) : onQ (.dat (bD b)) M P = P [.tuple [.int b.x, .int b.y], .tuple [.int b.X, .int b.Y]] := propext Iff.rfl
theorem onT_bD_q (b : B4) (P : List PyData → Prop) : onT (.dat (bD b)) P = P [.tuple [.int b.x, .int b.y], .tuple [.int b.X, .int b.Y]] := propext Iff.rfl
def onBs (x : DV) (P : List B4 → Prop) : Prop := ∃ bs, x = .dat (.tuple (bs.map bD)) ∧ P bs
def onBl (x : DV) (P : List B4 → Prop) : Prop := ∃ bs, x = .dat (.list (bs.map bD)) ∧ P bs
theorem onBs_ex {x : DV} {P : List B4 → Prop} (h : onBs x P) : ∃ bs, x = .dat (.tuple (bs.map bD)) ∧ P bs := h
theorem onBl_ex {x : DV} {P : List B4 → Prop} (h : onBl x P) : ∃ bs, x = .dat (.list (bs.map bD)) ∧ P bs := h
theorem bD_inj {a b : B4} (h : bD a = bD b) : a = b := by
  unfold bD at h
  simp only [PyData.tuple.injEq, List.cons.injEq, PyData.int.injEq, and_true] at h
  obtain ⟨⟨h1, h2⟩, h3, h4⟩ := h
  cases a
  cases b
  simp only at h1 h2 h3 h4
  subst h1 h2 h3 h4
  rfl
theorem map_bD_inj : ∀ {as bs : List B4}, as.map bD = bs.map bD → as = bs
  | [], [], _ => rfl
  | [], _ :: _, h => by simp at h
  | _ :: _, [], h => by simp at h
  | a :: as, b :: bs, h => by
    rw [List.map_cons, List.map_cons, List.cons.injEq] at h
    rw [bD_inj h.1, map_bD_inj h.2]
theorem onBs_mk (bs : List B4) (P : List B4 → Prop) : onBs (.dat (.tuple (bs.map bD))) P = P bs := propext ⟨fun ⟨cs, e, h⟩ => by
  rw [DV.dat.injEq, PyData.tuple.injEq] at e
  rw [map_bD_inj e]
  exact h, fun h => ⟨bs, rfl, h⟩⟩
theorem onBl_mk (bs : List B4) (P : List B4 → Prop) : onBl (.dat (.list (bs.map bD))) P = P bs := propext ⟨fun ⟨cs, e, h⟩ => by
  rw [DV.dat.injEq, PyData.list.injEq] at e
  rw [map_bD_inj e]
  exact h, fun h => ⟨bs, rfl, h⟩⟩
/-! ### what the program's defs promise -/
def Shp (bs : List B4) : Prop := 1 ≤ bs.length ∧ bs.length ≤ 6 ∧ ∀ b ∈ bs, okB b = true
abbrev anyB (bs : List B4) : Int → Int → Bool := fun x y => bs.any fun b => hasB b x y
def spHas : DSp := fun xs M Φ => on1 xs fun x => onX x fun b => Φ (.dat (.bool (okB b))) M
theorem spHas_q (xs : List DV) (M : Mp) (Φ : DK) : spHas xs M Φ = (on1 xs fun x => onX x fun b => Φ (.dat (.bool (okB b))) M) := propext Iff.rfl
def spGap : DSp := fun xs M Φ => on3 xs fun x y z => onX x fun a => onX y fun b => onI z fun i => (i = 0 ∨ i = 1) ∧ Φ (.dat (.int (if i = 0 then gp a.x a.X b.x b.X else gp a.y a.Y b.y b.Y))) M
theorem spGap_q (xs : List DV) (M : Mp) (Φ : DK) : spGap xs M Φ = (on3 xs fun x y z => onX x fun a => onX y fun b => onI z fun i => (i = 0 ∨ i = 1) ∧ Φ (.dat (.int (if i = 0 then gp a.x a.X b.x b.X else gp a.y a.Y b.y b.Y))) M) := propext Iff.rfl
def spBetween : DSp := fun xs M Φ => on2 xs fun x y => onX x fun a => onX y fun b => Φ (.dat (.int (apartB a b))) M
theorem spBetween_q (xs : List DV) (M : Mp) (Φ : DK) : spBetween xs M Φ = (on2 xs fun x y => onX x fun a => onX y fun b => Φ (.dat (.int (apartB a b))) M) := propext Iff.rfl
def spTo : DSp := fun xs M Φ => on2 xs fun x y => onX x fun a => onP y fun u v => Φ (.dat (.int (distB a u v))) M
theorem spTo_q (xs : List DV) (M : Mp) (Φ : DK) : spTo xs M Φ = (on2 xs fun x y => onX x fun a => onP y fun u v => Φ (.dat (.int (distB a u v))) M) := propext Iff.rfl
def spHasB : DSp := fun xs M Φ => on2 xs fun x y => onX x fun a => onP y fun u v => Φ (.dat (.bool (hasB a u v))) M
theorem spHasB_q (xs : List DV) (M : Mp) (Φ : DK) : spHasB xs M Φ = (on2 xs fun x y => onX x fun a => onP y fun u v => Φ (.dat (.bool (hasB a u v))) M) := propext Iff.rfl
def spSteps : DSp := fun xs M Φ => on2 xs fun x y => onP x fun a b => onP y fun u v => Φ (.dat (.int (cheb a b u v))) M
theorem spSteps_q (xs : List DV) (M : Mp) (Φ : DK) : spSteps xs M Φ = (on2 xs fun x y => onP x fun a b => onP y fun u v => Φ (.dat (.int (cheb a b u v))) M) := propext Iff.rfl
def spSquare : DSp := fun xs M Φ => on2 xs fun x y => onP x fun u v => onI y fun r => Φ (.dat (bD (squareB u v r))) M
theorem spSquare_q (xs : List DV) (M : Mp) (Φ : DK) : spSquare xs M Φ = (on2 xs fun x y => onP x fun u v => onI y fun r => Φ (.dat (bD (squareB u v r))) M) := propext Iff.rfl
def spCommon : DSp := fun xs M Φ => on2 xs fun x y => onX x fun a => onX y fun b => Φ (.dat (bD (commB a b))) M
theorem spCommon_q (xs : List DV) (M : Mp) (Φ : DK) : spCommon xs M Φ = (on2 xs fun x y => onX x fun a => onX y fun b => Φ (.dat (bD (commB a b))) M) := propext Iff.rfl
def spCut : DSp := fun xs M Φ => on2 xs fun x y => onX x fun a => onX y fun b => ∀ p, M p = none → Φ (.own p) (mset M p (.lst ((cutB a b).map bD)))
theorem spCut_q (xs : List DV) (M : Mp) (Φ : DK) : spCut xs M Φ = (on2 xs fun x y => onX x fun a => onX y fun b => ∀ p, M p = none → Φ (.own p) (mset M p (.lst ((cutB a b).map bD)))) := propext Iff.rfl
def spLeft : DSp := fun xs M Φ => on2 xs fun x y => onX x fun a => onBs y fun bs => bs.length ≤ 6 ∧ Φ (.dat (.list ((leftB a bs).map bD))) M
theorem spLeft_q (xs : List DV) (M : Mp) (Φ : DK) : spLeft xs M Φ = (on2 xs fun x y => onX x fun a => onBs y fun bs => bs.length ≤ 6 ∧ Φ (.dat (.list ((leftB a bs).map bD))) M) := propext Iff.rfl
def spLies : DSp := fun xs M Φ => on2 xs fun x y => onBs x fun bs => onP y fun u v => bs.length ≤ 6 ∧ Φ (.dat (.bool (anyB bs u v))) M
theorem spLies_q (xs : List DV) (M : Mp) (Φ : DK) : spLies xs M Φ = (on2 xs fun x y => onBs x fun bs => onP y fun u v => bs.length ≤ 6 ∧ Φ (.dat (.bool (anyB bs u v))) M) := propext Iff.rfl
local macro_rules | `(tactic| walk_at "rk") => `(tactic| try simp (config := { maxSteps := 10000000 }) only [↓onV_mk_q, ↓onI_mk_q, ↓onB_mk_q, ↓onS_mk_q, ↓onT_mk_q, ↓onL_mk_q, ↓onD_mk_q, ↓onO_mk_q, ↓onOL_mk_q, ↓onOC_mk_q, ↓onQ_t_q, ↓onQ_l_q, ↓onQ_o_q, ↓onK_l_q, ↓onK_o_q, ↓on1_mk_q, ↓on2_mk_q, ↓on3_mk_q, ↓on4_mk_q, ↓on5_mk_q, ↓on6_mk_q, ↓onDs_0_q, ↓onDs_1_q, ↓onDs_2_q, ↓onDs_3_q, ↓onDs_4_q, ↓onDs_5_q, ↓onDs_6_q, ↓onDs_7_q, ↓onDs_8_q, ↓onDs_9_q, ↓onDs_10_q, ↓onDs_11_q, ↓onDs_12_q, ↓dVar_q, ↓dC_q, ↓dTy_q, ↓dOp_q, ↓dB_q, ↓dChain_q, ↓dAnd_q, ↓dOr_q, ↓dNot_q, ↓dAndV_q, ↓dOrV_q, ↓dNotV_q, ↓dIf_q, ↓dUnI_q, ↓δI_q, ↓δI0_q, ↓δB_q, ↓δCatT_q, ↓δCatL_q, ↓δCatLO_q, ↓dNil_q, ↓dCons_q, ↓dTup_q, ↓dLst_q, ↓dLstO_q, ↓dFrz_q, ↓onAt_0_q, ↓onAt_1_q, ↓onAt_2_q, ↓onAt_3_q, ↓onAt_4_q, ↓onAt_5_q, ↓onAt_6_q, ↓onAt_7_q, ↓δIx_q, ↓dCB_q, ↓δLen_q, ↓δLenS_q, ↓δStrI_q, ↓δAbs_q, ↓δ2I_q, ↓δListOf_q, ↓δRepr_q, ↓δIsi_mk_q, ↓eqD_ii_q, ↓eqD_ss_q, ↓eqD_bb_q, ↓δEq_q, ↓δNe_q, ↓δNeS_q, ↓δEqS_q, ↓dNoPart_q, ↓dPart_q, ↓dSlT_q, ↓dNext_q, ↓dSeq_q, ↓dBreak_q, ↓dCont_q, ↓dDrop_q, ↓dRet_q, ↓dRetN_q, ↓dIfS_q, ↓dgName_q, ↓dgNil_mk_q, ↓dgCons_mk_q, ↓onNs_0_q, ↓onNs_s_q, ↓dgTup_q, ↓dgSub_q, ↓dAsg_q, ↓dAppend_q, ↓dForL_q, ↓dForT_q, ↓dForR1_q, ↓dForR2_q, ↓dCall_q, ↓dDict0_q, ↓onKey_i_q, ↓onKey_s_q, ↓dDict1_q, ↓dDict2_q, ↓dDict1T_q, ↓sp1_q, ↓srcL_q, ↓srcT_q, ↓srcR1_q, ↓srcR2_q, ↓dEnd_t_q, ↓dEnd_f_q, ↓dComp_q, ↓tcNo_q, ↓δSortI_q, ↓δMinI_q, ↓δMaxI_q, ↓δ3I_q, ↓δTupOf_q, ↓onW_t_q, ↓onW_l_q, ↓δIn_q, ↓dExtend_q, ↓dSlL_q, ↓δSumI_q, ↓δAllB_q, ↓δAnyB_q, ↓δIntB_q, ↓dPar_q, ↓δCatS_q, ↓dSlS_q, ↓dListR2_q, ↓dAug_q, ↓δMinP_q, ↓dDict0T_q, ↓dPutT_q, ↓onP_mk_q, ↓δInT_q, ↓dRevT_q, ↓dSlTW_q, ↓onFr_l_q, ↓onFr_o_q, ↓dFrzA_q, ↓srcM_q, ↓dWhile_q, ↓dPop_q, ↓onN_mk_q, ↓δIsN_q, ↓δNotIn_q, ↓δNotInT_q, CompRun_n, CompRun_c, TurnsU_n, TurnsU_c, dCompU_q, capD, startD, onAt_last, onKs, keysD, rngD_0, rngD_1, rngD_2, rngD_3, rngD_4, isNone_none, isNone_bool, isNone_int, isNone_str, isNone_list, isNone_tuple, isNone_dict,
  Option.bind_some, Option.bind_none, Option.join_some, Option.join_none, Option.getD_some, Option.map_some, Option.map_none, List.getElem?_cons_zero, List.getElem?_cons_succ, List.set_cons_zero, List.set_cons_succ, List.map_cons, List.map_nil, List.length_cons, List.length_nil, List.replicate, List.cons_append, List.nil_append, List.any_cons, List.any_nil,
  mset_same, mset_mset, ↓reduceIte, Bool.not_true, Bool.not_false, Bool.or_false, Bool.or_true, Bool.true_or, Bool.false_or, Bool.and_true, Bool.and_false, Bool.true_and, Bool.false_and, Bool.bne_true, Bool.bne_false, Bool.false_eq_true, eq_self, true_and, and_true, ixN_30, ixN_31, ixN_32, exists_eq_left', exists_eq_left, Option.some.injEq, Nat.reduceAdd, Nat.reduceSub, Nat.zero_add, Nat.reduceLT, Nat.reduceLeDiff, Int.reduceToNat, Int.reducePow, Int.reduceSub, Int.reduceMul, Int.reduceAdd, Int.reduceNeg,
  Int.reduceLT, Int.reduceLE, Int.reduceEq, Int.zero_add, Int.cast_ofNat_Int, decide_true, decide_false, sizeLine_eq, eqA_nil, eqA_cons, eqA_cn, eqA_nc, eq_tt, eq_ll, eq_nn, eq_ii, eq_ss, eq_bb, ty_int_none, ty_int_bool, ty_int_int, ty_int_str, ty_int_list, ty_int_tuple, ty_int_dict, ty_bool_none, ty_bool_bool, ty_bool_int, ty_bool_str, ty_bool_list, ty_bool_tuple, ty_bool_dict, ty_tuple_none, ty_tuple_bool, ty_tuple_int, ty_tuple_str, ty_tuple_list, ty_tuple_tuple, ty_tuple_dict, ty_list_none, ty_list_bool, ty_list_int, ty_list_str, ty_list_list, ty_list_tuple, ty_list_dict, ty_str_none, ty_str_bool, ty_str_int, ty_str_str, ty_str_list, ty_str_tuple, ty_str_dict, ty_dict_none, ty_dict_bool, ty_dict_int, ty_dict_str, ty_dict_list, ty_dict_tuple, ty_dict_dict, ↓onX_mk_q, ↓onX_m4_q, ↓onQ_bD_q, ↓onT_bD_q, onBs_mk, onBl_mk, ↓spHas_q, ↓spGap_q, ↓spBetween_q, ↓spTo_q, ↓spHasB_q, ↓spSteps_q, ↓spSquare_q, ↓spCommon_q, ↓spCut_q, ↓spLeft_q, ↓spLies_q])
/-! ### lists of boxes -/
theorem take_filter {α : Type} {l : List α} {i : Nat} {q : α} (f : α → Bool) (h : l[i]? = some q) : (l.take (i + 1)).filter f = (l.take i).filter f ++ (if f q = true then [q] else []) := by
  rw [List.take_add_one, h, List.filter_append]
  cases e : f q <;> simp [e]
theorem cut_len4 (a b : B4) : (cutB a b).length ≤ 4 := by
  unfold cutB
  split
  · simp
  · exact Nat.le_trans (List.length_filter_le _ _) (Nat.le_refl 4)
theorem fold_len : ∀ (bs ps : List B4), (bs.foldl (fun ps b => ps.flatMap fun p => cutB p b) ps).length ≤ ps.length * 4 ^ bs.length
  | [], ps => by simp
  | b :: bs, ps => by
    have h1 := flat_len (fun p => cutB p b) 4 ps fun p _ => cut_len4 p b
    have h2 := fold_len bs (ps.flatMap fun p => cutB p b)
    rw [List.foldl_cons, List.length_cons, Nat.pow_succ]
    refine Nat.le_trans h2 (Nat.le_trans (Nat.mul_le_mul_right _ h1) ?_)
    rw [Nat.mul_assoc, Nat.mul_comm 4]
    exact Nat.le_refl _
theorem leftB_len (a : B4) (bs : List B4) (h : bs.length ≤ 6) : (leftB a bs).length ≤ 4096 := by
  have h1 := fold_len bs [a]
  rw [List.length_singleton, Nat.one_mul] at h1
  have h2 : 4 ^ bs.length ≤ 4 ^ 6 := Nat.pow_le_pow_right (by decide) h
  exact Nat.le_trans h1 (Nat.le_trans h2 (by decide))
theorem leftB_snoc {a b : B4} {bs : List B4} {i : Nat} (h : bs[i]? = some b) : leftB a (bs.take (i + 1)) = (leftB a (bs.take i)).flatMap fun p => cutB p b := by
  unfold leftB
  rw [List.take_add_one, h, List.foldl_append]
  rfl
/-- q lies within p -/
def Sub (q p : B4) : Prop := okB q = true ∧ p.x ≤ q.x ∧ q.X ≤ p.X ∧ p.y ≤ q.y ∧ q.Y ≤ p.Y
theorem Sub.trans {a b c : B4} (h : Sub a b) (k : Sub b c) : Sub a c := by
  unfold Sub at *
  exact ⟨h.1, by omega⟩
theorem cut_sub {a b q : B4} (ha : okB a = true) (h : q ∈ cutB a b) : Sub q a := by
  unfold cutB at h
  split at h
  · rw [List.mem_singleton.mp h]
    exact ⟨ha, by omega⟩
  · rename_i h0
    obtain ⟨h1, h2⟩ := List.mem_filter.mp h
    refine ⟨h2, ?_⟩
    unfold apartB btw gp at h0
    unfold okB at ha h2
    simp only [Bool.and_eq_true, decide_eq_true_eq] at ha h2
    unfold cut4 at h1
    simp only [List.mem_cons, List.not_mem_nil, or_false] at h1
    rcases h1 with rfl | rfl | rfl | rfl
    all_goals (dsimp only at h2 ⊢; omega)
theorem fold_sub {a : B4} : ∀ (bs ps : List B4), (∀ p ∈ ps, Sub p a) → ∀ q ∈ bs.foldl (fun ps b => ps.flatMap fun p => cutB p b) ps, Sub q a
  | [], ps, h, q, hq => h q hq
  | b :: bs, ps, h, q, hq => by
    rw [List.foldl_cons] at hq
    refine fold_sub bs _ (fun p hp => ?_) q hq
    obtain ⟨p', hp', hc⟩ := List.mem_flatMap.mp hp
    exact (cut_sub (h p' hp').1 hc).trans (h p' hp')
theorem left_sub {a q : B4} {bs : List B4} (ha : okB a = true) (h : q ∈ leftB a bs) : Sub q a :=
  fold_sub bs [a] (fun p hp => by rw [List.mem_singleton.mp hp]; exact ⟨ha, by omega⟩) q h
theorem any_snoc {α : Type} {l : List α} {i : Nat} {q : α} (f : α → Bool) (h : l[i]? = some q) : (l.take (i + 1)).any f = ((l.take i).any f || f q) := by
  rw [List.take_add_one, h, List.any_append]
  simp
section
variable {P : Program} {w : World} {K : PySem.W.Frag} {mg : Str → Option Value} {base : Heap}
theorem ok_has_spots (T : Tx K mg) : FnOk P w K mg base CX0 1 T.f_has_spots T.d_has_spots ["box"] (lift K spHas) := by
  refine okD T.o_has_spots.F sc_has_spots (fun xs M Φ h => by obtain ⟨_, rfl, _⟩ := on1_ex h; rfl) fun cdv A outer s H E hr => ⟨_, (dss_one (ds_ret (de_and (de_cmp od_le (de_ix (de_ix (de_var 0) de_int) de_int) (de_ix (de_ix (de_var 0) de_int) de_int)) (de_one (de_cmp od_le (de_ix (de_ix (de_var 0) de_int) de_int) (de_ix (de_ix (de_var 0) de_int) de_int)))))), fun xs M Φ h => ?_⟩
  replace h := on1_ex h
  obtain ⟨x1, rfl, h⟩ := h
  replace h := onX_ex h
  obtain ⟨b, rfl, h⟩ := h
  walk_at "rk"
  refine cases_true (fun h1 => ?_) (fun h1 => ?_)
  · unfold okB at h
    simpa [h1] using h
  · unfold okB at h
    simpa [h1] using h
theorem ok_gap (T : Tx K mg) : FnOk P w K mg base CX0 1 T.f_gap T.d_gap ["one", "other", "way"] (lift K spGap) := by
  refine okD T.o_gap.F sc_gap (fun xs M Φ h => by obtain ⟨_, _, _, rfl, _⟩ := on3_ex h; rfl) fun cdv A outer s H E hr => ⟨_, (dss_one (ds_ret (de_callB (cd_max3 rfl) rfl T.n_max bt_max (da_cons de_int (da_cons (de_op od_sub (de_ix (de_ix (de_var 1) de_int) (de_var 2)) (de_ix (de_ix (de_var 0) de_int) (de_var 2))) (da_cons (de_op od_sub (de_ix (de_ix (de_var 0) de_int) (de_var 2)) (de_ix (de_ix (de_var 1) de_int) (de_var 2))) da_nil)))))), fun xs M Φ h => ?_⟩
  replace h := on3_ex h
  obtain ⟨x1, x2, x3, rfl, h⟩ := h
  replace h := onX_ex h
  obtain ⟨a, rfl, h⟩ := h
  replace h := onX_ex h
  obtain ⟨b, rfl, h⟩ := h
  replace h := onI_ex h
  obtain ⟨i, rfl, hi, h⟩ := h
  rcases hi with rfl | rfl
  · walk_at "rk"
    exact h
  · walk_at "rk"
    exact h
theorem ok_steps_between (T : Tx K mg) : FnOk P w K mg base CX0 2 T.f_steps_between T.d_steps_between ["one", "other"] (lift K spBetween) := by
  have G_gap : FnOk P w K mg base CX0 1 T.f_gap T.d_gap ["one", "other", "way"] (lift K spGap) := ok_gap T
  refine okD T.o_steps_between.F sc_steps_between (fun xs M Φ h => by obtain ⟨_, _, rfl, _⟩ := on2_ex h; rfl) fun cdv A outer s H E hr => ⟨_, (dss_one (ds_ret (de_callB (cd_max2 rfl) rfl T.n_max bt_max (da_cons (de_call G_gap (hr.mono (by first | decide | omega)) rfl T.o_gap.m T.o_gap.F.kp T.o_gap.b pass0 (da_cons (de_var 0) (da_cons (de_var 1) (da_cons de_int da_nil)))) (da_cons (de_call G_gap (hr.mono (by first | decide | omega)) rfl T.o_gap.m T.o_gap.F.kp T.o_gap.b pass0 (da_cons (de_var 0) (da_cons (de_var 1) (da_cons de_int da_nil)))) da_nil))))), fun xs M Φ h => ?_⟩
  replace h := on2_ex h
  obtain ⟨x1, x2, rfl, h⟩ := h
  replace h := onX_ex h
  obtain ⟨a, rfl, h⟩ := h
  replace h := onX_ex h
  obtain ⟨b, rfl, h⟩ := h
  walk_at "rk"
  exact ⟨.inl trivial, .inr trivial, h⟩
theorem ok_steps_to (T : Tx K mg) : FnOk P w K mg base CX0 3 T.f_steps_to T.d_steps_to ["box", "spot"] (lift K spTo) := by
  have G_steps_between : FnOk P w K mg base CX0 2 T.f_steps_between T.d_steps_between ["one", "other"] (lift K spBetween) := ok_steps_between T
  refine okD T.o_steps_to.F sc_steps_to (fun xs M Φ h => by obtain ⟨_, _, rfl, _⟩ := on2_ex h; rfl) fun cdv A outer s H E hr => ⟨_, (dss_one (ds_ret (de_call G_steps_between (hr.mono (by first | decide | omega)) rfl T.o_steps_between.m T.o_steps_between.F.kp T.o_steps_between.b pass0 (da_cons (de_var 0) (da_cons (de_tup (da_cons (de_var 1) (da_cons (de_var 1) da_nil))) da_nil))))), fun xs M Φ h => ?_⟩
  replace h := on2_ex h
  obtain ⟨x1, x2, rfl, h⟩ := h
  replace h := onX_ex h
  obtain ⟨a, rfl, h⟩ := h
  replace h := onP_ex h
  obtain ⟨u, v, rfl, h⟩ := h
  walk_at "rk"
  exact h
theorem gp_zero {a b a' b' : Int} : gp a b a' b' = 0 ↔ a' ≤ b ∧ a ≤ b' := by
  unfold gp
  omega
theorem gp_nn (a b a' b' : Int) : 0 ≤ gp a b a' b' := Int.le_max_left _ _
theorem mx_zero {x y : Int} (hx : 0 ≤ x) (hy : 0 ≤ y) : max x y = 0 ↔ x = 0 ∧ y = 0 := by omega
theorem hasB_btw (b : B4) (u v : Int) : decide (distB b u v = 0) = hasB b u v := by
  unfold hasB distB btw
  rw [decide_eq_decide, mx_zero (gp_nn _ _ _ _) (gp_nn _ _ _ _), gp_zero, gp_zero]
  omega
theorem ok_has (T : Tx K mg) : FnOk P w K mg base CX0 4 T.f_has T.d_has ["box", "spot"] (lift K spHasB) := by
  have G_steps_to : FnOk P w K mg base CX0 3 T.f_steps_to T.d_steps_to ["box", "spot"] (lift K spTo) := ok_steps_to T
  refine okD T.o_has.F sc_has (fun xs M Φ h => by obtain ⟨_, _, rfl, _⟩ := on2_ex h; rfl) fun cdv A outer s H E hr => ⟨_, (dss_one (ds_ret (de_cmp (od_eq hr) (de_call G_steps_to (hr.mono (by first | decide | omega)) rfl T.o_steps_to.m T.o_steps_to.F.kp T.o_steps_to.b pass0 (da_cons (de_var 0) (da_cons (de_var 1) da_nil))) de_int))), fun xs M Φ h => ?_⟩
  replace h := on2_ex h
  obtain ⟨x1, x2, rfl, h⟩ := h
  replace h := onX_ex h
  obtain ⟨a, rfl, h⟩ := h
  replace h := onP_ex h
  obtain ⟨u, v, rfl, h⟩ := h
  walk_at "rk"
  rw [hasB_btw]
  exact h
theorem ok_common (T : Tx K mg) : FnOk P w K mg base CX0 1 T.f_common T.d_common ["one", "other"] (lift K spCommon) := by
  refine okD T.o_common.F sc_common (fun xs M Φ h => by obtain ⟨_, _, rfl, _⟩ := on2_ex h; rfl) fun cdv A outer s H E hr => ⟨_, (dss_cons (ds_set 2 sc_common.nd (de_tup (da_cons (de_callB (cd_max2 rfl) rfl T.n_max bt_max (da_cons (de_ix (de_ix (de_var 0) de_int) de_int) (da_cons (de_ix (de_ix (de_var 1) de_int) de_int) da_nil))) (da_cons (de_callB (cd_max2 rfl) rfl T.n_max bt_max (da_cons (de_ix (de_ix (de_var 0) de_int) de_int) (da_cons (de_ix (de_ix (de_var 1) de_int) de_int) da_nil))) da_nil))))
  (dss_cons (ds_set 3 sc_common.nd (de_tup (da_cons (de_callB (cd_min2 rfl) rfl T.n_min bt_min (da_cons (de_ix (de_ix (de_var 0) de_int) de_int) (da_cons (de_ix (de_ix (de_var 1) de_int) de_int) da_nil))) (da_cons (de_callB (cd_min2 rfl) rfl T.n_min bt_min (da_cons (de_ix (de_ix (de_var 0) de_int) de_int) (da_cons (de_ix (de_ix (de_var 1) de_int) de_int) da_nil))) da_nil))))
  (dss_one (ds_ret (de_tup (da_cons (de_var 2) (da_cons (de_var 3) da_nil))))))), fun xs M Φ h => ?_⟩
  replace h := on2_ex h
  obtain ⟨x1, x2, rfl, h⟩ := h
  replace h := onX_ex h
  obtain ⟨a, rfl, h⟩ := h
  replace h := onX_ex h
  obtain ⟨b, rfl, h⟩ := h
  walk_at "hd"
  walk_at "rk"
  walk_at "hd"
  walk_at "rk"
  subst_vars
  walk_at "rk"
  exact h
theorem ok_cut_out (T : Tx K mg) : FnOk P w K mg base CX0 3 T.f_cut_out T.d_cut_out ["one", "other"] (lift K spCut) := by
  have G_common : FnOk P w K mg base CX0 1 T.f_common T.d_common ["one", "other"] (lift K spCommon) := ok_common T
  have G_steps_between : FnOk P w K mg base CX0 2 T.f_steps_between T.d_steps_between ["one", "other"] (lift K spBetween) := ok_steps_between T
  have G_has_spots : FnOk P w K mg base CX0 1 T.f_has_spots T.d_has_spots ["box"] (lift K spHas) := ok_has_spots T
  refine okD T.o_cut_out.F sc_cut_out (fun xs M Φ h => by obtain ⟨_, _, rfl, _⟩ := on2_ex h; rfl) fun cdv A outer s H E hr => ⟨_, (dss_cons (ds_if (dt_cmp od_gt (de_call G_steps_between (hr.mono (by first | decide | omega)) rfl T.o_steps_between.m T.o_steps_between.F.kp T.o_steps_between.b pass0 (da_cons (de_var 0) (da_cons (de_var 1) da_nil))) de_int) (dss_one (ds_ret (de_lstO (da_cons (de_var 0) da_nil)))) dss_nil)
  (dss_cons (ds_set 2 sc_cut_out.nd (de_call G_common (hr.mono (by first | decide | omega)) rfl T.o_common.m T.o_common.F.kp T.o_common.b pass0 (da_cons (de_var 0) (da_cons (de_var 1) da_nil))))
  (dss_cons (ds_set 3 sc_cut_out.nd (de_tup (da_cons (de_ix (de_var 0) de_int) (da_cons (de_tup (da_cons (de_op od_sub (de_ix (de_ix (de_var 2) de_int) de_int) de_int) (da_cons (de_ix (de_ix (de_var 0) de_int) de_int) da_nil))) da_nil))))
  (dss_cons (ds_set 4 sc_cut_out.nd (de_tup (da_cons (de_tup (da_cons (de_op od_add (de_ix (de_ix (de_var 2) de_int) de_int) de_int) (da_cons (de_ix (de_ix (de_var 0) de_int) de_int) da_nil))) (da_cons (de_ix (de_var 0) de_int) da_nil))))
  (dss_cons (ds_set 5 sc_cut_out.nd (de_tup (da_cons (de_tup (da_cons (de_ix (de_ix (de_var 2) de_int) de_int) (da_cons (de_ix (de_ix (de_var 0) de_int) de_int) da_nil))) (da_cons (de_tup (da_cons (de_ix (de_ix (de_var 2) de_int) de_int) (da_cons (de_op od_sub (de_ix (de_ix (de_var 2) de_int) de_int) de_int) da_nil))) da_nil))))
  (dss_cons (ds_set 6 sc_cut_out.nd (de_tup (da_cons (de_tup (da_cons (de_ix (de_ix (de_var 2) de_int) de_int) (da_cons (de_op od_add (de_ix (de_ix (de_var 2) de_int) de_int) de_int) da_nil))) (da_cons (de_tup (da_cons (de_ix (de_ix (de_var 2) de_int) de_int) (da_cons (de_ix (de_ix (de_var 0) de_int) de_int) da_nil))) da_nil))))
  (dss_one (ds_ret (de_comp true (compOk_of (sc := defScope s_cut_out) (XN := ["one", "other", "middle", "left", "right", "below", "above"]) (N := ["piece"]) (ix := [none]) rfl rfl (by decide +kernel)) (di_list (de_lst (da_cons (de_var 3) (da_cons (de_var 4) (da_cons (de_var 5) (da_cons (de_var 6) da_nil)))))) (fun C ex s H => (dg_name 0 (show List.Nodup (["piece"] : List Str) by decide +kernel))) (fun C ex s H => (dts_one (dt_val (de_call G_has_spots (hr.mono (by first | decide | omega)) rfl T.o_has_spots.m T.o_has_spots.F.kp T.o_has_spots.b pass0 (da_cons (de_var 0) da_nil))))) (fun C ex s H => (de_var 0)) rfl))))))))), fun xs M Φ h => ?_⟩
  replace h := on2_ex h
  obtain ⟨x1, x2, rfl, h⟩ := h
  replace h := onX_ex h
  obtain ⟨a, rfl, h⟩ := h
  replace h := onX_ex h
  obtain ⟨b, rfl, h⟩ := h
  walk_at "hd"
  walk_at "rk"
  refine cases_true (fun hk => ?_) (fun hk => ?_)
  · intro p hp
    have h' := h p hp
    rw [show cutB a b = [a] from if_pos hk] at h'
    exact h'
  · have ec : cutB a b = (cut4 a b).filter okB := if_neg hk
    walk_at "hd"
    walk_at "rk"
    walk_at "hd"
    walk_at "rk"
    walk_at "hd"
    walk_at "rk"
    walk_at "hd"
    walk_at "rk"
    walk_at "hd"
    walk_at "rk"
    subst_vars
    walk_at "rk"
    refine ⟨fun i acc M' => acc = (((cut4 a b).take i).filter okB).map bD ∧ M' = M, ⟨rfl, rfl⟩, ?_, ?_⟩
    · rintro i d acc M' hd ⟨rfl, rfl⟩
      have hd' : ((cut4 a b).map bD)[i]? = some d := hd
      obtain ⟨q, eq, rfl⟩ := map_get hd'
      walk_at "rk"
      rw [take_filter okB eq, List.map_append]
      cases okB q with
      | true => rfl
      | false => simp
    · rintro acc M' ⟨rfl, rfl⟩
      rw [ec] at h
      exact h
theorem ok_left_over (T : Tx K mg) : FnOk P w K mg base CX0 4 T.f_left_over T.d_left_over ["box", "others"] (lift K spLeft) := by
  have G_cut_out : FnOk P w K mg base CX0 3 T.f_cut_out T.d_cut_out ["one", "other"] (lift K spCut) := ok_cut_out T
  refine okD T.o_left_over.F sc_left_over (fun xs M Φ h => by obtain ⟨_, _, rfl, _⟩ := on2_ex h; rfl) fun cdv A outer s H E hr => ⟨_, (dss_cons (ds_set 2 sc_left_over.nd (de_lst (da_cons (de_var 0) da_nil)))
  (dss_cons (ds_forT (de_var 1) (dg_name 3 sc_left_over.nd) (dss_cons (ds_set 4 sc_left_over.nd (de_lstO da_nil))
  (dss_cons (ds_forL (de_var 2) (dg_name 5 sc_left_over.nd) (dss_one (ds_expr (de_extend (de_var 4) (de_call G_cut_out (hr.mono (by first | decide | omega)) rfl T.o_cut_out.m T.o_cut_out.F.kp T.o_cut_out.b pass0 (da_cons (de_var 5) (da_cons (de_var 3) da_nil)))))) PassesOwn.never rfl)
  (dss_one (ds_set 2 sc_left_over.nd (de_frz (de_var 4)))))) PassesOwn.never rfl)
  (dss_one (ds_ret (de_var 2))))), fun xs M Φ h => ?_⟩
  replace h := on2_ex h
  obtain ⟨x1, x2, rfl, h⟩ := h
  replace h := onX_ex h
  obtain ⟨a, rfl, h⟩ := h
  replace h := onBs_ex h
  obtain ⟨bs, rfl, hl, h⟩ := h
  walk_at "hd"
  walk_at "rk"
  walk_at "hd"
  walk_at "rk"
  refine ⟨fun i Δ M' => ∃ k3 k4 k5, Δ = [some (.dat (bD a)), some (.dat (.tuple (bs.map bD))), some (.dat (.list ((leftB a (bs.take i)).map bD))), k3, k4, k5] ∧ M' = M, ⟨none, none, none, rfl, rfl⟩, ?_, ?_⟩
  · rintro i d Δ M' hd ⟨k3, k4, k5, rfl, rfl⟩
    obtain ⟨b, eb, rfl⟩ := map_get hd
    have len := leftB_len a (bs.take i) (by rw [List.length_take]; omega)
    walk_at "rk"
    intro q hq
    refine ⟨fun j Δ M2 => ∃ k5, Δ = [some (.dat (bD a)), some (.dat (.tuple (bs.map bD))), some (.dat (.list ((leftB a (bs.take i)).map bD))), some (.dat (bD b)), some (.own q), k5] ∧ M2 = mset M' q (.lst ((((leftB a (bs.take i)).take j).flatMap fun p => cutB p b).map bD)), ⟨k5, rfl, rfl⟩, ?_, ?_⟩
    · rintro j d Δ M2 hd2 ⟨k5, rfl, rfl⟩
      obtain ⟨p, ep, rfl⟩ := map_get hd2
      walk_at "rk"
      intro c hc
      have hne := fresh_ne hc
      simp only [mset_ne (Ne.symm hne)]
      walk_at "rk"
      refine ⟨hne, ?_, _, rfl, ?_⟩
      · have h1 := flat_len (fun p => cutB p b) 4 ((leftB a (bs.take i)).take j) fun p _ => cut_len4 p b
        have h2 := cut_len4 p b
        rw [List.length_take] at h1
        rw [List.length_map, List.length_map]
        omega
      · rw [ext_map hc, ← List.map_append, take_flat (fun p => cutB p b) ep]
    · rintro Δ M2 ⟨k5, rfl, rfl⟩
      rw [List.length_map, List.take_length]
      walk_at "rk"
      exact ⟨_, _, _, by rw [leftB_snoc eb], mdel_mset hq⟩
  · rintro Δ M' ⟨k3, k4, k5, rfl, rfl⟩
    rw [List.length_map, List.take_length]
    subst_vars
    walk_at "rk"
    exact h
theorem okB_iff {b : B4} : okB b = true ↔ b.x ≤ b.X ∧ b.y ≤ b.Y := by
  unfold okB
  simp only [Bool.and_eq_true, decide_eq_true_eq]
theorem hasB_iff {b : B4} {u v : Int} : hasB b u v = true ↔ b.x ≤ u ∧ u ≤ b.X ∧ b.y ≤ v ∧ v ≤ b.Y := by
  unfold hasB
  rw [decide_eq_true_eq]
def strB (f ox oy : Int) (b : B4) : B4 := ⟨b.x * f + ox, b.y * f + oy, b.X * f + f - 1 + ox, b.Y * f + f - 1 + oy⟩
theorem mul_iff {a x f r : Int} (hf : 0 < f) (h0 : 0 ≤ r) (h1 : r < f) : a * f ≤ x * f + r ↔ a ≤ x := by
  constructor
  · intro h
    by_cases hx : a ≤ x
    · exact hx
    · have := Int.mul_le_mul_of_nonneg_right (show x + 1 ≤ a by omega) (Int.le_of_lt hf)
      rw [Int.add_mul, Int.one_mul] at this
      omega
  · intro h
    have := Int.mul_le_mul_of_nonneg_right h (Int.le_of_lt hf)
    omega
theorem mul_iff' {a x f r : Int} (hf : 0 < f) (h0 : 0 ≤ r) (h1 : r < f) : x * f + r ≤ a * f + f - 1 ↔ x ≤ a := by
  constructor
  · intro h
    by_cases hx : x ≤ a
    · exact hx
    · have := Int.mul_le_mul_of_nonneg_right (show a + 1 ≤ x by omega) (Int.le_of_lt hf)
      rw [Int.add_mul, Int.one_mul] at this
      omega
  · intro h
    have := Int.mul_le_mul_of_nonneg_right h (Int.le_of_lt hf)
    omega
theorem hasS {f ox oy r r' : Int} (hf : 0 < f) (h0 : 0 ≤ r) (h1 : r < f) (h2 : 0 ≤ r') (h3 : r' < f) (b : B4) (u v : Int) : hasB (strB f ox oy b) (u * f + ox + r) (v * f + oy + r') = hasB b u v := by
  unfold hasB strB
  dsimp only
  have i1 := mul_iff (a := b.x) (x := u) hf h0 h1
  have i2 := mul_iff' (a := b.X) (x := u) hf h0 h1
  have i3 := mul_iff (a := b.y) (x := v) hf h2 h3
  have i4 := mul_iff' (a := b.Y) (x := v) hf h2 h3
  rw [decide_eq_decide, ← i1, ← i2, ← i3, ← i4]
  constructor <;> intro h <;> omega
theorem anyS {f ox oy r r' : Int} (hf : 0 < f) (h0 : 0 ≤ r) (h1 : r < f) (h2 : 0 ≤ r') (h3 : r' < f) (bs : List B4) (u v : Int) :
    ((bs.map (strB f ox oy)).any fun b => hasB b (u * f + ox + r) (v * f + oy + r')) = bs.any fun b => hasB b u v := by
  rw [List.any_map]
  congr 1
  funext b
  exact hasS hf h0 h1 h2 h3 b u v
/-! ### cells of a grid, stretched -/
def Cel (b : B4) : Prop := okB b = true ∧ (0 ≤ b.x ∧ b.X ≤ 11) ∧ (0 ≤ b.y ∧ b.Y ≤ 11)
def cellB (t ox oy i j : Int) : B4 := strB t ox oy ⟨i, j, i, j⟩
theorem div_parts {t : Int} (ht : 1 ≤ t) (x o : Int) : ∃ r, x = (x - o) / t * t + o + r ∧ 0 ≤ r ∧ r < t := by
  refine ⟨(x - o) % t, ?_, Int.emod_nonneg _ (by omega), Int.emod_lt_of_pos _ (by omega)⟩
  have := Int.mul_ediv_add_emod (x - o) t
  rw [Int.mul_comm] at this
  omega
theorem laid_any {t ox oy : Int} (ht : 1 ≤ t) (bs : List B4) (x y : Int) : anyB (bs.map (strB t ox oy)) x y = anyB bs ((x - ox) / t) ((y - oy) / t) := by
  obtain ⟨r, e, a1, a2⟩ := div_parts ht x ox
  obtain ⟨r', e', b1, b2⟩ := div_parts ht y oy
  have h := anyS (ox := ox) (oy := oy) (by omega) a1 a2 b1 b2 bs ((x - ox) / t) ((y - oy) / t)
  rw [← e, ← e'] at h
  exact h
theorem anyB_mem {bs : List B4} {x y : Int} (h : anyB bs x y = true) : ∃ b ∈ bs, hasB b x y = true := List.any_eq_true.mp h
theorem cel_any {bs : List B4} (hb : ∀ b ∈ bs, Cel b) {i j : Int} (h : anyB bs i j = true) : (0 ≤ i ∧ i ≤ 11) ∧ (0 ≤ j ∧ j ≤ 11) := by
  obtain ⟨b, mb, tb⟩ := anyB_mem h
  have := (hb b mb).2
  have := hasB_iff.mp tb
  omega
/-! ### covers -/
inductive Cv where
  | box (k : Int)
  | cut (w a : Int) (p q : Cv)
def cvD : Cv → PyData
  | .box k => .tuple [.str (Str.ofString "box"), .int k]
  | .cut w a p q => .tuple [.str (Str.ofString "cut"), .int w, .int a, cvD p, cvD q]
def Cv.dep : Cv → Nat
  | .box _ => 1
  | .cut _ _ p q => max p.dep q.dep + 1
theorem dep_cut (w a : Int) (p q : Cv) : (Cv.cut w a p q).dep = max p.dep q.dep + 1 := rfl
theorem Cv.dep_pos (c : Cv) : 1 ≤ c.dep := by cases c <;> simp [Cv.dep]
def upB (b : B4) (w a : Int) : B4 := if w = 0 then ⟨b.x, b.y, a, b.Y⟩ else ⟨b.x, b.y, b.X, a⟩
def owB (b : B4) (w a : Int) : B4 := if w = 0 then ⟨a, b.y, b.X, b.Y⟩ else ⟨b.x, a, b.X, b.Y⟩
def loB (b : B4) (w : Int) : Int := if w = 0 then b.x else b.y
def hiB (b : B4) (w : Int) : Int := if w = 0 then b.X else b.Y
def allB (c b : B4) : Bool := hasB c b.x b.y && hasB c b.X b.Y
def inB (c b : B4) : Bool := decide (c.x ≤ b.x ∧ c.y ≤ b.y ∧ b.X ≤ c.X ∧ b.Y ≤ c.Y)
def numB (bs : List B4) (k : Int) : Bool := decide (0 ≤ k) && decide (k < bs.length)
def cutsB (b : B4) (w a : Int) : Bool := (decide (w = 0) || decide (w = 1)) && (decide (loB b w ≤ a) && decide (a < hiB b w))
def holdsB (bs : List B4) : B4 → Cv → Bool
  | b, .box k => numB bs k && (match bs[k.toNat]? with | some c => allB c b | none => false)
  | b, .cut w a p q => cutsB b w a && (holdsB bs (upB b w a) p && holdsB bs (owB b w (a + 1)) q)
def Cov (bs : List B4) (b : B4) : Prop := ∀ u v, hasB b u v = true → anyB bs u v = true
theorem cutsB_iff {b : B4} {w a : Int} : cutsB b w a = true ↔ (w = 0 ∨ w = 1) ∧ loB b w ≤ a ∧ a < hiB b w := by
  unfold cutsB
  simp only [Bool.and_eq_true, Bool.or_eq_true, decide_eq_true_eq]
theorem allB_iff {c b : B4} : allB c b = true ↔ (c.x ≤ b.x ∧ b.x ≤ c.X ∧ c.y ≤ b.y ∧ b.y ≤ c.Y) ∧ (c.x ≤ b.X ∧ b.X ≤ c.X ∧ c.y ≤ b.Y ∧ b.Y ≤ c.Y) := by
  unfold allB hasB
  rw [Bool.and_eq_true, decide_eq_true_eq, decide_eq_true_eq]
theorem inB_all {c b : B4} (hb : okB b = true) (h : inB c b = true) : allB c b = true := by
  rw [okB_iff] at hb
  unfold inB at h
  have h := of_decide_eq_true h
  rw [allB_iff]
  omega
theorem up_has {b : B4} {w a u v : Int} (h : hasB b u v = true) (hw : w = 0 ∨ w = 1) : hasB (upB b w a) u v = true ∨ hasB (owB b w (a + 1)) u v = true := by
  rw [hasB_iff] at *
  rw [hasB_iff]
  rcases hw with rfl | rfl
  · unfold upB owB
    rw [if_pos rfl, if_pos rfl]
    dsimp only
    omega
  · unfold upB owB
    rw [if_neg (by decide), if_neg (by decide)]
    dsimp only
    omega
theorem sub_has {b : B4} {w a u v : Int} (hw : w = 0 ∨ w = 1) (h1 : loB b w ≤ a) (h2 : a < hiB b w) : (hasB (upB b w a) u v = true → hasB b u v = true) ∧ (hasB (owB b w (a + 1)) u v = true → hasB b u v = true) := by
  rw [hasB_iff, hasB_iff, hasB_iff]
  rcases hw with rfl | rfl
  · unfold upB owB
    unfold loB at h1
    unfold hiB at h2
    rw [if_pos rfl] at h1 h2
    rw [if_pos rfl, if_pos rfl]
    dsimp only
    omega
  · unfold upB owB
    unfold loB at h1
    unfold hiB at h2
    rw [if_neg (by decide)] at h1 h2
    rw [if_neg (by decide), if_neg (by decide)]
    dsimp only
    omega
theorem sub_ok {b : B4} {w a : Int} (hb : okB b = true) (hw : w = 0 ∨ w = 1) (h1 : loB b w ≤ a) (h2 : a < hiB b w) : okB (upB b w a) = true ∧ okB (owB b w (a + 1)) = true := by
  rw [okB_iff] at *
  rw [okB_iff]
  rcases hw with rfl | rfl
  · unfold upB owB
    unfold loB at h1
    unfold hiB at h2
    rw [if_pos rfl] at h1 h2
    rw [if_pos rfl, if_pos rfl]
    dsimp only
    omega
  · unfold upB owB
    unfold loB at h1
    unfold hiB at h2
    rw [if_neg (by decide)] at h1 h2
    rw [if_neg (by decide), if_neg (by decide)]
    dsimp only
    omega
theorem holds_sound {bs : List B4} : ∀ {c : Cv} {b : B4}, holdsB bs b c = true → Cov bs b
  | .box k, b, h, u, v, hu => by
    unfold holdsB at h
    rw [Bool.and_eq_true] at h
    cases q : bs[k.toNat]? with
    | none => rw [q] at h; exact absurd h.2 Bool.false_ne_true
    | some c =>
      rw [q] at h
      refine List.any_eq_true.mpr ⟨c, List.mem_of_getElem? q, ?_⟩
      have := allB_iff.mp h.2
      rw [hasB_iff] at *
      omega
  | .cut w a p q, b, h, u, v, hu => by
    unfold holdsB at h
    rw [Bool.and_eq_true, Bool.and_eq_true, cutsB_iff] at h
    rcases up_has (a := a) hu h.1.1 with z | z
    · exact holds_sound h.2.1 u v z
    · exact holds_sound h.2.2 u v z
theorem own_holds {bs : List B4} {b c : B4} {i : Nat} (hi : bs[i]? = some c) (h : allB c b = true) : holdsB bs b (.box (i : Int)) = true := by
  unfold holdsB numB
  have hl := (List.getElem?_eq_some_iff.mp hi).1
  rw [decide_eq_true (show (0 : Int) ≤ (i : Int) by omega), decide_eq_true (show (i : Int) < bs.length by omega), Int.toNat_natCast, hi]
  exact h
theorem cut_holds {bs : List B4} {b : B4} {w a : Int} {p q : Cv} (hw : w = 0 ∨ w = 1) (h1 : loB b w ≤ a) (h2 : a < hiB b w) (hp : holdsB bs (upB b w a) p = true) (hq : holdsB bs (owB b w (a + 1)) q = true) : holdsB bs b (.cut w a p q) = true := by
  unfold holdsB
  rw [cutsB_iff.mpr ⟨hw, h1, h2⟩, hp, hq]
  rfl
theorem Cov.sub {bs : List B4} {b : B4} {w a : Int} (h : Cov bs b) (hw : w = 0 ∨ w = 1) (h1 : loB b w ≤ a) (h2 : a < hiB b w) : Cov bs (upB b w a) ∧ Cov bs (owB b w (a + 1)) :=
  ⟨fun u v z => h u v ((sub_has hw h1 h2).1 z), fun u v z => h u v ((sub_has hw h1 h2).2 z)⟩
/-! ### how many ends of boxes lie within -/
def endIn (b : B4) (w : Int) (c : B4) : Bool := decide (loB b w ≤ hiB c w) && decide (hiB c w < hiB b w)
def cntB (bs : List B4) (b : B4) : Nat := bs.countP (endIn b 0) + bs.countP (endIn b 1)
theorem countP_lt {α : Type} {p q : α → Bool} : ∀ {l : List α}, (∀ x ∈ l, p x = true → q x = true) → (∃ x ∈ l, q x = true ∧ p x = false) → l.countP p < l.countP q
  | [], _, ⟨x, hx, _⟩ => (nomatch hx)
  | a :: l, h, ⟨x, hx, h1, h2⟩ => by
    have hm : l.countP p ≤ l.countP q := List.countP_mono_left fun y hy => h y (List.mem_cons_of_mem _ hy)
    rw [List.countP_cons, List.countP_cons]
    rcases List.mem_cons.mp hx with rfl | hx
    · rw [h1, h2]
      simp
      omega
    · have ih := countP_lt (fun y hy => h y (List.mem_cons_of_mem _ hy)) ⟨x, hx, h1, h2⟩
      cases e : p a with
      | false => simp; omega
      | true => rw [h a List.mem_cons_self e]; simp; omega
theorem cnt_le (bs : List B4) (b : B4) : cntB bs b ≤ 2 * bs.length := by
  unfold cntB
  have h1 := List.countP_le_length (l := bs) (p := endIn b 0)
  have h2 := List.countP_le_length (l := bs) (p := endIn b 1)
  omega
theorem end_sub {b : B4} {w a w' : Int} (hw : w = 0 ∨ w = 1) (hw' : w' = 0 ∨ w' = 1) (h1 : loB b w ≤ a) (h2 : a < hiB b w) (c : B4) : (endIn (upB b w a) w' c = true → endIn b w' c = true) ∧ (endIn (owB b w (a + 1)) w' c = true → endIn b w' c = true) := by
  unfold endIn
  simp only [Bool.and_eq_true, decide_eq_true_eq]
  rcases hw with rfl | rfl <;> rcases hw' with rfl | rfl <;> simp only [upB, owB, loB, hiB, if_true, if_false, Int.reduceEq] at * <;> omega
theorem end_gone {b : B4} {w a : Int} (hw : w = 0 ∨ w = 1) (c : B4) (e : hiB c w = a) : endIn (upB b w a) w c = false ∧ endIn (owB b w (a + 1)) w c = false := by
  unfold endIn
  simp only [Bool.and_eq_false_iff, decide_eq_false_iff_not]
  rcases hw with rfl | rfl <;> simp only [upB, owB, loB, hiB, if_true, if_false, Int.reduceEq] at * <;> omega
theorem cnt_end {bs : List B4} {b : B4} {w a : Int} (hw : w = 0 ∨ w = 1) (h1 : loB b w ≤ a) (h2 : a < hiB b w) {c : B4} (hc : c ∈ bs) (e : hiB c w = a) : cntB bs (upB b w a) < cntB bs b ∧ cntB bs (owB b w (a + 1)) < cntB bs b := by
  have here : endIn b w c = true := by
    unfold endIn
    rw [e, decide_eq_true h1, decide_eq_true h2]
    rfl
  have g := end_gone (b := b) (a := a) hw c e
  have k := fun w' (hw' : w' = 0 ∨ w' = 1) => (⟨List.countP_mono_left fun c _ => (end_sub hw hw' h1 h2 c).1, List.countP_mono_left fun c _ => (end_sub hw hw' h1 h2 c).2⟩ : bs.countP (endIn (upB b w a) w') ≤ bs.countP (endIn b w') ∧ bs.countP (endIn (owB b w (a + 1)) w') ≤ bs.countP (endIn b w'))
  have s1 := countP_lt (l := bs) (p := endIn (upB b w a) w) (q := endIn b w) (fun c _ => (end_sub hw hw h1 h2 c).1) ⟨c, hc, here, g.1⟩
  have s2 := countP_lt (l := bs) (p := endIn (owB b w (a + 1)) w) (q := endIn b w) (fun c _ => (end_sub hw hw h1 h2 c).2) ⟨c, hc, here, g.2⟩
  unfold cntB
  have k0 := k 0 (.inl rfl)
  have k1 := k 1 (.inr rfl)
  rcases hw with rfl | rfl <;> omega
/-! ### what of a box is lacking, cell by cell -/
theorem div_iff {t o u x : Int} (ht : 1 ≤ t) : (u - o) / t = x ↔ x * t + o ≤ u ∧ u < x * t + o + t := by
  have h1 := Int.le_ediv_iff_mul_le (a := x) (b := u - o) (c := t) (by omega)
  have h2 := Int.ediv_lt_iff_lt_mul (a := u - o) (b := x + 1) (c := t) (by omega)
  have e : (x + 1) * t = x * t + t := by rw [Int.add_mul, Int.one_mul]
  rw [e] at h2
  constructor
  · intro h
    omega
  · intro h
    omega
def Mis (bs : List B4) (t ox oy : Int) (b : B4) (x y u v : Int) : Prop := anyB bs x y = false ∧ (u = max b.x (x * t + ox) ∧ u ≤ b.X) ∧ (v = max b.y (y * t + oy) ∧ v ≤ b.Y)
theorem mis_at {t o a x : Int} (ht : 1 ≤ t) (h : (a - o) / t ≤ x) : (max a (x * t + o) - o) / t = x := by
  have ha := (div_iff (t := t) (o := o) (u := a) ht).mp rfl
  rw [div_iff ht]
  by_cases e : (a - o) / t = x
  · rw [e] at ha
    omega
  · have := Int.mul_le_mul_of_nonneg_right (show (a - o) / t + 1 ≤ x by omega) (show 0 ≤ t by omega)
    rw [Int.add_mul, Int.one_mul] at this
    omega
theorem mis_le {t o a u : Int} (ht : 1 ≤ t) (h : a ≤ u) : max a ((u - o) / t * t + o) ≤ u := by
  have := (div_iff (t := t) (o := o) (u := u) ht).mp rfl
  omega
theorem mis_iff {bs : List B4} {t ox oy : Int} {b : B4} (ht : 1 ≤ t) (hc : ∀ c ∈ bs, Cel c) (hb : okB b = true) (h0 : anyB bs ((b.x - ox) / t) ((b.y - oy) / t) = true) :
    (∀ x y u v, ((b.x - ox) / t ≤ x ∧ x ≤ 12) → ((b.y - oy) / t ≤ y ∧ y ≤ 12) → ¬ Mis bs t ox oy b x y u v) ↔ Cov (bs.map (strB t ox oy)) b := by
  have c0 := cel_any hc h0
  have hb := okB_iff.mp hb
  have no12 : ∀ x y, 11 < x ∨ 11 < y → anyB bs x y = false := fun x y h => Bool.eq_false_iff.mpr fun k => by have := cel_any hc k; omega
  have ax := (div_iff (t := t) (o := ox) (u := b.x) ht).mp rfl
  have ay := (div_iff (t := t) (o := oy) (u := b.y) ht).mp rfl
  constructor
  · intro h u v hu
    rw [hasB_iff] at hu
    rw [laid_any ht]
    have mx : (b.x - ox) / t ≤ (u - ox) / t := Int.ediv_le_ediv (by omega) (by omega)
    have my : (b.y - oy) / t ≤ (v - oy) / t := Int.ediv_le_ediv (by omega) (by omega)
    have ux := (div_iff (t := t) (o := ox) (u := u) ht).mp rfl
    have uy := (div_iff (t := t) (o := oy) (u := v) ht).mp rfl
    by_cases gx : (u - ox) / t ≤ 12
    · by_cases gy : (v - oy) / t ≤ 12
      · cases q : anyB bs ((u - ox) / t) ((v - oy) / t) with
        | true => rfl
        | false =>
          have l1 := mis_le (o := ox) ht (show b.x ≤ u by omega)
          have l2 := mis_le (o := oy) ht (show b.y ≤ v by omega)
          exact absurd (show Mis bs t ox oy b _ _ _ _ from ⟨q, ⟨rfl, by omega⟩, rfl, by omega⟩) (h _ _ _ _ ⟨mx, gx⟩ ⟨my, gy⟩)
      · have k := Int.mul_le_mul_of_nonneg_right (show (13 : Int) ≤ (v - oy) / t by omega) (show 0 ≤ t by omega)
        exact absurd (show Mis bs t ox oy b ((b.x - ox) / t) 12 _ _ from ⟨no12 _ _ (.inr (by decide)), ⟨rfl, by omega⟩, rfl, by omega⟩) (h _ _ _ _ ⟨Int.le_refl _, by omega⟩ ⟨by omega, by omega⟩)
    · have k := Int.mul_le_mul_of_nonneg_right (show (13 : Int) ≤ (u - ox) / t by omega) (show 0 ≤ t by omega)
      exact absurd (show Mis bs t ox oy b 12 ((b.y - oy) / t) _ _ from ⟨no12 _ _ (.inl (by decide)), ⟨rfl, by omega⟩, rfl, by omega⟩) (h _ _ _ _ ⟨by omega, by omega⟩ ⟨Int.le_refl _, by omega⟩)
  · intro h x y u v hx hy hm
    obtain ⟨q, ⟨rfl, h1⟩, rfl, h2⟩ := hm
    have k := h _ _ (by rw [hasB_iff]; exact ⟨Int.le_max_left _ _, h1, Int.le_max_left _ _, h2⟩)
    rw [laid_any ht, mis_at ht hx.1, mis_at ht hy.1, q] at k
    cases k
/-! ### papers of any kind -/
def isWholeD : PyData → Bool
  | .int _ => true
  | _ => false
def numD (bs : List B4) : PyData → Bool
  | .int k => numB bs k
  | _ => false
def cutsD (b : B4) : PyData → PyData → Bool
  | .int w, .int a => cutsB b w a
  | _, _ => false
def leafD (bs : List B4) (b : B4) : PyData → Bool
  | .int k => numB bs k && (match bs[k.toNat]? with | some c => allB c b | none => false)
  | _ => false
def upD (b : B4) : PyData → PyData → B4
  | .int w, .int a => upB b w a
  | _, _ => b
def owD (b : B4) : PyData → PyData → B4
  | .int w, .int a => owB b w (a + 1)
  | _, _ => b
def holdsD (bs : List B4) : Nat → B4 → PyData → Bool
  | 0, _, _ => false
  | _ + 1, b, .tuple [h, k] => isS h (Str.ofString "box") && leafD bs b k
  | n + 1, b, .tuple [h, w, a, p, q] => isS h (Str.ofString "cut") && (cutsD b w a && (holdsD bs n (upD b w a) p && holdsD bs n (owD b w a) q))
  | _ + 1, _, _ => false
/-- what may be looked at: n deep -/
def Pap : Nat → PyData → Prop
  | 0, _ => False
  | _ + 1, .tuple [h, _] => h.canLay0 = true
  | n + 1, .tuple [h, _, _, p, q] => h.canLay0 = true ∧ Pap n p ∧ Pap n q
  | _ + 1, _ => True
theorem holdsD_no {bs : List B4} {n : Nat} {b : B4} {ds : List PyData} (h2 : ds.length ≠ 2) (h5 : ds.length ≠ 5) : holdsD bs (n + 1) b (.tuple ds) = false := by
  unfold holdsD
  split
  · cases ‹_›
  · rename_i e
    simp only [PyData.tuple.injEq] at e
    rw [e] at h2
    exact absurd rfl h2
  · rename_i e
    simp only [PyData.tuple.injEq] at e
    rw [e] at h5
    exact absurd rfl h5
  · rfl
theorem two_of {ds : List PyData} (h : ds.length = 2) : ∃ a b, ds = [a, b] := by
  match ds, h with
  | [a, b], _ => exact ⟨a, b, rfl⟩
theorem five_of {ds : List PyData} (h : ds.length = 5) : ∃ a b c d e, ds = [a, b, c, d, e] := by
  match ds, h with
  | [a, b, c, d, e], _ => exact ⟨a, b, c, d, e, rfl⟩
theorem Pap.up : ∀ {n : Nat} {d : PyData}, Pap n d → Pap (n + 1) d
  | 0, _, h => h.elim
  | n + 1, d, h => by
    cases d with
    | tuple ds =>
      by_cases h2 : ds.length = 2
      · obtain ⟨a, b, rfl⟩ := two_of h2
        exact h
      · by_cases h5 : ds.length = 5
        · obtain ⟨a, b, c, p, q, rfl⟩ := five_of h5
          exact ⟨h.1, Pap.up h.2.1, Pap.up h.2.2⟩
        · match ds, h2, h5 with
          | [], _, _ => trivial
          | [_], _, _ => trivial
          | [_, _], h2, _ => exact absurd rfl h2
          | [_, _, _], _, _ => trivial
          | [_, _, _, _], _, _ => trivial
          | [_, _, _, _, _], _, h5 => exact absurd rfl h5
          | _ :: _ :: _ :: _ :: _ :: _ :: _, _, _ => trivial
    | _ => trivial
theorem Pap.le {n m : Nat} {d : PyData} (h : Pap n d) (hm : n ≤ m) : Pap m d := by
  obtain ⟨k, rfl⟩ := Nat.exists_eq_add_of_le hm
  clear hm
  induction k with
  | zero => exact h
  | succ k ih => exact ih.up
theorem holdsD_up {bs : List B4} : ∀ {n : Nat} {b : B4} {d : PyData}, Pap n d → holdsD bs (n + 1) b d = holdsD bs n b d
  | 0, _, _, h => h.elim
  | n + 1, b, d, h => by
    cases d with
    | tuple ds =>
      by_cases h2 : ds.length = 2
      · obtain ⟨x, y, rfl⟩ := two_of h2
        rfl
      · by_cases h5 : ds.length = 5
        · obtain ⟨x, y, c, p, q, rfl⟩ := five_of h5
          show (isS x _ && (cutsD b y c && (holdsD bs (n + 1) _ p && holdsD bs (n + 1) _ q))) = (isS x _ && (cutsD b y c && (holdsD bs n _ p && holdsD bs n _ q)))
          rw [holdsD_up h.2.1, holdsD_up h.2.2]
        · rw [holdsD_no h2 h5, holdsD_no h2 h5]
    | _ => rfl
/-- a cover's own paper -/
def Cv.wok : Cv → Prop
  | .box k => 0 ≤ k ∧ k < 7
  | .cut w _ p q => (w = 0 ∨ w = 1) ∧ p.wok ∧ q.wok
theorem lay_word {s : String} (h : (PyData.str (Str.ofString s)).canLay0 = true := by decide +kernel) : (PyData.str (Str.ofString s)).canLay0 = true := h
theorem pap_cv : ∀ {c : Cv} {n : Nat}, c.dep ≤ n → Pap n (cvD c)
  | c, 0, h => by have := c.dep_pos; omega
  | .box k, n + 1, _ => lay_word (s := "box")
  | .cut w a p q, n + 1, h => by
    rw [dep_cut] at h
    exact ⟨lay_word (s := "cut"), pap_cv (by omega), pap_cv (by omega)⟩
theorem cut_any {a b : B4} (ha : okB a = true) (x y : Int) : ((cutB a b).any fun p => hasB p x y) = (hasB a x y && !hasB b x y) := by
  have ok := okB_iff.mp ha
  rw [Bool.eq_iff_iff, Bool.and_eq_true, Bool.not_eq_true', ← Bool.not_eq_true, hasB_iff, hasB_iff, List.any_eq_true]
  unfold cutB
  split
  · rename_i h0
    unfold apartB btw gp at h0
    constructor
    · rintro ⟨p, hp, h⟩
      rw [List.mem_singleton.mp hp, hasB_iff] at h
      omega
    · intro h
      exact ⟨a, List.mem_singleton.mpr rfl, hasB_iff.mpr (by omega)⟩
  · rename_i h0
    unfold apartB btw gp at h0
    constructor
    · rintro ⟨p, hp, h⟩
      have hp := (List.mem_filter.mp hp).1
      rw [hasB_iff] at h
      unfold cut4 at hp
      simp only [List.mem_cons, List.not_mem_nil, or_false] at hp
      rcases hp with rfl | rfl | rfl | rfl
      all_goals (dsimp only at h; omega)
    · intro h
      have fin : ∀ p : B4, p ∈ cut4 a b → (p.x ≤ x ∧ x ≤ p.X ∧ p.y ≤ y ∧ y ≤ p.Y) → ∃ p, p ∈ (cut4 a b).filter okB ∧ hasB p x y = true := fun p hp hh => ⟨p, List.mem_filter.mpr ⟨hp, okB_iff.mpr (by omega)⟩, hasB_iff.mpr hh⟩
      by_cases c1 : x < b.x
      · exact fin ⟨a.x, a.y, max a.x b.x - 1, a.Y⟩ (by simp [cut4]) (by dsimp only; omega)
      · by_cases c2 : b.X < x
        · exact fin ⟨min a.X b.X + 1, a.y, a.X, a.Y⟩ (by simp [cut4]) (by dsimp only; omega)
        · by_cases c3 : y < b.y
          · exact fin ⟨max a.x b.x, a.y, min a.X b.X, max a.y b.y - 1⟩ (by simp [cut4]) (by dsimp only; omega)
          · exact fin ⟨max a.x b.x, min a.Y b.Y + 1, min a.X b.X, a.Y⟩ (by simp [cut4]) (by dsimp only; omega)
theorem fold_any (x y : Int) : ∀ (bs ps : List B4), (∀ p ∈ ps, okB p = true) → ((bs.foldl (fun ps b => ps.flatMap fun p => cutB p b) ps).any fun p => hasB p x y) = ((ps.any fun p => hasB p x y) && !(bs.any fun b => hasB b x y))
  | [], ps, _ => by simp
  | b :: bs, ps, hp => by
    have go : ∀ qs : List B4, (∀ p ∈ qs, okB p = true) → ((qs.flatMap fun p => cutB p b).any fun p => hasB p x y) = ((qs.any fun p => hasB p x y) && !hasB b x y) := fun qs => by
      induction qs with
      | nil => intro _; simp
      | cons q qs ih =>
        intro hq
        rw [List.flatMap_cons, List.any_append, cut_any (hq q List.mem_cons_self), ih fun p h => hq p (List.mem_cons_of_mem _ h), List.any_cons]
        cases hasB q x y <;> cases hasB b x y <;> cases (qs.any fun p => hasB p x y) <;> rfl
    rw [List.foldl_cons, fold_any x y bs _ (fun p h => by
      obtain ⟨q, hq, hc⟩ := List.mem_flatMap.mp h
      exact (cut_sub (hp q hq) hc).1), go ps hp, List.any_cons]
    cases (ps.any fun p => hasB p x y) <;> cases hasB b x y <;> cases (bs.any fun p => hasB p x y) <;> rfl
theorem left_any {a : B4} {bs : List B4} (ha : okB a = true) (_ : ∀ b ∈ bs, okB b = true) (x y : Int) : ((leftB a bs).any fun p => hasB p x y) = (hasB a x y && !(bs.any fun b => hasB b x y)) := by
  unfold leftB
  rw [fold_any x y bs [a] fun p hp => by rw [List.mem_singleton.mp hp]; exact ha]
  simp
/-! ### the program's own words about covers -/
def spW : DSp := fun xs M Φ => on1 xs fun x => onD x fun d => Φ (.dat (.bool (isWholeD d))) M
theorem spW_q (xs : List DV) (M : Mp) (Φ : DK) : spW xs M Φ = (on1 xs fun x => onD x fun d => Φ (.dat (.bool (isWholeD d))) M) := propext Iff.rfl
def spHasAll : DSp := fun xs M Φ => on2 xs fun x y => onX x fun a => onX y fun b => Φ (.dat (.bool (allB a b))) M
theorem spHasAll_q (xs : List DV) (M : Mp) (Φ : DK) : spHasAll xs M Φ = (on2 xs fun x y => onX x fun a => onX y fun b => Φ (.dat (.bool (allB a b))) M) := propext Iff.rfl
def spUp : DSp := fun xs M Φ => on3 xs fun x y z => onX x fun b => onI y fun i => onI z fun a => Φ (.dat (bD (upB b i a))) M
theorem spUp_q (xs : List DV) (M : Mp) (Φ : DK) : spUp xs M Φ = (on3 xs fun x y z => onX x fun b => onI y fun i => onI z fun a => Φ (.dat (bD (upB b i a))) M) := propext Iff.rfl
def spOw : DSp := fun xs M Φ => on3 xs fun x y z => onX x fun b => onI y fun i => onI z fun a => Φ (.dat (bD (owB b i a))) M
theorem spOw_q (xs : List DV) (M : Mp) (Φ : DK) : spOw xs M Φ = (on3 xs fun x y z => onX x fun b => onI y fun i => onI z fun a => Φ (.dat (bD (owB b i a))) M) := propext Iff.rfl
def spNum : DSp := fun xs M Φ => on2 xs fun x y => onBs x fun bs => onD y fun k => Φ (.dat (.bool (numD bs k))) M
theorem spNum_q (xs : List DV) (M : Mp) (Φ : DK) : spNum xs M Φ = (on2 xs fun x y => onBs x fun bs => onD y fun k => Φ (.dat (.bool (numD bs k))) M) := propext Iff.rfl
def spCuts : DSp := fun xs M Φ => on3 xs fun x y z => onX x fun b => onD y fun i => onD z fun a => Φ (.dat (.bool (cutsD b i a))) M
theorem spCuts_q (xs : List DV) (M : Mp) (Φ : DK) : spCuts xs M Φ = (on3 xs fun x y z => onX x fun b => onD y fun i => onD z fun a => Φ (.dat (.bool (cutsD b i a))) M) := propext Iff.rfl
def spHolds (n : Nat) : DSp := fun xs M Φ => on3 xs fun x y z => onBs x fun bs => onX y fun b => onD z fun d => Pap n d ∧ Φ (.dat (.bool (holdsD bs n b d))) M
theorem spHolds_q (n : Nat) (xs : List DV) (M : Mp) (Φ : DK) : spHolds n xs M Φ = (on3 xs fun x y z => onBs x fun bs => onX y fun b => onD z fun d => Pap n d ∧ Φ (.dat (.bool (holdsD bs n b d))) M) := propext Iff.rfl
theorem spHolds_void (xs : List DV) (M : Mp) (Φ : DK) : ¬ spHolds 0 xs M Φ := fun h => by
  replace h := on3_ex h
  obtain ⟨x, y, z, rfl, h⟩ := h
  replace h := onBs_ex h
  obtain ⟨bs, rfl, h⟩ := h
  replace h := onX_ex h
  obtain ⟨b, rfl, h⟩ := h
  replace h := onD_ex h
  obtain ⟨d, rfl, h, _⟩ := h
  exact h
local macro_rules | `(tactic| walk_at "r2") => `(tactic| try simp (config := { maxSteps := 10000000 }) only [↓onV_mk_q, ↓onI_mk_q, ↓onB_mk_q, ↓onS_mk_q, ↓onT_mk_q, ↓onL_mk_q, ↓onD_mk_q, ↓onO_mk_q, ↓onOL_mk_q, ↓onOC_mk_q, ↓onQ_t_q, ↓onQ_l_q, ↓onQ_o_q, ↓onK_l_q, ↓onK_o_q, ↓on1_mk_q, ↓on2_mk_q, ↓on3_mk_q, ↓on4_mk_q, ↓on5_mk_q, ↓on6_mk_q, ↓onDs_0_q, ↓onDs_1_q, ↓onDs_2_q, ↓onDs_3_q, ↓onDs_4_q, ↓onDs_5_q, ↓onDs_6_q, ↓onDs_7_q, ↓onDs_8_q, ↓onDs_9_q, ↓onDs_10_q, ↓onDs_11_q, ↓onDs_12_q, ↓dVar_q, ↓dC_q, ↓dTy_q, ↓dOp_q, ↓dB_q, ↓dChain_q, ↓dAnd_q, ↓dOr_q, ↓dNot_q, ↓dAndV_q, ↓dOrV_q, ↓dNotV_q, ↓dIf_q, ↓dUnI_q, ↓δI_q, ↓δI0_q, ↓δB_q, ↓δCatT_q, ↓δCatL_q, ↓δCatLO_q, ↓dNil_q, ↓dCons_q, ↓dTup_q, ↓dLst_q, ↓dLstO_q, ↓dFrz_q, ↓onAt_0_q, ↓onAt_1_q, ↓onAt_2_q, ↓onAt_3_q, ↓onAt_4_q, ↓onAt_5_q, ↓onAt_6_q, ↓onAt_7_q, ↓δIx_q, ↓dCB_q, ↓δLen_q, ↓δLenS_q, ↓δStrI_q, ↓δAbs_q, ↓δ2I_q, ↓δListOf_q, ↓δRepr_q, ↓δIsi_mk_q, ↓eqD_ii_q, ↓eqD_ss_q, ↓eqD_bb_q, ↓δEq_q, ↓δNe_q, ↓δNeS_q, ↓δEqS_q, ↓dNoPart_q, ↓dPart_q, ↓dSlT_q, ↓dNext_q, ↓dSeq_q, ↓dBreak_q, ↓dCont_q, ↓dDrop_q, ↓dRet_q, ↓dRetN_q, ↓dIfS_q, ↓dgName_q, ↓dgNil_mk_q, ↓dgCons_mk_q, ↓onNs_0_q, ↓onNs_s_q, ↓dgTup_q, ↓dgSub_q, ↓dAsg_q, ↓dAppend_q, ↓dForL_q, ↓dForT_q, ↓dForR1_q, ↓dForR2_q, ↓dCall_q, ↓dDict0_q, ↓onKey_i_q, ↓onKey_s_q, ↓dDict1_q, ↓dDict2_q, ↓dDict1T_q, ↓sp1_q, ↓srcL_q, ↓srcT_q, ↓srcR1_q, ↓srcR2_q, ↓dEnd_t_q, ↓dEnd_f_q, ↓dComp_q, ↓tcNo_q, ↓δSortI_q, ↓δMinI_q, ↓δMaxI_q, ↓δ3I_q, ↓δTupOf_q, ↓onW_t_q, ↓onW_l_q, ↓δIn_q, ↓dExtend_q, ↓dSlL_q, ↓δSumI_q, ↓δAllB_q, ↓δAnyB_q, ↓δIntB_q, ↓dPar_q, ↓δCatS_q, ↓dSlS_q, ↓dListR2_q, ↓dAug_q, ↓δMinP_q, ↓dDict0T_q, ↓dPutT_q, ↓onP_mk_q, ↓δInT_q, ↓dRevT_q, ↓dSlTW_q, ↓onFr_l_q, ↓onFr_o_q, ↓dFrzA_q, ↓srcM_q, ↓dWhile_q, ↓dPop_q, ↓onN_mk_q, ↓δIsN_q, ↓δNotIn_q, ↓δNotInT_q, CompRun_n, CompRun_c, TurnsU_n, TurnsU_c, dCompU_q, capD, startD, onAt_last, onKs, keysD, rngD_0, rngD_1, rngD_2, rngD_3, rngD_4, isNone_none, isNone_bool, isNone_int, isNone_str, isNone_list, isNone_tuple, isNone_dict,
  Option.bind_some, Option.bind_none, Option.join_some, Option.join_none, Option.getD_some, Option.map_some, Option.map_none, List.getElem?_cons_zero, List.getElem?_cons_succ, List.set_cons_zero, List.set_cons_succ, List.map_cons, List.map_nil, List.length_cons, List.length_nil, List.replicate, List.cons_append, List.nil_append, List.any_cons, List.any_nil,
  mset_same, mset_mset, ↓reduceIte, Bool.not_true, Bool.not_false, Bool.or_false, Bool.or_true, Bool.true_or, Bool.false_or, Bool.and_true, Bool.and_false, Bool.true_and, Bool.false_and, Bool.bne_true, Bool.bne_false, Bool.false_eq_true, eq_self, true_and, and_true, ixN_30, ixN_31, ixN_32, exists_eq_left', exists_eq_left, Option.some.injEq, Nat.reduceAdd, Nat.reduceSub, Nat.zero_add, Nat.reduceLT, Nat.reduceLeDiff, Int.reduceToNat, Int.reducePow, Int.reduceSub, Int.reduceMul, Int.reduceAdd, Int.reduceNeg,
  Int.reduceLT, Int.reduceLE, Int.reduceEq, Int.zero_add, Int.cast_ofNat_Int, decide_true, decide_false, sizeLine_eq, eqA_nil, eqA_cons, eqA_cn, eqA_nc, eq_tt, eq_ll, eq_nn, eq_ii, eq_ss, eq_bb, ty_int_none, ty_int_bool, ty_int_int, ty_int_str, ty_int_list, ty_int_tuple, ty_int_dict, ty_bool_none, ty_bool_bool, ty_bool_int, ty_bool_str, ty_bool_list, ty_bool_tuple, ty_bool_dict, ty_tuple_none, ty_tuple_bool, ty_tuple_int, ty_tuple_str, ty_tuple_list, ty_tuple_tuple, ty_tuple_dict, ty_list_none, ty_list_bool, ty_list_int, ty_list_str, ty_list_list, ty_list_tuple, ty_list_dict, ty_str_none, ty_str_bool, ty_str_int, ty_str_str, ty_str_list, ty_str_tuple, ty_str_dict, ty_dict_none, ty_dict_bool, ty_dict_int, ty_dict_str, ty_dict_list, ty_dict_tuple, ty_dict_dict, ↓onX_mk_q, ↓onX_m4_q, ↓onQ_bD_q, ↓onT_bD_q, onBs_mk, onBl_mk, ↓spHas_q, ↓spGap_q, ↓spBetween_q, ↓spTo_q, ↓spHasB_q, ↓spSteps_q, ↓spSquare_q, ↓spCommon_q, ↓spCut_q, ↓spLeft_q, ↓spLies_q, ↓spW_q, ↓spHasAll_q, ↓spUp_q, ↓spOw_q, ↓spNum_q, ↓spCuts_q])
theorem ok_is_whole (T : Tx K mg) : FnOk P w K mg base CX0 1 T.f_is_whole T.d_is_whole ["thing"] (lift K spW) := by
  refine okD T.o_is_whole.F sc_is_whole (fun xs M Φ h => by obtain ⟨_, rfl, _⟩ := on1_ex h; rfl) fun cdv A outer s H E hr => ⟨_, (dss_one (ds_ret (de_and (de_callB (cd_isi (kit_int _)) rfl T.n_isinstance bt_isinstance (da_cons (de_var 0) (da_cons (de_ty rfl T.n_int bt_int) da_nil))) (de_one (de_not (de_callB (cd_isi (kit_bool _)) rfl T.n_isinstance bt_isinstance (da_cons (de_var 0) (da_cons (de_ty rfl T.n_bool bt_bool) da_nil)))))))), fun xs M Φ h => ?_⟩
  replace h := on1_ex h
  obtain ⟨x1, rfl, h⟩ := h
  replace h := onD_ex h
  obtain ⟨d, rfl, h⟩ := h
  walk_at "r2"
  cases d <;> simpa [isTyp, tyN, isWholeD] using h
theorem ok_has_all (T : Tx K mg) : FnOk P w K mg base CX0 5 T.f_has_all T.d_has_all ["box", "other"] (lift K spHasAll) := by
  have G_has : FnOk P w K mg base CX0 4 T.f_has T.d_has ["box", "spot"] (lift K spHasB) := ok_has T
  refine okD T.o_has_all.F sc_has_all (fun xs M Φ h => by obtain ⟨_, _, rfl, _⟩ := on2_ex h; rfl) fun cdv A outer s H E hr => ⟨_, (dss_one (ds_ret (de_and (de_call G_has (hr.mono (by first | decide | omega)) rfl T.o_has.m T.o_has.F.kp T.o_has.b pass0 (da_cons (de_var 0) (da_cons (de_ix (de_var 1) de_int) da_nil))) (de_one (de_call G_has (hr.mono (by first | decide | omega)) rfl T.o_has.m T.o_has.F.kp T.o_has.b pass0 (da_cons (de_var 0) (da_cons (de_ix (de_var 1) de_int) da_nil))))))), fun xs M Φ h => ?_⟩
  replace h := on2_ex h
  obtain ⟨x1, x2, rfl, h⟩ := h
  replace h := onX_ex h
  obtain ⟨a, rfl, h⟩ := h
  replace h := onX_ex h
  obtain ⟨b, rfl, h⟩ := h
  walk_at "r2"
  unfold allB at h
  cases q : hasB a b.x b.y with
  | true => rw [q] at h; simpa using h
  | false => rw [q] at h; simpa using h
theorem ok_up_to (T : Tx K mg) : FnOk P w K mg base CX0 1 T.f_up_to T.d_up_to ["box", "way", "at"] (lift K spUp) := by
  refine okD T.o_up_to.F sc_up_to (fun xs M Φ h => by obtain ⟨_, _, _, rfl, _⟩ := on3_ex h; rfl) fun cdv A outer s H E hr => ⟨_, (dss_cons (ds_set 3 sc_up_to.nd (de_if (dt_cmp (od_eq hr) (de_var 1) de_int) (de_tup (da_cons (de_var 2) (da_cons (de_ix (de_ix (de_var 0) de_int) de_int) da_nil))) (de_tup (da_cons (de_ix (de_ix (de_var 0) de_int) de_int) (da_cons (de_var 2) da_nil)))))
  (dss_one (ds_ret (de_tup (da_cons (de_ix (de_var 0) de_int) (da_cons (de_var 3) da_nil)))))), fun xs M Φ h => ?_⟩
  replace h := on3_ex h
  obtain ⟨x1, x2, x3, rfl, h⟩ := h
  replace h := onX_ex h
  obtain ⟨b, rfl, h⟩ := h
  replace h := onI_ex h
  obtain ⟨i, rfl, h⟩ := h
  replace h := onI_ex h
  obtain ⟨a, rfl, h⟩ := h
  unfold upB at h
  walk_at "hd"
  walk_at "r2"
  refine cases_true (fun z => ?_) fun z => ?_
  · rw [if_pos z] at h
    subst_vars
    walk_at "r2"
    exact h
  · rw [if_neg z] at h
    subst_vars
    walk_at "r2"
    exact h
theorem ok_onward_from (T : Tx K mg) : FnOk P w K mg base CX0 1 T.f_onward_from T.d_onward_from ["box", "way", "at"] (lift K spOw) := by
  refine okD T.o_onward_from.F sc_onward_from (fun xs M Φ h => by obtain ⟨_, _, _, rfl, _⟩ := on3_ex h; rfl) fun cdv A outer s H E hr => ⟨_, (dss_cons (ds_set 3 sc_onward_from.nd (de_if (dt_cmp (od_eq hr) (de_var 1) de_int) (de_tup (da_cons (de_var 2) (da_cons (de_ix (de_ix (de_var 0) de_int) de_int) da_nil))) (de_tup (da_cons (de_ix (de_ix (de_var 0) de_int) de_int) (da_cons (de_var 2) da_nil)))))
  (dss_one (ds_ret (de_tup (da_cons (de_var 3) (da_cons (de_ix (de_var 0) de_int) da_nil)))))), fun xs M Φ h => ?_⟩
  replace h := on3_ex h
  obtain ⟨x1, x2, x3, rfl, h⟩ := h
  replace h := onX_ex h
  obtain ⟨b, rfl, h⟩ := h
  replace h := onI_ex h
  obtain ⟨i, rfl, h⟩ := h
  replace h := onI_ex h
  obtain ⟨a, rfl, h⟩ := h
  unfold owB at h
  walk_at "hd"
  walk_at "r2"
  refine cases_true (fun z => ?_) fun z => ?_
  · rw [if_pos z] at h
    subst_vars
    walk_at "r2"
    exact h
  · rw [if_neg z] at h
    subst_vars
    walk_at "r2"
    exact h
theorem ok_is_number_of (T : Tx K mg) : FnOk P w K mg base CX0 2 T.f_is_number_of T.d_is_number_of ["shape", "k"] (lift K spNum) := by
  have G_is_whole : FnOk P w K mg base CX0 1 T.f_is_whole T.d_is_whole ["thing"] (lift K spW) := ok_is_whole T
  refine okD T.o_is_number_of.F sc_is_number_of (fun xs M Φ h => by obtain ⟨_, _, rfl, _⟩ := on2_ex h; rfl) fun cdv A outer s H E hr => ⟨_, (dss_one (ds_ret (de_and (de_call G_is_whole (hr.mono (by first | decide | omega)) rfl T.o_is_whole.m T.o_is_whole.F.kp T.o_is_whole.b pass0 (da_cons (de_var 1) da_nil)) (de_one (de_chain od_le od_lt de_int (de_var 1) (de_callB cd_len rfl T.n_len bt_len (da_cons (de_var 0) da_nil))))))), fun xs M Φ h => ?_⟩
  replace h := on2_ex h
  obtain ⟨x1, x2, rfl, h⟩ := h
  replace h := onBs_ex h
  obtain ⟨bs, rfl, h⟩ := h
  replace h := onD_ex h
  obtain ⟨k, rfl, h⟩ := h
  walk_at "r2"
  cases k with
  | int k =>
    unfold numD numB at h
    unfold isWholeD
    walk_at "r2"
    rw [List.length_map]
    refine cases_true (fun z => ?_) fun z => ?_
    · simpa [z] using h
    · simpa [z] using h
  | _ => simpa [isWholeD, numD] using h
theorem ok_cuts (T : Tx K mg) : FnOk P w K mg base CX0 2 T.f_cuts T.d_cuts ["box", "way", "at"] (lift K spCuts) := by
  have G_is_whole : FnOk P w K mg base CX0 1 T.f_is_whole T.d_is_whole ["thing"] (lift K spW) := ok_is_whole T
  refine okD T.o_cuts.F sc_cuts (fun xs M Φ h => by obtain ⟨_, _, _, rfl, _⟩ := on3_ex h; rfl) fun cdv A outer s H E hr => ⟨_, (dss_one (ds_ret (de_and (de_call G_is_whole (hr.mono (by first | decide | omega)) rfl T.o_is_whole.m T.o_is_whole.F.kp T.o_is_whole.b pass0 (da_cons (de_var 1) da_nil)) (de_and (de_chain od_le od_le de_int (de_var 1) de_int) (de_and (de_call G_is_whole (hr.mono (by first | decide | omega)) rfl T.o_is_whole.m T.o_is_whole.F.kp T.o_is_whole.b pass0 (da_cons (de_var 2) da_nil)) (de_one (de_chain od_le od_lt (de_ix (de_ix (de_var 0) de_int) (de_var 1)) (de_var 2) (de_ix (de_ix (de_var 0) de_int) (de_var 1))))))))), fun xs M Φ h => ?_⟩
  replace h := on3_ex h
  obtain ⟨x1, x2, x3, rfl, h⟩ := h
  replace h := onX_ex h
  obtain ⟨b, rfl, h⟩ := h
  replace h := onD_ex h
  obtain ⟨i, rfl, h⟩ := h
  replace h := onD_ex h
  obtain ⟨a, rfl, h⟩ := h
  walk_at "r2"
  cases i with
  | int i =>
    unfold isWholeD
    walk_at "r2"
    have no : (¬ 0 ≤ i ∨ ¬ i ≤ 1) → cutsD b (.int i) a = false := fun z => by
      cases a with
      | int a =>
        show cutsB b i a = false
        rw [Bool.eq_false_iff]
        intro y
        have := (cutsB_iff.mp y).1
        omega
      | _ => rfl
    refine cases_true (fun z0 => ?_) fun z0 => ?_
    · refine cases_true (fun z1 => ?_) fun z1 => ?_
      · cases a with
        | int a =>
          walk_at "r2"
          unfold cutsD cutsB at h
          have two : i = 0 ∨ i = 1 := by omega
          rcases two with rfl | rfl
          · walk_at "r2"
            unfold loB hiB at h
            refine cases_true (fun z => ?_) fun z => ?_
            · simpa [z] using h
            · simpa [z] using h
          · walk_at "r2"
            unfold loB hiB at h
            refine cases_true (fun z => ?_) fun z => ?_
            · simpa [z] using h
            · simpa [z] using h
        | _ => simpa [cutsD] using h
      · rw [no (.inr z1)] at h
        walk_at "r2"
        exact h
    · rw [no (.inl z0)] at h
      exact h
  | _ => simpa [isWholeD, cutsD] using h
local macro_rules | `(tactic| walk_at "r3") => `(tactic| try simp (config := { maxSteps := 10000000 }) only [↓onV_mk_q, ↓onI_mk_q, ↓onB_mk_q, ↓onS_mk_q, ↓onT_mk_q, ↓onL_mk_q, ↓onD_mk_q, ↓onO_mk_q, ↓onOL_mk_q, ↓onOC_mk_q, ↓onQ_t_q, ↓onQ_l_q, ↓onQ_o_q, ↓onK_l_q, ↓onK_o_q, ↓on1_mk_q, ↓on2_mk_q, ↓on3_mk_q, ↓on4_mk_q, ↓on5_mk_q, ↓on6_mk_q, ↓onDs_0_q, ↓onDs_1_q, ↓onDs_2_q, ↓onDs_3_q, ↓onDs_4_q, ↓onDs_5_q, ↓onDs_6_q, ↓onDs_7_q, ↓onDs_8_q, ↓onDs_9_q, ↓onDs_10_q, ↓onDs_11_q, ↓onDs_12_q, ↓dVar_q, ↓dC_q, ↓dTy_q, ↓dOp_q, ↓dB_q, ↓dChain_q, ↓dAnd_q, ↓dOr_q, ↓dNot_q, ↓dAndV_q, ↓dOrV_q, ↓dNotV_q, ↓dIf_q, ↓dUnI_q, ↓δI_q, ↓δI0_q, ↓δB_q, ↓δCatT_q, ↓δCatL_q, ↓δCatLO_q, ↓dNil_q, ↓dCons_q, ↓dTup_q, ↓dLst_q, ↓dLstO_q, ↓dFrz_q, ↓onAt_0_q, ↓onAt_1_q, ↓onAt_2_q, ↓onAt_3_q, ↓onAt_4_q, ↓onAt_5_q, ↓onAt_6_q, ↓onAt_7_q, ↓δIx_q, ↓dCB_q, ↓δLen_q, ↓δLenS_q, ↓δStrI_q, ↓δAbs_q, ↓δ2I_q, ↓δListOf_q, ↓δRepr_q, ↓δIsi_mk_q, ↓eqD_ii_q, ↓eqD_ss_q, ↓eqD_bb_q, ↓δEq_q, ↓δNe_q, ↓δNeS_q, ↓δEqS_q, ↓dNoPart_q, ↓dPart_q, ↓dSlT_q, ↓dNext_q, ↓dSeq_q, ↓dBreak_q, ↓dCont_q, ↓dDrop_q, ↓dRet_q, ↓dRetN_q, ↓dIfS_q, ↓dgName_q, ↓dgNil_mk_q, ↓dgCons_mk_q, ↓onNs_0_q, ↓onNs_s_q, ↓dgTup_q, ↓dgSub_q, ↓dAsg_q, ↓dAppend_q, ↓dForL_q, ↓dForT_q, ↓dForR1_q, ↓dForR2_q, ↓dCall_q, ↓dDict0_q, ↓onKey_i_q, ↓onKey_s_q, ↓dDict1_q, ↓dDict2_q, ↓dDict1T_q, ↓sp1_q, ↓srcL_q, ↓srcT_q, ↓srcR1_q, ↓srcR2_q, ↓dEnd_t_q, ↓dEnd_f_q, ↓dComp_q, ↓tcNo_q, ↓δSortI_q, ↓δMinI_q, ↓δMaxI_q, ↓δ3I_q, ↓δTupOf_q, ↓onW_t_q, ↓onW_l_q, ↓δIn_q, ↓dExtend_q, ↓dSlL_q, ↓δSumI_q, ↓δAllB_q, ↓δAnyB_q, ↓δIntB_q, ↓dPar_q, ↓δCatS_q, ↓dSlS_q, ↓dListR2_q, ↓dAug_q, ↓δMinP_q, ↓dDict0T_q, ↓dPutT_q, ↓onP_mk_q, ↓δInT_q, ↓dRevT_q, ↓dSlTW_q, ↓onFr_l_q, ↓onFr_o_q, ↓dFrzA_q, ↓srcM_q, ↓dWhile_q, ↓dPop_q, ↓onN_mk_q, ↓δIsN_q, ↓δNotIn_q, ↓δNotInT_q, CompRun_n, CompRun_c, TurnsU_n, TurnsU_c, dCompU_q, capD, startD, onAt_last, onKs, keysD, rngD_0, rngD_1, rngD_2, rngD_3, rngD_4, isNone_none, isNone_bool, isNone_int, isNone_str, isNone_list, isNone_tuple, isNone_dict,
  Option.bind_some, Option.bind_none, Option.join_some, Option.join_none, Option.getD_some, Option.map_some, Option.map_none, List.getElem?_cons_zero, List.getElem?_cons_succ, List.set_cons_zero, List.set_cons_succ, List.map_cons, List.map_nil, List.length_cons, List.length_nil, List.replicate, List.cons_append, List.nil_append, List.any_cons, List.any_nil,
  mset_same, mset_mset, ↓reduceIte, Bool.not_true, Bool.not_false, Bool.or_false, Bool.or_true, Bool.true_or, Bool.false_or, Bool.and_true, Bool.and_false, Bool.true_and, Bool.false_and, Bool.bne_true, Bool.bne_false, Bool.false_eq_true, eq_self, true_and, and_true, ixN_30, ixN_31, ixN_32, exists_eq_left', exists_eq_left, Option.some.injEq, Nat.reduceAdd, Nat.reduceSub, Nat.zero_add, Nat.reduceLT, Nat.reduceLeDiff, Int.reduceToNat, Int.reducePow, Int.reduceSub, Int.reduceMul, Int.reduceAdd, Int.reduceNeg,
  Int.reduceLT, Int.reduceLE, Int.reduceEq, Int.zero_add, Int.cast_ofNat_Int, decide_true, decide_false, sizeLine_eq, eqA_nil, eqA_cons, eqA_cn, eqA_nc, eq_tt, eq_ll, eq_nn, eq_ii, eq_ss, eq_bb, ty_int_none, ty_int_bool, ty_int_int, ty_int_str, ty_int_list, ty_int_tuple, ty_int_dict, ty_bool_none, ty_bool_bool, ty_bool_int, ty_bool_str, ty_bool_list, ty_bool_tuple, ty_bool_dict, ty_tuple_none, ty_tuple_bool, ty_tuple_int, ty_tuple_str, ty_tuple_list, ty_tuple_tuple, ty_tuple_dict, ty_list_none, ty_list_bool, ty_list_int, ty_list_str, ty_list_list, ty_list_tuple, ty_list_dict, ty_str_none, ty_str_bool, ty_str_int, ty_str_str, ty_str_list, ty_str_tuple, ty_str_dict, ty_dict_none, ty_dict_bool, ty_dict_int, ty_dict_str, ty_dict_list, ty_dict_tuple, ty_dict_dict, ↓onX_mk_q, ↓onX_m4_q, ↓onQ_bD_q, ↓onT_bD_q, onBs_mk, onBl_mk, ↓spHas_q, ↓spGap_q, ↓spBetween_q, ↓spTo_q, ↓spHasB_q, ↓spSteps_q, ↓spSquare_q, ↓spCommon_q, ↓spCut_q, ↓spLeft_q, ↓spLies_q, ↓spW_q, ↓spHasAll_q, ↓spUp_q, ↓spOw_q, ↓spNum_q, ↓spCuts_q, ↓spHolds_q])
theorem ok_holds_cover (T : Tx K mg) (n : Nat) : FnOk P w K mg base CX0 (5 + n) T.f_holds_cover T.d_holds_cover ["shape", "box", "thing"] (lift K (spHolds n)) := by
  refine Nat.rec (motive := fun n => FnOk P w K mg base CX0 (5 + n) T.f_holds_cover T.d_holds_cover ["shape", "box", "thing"] (lift K (spHolds n))) ?_ (fun n G_holds_cover => ?_) n
  · exact fnVoid spHolds_void
  show FnOk P w K mg base CX0 (5 + n + 1) T.f_holds_cover T.d_holds_cover ["shape", "box", "thing"] (lift K (spHolds (n + 1)))
  have G_cuts : FnOk P w K mg base CX0 2 T.f_cuts T.d_cuts ["box", "way", "at"] (lift K spCuts) := ok_cuts T
  have G_up_to : FnOk P w K mg base CX0 1 T.f_up_to T.d_up_to ["box", "way", "at"] (lift K spUp) := ok_up_to T
  have G_onward_from : FnOk P w K mg base CX0 1 T.f_onward_from T.d_onward_from ["box", "way", "at"] (lift K spOw) := ok_onward_from T
  have G_is_number_of : FnOk P w K mg base CX0 2 T.f_is_number_of T.d_is_number_of ["shape", "k"] (lift K spNum) := ok_is_number_of T
  have G_has_all : FnOk P w K mg base CX0 5 T.f_has_all T.d_has_all ["box", "other"] (lift K spHasAll) := ok_has_all T
  refine okD T.o_holds_cover.F sc_holds_cover (fun xs M Φ h => by obtain ⟨_, _, _, rfl, _⟩ := on3_ex h; rfl) fun cdv A outer s H E hr => ⟨_, (dss_cons (ds_if (dt_not (dt_val (de_callB (cd_isi (kit_tuple _)) rfl T.n_isinstance bt_isinstance (da_cons (de_var 2) (da_cons (de_ty rfl T.n_tuple bt_tuple) da_nil))))) (dss_one (ds_ret de_bl)) dss_nil)
  (dss_cons (ds_if (DW.dt (dw_and (dt_cmp (od_eq hr) (de_callB cd_len rfl T.n_len bt_len (da_cons (de_var 2) da_nil)) de_int) (dw_and1 (dt_cmp (od_eq hr) (de_ix (de_var 2) de_int) de_str)))) (dss_one (ds_ret (de_and (de_call G_is_number_of (hr.mono (by first | decide | omega)) rfl T.o_is_number_of.m T.o_is_number_of.F.kp T.o_is_number_of.b pass0 (da_cons (de_var 0) (da_cons (de_ix (de_var 2) de_int) da_nil))) (de_one (de_call G_has_all (hr.mono (by first | decide | omega)) rfl T.o_has_all.m T.o_has_all.F.kp T.o_has_all.b pass0 (da_cons (de_ix (de_var 0) (de_ix (de_var 2) de_int)) (da_cons (de_var 1) da_nil))))))) dss_nil)
  (dss_cons (ds_if (DW.dt (dw_and (dt_cmp (od_eq hr) (de_callB cd_len rfl T.n_len bt_len (da_cons (de_var 2) da_nil)) de_int) (dw_and (dt_cmp (od_eq hr) (de_ix (de_var 2) de_int) de_str) (dw_and1 (dt_val (de_call G_cuts (hr.mono (by first | decide | omega)) rfl T.o_cuts.m T.o_cuts.F.kp T.o_cuts.b pass0 (da_cons (de_var 1) (da_cons (de_ix (de_var 2) de_int) (da_cons (de_ix (de_var 2) de_int) da_nil))))))))) (dss_cons (ds_set 3 sc_holds_cover.nd (de_call G_up_to (hr.mono (by first | decide | omega)) rfl T.o_up_to.m T.o_up_to.F.kp T.o_up_to.b pass0 (da_cons (de_var 1) (da_cons (de_ix (de_var 2) de_int) (da_cons (de_ix (de_var 2) de_int) da_nil)))))
  (dss_cons (ds_set 4 sc_holds_cover.nd (de_call G_onward_from (hr.mono (by first | decide | omega)) rfl T.o_onward_from.m T.o_onward_from.F.kp T.o_onward_from.b pass0 (da_cons (de_var 1) (da_cons (de_ix (de_var 2) de_int) (da_cons (de_op od_add (de_ix (de_var 2) de_int) de_int) da_nil)))))
  (dss_one (ds_ret (de_and (de_call G_holds_cover (hr.mono (by first | decide | omega)) rfl T.o_holds_cover.m T.o_holds_cover.F.kp T.o_holds_cover.b pass0 (da_cons (de_var 0) (da_cons (de_var 3) (da_cons (de_ix (de_var 2) de_int) da_nil)))) (de_one (de_call G_holds_cover (hr.mono (by first | decide | omega)) rfl T.o_holds_cover.m T.o_holds_cover.F.kp T.o_holds_cover.b pass0 (da_cons (de_var 0) (da_cons (de_var 4) (da_cons (de_ix (de_var 2) de_int) da_nil)))))))))) dss_nil)
  (dss_one (ds_ret de_bl))))), fun xs M Φ h => ?_⟩
  replace h := on3_ex h
  obtain ⟨x1, x2, x3, rfl, h⟩ := h
  replace h := onBs_ex h
  obtain ⟨bs, rfl, h⟩ := h
  replace h := onX_ex h
  obtain ⟨b, rfl, h⟩ := h
  replace h := onD_ex h
  obtain ⟨d, rfl, hp, h⟩ := h
  cases d with
  | tuple ds =>
    by_cases h2 : ds.length = 2
    · obtain ⟨x, k, rfl⟩ := two_of h2
      have e : holdsD bs (n + 1) b (.tuple [x, k]) = (isS x (Str.ofString "box") && leafD bs b k) := rfl
      rw [e] at h
      walk_at "hd"
      walk_at "r3"
      walk_at "hd"
      walk_at "r3"
      refine eqD_str hp lay_word ?_
      cases q : isS x (Str.ofString "box") with
      | false =>
        rw [q] at h
        subst_vars
        walk_at "r3"
        simpa using h
      | true =>
        rw [q, Bool.true_and] at h
        walk_at "r3"
        cases k with
        | int k =>
          have el : leafD bs b (.int k) = (numB bs k && (match bs[k.toNat]? with | some c => allB c b | none => false)) := rfl
          rw [el] at h
          have en : numD bs (.int k) = numB bs k := rfl
          rw [en]
          cases hn : numB bs k with
          | false =>
            rw [hn] at h
            walk_at "r3"
            simpa using h
          | true =>
            rw [hn] at h
            walk_at "r3"
            have hk : 0 ≤ k ∧ k < bs.length := by
              unfold numB at hn
              simpa using hn
            obtain ⟨c, ec⟩ : ∃ c, bs[k.toNat]? = some c := ⟨_, List.getElem?_eq_getElem (by omega)⟩
            rw [ec] at h
            obtain ⟨j, rfl⟩ := Int.eq_ofNat_of_zero_le hk.1
            refine onAt_of (d := bD c) (atI_nat (by rw [List.getElem?_map]; rw [Int.toNat_natCast] at ec; rw [ec]; rfl)) ?_
            walk_at "r3"
            simpa using h
        | _ =>
          unfold numD
          walk_at "r3"
          simpa [leafD] using h
    · by_cases h5 : ds.length = 5
      · obtain ⟨x, i, a, p, q, rfl⟩ := five_of h5
        have e : holdsD bs (n + 1) b (.tuple [x, i, a, p, q]) = (isS x (Str.ofString "cut") && (cutsD b i a && (holdsD bs n (upD b i a) p && holdsD bs n (owD b i a) q))) := rfl
        rw [e] at h
        walk_at "hd"
        walk_at "r3"
        walk_at "hd"
        walk_at "r3"
        subst_vars
        walk_at "r3"
        refine eqD_str hp.1 lay_word ?_
        cases hx : isS x (Str.ofString "cut") with
        | false =>
          rw [hx] at h
          walk_at "r3"
          simpa using h
        | true =>
          rw [hx, Bool.true_and] at h
          walk_at "r3"
          cases hc : cutsD b i a with
          | false =>
            rw [hc] at h
            walk_at "r3"
            simpa using h
          | true =>
            rw [hc, Bool.true_and] at h
            cases i with
            | int i =>
              cases a with
              | int a =>
                walk_at "r3"
                refine ⟨hp.2.1, ?_⟩
                have e1 : upD b (.int i) (.int a) = upB b i a := rfl
                have e2 : owD b (.int i) (.int a) = owB b i (a + 1) := rfl
                rw [e1, e2] at h
                cases hq : holdsD bs n (upB b i a) p with
                | false =>
                  rw [hq] at h
                  walk_at "r3"
                  simpa using h
                | true =>
                  rw [hq, Bool.true_and] at h
                  walk_at "r3"
                  exact ⟨hp.2.2, h⟩
              | _ => cases hc
            | _ => cases hc
      · rw [holdsD_no h2 h5] at h
        walk_at "hd"
        walk_at "r3"
        walk_at "hd"
        walk_at "r3"
        refine cases_true (fun z => absurd z (by omega)) fun _ => ?_
        subst_vars
        walk_at "r3"
        refine cases_true (fun z => absurd z (by omega)) fun _ => ?_
        exact h
  | _ =>
    walk_at "hd"
    walk_at "r3"
    simpa [holdsD] using h
/-! ### a cover found by the program -/
def shB (c : B4) : B4 := ⟨c.x, c.y, c.x - 1, c.y - 1⟩
def dbl (bs : List B4) : List B4 := bs ++ bs.map shB
theorem hi_sh (c : B4) (w : Int) : hiB (shB c) w = loB c w - 1 := by
  unfold hiB loB shB
  split <;> rfl
def CutAt (bs : List B4) (b : B4) (w z : Int) : Prop := (loB b w ≤ z ∧ z < hiB b w) ∧ ∃ c ∈ dbl bs, hiB c w = z
theorem at_loI {b : B4} {w : Int} (h : w = 0 ∨ w = 1) (P : PyData → Prop) : onAt [.int b.x, .int b.y] w P = P (.int (loB b w)) := by
  rcases h with rfl | rfl <;> rfl
theorem at_hiI {b : B4} {w : Int} (h : w = 0 ∨ w = 1) (P : PyData → Prop) : onAt [.int b.X, .int b.Y] w P = P (.int (hiB b w)) := by
  rcases h with rfl | rfl <;> rfl
def plB (b : B4) (w : Int) (bs : List B4) : List Int := bs.flatMap fun c => if apartB c b = 0 then [loB c w - 1, hiB c w] else []
theorem plB_snoc {b c : B4} {w : Int} {bs : List B4} {i : Nat} (h : bs[i]? = some c) : plB b w (bs.take (i + 1)) = plB b w (bs.take i) ++ (if apartB c b = 0 then [loB c w - 1, hiB c w] else []) := by
  unfold plB
  rw [List.take_add_one, h, List.flatMap_append]
  simp
theorem plB_len (b : B4) (w : Int) (bs : List B4) : (plB b w bs).length ≤ bs.length * 2 :=
  flat_len _ 2 bs fun c _ => by split <;> simp
theorem plB_mem {b : B4} {w z : Int} {bs : List B4} (h : z ∈ plB b w bs) : ∃ c ∈ dbl bs, hiB c w = z := by
  obtain ⟨c, hc, hz⟩ := List.mem_flatMap.mp h
  split at hz
  · simp only [List.mem_cons, List.not_mem_nil, or_false] at hz
    rcases hz with rfl | rfl
    · exact ⟨shB c, List.mem_append_right _ (List.mem_map_of_mem hc), hi_sh c w⟩
    · exact ⟨c, List.mem_append_left _ hc, rfl⟩
  · cases hz
theorem plB_has {b c : B4} {w : Int} {bs : List B4} (hc : c ∈ bs) (h0 : apartB c b = 0) : hiB c w ∈ plB b w bs :=
  List.mem_flatMap.mpr ⟨c, hc, by rw [if_pos h0]; simp⟩
theorem end_ex2 {bs : List B4} {b : B4} (hb : okB b = true) (hc : Cov bs b) (hn : ∀ c ∈ bs, allB c b = false) : ∃ c ∈ bs, apartB c b = 0 ∧ (endIn b 0 c = true ∨ endIn b 1 c = true) := by
  rw [okB_iff] at hb
  obtain ⟨c, hm, h⟩ := List.any_eq_true.mp (hc b.x b.y (by rw [hasB_iff]; omega))
  rw [hasB_iff] at h
  have hi : ¬ allB c b = true := by rw [hn c hm]; exact Bool.false_ne_true
  rw [allB_iff] at hi
  refine ⟨c, hm, ?_, ?_⟩
  · unfold apartB btw gp
    omega
  · unfold endIn
    simp only [Bool.and_eq_true, decide_eq_true_eq, loB, hiB, if_true, if_false, Int.reduceEq]
    omega
theorem endIn_iff {b c : B4} {w : Int} : endIn b w c = true ↔ loB b w ≤ hiB c w ∧ hiB c w < hiB b w := by
  unfold endIn
  simp only [Bool.and_eq_true, decide_eq_true_eq]
def spPlaces : DSp := fun xs M Φ => on3 xs fun x y z => onBs x fun bs => onX y fun b => onI z fun w => (bs.length ≤ 6 ∧ (w = 0 ∨ w = 1)) ∧ ∀ ks : List Int, (∀ z ∈ ks, CutAt bs b w z) → (∀ c ∈ bs, apartB c b = 0 → endIn b w c = true → hiB c w ∈ ks) → Φ (.dat (.list (ks.map PyData.int))) M
theorem spPlaces_q (xs : List DV) (M : Mp) (Φ : DK) : spPlaces xs M Φ = (on3 xs fun x y z => onBs x fun bs => onX y fun b => onI z fun w => (bs.length ≤ 6 ∧ (w = 0 ∨ w = 1)) ∧ ∀ ks : List Int, (∀ z ∈ ks, CutAt bs b w z) → (∀ c ∈ bs, apartB c b = 0 → endIn b w c = true → hiB c w ∈ ks) → Φ (.dat (.list (ks.map PyData.int))) M) := propext Iff.rfl
def spCover (n : Nat) : DSp := fun xs M Φ => on2 xs fun x y => onBs x fun bs => onX y fun b => ((bs.length ≤ 6 ∧ okB b = true ∧ Cov bs b) ∧ cntB (dbl bs) b < n) ∧ ∀ c, holdsB bs b c = true → c.dep ≤ n → Φ (.dat (cvD c)) M
theorem spCover_q (n : Nat) (xs : List DV) (M : Mp) (Φ : DK) : spCover n xs M Φ = (on2 xs fun x y => onBs x fun bs => onX y fun b => ((bs.length ≤ 6 ∧ okB b = true ∧ Cov bs b) ∧ cntB (dbl bs) b < n) ∧ ∀ c, holdsB bs b c = true → c.dep ≤ n → Φ (.dat (cvD c)) M) := propext Iff.rfl
theorem spCover_void (xs : List DV) (M : Mp) (Φ : DK) : ¬ spCover 0 xs M Φ := fun h => by
  replace h := on2_ex h
  obtain ⟨x, y, rfl, h⟩ := h
  replace h := onBs_ex h
  obtain ⟨bs, rfl, h⟩ := h
  replace h := onX_ex h
  obtain ⟨b, rfl, h⟩ := h
  exact absurd h.1.2 (Nat.not_lt_zero _)
def Lst (bs : List B4) (b : B4) (u v : Int) : Prop := (hasB b u v = true ∧ anyB bs u v = false) ∧ ∀ u' v', hasB b u' v' = true → anyB bs u' v' = false → u < u' ∨ (u = u' ∧ v ≤ v')
def spCovered : DSp := fun xs M Φ => on2 xs fun x y => onBs x fun bs => onX y fun b => (Shp bs ∧ okB b = true) ∧ (Cov bs b → ∀ c, holdsB bs b c = true → c.dep ≤ 25 → Φ (.dat (.tuple [.str (Str.ofString "yes"), cvD c])) M) ∧ ∀ u v, Lst bs b u v → Φ (.dat (.tuple [.str (Str.ofString "no"), .tuple [.int u, .int v]])) M
theorem spCovered_q (xs : List DV) (M : Mp) (Φ : DK) : spCovered xs M Φ = (on2 xs fun x y => onBs x fun bs => onX y fun b => (Shp bs ∧ okB b = true) ∧ (Cov bs b → ∀ c, holdsB bs b c = true → c.dep ≤ 25 → Φ (.dat (.tuple [.str (Str.ofString "yes"), cvD c])) M) ∧ ∀ u v, Lst bs b u v → Φ (.dat (.tuple [.str (Str.ofString "no"), .tuple [.int u, .int v]])) M) := propext Iff.rfl
local macro_rules | `(tactic| walk_at "rc") => `(tactic| try simp (config := { maxSteps := 10000000 }) only [↓onV_mk_q, ↓onI_mk_q, ↓onB_mk_q, ↓onS_mk_q, ↓onT_mk_q, ↓onL_mk_q, ↓onD_mk_q, ↓onO_mk_q, ↓onOL_mk_q, ↓onOC_mk_q, ↓onQ_t_q, ↓onQ_l_q, ↓onQ_o_q, ↓onK_l_q, ↓onK_o_q, ↓on1_mk_q, ↓on2_mk_q, ↓on3_mk_q, ↓on4_mk_q, ↓on5_mk_q, ↓on6_mk_q, ↓onDs_0_q, ↓onDs_1_q, ↓onDs_2_q, ↓onDs_3_q, ↓onDs_4_q, ↓onDs_5_q, ↓onDs_6_q, ↓onDs_7_q, ↓onDs_8_q, ↓onDs_9_q, ↓onDs_10_q, ↓onDs_11_q, ↓onDs_12_q, ↓dVar_q, ↓dC_q, ↓dTy_q, ↓dOp_q, ↓dB_q, ↓dChain_q, ↓dAnd_q, ↓dOr_q, ↓dNot_q, ↓dAndV_q, ↓dOrV_q, ↓dNotV_q, ↓dIf_q, ↓dUnI_q, ↓δI_q, ↓δI0_q, ↓δB_q, ↓δCatT_q, ↓δCatL_q, ↓δCatLO_q, ↓dNil_q, ↓dCons_q, ↓dTup_q, ↓dLst_q, ↓dLstO_q, ↓dFrz_q, ↓onAt_0_q, ↓onAt_1_q, ↓onAt_2_q, ↓onAt_3_q, ↓onAt_4_q, ↓onAt_5_q, ↓onAt_6_q, ↓onAt_7_q, ↓δIx_q, ↓dCB_q, ↓δLen_q, ↓δLenS_q, ↓δStrI_q, ↓δAbs_q, ↓δ2I_q, ↓δListOf_q, ↓δRepr_q, ↓δIsi_mk_q, ↓eqD_ii_q, ↓eqD_ss_q, ↓eqD_bb_q, ↓δEq_q, ↓δNe_q, ↓δNeS_q, ↓δEqS_q, ↓dNoPart_q, ↓dPart_q, ↓dSlT_q, ↓dNext_q, ↓dSeq_q, ↓dBreak_q, ↓dCont_q, ↓dDrop_q, ↓dRet_q, ↓dRetN_q, ↓dIfS_q, ↓dgName_q, ↓dgNil_mk_q, ↓dgCons_mk_q, ↓onNs_0_q, ↓onNs_s_q, ↓dgTup_q, ↓dgSub_q, ↓dAsg_q, ↓dAppend_q, ↓dForL_q, ↓dForT_q, ↓dForR1_q, ↓dForR2_q, ↓dCall_q, ↓dDict0_q, ↓onKey_i_q, ↓onKey_s_q, ↓dDict1_q, ↓dDict2_q, ↓dDict1T_q, ↓sp1_q, ↓srcL_q, ↓srcT_q, ↓srcR1_q, ↓srcR2_q, ↓dEnd_t_q, ↓dEnd_f_q, ↓dComp_q, ↓tcNo_q, ↓δSortI_q, ↓δMinI_q, ↓δMaxI_q, ↓δ3I_q, ↓δTupOf_q, ↓onW_t_q, ↓onW_l_q, ↓δIn_q, ↓dExtend_q, ↓dSlL_q, ↓δSumI_q, ↓δAllB_q, ↓δAnyB_q, ↓δIntB_q, ↓dPar_q, ↓δCatS_q, ↓dSlS_q, ↓dListR2_q, ↓dAug_q, ↓δMinP_q, ↓dDict0T_q, ↓dPutT_q, ↓onP_mk_q, ↓δInT_q, ↓dRevT_q, ↓dSlTW_q, ↓onFr_l_q, ↓onFr_o_q, ↓dFrzA_q, ↓srcM_q, ↓dWhile_q, ↓dPop_q, ↓onN_mk_q, ↓δIsN_q, ↓δNotIn_q, ↓δNotInT_q, CompRun_n, CompRun_c, TurnsU_n, TurnsU_c, dCompU_q, capD, startD, onAt_last, onKs, keysD, rngD_0, rngD_1, rngD_2, rngD_3, rngD_4, isNone_none, isNone_bool, isNone_int, isNone_str, isNone_list, isNone_tuple, isNone_dict,
  Option.bind_some, Option.bind_none, Option.join_some, Option.join_none, Option.getD_some, Option.map_some, Option.map_none, List.getElem?_cons_zero, List.getElem?_cons_succ, List.set_cons_zero, List.set_cons_succ, List.map_cons, List.map_nil, List.length_cons, List.length_nil, List.replicate, List.cons_append, List.nil_append, List.any_cons, List.any_nil,
  mset_same, mset_mset, ↓reduceIte, Bool.not_true, Bool.not_false, Bool.or_false, Bool.or_true, Bool.true_or, Bool.false_or, Bool.and_true, Bool.and_false, Bool.true_and, Bool.false_and, Bool.bne_true, Bool.bne_false, Bool.false_eq_true, eq_self, true_and, and_true, ixN_30, ixN_31, ixN_32, exists_eq_left', exists_eq_left, Option.some.injEq, Nat.reduceAdd, Nat.reduceSub, Nat.zero_add, Nat.reduceLT, Nat.reduceLeDiff, Int.reduceToNat, Int.reducePow, Int.reduceSub, Int.reduceMul, Int.reduceAdd, Int.reduceNeg,
  Int.reduceLT, Int.reduceLE, Int.reduceEq, Int.zero_add, Int.cast_ofNat_Int, decide_true, decide_false, sizeLine_eq, eqA_nil, eqA_cons, eqA_cn, eqA_nc, eq_tt, eq_ll, eq_nn, eq_ii, eq_ss, eq_bb, ty_int_none, ty_int_bool, ty_int_int, ty_int_str, ty_int_list, ty_int_tuple, ty_int_dict, ty_bool_none, ty_bool_bool, ty_bool_int, ty_bool_str, ty_bool_list, ty_bool_tuple, ty_bool_dict, ty_tuple_none, ty_tuple_bool, ty_tuple_int, ty_tuple_str, ty_tuple_list, ty_tuple_tuple, ty_tuple_dict, ty_list_none, ty_list_bool, ty_list_int, ty_list_str, ty_list_list, ty_list_tuple, ty_list_dict, ty_str_none, ty_str_bool, ty_str_int, ty_str_str, ty_str_list, ty_str_tuple, ty_str_dict, ty_dict_none, ty_dict_bool, ty_dict_int, ty_dict_str, ty_dict_list, ty_dict_tuple, ty_dict_dict, ↓onX_mk_q, ↓onX_m4_q, ↓onQ_bD_q, ↓onT_bD_q, onBs_mk, onBl_mk, ↓spHas_q, ↓spGap_q, ↓spBetween_q, ↓spTo_q, ↓spHasB_q, ↓spSteps_q, ↓spSquare_q, ↓spCommon_q, ↓spCut_q, ↓spLeft_q, ↓spLies_q, ↓spW_q, ↓spHasAll_q, ↓spUp_q, ↓spOw_q, ↓spNum_q, ↓spCuts_q, ↓spPlaces_q, ↓spCover_q, ↓dSS_q, ↓dTru_q, ↓δMinP_q])
theorem ok_cut_places (T : Tx K mg) : FnOk P w K mg base CX0 3 T.f_cut_places T.d_cut_places ["shape", "box", "way"] (lift K spPlaces) := by
  have G_steps_between : FnOk P w K mg base CX0 2 T.f_steps_between T.d_steps_between ["one", "other"] (lift K spBetween) := ok_steps_between T
  refine okG T.o_cut_places.F sc_cut_places (fun xs M Φ h => by obtain ⟨_, _, _, rfl, _⟩ := on3_ex h; rfl) fun cdv A outer s H E hr => ⟨_, (dss_cons (ds_set 3 sc_cut_places.nd (de_lstO da_nil))
  (dss_cons (ds_forT (de_var 0) (dg_name 4 sc_cut_places.nd) (dss_one (ds_if (dt_cmp (od_eq hr) (de_call G_steps_between (hr.mono (by first | decide | omega)) rfl T.o_steps_between.m T.o_steps_between.F.kp T.o_steps_between.b pass0 (da_cons (de_var 4) (da_cons (de_var 1) da_nil))) de_int) (dss_one (ds_expr (de_extend (de_var 3) (de_lstO (da_cons (de_op od_sub (de_ix (de_ix (de_var 4) de_int) (de_var 2)) de_int) (da_cons (de_ix (de_ix (de_var 4) de_int) (de_var 2)) da_nil)))))) dss_nil)) PassesOwn.never rfl)
  (dss_one (ds_ret (de_sortedSet rfl T.n_sorted rfl T.n_set (da_cons (de_comp false (compOk_of (sc := defScope s_cut_places) (XN := ["shape", "box", "way", "places", "other"]) (N := ["at", "way", "box"]) (ix := [none, some 2, some 1]) rfl rfl (by decide +kernel)) (di_list (de_frz (de_var 3))) (fun C ex s H => (dg_name 0 (show List.Nodup (["at", "way", "box"] : List Str) by decide +kernel))) (fun C ex s H => (dts_one (dt_chain od_le od_lt (de_ix (de_ix (de_var 2) de_int) (de_var 1)) (de_var 0) (de_ix (de_ix (de_var 2) de_int) (de_var 1))))) (fun C ex s H => (de_var 0)) rfl) da_nil)))))), fun xs M Φ h => ?_⟩
  replace h := on3_ex h
  obtain ⟨x1, x2, x3, rfl, h⟩ := h
  replace h := onBs_ex h
  obtain ⟨bs, rfl, h⟩ := h
  replace h := onX_ex h
  obtain ⟨b, rfl, h⟩ := h
  replace h := onI_ex h
  obtain ⟨i, rfl, ⟨hl, hi⟩, h⟩ := h
  walk_at "hd"
  walk_at "rc"
  intro q hq
  walk_at "hd"
  walk_at "rc"
  refine ⟨fun n Δ M' => ∃ k4, Δ = [some (.dat (.tuple (bs.map bD))), some (.dat (bD b)), some (.dat (.int i)), some (.own q), k4] ∧ M' = mset M q (.lst ((plB b i (bs.take n)).map PyData.int)), ⟨none, rfl, rfl⟩, ?_, ?_⟩
  · rintro n d Δ M' hd ⟨k4, rfl, rfl⟩
    obtain ⟨c, ec, rfl⟩ := map_get hd
    have len := plB_len b i (bs.take n)
    rw [List.length_take] at len
    have sn := plB_snoc (b := b) (w := i) ec
    rw [dgName_q]
    walk_at "rc"
    refine cases_true (fun z => ?_) fun z => ?_
    · rw [if_pos z] at sn
      simp only [at_loI hi, at_hiI hi]
      walk_at "rc"
      intro p hp
      have hne := fresh_ne hp
      simp only [mset_ne (Ne.symm hne)]
      walk_at "rc"
      refine ⟨hne, by rw [List.length_map]; omega, _, rfl, ?_⟩
      rw [ext_map hp, sn, List.map_append]
      rfl
    · rw [if_neg z, List.append_nil] at sn
      rw [← sn]
      exact ⟨_, rfl, rfl⟩
  · rintro Δ M' ⟨k4, rfl, rfl⟩
    rw [List.length_map, List.take_length]
    subst_vars
    walk_at "rc"
    have len := plB_len b i bs
    rw [mdel_mset hq]
    refine ⟨by rw [List.length_map]; omega, fun n acc M' => acc = (((plB b i bs).take n).filter fun z => decide (loB b i ≤ z) && decide (z < hiB b i)).map PyData.int ∧ M' = M, ⟨rfl, rfl⟩, ?_, ?_⟩
    · rintro n d acc M' hd ⟨rfl, rfl⟩
      obtain ⟨z, ez, rfl⟩ := map_get hd
      have flt := take_filter (fun z => decide (loB b i ≤ z) && decide (z < hiB b i)) ez
      rw [at_loI hi]
      walk_at "rc"
      refine cases_true (fun z0 => ?_) fun z0 => ?_
      · rw [at_hiI hi]
        walk_at "rc"
        refine cases_true (fun z1 => ?_) fun z1 => ?_
        · rw [flt, if_pos (by rw [decide_eq_true z0, decide_eq_true z1]; rfl), List.map_append]
          rfl
        · rw [flt, if_neg (by rw [decide_eq_false z1, Bool.and_false]; exact Bool.false_ne_true), List.append_nil]
      · rw [flt, if_neg (by rw [decide_eq_false z0, Bool.false_and]; exact Bool.false_ne_true), List.append_nil]
    · rintro acc M' ⟨rfl, rfl⟩
      rw [List.length_map, List.take_length]
      refine ⟨_, .inl rfl, Nat.lt_of_le_of_lt (List.length_filter_le _ _) (by omega), fun ks _ _ hk => gc_no (h ks (fun z hz => ?_) fun c hc h0 he => ?_)⟩
      · obtain ⟨h1, h2⟩ := List.mem_filter.mp ((hk z).mp hz)
        simp only [Bool.and_eq_true, decide_eq_true_eq] at h2
        exact ⟨h2, plB_mem h1⟩
      · have he := endIn_iff.mp he
        exact (hk _).mpr (List.mem_filter.mpr ⟨plB_has hc h0, by simp only [Bool.and_eq_true, decide_eq_true_eq]; exact he⟩)
theorem ok_cover_of (T : Tx K mg) (n : Nat) : FnOk P w K mg base CX0 (6 + n) T.f_cover_of T.d_cover_of ["shape", "box"] (lift K (spCover n)) := by
  refine Nat.rec (motive := fun n => FnOk P w K mg base CX0 (6 + n) T.f_cover_of T.d_cover_of ["shape", "box"] (lift K (spCover n))) ?_ (fun n G_cover_of => ?_) n
  · exact fnVoid spCover_void
  show FnOk P w K mg base CX0 (6 + n + 1) T.f_cover_of T.d_cover_of ["shape", "box"] (lift K (spCover (n + 1)))
  have G_cut_places : FnOk P w K mg base CX0 3 T.f_cut_places T.d_cut_places ["shape", "box", "way"] (lift K spPlaces) := ok_cut_places T
  have G_has_all : FnOk P w K mg base CX0 5 T.f_has_all T.d_has_all ["box", "other"] (lift K spHasAll) := ok_has_all T
  have G_up_to : FnOk P w K mg base CX0 1 T.f_up_to T.d_up_to ["box", "way", "at"] (lift K spUp) := ok_up_to T
  have G_onward_from : FnOk P w K mg base CX0 1 T.f_onward_from T.d_onward_from ["box", "way", "at"] (lift K spOw) := ok_onward_from T
  refine okD T.o_cover_of.F sc_cover_of (fun xs M Φ h => by obtain ⟨_, _, rfl, _⟩ := on2_ex h; rfl) fun cdv A outer s H E hr => ⟨_, (dss_cons (ds_forR1 rfl T.n_range (da_cons (de_callB cd_len rfl T.n_len bt_len (da_cons (de_var 0) da_nil)) da_nil) (dg_name 2 sc_cover_of.nd) (dss_one (ds_if (dt_val (de_call G_has_all (hr.mono (by first | decide | omega)) rfl T.o_has_all.m T.o_has_all.F.kp T.o_has_all.b pass0 (da_cons (de_ix (de_var 0) (de_var 2)) (da_cons (de_var 1) da_nil)))) (dss_one (ds_ret (de_tup (da_cons de_str (da_cons (de_var 2) da_nil))))) dss_nil)) PassesOwn.never rfl)
  (dss_cons (ds_set 3 sc_cover_of.nd (de_call G_cut_places (hr.mono (by first | decide | omega)) rfl T.o_cut_places.m T.o_cut_places.F.kp T.o_cut_places.b pass0 (da_cons (de_var 0) (da_cons (de_var 1) (da_cons de_int da_nil)))))
  (dss_cons (ds_set 4 sc_cover_of.nd (de_call G_cut_places (hr.mono (by first | decide | omega)) rfl T.o_cut_places.m T.o_cut_places.F.kp T.o_cut_places.b pass0 (da_cons (de_var 0) (da_cons (de_var 1) (da_cons de_int da_nil)))))
  (dss_cons (ds_set 5 sc_cover_of.nd (de_if (dt_cmp od_ge (de_callB cd_len rfl T.n_len bt_len (da_cons (de_var 3) da_nil)) (de_callB cd_len rfl T.n_len bt_len (da_cons (de_var 4) da_nil))) de_int de_int))
  (dss_cons (ds_set 6 sc_cover_of.nd (de_if (dt_cmp (od_eq hr) (de_var 5) de_int) (de_var 3) (de_var 4)))
  (dss_cons (ds_set 7 sc_cover_of.nd (de_ix (de_var 6) (de_op od_fdiv (de_callB cd_len rfl T.n_len bt_len (da_cons (de_var 6) da_nil)) de_int)))
  (dss_cons (ds_set 8 sc_cover_of.nd (de_call G_cover_of (hr.mono (by first | decide | omega)) rfl T.o_cover_of.m T.o_cover_of.F.kp T.o_cover_of.b pass0 (da_cons (de_var 0) (da_cons (de_call G_up_to (hr.mono (by first | decide | omega)) rfl T.o_up_to.m T.o_up_to.F.kp T.o_up_to.b pass0 (da_cons (de_var 1) (da_cons (de_var 5) (da_cons (de_var 7) da_nil)))) da_nil))))
  (dss_one (ds_ret (de_tup (da_cons de_str (da_cons (de_var 5) (da_cons (de_var 7) (da_cons (de_var 8) (da_cons (de_call G_cover_of (hr.mono (by first | decide | omega)) rfl T.o_cover_of.m T.o_cover_of.F.kp T.o_cover_of.b pass0 (da_cons (de_var 0) (da_cons (de_call G_onward_from (hr.mono (by first | decide | omega)) rfl T.o_onward_from.m T.o_onward_from.F.kp T.o_onward_from.b pass0 (da_cons (de_var 1) (da_cons (de_var 5) (da_cons (de_op od_add (de_var 7) de_int) da_nil)))) da_nil))) da_nil))))))))))))))), fun xs M Φ h => ?_⟩
  replace h := on2_ex h
  obtain ⟨x1, x2, rfl, h⟩ := h
  replace h := onBs_ex h
  obtain ⟨bs, rfl, h⟩ := h
  replace h := onX_ex h
  obtain ⟨b, rfl, ⟨⟨hl, hb, hc⟩, hn⟩, h⟩ := h
  walk_at "hd"
  walk_at "rc"
  rw [List.length_map]
  refine ⟨⟨by omega, by omega⟩, fun i Δ M' => ∃ k2, Δ = [some (.dat (.tuple (bs.map bD))), some (.dat (bD b)), k2, none, none, none, none, none, none] ∧ M' = M ∧ ∀ j c, j < i → bs[j]? = some c → allB c b = false, ⟨none, rfl, rfl, fun j c hj => absurd hj (Nat.not_lt_zero _)⟩, ?_, ?_⟩
  · rintro i Δ M' hi ⟨k2, rfl, rfl, ha⟩
    have hi : i < bs.length := by omega
    obtain ⟨c, ec⟩ : ∃ c, bs[i]? = some c := ⟨_, List.getElem?_eq_getElem hi⟩
    rw [dgName_q]
    walk_at "rc"
    refine onAt_of (d := bD c) (atI_nat (by rw [List.getElem?_map, ec]; rfl)) ?_
    walk_at "rc"
    cases q : allB c b with
    | true =>
      walk_at "rc"
      exact h (.box (i : Int)) (own_holds ec q) (Nat.succ_le_succ (Nat.zero_le _))
    | false =>
      walk_at "rc"
      refine ⟨_, rfl, fun j c' hj ej => ?_⟩
      by_cases e : j = i
      · rw [e, ec] at ej
        cases ej
        exact q
      · exact ha j c' (by omega) ej
  · rintro Δ M' ⟨k2, rfl, rfl, ha⟩
    have no : ∀ c ∈ bs, allB c b = false := fun c mc => by
      obtain ⟨j, hj, ej⟩ := List.mem_iff_getElem.mp mc
      exact ha j c (by omega) (by rw [← ej]; exact List.getElem?_eq_getElem hj)
    obtain ⟨c0, m0, a0, e0⟩ := end_ex2 hb hc no
    walk_at "hd"
    walk_at "rc"
    refine ⟨⟨hl, .inl trivial⟩, fun k0 c0' x0 => ?_⟩
    walk_at "hd"
    walk_at "rc"
    refine ⟨⟨hl, .inr trivial⟩, fun k1 c1' x1 => ?_⟩
    walk_at "hd"
    walk_at "rc"
    rename_i R hR
    rw [List.length_map, List.length_map]
    suffices rest : ∀ (w : Int) (ks : List Int), (w = 0 ∧ ks = k0) ∨ (w = 1 ∧ ks = k1) → ks ≠ [] → R { nx := fun _ M' => Φ (.dat .none) M', rt := Φ } [some (.dat (.tuple (bs.map bD))), some (.dat (bD b)), k2, some (.dat (.list (k0.map PyData.int))), some (.dat (.list (k1.map PyData.int))), some (.dat (.int w)), none, none, none] M' by
      have some0 : k0 ≠ [] ∨ k1 ≠ [] := e0.imp (fun e z => by have := x0 c0 m0 a0 e; rw [z] at this; cases this) fun e z => by have := x1 c0 m0 a0 e; rw [z] at this; cases this
      refine cases_true (fun z => rest 0 k0 (.inl ⟨rfl, rfl⟩) fun e => ?_) fun z => rest 1 k1 (.inr ⟨rfl, rfl⟩) fun e => ?_
      · rcases some0 with y | y
        · exact y e
        · have := List.length_pos_iff.mpr y
          rw [e] at z
          simp only [List.length_nil] at z
          omega
      · rw [e] at z
        simp only [List.length_nil] at z
        omega
    intro w ks hw hne
    have hw' : w = 0 ∨ w = 1 := hw.imp (·.1) (·.1)
    have hks : ∀ z ∈ ks, CutAt bs b w z := by rcases hw with ⟨rfl, rfl⟩ | ⟨rfl, rfl⟩ <;> assumption
    have hpos := List.length_pos_iff.mpr hne
    have hm : ks.length / 2 < ks.length := by omega
    have ck := hks _ (List.getElem_mem hm)
    have idx : L2.atI (ks.map PyData.int) ((ks.length : Int) / 2) = some (.int (ks[ks.length / 2]'hm)) := by
      rw [show (ks.length : Int) / 2 = ((ks.length / 2 : Nat) : Int) by omega]
      exact atI_nat (by rw [List.getElem?_map, List.getElem?_eq_getElem hm]; rfl)
    generalize ks[ks.length / 2]'hm = a at *
    obtain ⟨⟨ck1, ck2⟩, cd, mcd, ecd⟩ := ck
    have ok2 := sub_ok hb hw' ck1 ck2
    have cv2 := hc.sub hw' ck1 ck2
    have ms := cnt_end (bs := dbl bs) hw' ck1 ck2 mcd ecd
    clear ecd
    subst hR
    walk_at "hd"
    rename_i R hR
    suffices rest : R { nx := fun _ M' => Φ (.dat .none) M', rt := Φ } [some (.dat (.tuple (bs.map bD))), some (.dat (bD b)), k2, some (.dat (.list (k0.map PyData.int))), some (.dat (.list (k1.map PyData.int))), some (.dat (.int w)), some (.dat (.list (ks.map PyData.int))), none, none] M' by
      rcases hw with ⟨rfl, rfl⟩ | ⟨rfl, rfl⟩
      · walk_at "rc"
        exact rest
      · walk_at "rc"
        exact rest
    subst hR
    walk_at "hd"
    walk_at "rc"
    rw [List.length_map]
    refine ⟨by unfold CDiv; decide, onAt_of idx ?_⟩
    walk_at "hd"
    walk_at "rc"
    refine ⟨⟨⟨hl, ok2.1, cv2.1⟩, by omega⟩, fun c1 h1 d1 => ?_⟩
    subst_vars
    walk_at "rc"
    refine ⟨⟨⟨hl, ok2.2, cv2.2⟩, by omega⟩, fun c2 h2 d2 => ?_⟩
    exact h (.cut w a c1 c2) (cut_holds hw' ck1 ck2 h1 h2) (by rw [dep_cut]; omega)
theorem left_lst {bs : List B4} {b : B4} (hb : okB b = true) (hs : ∀ c ∈ bs, okB c = true) (r : Int × Int) (hr : r ∈ (leftB b bs).map fun p => (p.x, p.y)) (lr : ∀ s ∈ (leftB b bs).map (fun p => (p.x, p.y)), ltP s r = false) : Lst bs b r.1 r.2 := by
  obtain ⟨p, mp, rfl⟩ := List.mem_map.mp hr
  have op := okB_iff.mp (left_sub hb mp).1
  have la := left_any hb hs p.x p.y
  rw [List.any_eq_true.mpr ⟨p, mp, by rw [hasB_iff]; omega⟩] at la
  have la := (Bool.and_eq_true _ _).mp la.symm
  refine ⟨⟨la.1, by simpa using la.2⟩, fun u v hu nu => ?_⟩
  have lb := left_any hb hs u v
  rw [hu, show (bs.any fun b => hasB b u v) = false from nu] at lb
  obtain ⟨p', mp', hp'⟩ := List.any_eq_true.mp (by exact lb)
  rw [hasB_iff] at hp'
  have := lr (p'.x, p'.y) (List.mem_map.mpr ⟨p', mp', rfl⟩)
  unfold ltP at this
  dsimp only at this ⊢
  split at this <;> simp only [decide_eq_false_iff_not] at this <;> omega
theorem left_nil {bs : List B4} {b : B4} (hb : okB b = true) (hs : ∀ c ∈ bs, okB c = true) (h : leftB b bs = []) : Cov bs b := fun u v hu => by
  have la := left_any hb hs u v
  rw [h, hu] at la
  simpa using la
theorem cases_true' {b : Bool} {A B : Prop} (h1 : b = true → A) (h2 : ¬ b = true → B) : if b = true then A else B := by
  cases b
  · exact h2 (by decide)
  · exact h1 rfl
theorem ok_covered (T : Tx K mg) : FnOk P w K mg base CX0 32 T.f_covered T.d_covered ["shape", "box"] (lift K spCovered) := by
  have G_left_over : FnOk P w K mg base CX0 4 T.f_left_over T.d_left_over ["box", "others"] (lift K spLeft) := ok_left_over T
  have G_cover_of : FnOk P w K mg base CX0 31 T.f_cover_of T.d_cover_of ["shape", "box"] (lift K (spCover 25)) := ok_cover_of T 25
  refine okD T.o_covered.F sc_covered (fun xs M Φ h => by obtain ⟨_, _, rfl, _⟩ := on2_ex h; rfl) fun cdv A outer s H E hr => ⟨_, (dss_cons (ds_set 2 sc_covered.nd (de_call G_left_over (hr.mono (by first | decide | omega)) rfl T.o_left_over.m T.o_left_over.F.kp T.o_left_over.b pass0 (da_cons (de_var 1) (da_cons (de_var 0) da_nil))))
  (dss_cons (ds_if (dt_tru (de_var 2)) (dss_one (ds_ret (de_tup (da_cons de_str (da_cons (de_callB (cd_minP hr rfl) rfl T.n_min bt_min (da_cons (de_comp false (compOk_of (sc := defScope s_covered) (XN := ["shape", "box", "lacking"]) (N := ["piece"]) (ix := [none]) rfl rfl (by decide +kernel)) (di_list (de_var 2)) (fun C ex s H => (dg_name 0 (show List.Nodup (["piece"] : List Str) by decide +kernel))) (fun C ex s H => dts_nil) (fun C ex s H => (de_ix (de_var 0) de_int)) rfl) da_nil)) da_nil))))) dss_nil)
  (dss_one (ds_ret (de_tup (da_cons de_str (da_cons (de_call G_cover_of (hr.mono (by first | decide | omega)) rfl T.o_cover_of.m T.o_cover_of.F.kp T.o_cover_of.b pass0 (da_cons (de_var 0) (da_cons (de_var 1) da_nil))) da_nil))))))), fun xs M Φ h => ?_⟩
  replace h := on2_ex h
  obtain ⟨x1, x2, rfl, h⟩ := h
  replace h := onBs_ex h
  obtain ⟨bs, rfl, h⟩ := h
  replace h := onX_ex h
  obtain ⟨b, rfl, ⟨hs, hb⟩, h1, h2⟩ := h
  walk_at "hd"
  walk_at "rc"
  refine ⟨hs.2.1, ?_⟩
  have len := leftB_len b bs hs.2.1
  walk_at "hd"
  walk_at "rc"
  refine cases_true' (fun z => ?_) fun z => ?_
  · refine ⟨by rw [List.length_map]; omega, fun i acc M' => acc = (((leftB b bs).take i).map fun p => (p.x, p.y)).map prD ∧ M' = M, ⟨rfl, rfl⟩, ?_, ?_⟩
    · rintro i d acc M' hd ⟨rfl, rfl⟩
      obtain ⟨p, ep, rfl⟩ := map_get hd
      walk_at "rc"
      rw [← take_snoc _ ep, List.map_append]
      rfl
    · rintro acc M' ⟨rfl, rfl⟩
      rw [List.length_map, List.take_length]
      refine ⟨_, rfl, ?_, fun q hq lq => h2 q.1 q.2 (left_lst hb hs.2.2 q hq lq)⟩
      rw [List.length_map]
      cases e : leftB b bs with
      | nil => rw [e] at z; exact absurd z (by decide)
      | cons x xs => exact Nat.succ_pos _
  · have e : leftB b bs = [] := by
      cases e : leftB b bs with
      | nil => rfl
      | cons x xs => rw [e] at z; exact absurd rfl z
    have cv := left_nil hb hs.2.2 e
    have cn := cnt_le (dbl bs) b
    have dl : (dbl bs).length = bs.length + bs.length := by
      unfold dbl
      rw [List.length_append, List.length_map]
    have hs6 := hs.2.1
    subst_vars
    walk_at "rc"
    exact ⟨⟨⟨hs.2.1, hb, cv⟩, by omega⟩, h1 cv⟩
/-! ### the pen -/
def PenO (o : OO) : Prop := ∃ a b c : Int, 0 ≤ a ∧ (0 ≤ b ∧ b < 2147483587) ∧ 0 ≤ c ∧ o = .lst [.int a, .int b, .int c]
def Pen (M : Mp) (p : Addr) : Prop := ∃ o, PenO o ∧ M p = some o
theorem Pen.mset {M : Mp} {p : Addr} {o : OO} (h : PenO o) : Pen (mset M p o) p := ⟨o, h, mset_same⟩
theorem Pen.ne {M : Mp} {p q : Addr} (h : Pen M p) (hq : M q = none) : p ≠ q := fun e => by
  obtain ⟨o, _, ho⟩ := h
  rw [e, hq] at ho
  cases ho
theorem Pen.put {M : Mp} {p q : Addr} {o : OO} (h : Pen M p) (hq : p ≠ q) : Pen (DL.mset M q o) p := by
  obtain ⟨o', h1, h2⟩ := h
  exact ⟨o', h1, by rw [mset_ne hq]; exact h2⟩
theorem Pen.del {M : Mp} {p q : Addr} (h : Pen M p) (hq : p ≠ q) : Pen (DL.mdel M q) p := by
  obtain ⟨o', h1, h2⟩ := h
  exact ⟨o', h1, by rw [mdel_ne hq]; exact h2⟩
/-- a list of ints -/
def onZs (x : DV) (P : List Int → Prop) : Prop := ∃ ns, x = .dat (.list (ns.map PyData.int)) ∧ P ns
theorem onZs_ex {x : DV} {P : List Int → Prop} (h : onZs x P) : ∃ ns, x = .dat (.list (ns.map PyData.int)) ∧ P ns := h
theorem map_int_inj : ∀ {as bs : List Int}, as.map PyData.int = bs.map PyData.int → as = bs
  | [], [], _ => rfl
  | [], _ :: _, h => by simp at h
  | _ :: _, [], h => by simp at h
  | a :: as, b :: bs, h => by
    rw [List.map_cons, List.map_cons, List.cons.injEq, PyData.int.injEq] at h
    rw [h.1, map_int_inj h.2]
theorem onZs_mk (bs : List Int) (P : List Int → Prop) : onZs (.dat (.list (bs.map PyData.int))) P = P bs := propext ⟨fun ⟨cs, e, h⟩ => by
  rw [DV.dat.injEq, PyData.list.injEq] at e
  rw [map_int_inj e]
  exact h, fun h => ⟨bs, rfl, h⟩⟩
theorem tab {l : List Int} {r : Int} (P : Int → Prop) (h0 : 0 ≤ r) (h1 : r < l.length) (hl : ∀ w ∈ l, P w) {Q : PyData → Prop} (k : ∀ w, P w → Q (.int w)) : onAt (l.map PyData.int) r Q := by
  obtain ⟨w, hw, e⟩ := atI_int h0 h1
  exact onAt_of e (k w (hl w hw))
def spPenN : DSp := fun xs M Φ => on2 xs fun x y => onZs x fun ns => onI y fun k => 0 ≤ k ∧ ∀ p o, M p = none → PenO o → Φ (.own p) (mset M p o)
theorem spPenN_q (xs : List DV) (M : Mp) (Φ : DK) : spPenN xs M Φ = (on2 xs fun x y => onZs x fun ns => onI y fun k => 0 ≤ k ∧ ∀ p o, M p = none → PenO o → Φ (.own p) (mset M p o)) := propext Iff.rfl
/-- the pen stays a pen, and what else was owned stays as it was -/
def Fr (p : Addr) (M M' : Mp) : Prop := Pen M' p ∧ ∀ a, a ≠ p → M a ≠ none → M' a = M a
theorem Fr.refl {p : Addr} {M : Mp} (h : Pen M p) : Fr p M M := ⟨h, fun _ _ _ => rfl⟩
theorem Fr.trans {p : Addr} {M M1 M2 : Mp} (h : Fr p M M1) (k : Fr p M1 M2) : Fr p M M2 := ⟨k.1, fun a ha hn => by
  have e := h.2 a ha hn
  rw [← e]
  exact k.2 a ha (by rw [e]; exact hn)⟩
theorem Fr.mset {p : Addr} {M : Mp} {o : OO} (h : PenO o) : Fr p M (mset M p o) := ⟨Pen.mset h, fun a ha _ => mset_ne ha⟩
theorem Fr.own {p q : Addr} {M M' : Mp} {o : OO} (h : Fr p M M') (hq : M q = some o) (hne : q ≠ p) : M' q = some o := by
  rw [h.2 q hne (by rw [hq]; exact Option.some_ne_none _)]
  exact hq
theorem Fr.new {p q : Addr} {M M' : Mp} {o : OO} (h : Fr p M M') (hq : M q = none) (hne : q ≠ p) : Fr p M (DL.mset M' q o) := ⟨h.1.put (Ne.symm hne), fun a ha hn => by
  rw [mset_ne (fun e => hn (by rw [e]; exact hq))]
  exact h.2 a ha hn⟩
def spDraw : DSp := fun xs M Φ => on2 xs fun x y => onO x fun p => onI y fun m => (0 < m ∧ m < 10 ^ 20) ∧ Pen M p ∧ ∀ r M', 0 ≤ r → r < m → Fr p M M' → Φ (.dat (.int r)) M'
theorem spDraw_q (xs : List DV) (M : Mp) (Φ : DK) : spDraw xs M Φ = (on2 xs fun x y => onO x fun p => onI y fun m => (0 < m ∧ m < 10 ^ 20) ∧ Pen M p ∧ ∀ r M', 0 ≤ r → r < m → Fr p M M' → Φ (.dat (.int r)) M') := propext Iff.rfl
theorem Pen.get {M : Mp} {p : Addr} (h : Pen M p) : ∃ a b c : Int, (0 ≤ a ∧ (0 ≤ b ∧ b < 2147483587) ∧ 0 ≤ c) ∧ M p = some (.lst [.int a, .int b, .int c]) := by
  obtain ⟨o, ⟨a, b, c, ha, hb, hc, eo⟩, hp⟩ := h
  exact ⟨a, b, c, ⟨ha, hb, hc⟩, by rw [hp, eo]⟩
local macro_rules | `(tactic| walk_at "r3") => `(tactic| try simp (config := { maxSteps := 10000000 }) only [↓onV_mk_q, ↓onI_mk_q, ↓onB_mk_q, ↓onS_mk_q, ↓onT_mk_q, ↓onL_mk_q, ↓onD_mk_q, ↓onO_mk_q, ↓onOL_mk_q, ↓onOC_mk_q, ↓onQ_t_q, ↓onQ_l_q, ↓onQ_o_q, ↓onK_l_q, ↓onK_o_q, ↓on1_mk_q, ↓on2_mk_q, ↓on3_mk_q, ↓on4_mk_q, ↓on5_mk_q, ↓on6_mk_q, ↓onDs_0_q, ↓onDs_1_q, ↓onDs_2_q, ↓onDs_3_q, ↓onDs_4_q, ↓onDs_5_q, ↓onDs_6_q, ↓onDs_7_q, ↓onDs_8_q, ↓onDs_9_q, ↓onDs_10_q, ↓onDs_11_q, ↓onDs_12_q, ↓dVar_q, ↓dC_q, ↓dTy_q, ↓dOp_q, ↓dB_q, ↓dChain_q, ↓dAnd_q, ↓dOr_q, ↓dNot_q, ↓dAndV_q, ↓dOrV_q, ↓dNotV_q, ↓dIf_q, ↓dUnI_q, ↓δI_q, ↓δI0_q, ↓δB_q, ↓δCatT_q, ↓δCatL_q, ↓δCatLO_q, ↓dNil_q, ↓dCons_q, ↓dTup_q, ↓dLst_q, ↓dLstO_q, ↓dFrz_q, ↓onAt_0_q, ↓onAt_1_q, ↓onAt_2_q, ↓onAt_3_q, ↓onAt_4_q, ↓onAt_5_q, ↓onAt_6_q, ↓onAt_7_q, ↓δIx_q, ↓dCB_q, ↓δLen_q, ↓δLenS_q, ↓δStrI_q, ↓δAbs_q, ↓δ2I_q, ↓δListOf_q, ↓δRepr_q, ↓δIsi_mk_q, ↓eqD_ii_q, ↓eqD_ss_q, ↓eqD_bb_q, ↓δEq_q, ↓δNe_q, ↓δNeS_q, ↓δEqS_q, ↓dNoPart_q, ↓dPart_q, ↓dSlT_q, ↓dNext_q, ↓dSeq_q, ↓dBreak_q, ↓dCont_q, ↓dDrop_q, ↓dRet_q, ↓dRetN_q, ↓dIfS_q, ↓dgName_q, ↓dgNil_mk_q, ↓dgCons_mk_q, ↓onNs_0_q, ↓onNs_s_q, ↓dgTup_q, ↓dgSub_q, ↓dAsg_q, ↓dAppend_q, ↓dForL_q, ↓dForT_q, ↓dForR1_q, ↓dForR2_q, ↓dCall_q, ↓dDict0_q, ↓onKey_i_q, ↓onKey_s_q, ↓dDict1_q, ↓dDict2_q, ↓dDict1T_q, ↓sp1_q, ↓srcL_q, ↓srcT_q, ↓srcR1_q, ↓srcR2_q, ↓dEnd_t_q, ↓dEnd_f_q, ↓dComp_q, ↓tcNo_q, ↓δSortI_q, ↓δMinI_q, ↓δMaxI_q, ↓δ3I_q, ↓δTupOf_q, ↓onW_t_q, ↓onW_l_q, ↓δIn_q, ↓dExtend_q, ↓dSlL_q, ↓δSumI_q, ↓δAllB_q, ↓δAnyB_q, ↓δIntB_q, ↓dPar_q, ↓δCatS_q, ↓dSlS_q, ↓dListR2_q, ↓dAug_q, ↓δMinP_q, ↓dDict0T_q, ↓dPutT_q, ↓onP_mk_q, ↓δInT_q, ↓dRevT_q, ↓dSlTW_q, ↓onFr_l_q, ↓onFr_o_q, ↓dFrzA_q, ↓srcM_q, ↓dWhile_q, ↓dPop_q, ↓onN_mk_q, ↓δIsN_q, ↓δNotIn_q, ↓δNotInT_q, CompRun_n, CompRun_c, TurnsU_n, TurnsU_c, dCompU_q, capD, startD, onAt_last, onKs, keysD, rngD_0, rngD_1, rngD_2, rngD_3, rngD_4, isNone_none, isNone_bool, isNone_int, isNone_str, isNone_list, isNone_tuple, isNone_dict,
  Option.bind_some, Option.bind_none, Option.join_some, Option.join_none, Option.getD_some, Option.map_some, Option.map_none, List.getElem?_cons_zero, List.getElem?_cons_succ, List.set_cons_zero, List.set_cons_succ, List.map_cons, List.map_nil, List.length_cons, List.length_nil, List.replicate, List.cons_append, List.nil_append, List.any_cons, List.any_nil,
  mset_same, mset_mset, ↓reduceIte, Bool.not_true, Bool.not_false, Bool.or_false, Bool.or_true, Bool.true_or, Bool.false_or, Bool.and_true, Bool.and_false, Bool.true_and, Bool.false_and, Bool.bne_true, Bool.bne_false, Bool.false_eq_true, eq_self, true_and, and_true, ixN_30, ixN_31, ixN_32, exists_eq_left', exists_eq_left, Option.some.injEq, Nat.reduceAdd, Nat.reduceSub, Nat.zero_add, Nat.reduceLT, Nat.reduceLeDiff, Int.reduceToNat, Int.reducePow, Int.reduceSub, Int.reduceMul, Int.reduceAdd, Int.reduceNeg,
  Int.reduceLT, Int.reduceLE, Int.reduceEq, Int.zero_add, Int.cast_ofNat_Int, decide_true, decide_false, sizeLine_eq, eqA_nil, eqA_cons, eqA_cn, eqA_nc, eq_tt, eq_ll, eq_nn, eq_ii, eq_ss, eq_bb, ty_int_none, ty_int_bool, ty_int_int, ty_int_str, ty_int_list, ty_int_tuple, ty_int_dict, ty_bool_none, ty_bool_bool, ty_bool_int, ty_bool_str, ty_bool_list, ty_bool_tuple, ty_bool_dict, ty_tuple_none, ty_tuple_bool, ty_tuple_int, ty_tuple_str, ty_tuple_list, ty_tuple_tuple, ty_tuple_dict, ty_list_none, ty_list_bool, ty_list_int, ty_list_str, ty_list_list, ty_list_tuple, ty_list_dict, ty_str_none, ty_str_bool, ty_str_int, ty_str_str, ty_str_list, ty_str_tuple, ty_str_dict, ty_dict_none, ty_dict_bool, ty_dict_int, ty_dict_str, ty_dict_list, ty_dict_tuple, ty_dict_dict, ↓onX_mk_q, ↓onX_m4_q, ↓onQ_bD_q, ↓onT_bD_q, onBs_mk, onBl_mk, ↓spHas_q, ↓spGap_q, ↓spBetween_q, ↓spTo_q, ↓spHasB_q, ↓spSteps_q, ↓spSquare_q, ↓spCommon_q, ↓spCut_q, ↓spLeft_q, ↓spLies_q, ↓spW_q, ↓spHasAll_q, ↓spUp_q, ↓spOw_q, ↓spNum_q, ↓spCuts_q, ↓spPenN_q, ↓spDraw_q, onZs_mk])
theorem ok_pen (T : Tx K mg) : FnOk P w K mg base CX0 1 T.f_pen T.d_pen ["_law_script", "_law_k"] (lift K spPenN) := by
  refine okD T.o_pen.F sc_pen (fun xs M Φ h => by obtain ⟨_, _, rfl, _⟩ := on2_ex h; rfl) fun cdv A outer s H E hr => ⟨_, (dss_cons (ds_set 2 sc_pen.nd de_int)
  (dss_cons (ds_if (dt_cmp od_gt (de_callB cd_len rfl T.n_len bt_len (da_cons (de_var 0) da_nil)) de_int) (dss_one (ds_set 2 sc_pen.nd (de_ix (de_var 0) (de_op od_mod (de_var 1) (de_callB cd_len rfl T.n_len bt_len (da_cons (de_var 0) da_nil)))))) dss_nil)
  (dss_cons (ds_if (DW.dt (dw_and (dt_cmp od_lt (de_var 1) (de_callB cd_len rfl T.n_len bt_len (da_cons (de_var 0) da_nil))) (dw_and1 (dt_cmp od_ge (de_callB cd_abs rfl T.n_abs bt_abs (da_cons (de_var 2) da_nil)) (de_op od_pow de_int de_int))))) (dss_one (ds_ret (de_lstO (da_cons (de_callB cd_abs rfl T.n_abs bt_abs (da_cons (de_var 2) da_nil)) (da_cons de_int (da_cons de_int da_nil)))))) dss_nil)
  (dss_one (ds_ret (de_lstO (da_cons de_int (da_cons (de_op od_mod (de_op od_add (de_op od_add (de_op od_mod (de_var 2) de_int) (de_op od_mul de_int (de_var 1))) de_int) de_int) (da_cons de_int da_nil))))))))), fun xs M Φ h => ?_⟩
  replace h := on2_ex h
  obtain ⟨x1, x2, rfl, h⟩ := h
  replace h := onZs_ex h
  obtain ⟨ns, rfl, h⟩ := h
  replace h := onI_ex h
  obtain ⟨k, rfl, h0, h⟩ := h
  have fin : ∀ c : Int, (0 : Int) < 2147483587 ∧ CMul 40709 k ∧ (0 : Int) < 2147483587 ∧ ∀ p, M p = none → Φ (.own p) (mset M p (.lst [.int 0, .int ((c % 2147483587 + 40709 * k + 31) % 2147483587), .int 0])) :=
    fun c => ⟨by decide, .inl (by decide), by decide, fun p hp => h p _ hp ⟨0, _, 0, Int.le_refl 0, mod_b _ (by decide), Int.le_refl 0, rfl⟩⟩
  walk_at "hd"
  walk_at "r3"
  walk_at "hd"
  walk_at "r3"
  rw [List.length_map]
  refine cases_true (fun hl => ?_) (fun hl => ?_)
  · have hm := mod_b k hl
    obtain ⟨c, hc⟩ := at_ints (ns := ns) hm.1 hm.2
    refine ⟨hl, onAt_of hc ?_⟩
    walk_at "hd"
    walk_at "r3"
    rw [List.length_map]
    refine cases_true (fun h2 => ⟨cp10 _ (by decide), cases_true (fun h3 => fun p hp => h p _ hp ⟨_, 0, 0, ?_, ⟨by decide, by decide⟩, Int.le_refl 0, rfl⟩) fun h3 => ?_⟩) fun h2 => ?_
    · split <;> omega
    · subst_vars
      walk_at "r3"
      exact ⟨(fin c).2.1, (fin c).2.2.2⟩
    · subst_vars
      walk_at "r3"
      exact ⟨(fin c).2.1, (fin c).2.2.2⟩
  · walk_at "hd"
    walk_at "r3"
    rw [List.length_map]
    refine cases_true (fun h2 => absurd h2 (by omega)) fun h2 => ?_
    subst_vars
    walk_at "r3"
    exact ⟨(fin 5).2.1, (fin 5).2.2.2⟩
theorem ok_draw (T : Tx K mg) : FnOk P w K mg base CX0 1 T.f_draw T.d_draw ["_law_pen_here", "_law_many"] (lift K spDraw) := by
  refine okD T.o_draw.F sc_draw (fun xs M Φ h => by obtain ⟨_, _, rfl, _⟩ := on2_ex h; rfl) fun cdv A outer s H E hr => ⟨_, (dss_cons (ds_if (dt_cmp od_gt (de_ix (de_var 0) de_int) de_int) (dss_cons (ds_set 3 sc_draw.nd (de_op od_mod (de_ix (de_var 0) de_int) (de_var 1)))
  (dss_cons (ds_asg (de_op od_fdivB (de_ix (de_var 0) de_int) (de_var 1)) (dg_sub (de_var 0) de_int))
  (dss_one (ds_ret (de_var 3))))) dss_nil)
  (dss_cons (ds_asg (de_op od_add (de_ix (de_var 0) de_int) de_int) (dg_sub (de_var 0) de_int))
  (dss_cons (ds_set 2 sc_draw.nd (de_op od_mod (de_op od_add (de_op od_add (de_op od_mul (de_ix (de_var 0) de_int) de_int) (de_op od_mul (de_ix (de_var 0) de_int) de_int)) de_int) de_int))
  (dss_cons (ds_set 2 sc_draw.nd (de_op od_mod (de_op od_add (de_op od_mul (de_var 2) (de_var 2)) (de_ix (de_var 0) de_int)) de_int))
  (dss_cons (ds_set 2 sc_draw.nd (de_op od_mod (de_op od_mul (de_var 2) (de_op od_add (de_op od_mod (de_var 2) de_int) de_int)) de_int))
  (dss_one (ds_ret (de_op od_mod (de_op od_fdiv (de_var 2) de_int) (de_var 1))))))))), fun xs M Φ h => ?_⟩
  replace h := on2_ex h
  obtain ⟨x1, x2, rfl, h⟩ := h
  replace h := onO_ex h
  obtain ⟨p, rfl, h⟩ := h
  replace h := onI_ex h
  obtain ⟨m, rfl, ⟨h0, h1⟩, hp, h⟩ := h
  obtain ⟨a, b, c, ⟨ha, hb, hc⟩, hp⟩ := hp.get
  have lg : m.natAbs.log2 < 9000 := Nat.lt_of_lt_of_le (log2_lt' (k := 70) (by omega) (by decide)) (by decide)
  walk_at "hd"
  walk_at "r3"
  simp only [hp]
  walk_at "r3"
  refine cases_true (fun h2 => ?_) fun h2 => ?_
  · exact ⟨h0, ⟨h0, lg⟩, h _ _ (mod_b a h0).1 (mod_b a h0).2 (Fr.mset ⟨a / m, b, c, Int.ediv_nonneg ha (by omega), hb, hc, rfl⟩)⟩
  · walk_at "hd"
    walk_at "r3"
    simp only [hp]
    walk_at "r3"
    walk_at "hd"
    walk_at "r3"
    refine ⟨.inr (by decide), .inr (by decide), ?_⟩
    walk_at "hd"
    walk_at "r3"
    refine ⟨.inl (by omega), ?_⟩
    walk_at "hd"
    walk_at "r3"
    refine ⟨.inl (by omega), ?_⟩
    subst_vars
    walk_at "r3"
    refine ⟨⟨by decide, by decide⟩, h0, ?_⟩
    exact h _ _ (mod_b _ h0).1 (mod_b _ h0).2 (Fr.mset ⟨a, b, c + 1, ha, hb, by omega, rfl⟩)
theorem two_snoc {R : Int → Int → Prop} {bs es : List Int} {A B : Int} (hl : bs.length = es.length) (h : ∀ (i : Nat) (a b : Int), bs[i]? = some a → es[i]? = some b → R a b) (k : R A B) : ∀ (i : Nat) (a b : Int), (bs ++ [A])[i]? = some a → (es ++ [B])[i]? = some b → R a b := fun i a b ha hb => by
  by_cases hi : i < bs.length
  · rw [List.getElem?_append_left hi] at ha
    rw [List.getElem?_append_left (by omega)] at hb
    exact h i a b ha hb
  · have h1 := (List.getElem?_eq_some_iff.mp ha).1
    rw [List.length_append, List.length_singleton] at h1
    obtain rfl : i = bs.length := by omega
    rw [List.getElem?_append_right (Nat.le_refl _), Nat.sub_self] at ha
    rw [hl, List.getElem?_append_right (Nat.le_refl _), Nat.sub_self] at hb
    cases ha
    cases hb
    exact k
theorem len_two {l : List Int} (h : l.length = 2) : ∃ a b, l = [a, b] := by
  match l, h with
  | [a, b], _ => exact ⟨a, b, rfl⟩
/-! ### what the law draws -/
def Grd (n : Nat) (bs : List B4) : Prop := 1 ≤ bs.length ∧ bs.length ≤ n ∧ ∀ b ∈ bs, Cel b
def Frm (t ox oy : Int) : Prop := (1 ≤ t ∧ t ≤ 10 ^ 10) ∧ (-(10 ^ 12) ≤ ox ∧ ox ≤ 10 ^ 12) ∧ (-(10 ^ 12) ≤ oy ∧ oy ≤ 10 ^ 12)
/-- a triple of ints -/
def on3I (x : DV) (P : Int → Int → Int → Prop) : Prop := match x with | .dat (.tuple [.int i, .int j, .int k]) => P i j k | _ => False
theorem on3I_mk_q (i j k : Int) (P : Int → Int → Int → Prop) : on3I (.dat (.tuple [.int i, .int j, .int k])) P = P i j k := propext Iff.rfl
theorem on3I_ex {x : DV} {P : Int → Int → Int → Prop} (h : on3I x P) : ∃ i j k, x = .dat (.tuple [.int i, .int j, .int k]) ∧ P i j k := by
  unfold on3I at h
  split at h
  · exact ⟨_, _, _, rfl, h⟩
  · exact h.elim
def spHole : DSp := fun xs M Φ => on1 xs fun x => onO x fun p => Pen M p ∧ ∀ bs M', Grd 6 bs → Pen M' p → Φ (.dat (.list (bs.map bD))) M'
theorem spHole_q (xs : List DV) (M : Mp) (Φ : DK) : spHole xs M Φ = (on1 xs fun x => onO x fun p => Pen M p ∧ ∀ bs M', Grd 6 bs → Pen M' p → Φ (.dat (.list (bs.map bD))) M') := propext Iff.rfl
def spBox : DSp := fun xs M Φ => on2 xs fun x y => onO x fun p => onX y fun b => Cel b ∧ Pen M p ∧ ∀ c M', Cel c → Fr p M M' → Φ (.dat (bD c)) M'
theorem spBox_q (xs : List DV) (M : Mp) (Φ : DK) : spBox xs M Φ = (on2 xs fun x y => onO x fun p => onX y fun b => Cel b ∧ Pen M p ∧ ∀ c M', Cel c → Fr p M M' → Φ (.dat (bD c)) M') := propext Iff.rfl
def spFrameL : DSp := fun xs M Φ => on1 xs fun x => onO x fun p => Pen M p ∧ ∀ t ox oy M', Frm t ox oy → Pen M' p → Φ (.dat (.tuple [.int t, .int ox, .int oy])) M'
theorem spFrameL_q (xs : List DV) (M : Mp) (Φ : DK) : spFrameL xs M Φ = (on1 xs fun x => onO x fun p => Pen M p ∧ ∀ t ox oy M', Frm t ox oy → Pen M' p → Φ (.dat (.tuple [.int t, .int ox, .int oy])) M') := propext Iff.rfl
def spLaid : DSp := fun xs M Φ => on2 xs fun x y => onBl x fun bs => on3I y fun t ox oy => Grd 6 bs ∧ Φ (.dat (.tuple ((bs.map (strB t ox oy)).map bD))) M
theorem spLaid_q (xs : List DV) (M : Mp) (Φ : DK) : spLaid xs M Φ = (on2 xs fun x y => onBl x fun bs => on3I y fun t ox oy => Grd 6 bs ∧ Φ (.dat (.tuple ((bs.map (strB t ox oy)).map bD))) M) := propext Iff.rfl
def Cells (bs : List B4) (ks : List (List Key)) : Prop := ∀ i j, memK ks (kP i j) = anyB bs i j
def spCells : DSp := fun xs M Φ => on1 xs fun x => onBl x fun bs => Grd 6 bs ∧ ∀ l ks, M l = none → Cells bs ks → Φ (.own l) (mset M l (.dct ks))
theorem spCells_q (xs : List DV) (M : Mp) (Φ : DK) : spCells xs M Φ = (on1 xs fun x => onBl x fun bs => Grd 6 bs ∧ ∀ l ks, M l = none → Cells bs ks → Φ (.own l) (mset M l (.dct ks))) := propext Iff.rfl
def Fs (x : Int) : Prop := -999999999999 ≤ x ∧ x ≤ 999999999999
def spSpot : DSp := fun xs M Φ => on2 xs fun x y => onO x fun p => on3I y fun t ox oy => Frm t ox oy ∧ Pen M p ∧ ∀ u v M', Fs u → Fs v → Fr p M M' → Φ (.dat (.tuple [.int u, .int v])) M'
theorem spSpot_q (xs : List DV) (M : Mp) (Φ : DK) : spSpot xs M Φ = (on2 xs fun x y => onO x fun p => on3I y fun t ox oy => Frm t ox oy ∧ Pen M p ∧ ∀ u v M', Fs u → Fs v → Fr p M M' → Φ (.dat (.tuple [.int u, .int v])) M') := propext Iff.rfl
def spGapL : DSp := fun xs M Φ => on3 xs fun x y z => onP x fun i j => on3I y fun t ox oy => onP z fun u v => ((-(10 ^ 3) ≤ i ∧ i ≤ 10 ^ 3) ∧ (-(10 ^ 3) ≤ j ∧ j ≤ 10 ^ 3)) ∧ Φ (.dat (.int (distB (cellB t ox oy i j) u v))) M
theorem spGapL_q (xs : List DV) (M : Mp) (Φ : DK) : spGapL xs M Φ = (on3 xs fun x y z => onP x fun i j => on3I y fun t ox oy => onP z fun u v => ((-(10 ^ 3) ≤ i ∧ i ≤ 10 ^ 3) ∧ (-(10 ^ 3) ≤ j ∧ j ≤ 10 ^ 3)) ∧ Φ (.dat (.int (distB (cellB t ox oy i j) u v))) M) := propext Iff.rfl
def rowD (t ox oy u v : Int) (c : Int × Int) : PyData := .tuple [prD c, .int (distB (cellB t ox oy c.1 c.2) u v)]
def Oth (bs : List B4) (t ox oy u v : Int) (cs : List (Int × Int)) : Prop := ∀ i j, (i, j) ∈ cs ↔ ((-1 ≤ i ∧ i ≤ 12) ∧ (-1 ≤ j ∧ j ≤ 12)) ∧ anyB bs i j ≠ anyB bs ((u - ox) / t) ((v - oy) / t)
/-- an owned table of the cells of some boxes -/
def onCl (x : DV) (M : Mp) (P : List B4 → Prop) : Prop := ∃ l ks bs, x = .own l ∧ M l = some (.dct ks) ∧ Cells bs ks ∧ P bs
theorem onCl_ex {x : DV} {M : Mp} {P : List B4 → Prop} (h : onCl x M P) : ∃ l ks bs, x = .own l ∧ M l = some (.dct ks) ∧ Cells bs ks ∧ P bs := h
def spOthers : DSp := fun xs M Φ => on3 xs fun x y z => on3I y fun t ox oy => onP z fun u v => onCl x M fun bs => Frm t ox oy ∧
  ∀ cs, Oth bs t ox oy u v cs → cs.length ≤ 196 → Φ (.dat (.tuple [.bool (anyB bs ((u - ox) / t) ((v - oy) / t)), .list (cs.map (rowD t ox oy u v))])) M
local macro_rules | `(tactic| walk_at "r4") => `(tactic| try simp (config := { maxSteps := 10000000 }) only [↓onV_mk_q, ↓onI_mk_q, ↓onB_mk_q, ↓onS_mk_q, ↓onT_mk_q, ↓onL_mk_q, ↓onD_mk_q, ↓onO_mk_q, ↓onOL_mk_q, ↓onOC_mk_q, ↓onQ_t_q, ↓onQ_l_q, ↓onQ_o_q, ↓onK_l_q, ↓onK_o_q, ↓on1_mk_q, ↓on2_mk_q, ↓on3_mk_q, ↓on4_mk_q, ↓on5_mk_q, ↓on6_mk_q, ↓onDs_0_q, ↓onDs_1_q, ↓onDs_2_q, ↓onDs_3_q, ↓onDs_4_q, ↓onDs_5_q, ↓onDs_6_q, ↓onDs_7_q, ↓onDs_8_q, ↓onDs_9_q, ↓onDs_10_q, ↓onDs_11_q, ↓onDs_12_q, ↓dVar_q, ↓dC_q, ↓dTy_q, ↓dOp_q, ↓dB_q, ↓dChain_q, ↓dAnd_q, ↓dOr_q, ↓dNot_q, ↓dAndV_q, ↓dOrV_q, ↓dNotV_q, ↓dIf_q, ↓dUnI_q, ↓δI_q, ↓δI0_q, ↓δB_q, ↓δCatT_q, ↓δCatL_q, ↓δCatLO_q, ↓dNil_q, ↓dCons_q, ↓dTup_q, ↓dLst_q, ↓dLstO_q, ↓dFrz_q, ↓onAt_0_q, ↓onAt_1_q, ↓onAt_2_q, ↓onAt_3_q, ↓onAt_4_q, ↓onAt_5_q, ↓onAt_6_q, ↓onAt_7_q, ↓δIx_q, ↓dCB_q, ↓δLen_q, ↓δLenS_q, ↓δStrI_q, ↓δAbs_q, ↓δ2I_q, ↓δListOf_q, ↓δRepr_q, ↓δIsi_mk_q, ↓eqD_ii_q, ↓eqD_ss_q, ↓eqD_bb_q, ↓δEq_q, ↓δNe_q, ↓δNeS_q, ↓δEqS_q, ↓dNoPart_q, ↓dPart_q, ↓dSlT_q, ↓dNext_q, ↓dSeq_q, ↓dBreak_q, ↓dCont_q, ↓dDrop_q, ↓dRet_q, ↓dRetN_q, ↓dIfS_q, ↓dgName_q, ↓dgNil_mk_q, ↓dgCons_mk_q, ↓onNs_0_q, ↓onNs_s_q, ↓dgTup_q, ↓dgSub_q, ↓dAsg_q, ↓dAppend_q, ↓dForL_q, ↓dForT_q, ↓dForR1_q, ↓dForR2_q, ↓dCall_q, ↓dDict0_q, ↓onKey_i_q, ↓onKey_s_q, ↓dDict1_q, ↓dDict2_q, ↓dDict1T_q, ↓sp1_q, ↓srcL_q, ↓srcT_q, ↓srcR1_q, ↓srcR2_q, ↓dEnd_t_q, ↓dEnd_f_q, ↓dComp_q, ↓tcNo_q, ↓δSortI_q, ↓δMinI_q, ↓δMaxI_q, ↓δ3I_q, ↓δTupOf_q, ↓onW_t_q, ↓onW_l_q, ↓δIn_q, ↓dExtend_q, ↓dSlL_q, ↓δSumI_q, ↓δAllB_q, ↓δAnyB_q, ↓δIntB_q, ↓dPar_q, ↓δCatS_q, ↓dSlS_q, ↓dListR2_q, ↓dAug_q, ↓δMinP_q, ↓dDict0T_q, ↓dPutT_q, ↓onP_mk_q, ↓δInT_q, ↓dRevT_q, ↓dSlTW_q, ↓onFr_l_q, ↓onFr_o_q, ↓dFrzA_q, ↓srcM_q, ↓dWhile_q, ↓dPop_q, ↓onN_mk_q, ↓δIsN_q, ↓δNotIn_q, ↓δNotInT_q, CompRun_n, CompRun_c, TurnsU_n, TurnsU_c, dCompU_q, capD, startD, onAt_last, onKs, keysD, rngD_0, rngD_1, rngD_2, rngD_3, rngD_4, isNone_none, isNone_bool, isNone_int, isNone_str, isNone_list, isNone_tuple, isNone_dict,
  Option.bind_some, Option.bind_none, Option.join_some, Option.join_none, Option.getD_some, Option.map_some, Option.map_none, List.getElem?_cons_zero, List.getElem?_cons_succ, List.set_cons_zero, List.set_cons_succ, List.map_cons, List.map_nil, List.length_cons, List.length_nil, List.replicate, List.cons_append, List.nil_append, List.any_cons, List.any_nil,
  mset_same, mset_mset, ↓reduceIte, Bool.not_true, Bool.not_false, Bool.or_false, Bool.or_true, Bool.true_or, Bool.false_or, Bool.and_true, Bool.and_false, Bool.true_and, Bool.false_and, Bool.bne_true, Bool.bne_false, Bool.false_eq_true, eq_self, true_and, and_true, ixN_30, ixN_31, ixN_32, exists_eq_left', exists_eq_left, Option.some.injEq, Nat.reduceAdd, Nat.reduceSub, Nat.zero_add, Nat.reduceLT, Nat.reduceLeDiff, Int.reduceToNat, Int.reducePow, Int.reduceSub, Int.reduceMul, Int.reduceAdd, Int.reduceNeg,
  Int.reduceLT, Int.reduceLE, Int.reduceEq, Int.zero_add, Int.cast_ofNat_Int, decide_true, decide_false, sizeLine_eq, eqA_nil, eqA_cons, eqA_cn, eqA_nc, eq_tt, eq_ll, eq_nn, eq_ii, eq_ss, eq_bb, ty_int_none, ty_int_bool, ty_int_int, ty_int_str, ty_int_list, ty_int_tuple, ty_int_dict, ty_bool_none, ty_bool_bool, ty_bool_int, ty_bool_str, ty_bool_list, ty_bool_tuple, ty_bool_dict, ty_tuple_none, ty_tuple_bool, ty_tuple_int, ty_tuple_str, ty_tuple_list, ty_tuple_tuple, ty_tuple_dict, ty_list_none, ty_list_bool, ty_list_int, ty_list_str, ty_list_list, ty_list_tuple, ty_list_dict, ty_str_none, ty_str_bool, ty_str_int, ty_str_str, ty_str_list, ty_str_tuple, ty_str_dict, ty_dict_none, ty_dict_bool, ty_dict_int, ty_dict_str, ty_dict_list, ty_dict_tuple, ty_dict_dict, ↓onX_mk_q, ↓onX_m4_q, ↓onQ_bD_q, ↓onT_bD_q, onBs_mk, onBl_mk, ↓spHas_q, ↓spGap_q, ↓spBetween_q, ↓spTo_q, ↓spHasB_q, ↓spSteps_q, ↓spSquare_q, ↓spCommon_q, ↓spCut_q, ↓spLeft_q, ↓spLies_q, ↓spW_q, ↓spHasAll_q, ↓spUp_q, ↓spOw_q, ↓spNum_q, ↓spCuts_q, ↓spPenN_q, ↓spDraw_q, onZs_mk, ↓on3I_mk_q, ↓spHole_q, ↓spBox_q, ↓spFrameL_q, ↓spLaid_q, ↓spCells_q, ↓spSpot_q, ↓spGapL_q])
theorem cels {l : List B4} (h : ∀ b ∈ l, b.x ≤ b.X ∧ b.y ≤ b.Y ∧ (0 ≤ b.x ∧ b.X ≤ 11) ∧ (0 ≤ b.y ∧ b.Y ≤ 11)) : ∀ b ∈ l, Cel b := fun b hb => ⟨okB_iff.mpr ⟨(h b hb).1, (h b hb).2.1⟩, (h b hb).2.2⟩
theorem ok_hole (T : Tx K mg) : FnOk P w K mg base CX0 2 T.f_hole T.d_hole ["_law_pen_here"] (lift K spHole) := by
  have G_draw : FnOk P w K mg base CX0 1 T.f_draw T.d_draw ["_law_pen_here", "_law_many"] (lift K spDraw) := ok_draw T
  refine okD T.o_hole.F sc_hole (fun xs M Φ h => by obtain ⟨_, rfl, _⟩ := on1_ex h; rfl) fun cdv A outer s H E hr => ⟨_, (dss_cons (ds_set 1 sc_hole.nd (de_lst (da_cons (de_call G_draw (hr.mono (by first | decide | omega)) rfl T.o_draw.m T.o_draw.F.kp T.o_draw.b pass0 (da_cons (de_var 0) (da_cons de_int da_nil))) (da_cons (de_call G_draw (hr.mono (by first | decide | omega)) rfl T.o_draw.m T.o_draw.F.kp T.o_draw.b pass0 (da_cons (de_var 0) (da_cons de_int da_nil))) da_nil))))
  (dss_cons (ds_setCU 2 false sc_hole.nd (compOk_of (sc := defScope s_hole) (XN := ["_law_pen_here", "_law_low", "_law_high", "_law_thick", "_law_found"]) (N := ["_law_one", "_law_pen_here"]) (ix := [none, some 0]) rfl rfl (by decide +kernel)) (di_list (de_var 1)) (fun C ex s H => (dg_name 0 (show List.Nodup (["_law_one", "_law_pen_here"] : List Str) by decide +kernel))) (fun C ex s H => dts_nil) (fun C ex s H => (de_op od_add (de_op od_add (de_var 0) de_int) (de_call G_draw (hr.mono (by first | decide | omega)) rfl T.o_draw.m T.o_draw.F.kp T.o_draw.b pass0 (da_cons (de_var 1) (da_cons de_int da_nil))))) rfl)
  (dss_cons (ds_set 3 sc_hole.nd (de_call G_draw (hr.mono (by first | decide | omega)) rfl T.o_draw.m T.o_draw.F.kp T.o_draw.b pass0 (da_cons (de_var 0) (da_cons de_int da_nil))))
  (dss_cons (ds_set 4 sc_hole.nd (de_lstO (da_cons (de_tup (da_cons (de_tup (da_cons (de_ix (de_var 1) de_int) (da_cons (de_ix (de_var 1) de_int) da_nil))) (da_cons (de_tup (da_cons (de_ix (de_var 2) de_int) (da_cons (de_op od_add (de_ix (de_var 1) de_int) (de_var 3)) da_nil))) da_nil))) (da_cons (de_tup (da_cons (de_tup (da_cons (de_op od_sub (de_ix (de_var 2) de_int) (de_var 3)) (da_cons (de_ix (de_var 1) de_int) da_nil))) (da_cons (de_tup (da_cons (de_ix (de_var 2) de_int) (da_cons (de_ix (de_var 2) de_int) da_nil))) da_nil))) da_nil))))
  (dss_cons (ds_expr (de_append (de_var 4) (de_tup (da_cons (de_tup (da_cons (de_ix (de_var 1) de_int) (da_cons (de_op od_sub (de_ix (de_var 2) de_int) (de_var 3)) da_nil))) (da_cons (de_tup (da_cons (de_ix (de_var 2) de_int) (da_cons (de_ix (de_var 2) de_int) da_nil))) da_nil)))))
  (dss_one (ds_ret (de_op od_catS (de_var 4) (de_lst (da_cons (de_tup (da_cons (de_tup (da_cons (de_ix (de_var 1) de_int) (da_cons (de_ix (de_var 1) de_int) da_nil))) (da_cons (de_tup (da_cons (de_op od_add (de_ix (de_var 1) de_int) (de_var 3)) (da_cons (de_ix (de_var 2) de_int) da_nil))) da_nil))) da_nil)))))))))), fun xs M Φ h => ?_⟩
  replace h := on1_ex h
  obtain ⟨x1, rfl, h⟩ := h
  replace h := onO_ex h
  obtain ⟨p, rfl, hp, h⟩ := h
  walk_at "hd"
  walk_at "r4"
  refine ⟨hp, fun r1 M1 a1 b1 f1 => ⟨f1.1, fun r2 M2 a2 b2 f2 => ?_⟩⟩
  walk_at "hd"
  walk_at "r4"
  refine ⟨f2.1, fun s1 M3 c1 d1 f3 => ⟨f3.1, fun s2 M4 c2 d2 f4 => ?_⟩⟩
  walk_at "hd"
  walk_at "r4"
  refine ⟨f4.1, fun th M5 t0 t1 f5 => ?_⟩
  walk_at "hd"
  walk_at "r4"
  intro q hq
  walk_at "hd"
  walk_at "r4"
  subst_vars
  walk_at "r4"
  refine h [⟨r1, r2, r1 + 3 + s1, r2 + th⟩, ⟨r1 + 3 + s1 - th, r2, r1 + 3 + s1, r2 + 3 + s2⟩, ⟨r1, r2 + 3 + s2 - th, r1 + 3 + s1, r2 + 3 + s2⟩, ⟨r1, r2, r1 + th, r2 + 3 + s2⟩] _ ⟨by simp, by simp, cels fun b hb => ?_⟩ (f5.1.put (f5.1.ne hq))
  simp only [List.mem_cons, List.not_mem_nil, or_false] at hb
  rcases hb with rfl | rfl | rfl | rfl
  all_goals (dsimp only; omega)
theorem at22 {x y X Y : Int} {j : Nat} (h : j < 2) : ∃ lo hi : Int, (lo = x ∧ hi = X ∨ lo = y ∧ hi = Y) ∧ (∀ P : PyData → Prop, onAt [.int x, .int y] (j : Int) P = P (.int lo)) ∧ (∀ P : PyData → Prop, onAt [.int X, .int Y] (j : Int) P = P (.int hi)) := by
  have two : j = 0 ∨ j = 1 := by omega
  rcases two with rfl | rfl
  · exact ⟨x, X, .inl ⟨rfl, rfl⟩, fun P => rfl, fun P => rfl⟩
  · exact ⟨y, Y, .inr ⟨rfl, rfl⟩, fun P => rfl, fun P => rfl⟩
theorem ok_box (T : Tx K mg) : FnOk P w K mg base CX0 2 T.f_box T.d_box ["_law_pen_here", "_law_box_here"] (lift K spBox) := by
  have G_draw : FnOk P w K mg base CX0 1 T.f_draw T.d_draw ["_law_pen_here", "_law_many"] (lift K spDraw) := ok_draw T
  refine okD T.o_box.F sc_box (fun xs M Φ h => by obtain ⟨_, _, rfl, _⟩ := on2_ex h; rfl) fun cdv A outer s H E hr => ⟨_, (dss_cons (ds_set 2 sc_box.nd (de_lstO da_nil))
  (dss_cons (ds_set 3 sc_box.nd (de_lstO da_nil))
  (dss_cons (ds_forR1 rfl T.n_range (da_cons de_int da_nil) (dg_name 4 sc_box.nd) (dss_cons (ds_set 5 sc_box.nd (de_callB (cd_max2 rfl) rfl T.n_max bt_max (da_cons de_int (da_cons (de_op od_sub (de_ix (de_ix (de_var 1) de_int) (de_var 4)) de_int) da_nil))))
  (dss_cons (ds_set 6 sc_box.nd (de_op od_add (de_var 5) (de_call G_draw (hr.mono (by first | decide | omega)) rfl T.o_draw.m T.o_draw.F.kp T.o_draw.b pass0 (da_cons (de_var 0) (da_cons (de_op od_add (de_op od_sub (de_callB (cd_min2 rfl) rfl T.n_min bt_min (da_cons de_int (da_cons (de_op od_add (de_ix (de_ix (de_var 1) de_int) (de_var 4)) de_int) da_nil))) (de_var 5)) de_int) da_nil)))))
  (dss_cons (ds_expr (de_append (de_var 2) (de_callB (cd_max2 rfl) rfl T.n_max bt_max (da_cons de_int (da_cons (de_op od_sub (de_var 6) (de_ix (de_lst (da_cons de_int (da_cons de_int (da_cons de_int (da_cons de_int (da_cons de_int da_nil)))))) (de_call G_draw (hr.mono (by first | decide | omega)) rfl T.o_draw.m T.o_draw.F.kp T.o_draw.b pass0 (da_cons (de_var 0) (da_cons de_int da_nil))))) da_nil)))))
  (dss_one (ds_expr (de_append (de_var 3) (de_callB (cd_min2 rfl) rfl T.n_min bt_min (da_cons de_int (da_cons (de_op od_add (de_var 6) (de_ix (de_lst (da_cons de_int (da_cons de_int (da_cons de_int (da_cons de_int (da_cons de_int da_nil)))))) (de_call G_draw (hr.mono (by first | decide | omega)) rfl T.o_draw.m T.o_draw.F.kp T.o_draw.b pass0 (da_cons (de_var 0) (da_cons de_int da_nil))))) da_nil))))))))) PassesOwn.never rfl)
  (dss_one (ds_ret (de_tup (da_cons (de_callTy cd_tupleOf rfl T.n_tuple bt_tuple (da_cons (de_var 2) da_nil)) (da_cons (de_callTy cd_tupleOf rfl T.n_tuple bt_tuple (da_cons (de_var 3) da_nil)) da_nil)))))))), fun xs M Φ h => ?_⟩
  replace h := on2_ex h
  obtain ⟨x1, x2, rfl, h⟩ := h
  replace h := onO_ex h
  obtain ⟨p, rfl, h⟩ := h
  replace h := onX_ex h
  obtain ⟨b, rfl, hb, hp, h⟩ := h
  have ok := okB_iff.mp hb.1
  have hb2 := hb.2
  walk_at "hd"
  walk_at "r4"
  intro q1 hq1
  walk_at "hd"
  walk_at "r4"
  intro q2 hq2
  have n1 : q1 ≠ p := Ne.symm (hp.ne hq1)
  have n12 : q2 ≠ q1 := fresh_ne hq2
  have hq2' : M q2 = none := (mset_ne n12).symm.trans hq2
  have n2 : q2 ≠ p := Ne.symm (hp.ne hq2')
  walk_at "hd"
  walk_at "r4"
  refine ⟨⟨by decide, by decide⟩, fun j Δ M2 => ∃ (k4 k5 k6 : Option DV) (bs es : List Int), Δ = [some (.own p), some (.dat (bD b)), some (.own q1), some (.own q2), k4, k5, k6] ∧ bs.length = j ∧ es.length = j ∧
    (∀ (i : Nat) (a b : Int), bs[i]? = some a → es[i]? = some b → 0 ≤ a ∧ a ≤ b ∧ b ≤ 11) ∧ M2 q1 = some (.lst (bs.map PyData.int)) ∧ M2 q2 = some (.lst (es.map PyData.int)) ∧ Fr p M M2,
    ⟨none, none, none, [], [], rfl, rfl, rfl, fun i a b ha => (nomatch ha), by rw [mset_ne (Ne.symm n12), mset_same]; rfl, mset_same, Fr.new (Fr.new (Fr.refl hp) hq1 n1) hq2' n2⟩, ?_, ?_⟩
  · rintro j Δ M2 hj ⟨k4, k5, k6, bs, es, rfl, l1, l2, hbs, h1, h2, hF⟩
    obtain ⟨lo, hi, hlo, e1, e2⟩ := at22 (x := b.x) (y := b.y) (X := b.X) (Y := b.Y) hj
    have hlo' : 0 ≤ lo ∧ lo ≤ hi ∧ hi ≤ 11 := by
      rcases hlo with ⟨rfl, rfl⟩ | ⟨rfl, rfl⟩ <;> omega
    walk_at "hd"
    walk_at "r4"
    simp only [e1]
    walk_at "r4"
    walk_at "hd"
    walk_at "r4"
    simp only [e2]
    walk_at "r4"
    refine ⟨by omega, hF.1, fun r M3 r0 r1 f3 => ?_⟩
    have g1 := f3.own h1 n1
    have g2 := f3.own h2 n2
    walk_at "hd"
    walk_at "r4"
    simp only [g1]
    walk_at "r4"
    refine ⟨f3.1, fun r2 M4 a2 b2 f4 => tab (l := [0, 0, 1, 2, 5]) (fun w => 0 ≤ w) a2 (by simp only [List.length_cons, List.length_nil]; omega) (by decide) fun w1 c1 => ?_⟩
    have g3 := f4.own g1 n1
    have g4 := f4.own g2 n2
    walk_at "r4"
    simp only [g3]
    walk_at "r4"
    refine ⟨by rw [List.length_map]; omega, ?_⟩
    subst_vars
    walk_at "r4"
    simp only [mset_ne n12, g4]
    walk_at "r4"
    refine ⟨f4.1.put (Ne.symm n1), fun r3 M5 a3 b3 f5 => tab (l := [0, 1, 2, 3, 6]) (fun w => 0 ≤ w) a3 (by simp only [List.length_cons, List.length_nil]; omega) (by decide) fun w2 c2 => ?_⟩
    have g5 := f5.own mset_same n1
    have g6 := f5.own ((mset_ne n12).trans g4) n2
    walk_at "r4"
    simp only [g6]
    walk_at "r4"
    refine ⟨by rw [List.length_map]; omega, _, _, _, bs ++ [max 0 ((max 0 (lo - 1) + r) - w1)], es ++ [min 11 ((max 0 (lo - 1) + r) + w2)], rfl, by rw [List.length_append]; rfl, by rw [List.length_append, l2]; rfl, ?_, ?_, ?_, ?_⟩
    · exact two_snoc (R := fun a b => 0 ≤ a ∧ a ≤ b ∧ b ≤ 11) l2.symm hbs (by omega)
    · rw [mset_ne (Ne.symm n12), g5, List.map_append]
      rfl
    · rw [List.map_append]
      rfl
    · exact Fr.new ((Fr.new ((hF.trans f3).trans f4) hq1 n1).trans f5) hq2' n2
  · rintro Δ M2 ⟨k4, k5, k6, bs, es, rfl, l1, l2, hbs, h1, h2, hF⟩
    subst_vars
    walk_at "r4"
    obtain ⟨a, b, rfl⟩ := len_two l1
    obtain ⟨c, d, rfl⟩ := len_two l2
    have k0 := hbs 0 a c rfl rfl
    have k1 := hbs 1 b d rfl rfl
    simp only [h1, h2]
    walk_at "r4"
    exact h ⟨a, b, c, d⟩ M2 ⟨okB_iff.mpr (by dsimp only; omega), by dsimp only; omega⟩ hF
theorem ok_boxes (T : Tx K mg) : FnOk P w K mg base CX0 3 T.f_boxes T.d_boxes ["_law_pen_here"] (lift K spHole) := by
  have G_draw : FnOk P w K mg base CX0 1 T.f_draw T.d_draw ["_law_pen_here", "_law_many"] (lift K spDraw) := ok_draw T
  have G_hole : FnOk P w K mg base CX0 2 T.f_hole T.d_hole ["_law_pen_here"] (lift K spHole) := ok_hole T
  have G_box : FnOk P w K mg base CX0 2 T.f_box T.d_box ["_law_pen_here", "_law_box_here"] (lift K spBox) := ok_box T
  refine okD T.o_boxes.F sc_boxes (fun xs M Φ h => by obtain ⟨_, rfl, _⟩ := on1_ex h; rfl) fun cdv A outer s H E hr => ⟨_, (dss_cons (ds_set 1 sc_boxes.nd (de_call G_draw (hr.mono (by first | decide | omega)) rfl T.o_draw.m T.o_draw.F.kp T.o_draw.b pass0 (da_cons (de_var 0) (da_cons de_int da_nil))))
  (dss_cons (ds_if (dt_cmp (od_eq hr) (de_var 1) de_int) (dss_one (ds_ret (de_call G_hole (hr.mono (by first | decide | omega)) rfl T.o_hole.m T.o_hole.F.kp T.o_hole.b pass0 (da_cons (de_var 0) da_nil)))) dss_nil)
  (dss_cons (ds_set 2 sc_boxes.nd (de_lstO (da_cons (de_call G_box (hr.mono (by first | decide | omega)) rfl T.o_box.m T.o_box.F.kp T.o_box.b pass0 (da_cons (de_var 0) (da_cons (de_tup (da_cons (de_tup (da_cons de_int (da_cons de_int da_nil))) (da_cons (de_tup (da_cons de_int (da_cons de_int da_nil))) da_nil))) da_nil))) da_nil)))
  (dss_cons (ds_if (dt_cmp (od_eq hr) (de_var 1) de_int) (dss_cons (ds_asg (de_ix (de_var 2) de_int) (dg_tup (n := 2) rfl (dgs_cons (dg_name 4 sc_boxes.nd) (dgs_cons (dg_name 5 sc_boxes.nd) dgs_nil))))
  (dss_one (ds_ret (de_op od_catS (de_var 2) (de_lst (da_cons (de_tup (da_cons (de_tup (da_cons (de_callB (cd_min2 rfl) rfl T.n_min bt_min (da_cons de_int (da_cons (de_op od_add (de_ix (de_var 5) de_int) de_int) da_nil))) (da_cons (de_ix (de_var 4) de_int) da_nil))) (da_cons (de_tup (da_cons (de_callB (cd_min2 rfl) rfl T.n_min bt_min (da_cons de_int (da_cons (de_op od_add (de_op od_add (de_ix (de_var 5) de_int) de_int) (de_call G_draw (hr.mono (by first | decide | omega)) rfl T.o_draw.m T.o_draw.F.kp T.o_draw.b pass0 (da_cons (de_var 0) (da_cons de_int da_nil)))) da_nil))) (da_cons (de_ix (de_var 5) de_int) da_nil))) da_nil))) da_nil)))))) dss_nil)
  (dss_cons (ds_forR1 rfl T.n_range (da_cons (de_ix (de_lst (da_cons de_int (da_cons de_int (da_cons de_int (da_cons de_int (da_cons de_int (da_cons de_int da_nil))))))) (de_call G_draw (hr.mono (by first | decide | omega)) rfl T.o_draw.m T.o_draw.F.kp T.o_draw.b pass0 (da_cons (de_var 0) (da_cons de_int da_nil)))) da_nil) (dg_name 3 sc_boxes.nd) (dss_one (ds_expr (de_append (de_var 2) (de_call G_box (hr.mono (by first | decide | omega)) rfl T.o_box.m T.o_box.F.kp T.o_box.b pass0 (da_cons (de_var 0) (da_cons (de_ix (de_var 2) (de_neg de_int)) da_nil)))))) PassesOwn.never rfl)
  (dss_one (ds_ret (de_frz (de_var 2))))))))), fun xs M Φ h => ?_⟩
  replace h := on1_ex h
  obtain ⟨x1, rfl, h⟩ := h
  replace h := onO_ex h
  obtain ⟨p, rfl, hp, h⟩ := h
  walk_at "hd"
  walk_at "r4"
  refine ⟨hp, fun r1 M1 a1 b1 f1 => ?_⟩
  walk_at "hd"
  walk_at "r4"
  refine cases_true (fun h0 => ⟨f1.1, h⟩) fun h0 => ?_
  walk_at "hd"
  walk_at "r4"
  refine ⟨⟨rfl, by decide, by decide⟩, f1.1, fun b M2 hb f2 q hq => ?_⟩
  have n1 : p ≠ q := f2.1.ne hq
  walk_at "hd"
  walk_at "r4"
  have ok := okB_iff.mp hb.1
  have hb2 := hb.2
  refine cases_true (fun h1 => ?_) fun h1 => ?_
  · refine ⟨f2.1.put n1, fun r2 M3 a2 b2 f3 => ?_⟩
    simp only [f3.own mset_same (Ne.symm n1)]
    walk_at "r4"
    refine h [b, ⟨min 11 (b.X + 1), b.y, min 11 (b.X + 1 + r2), b.Y⟩] M3 ⟨by simp, by simp, cels fun c hc => ?_⟩ f3.1
    simp only [List.mem_cons, List.not_mem_nil, or_false] at hc
    rcases hc with rfl | rfl
    · exact ⟨ok.1, ok.2, hb2⟩
    · dsimp only
      omega
  · walk_at "hd"
    walk_at "r4"
    refine ⟨f2.1.put n1, fun r2 M3 a2 b2 f3 => tab (l := [0, 1, 1, 2, 2, 5]) (fun w => 0 ≤ w ∧ w ≤ 5) a2 (by simp only [List.length_cons, List.length_nil]; omega) (by decide) fun m hm => ?_⟩
    walk_at "r4"
    refine ⟨⟨by omega, by omega⟩, fun i Δ M' => ∃ (cs : List B4) (b : B4) (k3 k4 k5 : Option DV), Δ = [some (.own p), some (.dat (.int r1)), some (.own q), k3, k4, k5] ∧ cs.length = i ∧ (∀ c ∈ cs ++ [b], Cel c) ∧ M' q = some (.lst (cs.map bD ++ [bD b])) ∧ Pen M' p,
        ⟨[], b, _, _, _, rfl, rfl, fun c hc => by rw [List.mem_singleton.mp hc]; exact hb, f3.own mset_same (Ne.symm n1), f3.1⟩, ?_, ?_⟩
    · rintro i Δ M' hi ⟨cs, b, k3, k4, k5, rfl, hl, hcs, hq', hP⟩
      walk_at "r4"
      simp only [hq']
      walk_at "r4"
      refine ⟨hcs b (List.mem_append_right _ (List.mem_singleton.mpr rfl)), hP, fun c' M4 hc' f4 => ?_⟩
      simp only [f4.own hq' (Ne.symm n1)]
      walk_at "r4"
      refine ⟨by rw [List.length_append, List.length_map, List.length_singleton]; omega, cs ++ [b], c', _, _, _, rfl, by rw [List.length_append, hl]; rfl, fun z hz => ?_, by rw [List.map_append]; rfl, f4.1.put n1⟩
      rcases List.mem_append.mp hz with hz | hz
      · exact hcs z hz
      · rw [List.mem_singleton.mp hz]
        exact hc'
    · rintro Δ M' ⟨cs, b, k3, k4, k5, rfl, hl, hcs, hq', hP⟩
      subst_vars
      walk_at "r4"
      simp only [hq']
      walk_at "r4"
      rw [show cs.map bD ++ [bD b] = (cs ++ [b]).map bD by rw [List.map_append]; rfl]
      exact h _ _ ⟨by rw [List.length_append, List.length_singleton]; omega, by rw [List.length_append, List.length_singleton]; omega, hcs⟩ (hP.del n1)
theorem ok_l_frame (T : Tx K mg) : FnOk P w K mg base CX0 2 T.f_l_frame T.d_l_frame ["_law_pen_here"] (lift K spFrameL) := by
  have G_draw : FnOk P w K mg base CX0 1 T.f_draw T.d_draw ["_law_pen_here", "_law_many"] (lift K spDraw) := ok_draw T
  refine okD T.o_l_frame.F sc_l_frame (fun xs M Φ h => by obtain ⟨_, rfl, _⟩ := on1_ex h; rfl) fun cdv A outer s H E hr => ⟨_, (dss_cons (ds_set 1 sc_l_frame.nd (de_ix (de_lst (da_cons de_int (da_cons de_int (da_cons de_int (da_cons de_int (da_cons (de_op od_add de_int (de_call G_draw (hr.mono (by first | decide | omega)) rfl T.o_draw.m T.o_draw.F.kp T.o_draw.b pass0 (da_cons (de_var 0) (da_cons (de_op od_pow de_int de_int) da_nil)))) (da_cons de_int da_nil))))))) (de_call G_draw (hr.mono (by first | decide | omega)) rfl T.o_draw.m T.o_draw.F.kp T.o_draw.b pass0 (da_cons (de_var 0) (da_cons de_int da_nil)))))
  (dss_cons (ds_setCU 2 false sc_l_frame.nd (compOk_of (sc := defScope s_l_frame) (XN := ["_law_pen_here", "_law_times", "_law_begins"]) (N := ["_law_way", "_law_pen_here"]) (ix := [none, some 0]) rfl rfl (by decide +kernel)) (di_range1 rfl T.n_range (da_cons de_int da_nil)) (fun C ex s H => (dg_name 0 (show List.Nodup (["_law_way", "_law_pen_here"] : List Str) by decide +kernel))) (fun C ex s H => dts_nil) (fun C ex s H => (de_ix (de_lst (da_cons de_int (da_cons (de_op od_sub (de_call G_draw (hr.mono (by first | decide | omega)) rfl T.o_draw.m T.o_draw.F.kp T.o_draw.b pass0 (da_cons (de_var 1) (da_cons (de_op od_pow de_int de_int) da_nil))) (de_op od_mul de_int (de_op od_pow de_int de_int))) da_nil))) (de_call G_draw (hr.mono (by first | decide | omega)) rfl T.o_draw.m T.o_draw.F.kp T.o_draw.b pass0 (da_cons (de_var 1) (da_cons de_int da_nil))))) rfl)
  (dss_one (ds_ret (de_tup (da_cons (de_var 1) (da_cons (de_ix (de_var 2) de_int) (da_cons (de_ix (de_var 2) de_int) da_nil)))))))), fun xs M Φ h => ?_⟩
  replace h := on1_ex h
  obtain ⟨x1, rfl, h⟩ := h
  replace h := onO_ex h
  obtain ⟨p, rfl, hp, h⟩ := h
  walk_at "hd"
  walk_at "r4"
  refine ⟨cp10 _ (by decide), hp, fun r1 M1 a1 b1 f1 => ⟨f1.1, fun r2 M2 a2 b2 f2 => tab (l := [1, 1, 2, 3, 1 + r1, 1]) (fun t => 1 ≤ t ∧ t ≤ 10 ^ 10) a2 (by simp only [List.length_cons, List.length_nil]; omega) (fun w hw => ?_) fun t ht => ?_⟩⟩
  · simp only [List.mem_cons, List.not_mem_nil, or_false] at hw
    omega
  walk_at "hd"
  walk_at "r4"
  have one : ∀ (M : Mp) (Q : PyData → Mp → Prop), Pen M p → (∀ w M', (-(10 ^ 12) ≤ w ∧ w ≤ 10 ^ 12) → Fr p M M' → Q (.int w) M') → CPow 10 12 ∧ Pen M p ∧ ∀ r M', 0 ≤ r → r < 1000000000000 → Fr p M M' → CPow 10 11 ∧ CMul 5 100000000000 ∧ Pen M' p ∧ ∀ r' M'', 0 ≤ r' → r' < 2 → Fr p M' M'' → onAt [.int 0, .int (r - 500000000000)] r' fun d => Q d M'' := fun M Q hP k =>
    ⟨cp10 _ (by decide), hP, fun r M' a b f => ⟨cp10 _ (by decide), .inl (by decide), f.1, fun r' M'' a' b' f' => tab (l := [0, r - 500000000000]) (fun w => -(10 ^ 12) ≤ w ∧ w ≤ 10 ^ 12) a' (by simp only [List.length_cons, List.length_nil]; omega) (fun w hw => by
      simp only [List.mem_cons, List.not_mem_nil, or_false] at hw
      omega) fun w hw => k w M'' hw (f.trans f')⟩⟩
  refine ⟨⟨by decide, by decide⟩, one M2 _ f2.1 fun w M3 hw f3 => one M3 _ f3.1 fun w' M4 hw' f4 => ?_⟩
  subst_vars
  walk_at "r4"
  exact h t w w' M4 ⟨ht, hw, hw'⟩ f4.1
theorem ok_laid (T : Tx K mg) : FnOk P w K mg base CX0 1 T.f_laid T.d_laid ["_law_boxes_here", "_law_frame_here"] (lift K spLaid) := by
  refine okG T.o_laid.F sc_laid (fun xs M Φ h => by obtain ⟨_, _, rfl, _⟩ := on2_ex h; rfl) fun cdv A outer s H E hr => ⟨_, (dss_cons (ds_asg (de_var 1) (dg_tup (n := 3) rfl (dgs_cons (dg_name 3 sc_laid.nd) (dgs_cons (dg_name 4 sc_laid.nd) (dgs_cons (dg_name 5 sc_laid.nd) dgs_nil)))))
  (dss_cons (ds_set 2 sc_laid.nd (de_lstO da_nil))
  (dss_cons (ds_forL (de_var 0) (dg_tup (n := 2) rfl (dgs_cons (dg_name 6 sc_laid.nd) (dgs_cons (dg_name 7 sc_laid.nd) dgs_nil))) (dss_cons (ds_set 8 sc_laid.nd (de_tup (da_cons (de_op od_add (de_op od_mul (de_ix (de_var 6) de_int) (de_var 3)) (de_var 4)) (da_cons (de_op od_add (de_op od_mul (de_ix (de_var 6) de_int) (de_var 3)) (de_var 5)) da_nil))))
  (dss_one (ds_expr (de_append (de_var 2) (de_tup (da_cons (de_var 8) (da_cons (de_tup (da_cons (de_op od_add (de_op od_sub (de_op od_add (de_op od_mul (de_ix (de_var 7) de_int) (de_var 3)) (de_var 3)) de_int) (de_var 4)) (da_cons (de_op od_add (de_op od_sub (de_op od_add (de_op od_mul (de_ix (de_var 7) de_int) (de_var 3)) (de_var 3)) de_int) (de_var 5)) da_nil))) da_nil))))))) PassesOwn.never rfl)
  (dss_one (ds_ret (de_callTy cd_tupleOf rfl T.n_tuple bt_tuple (da_cons (de_var 2) da_nil))))))), fun xs M Φ h => ?_⟩
  replace h := on2_ex h
  obtain ⟨x1, x2, rfl, h⟩ := h
  replace h := onBl_ex h
  obtain ⟨bs, rfl, h⟩ := h
  replace h := on3I_ex h
  obtain ⟨f, ox, oy, rfl, hs, h⟩ := h
  walk_at "hd"
  walk_at "r4"
  walk_at "hd"
  walk_at "r4"
  intro q hq
  walk_at "hd"
  walk_at "r4"
  refine ⟨fun i Δ M' => ∃ k6 k7 k8, Δ = [some (.dat (.list (bs.map bD))), some (.dat (.tuple [.int f, .int ox, .int oy])), some (.own q), some (.dat (.int f)), some (.dat (.int ox)), some (.dat (.int oy)), k6, k7, k8] ∧ M' = mset M q (.lst (((bs.take i).map (strB f ox oy)).map bD)), ⟨none, none, none, rfl, rfl⟩, ?_, ?_⟩
  · rintro i d Δ M' hd ⟨k6, k7, k8, rfl, rfl⟩
    obtain ⟨b, eb, rfl⟩ := map_get hd
    have hb := hs.2.2 _ (List.mem_of_getElem? eb)
    have ok := okB_iff.mp hb.1
    have hb2 := hb.2
    walk_at "r4"
    refine ⟨.inl (by omega), .inl (by omega), .inl (by omega), .inl (by omega), by rw [List.length_map, List.length_map, List.length_take]; have := hs.2.1; omega, _, _, _, rfl, ?_⟩
    rw [← take_snoc (strB f ox oy) eb, List.map_append]
    rfl
  · rintro Δ M' ⟨k6, k7, k8, rfl, rfl⟩
    rw [List.length_map, List.take_length]
    subst_vars
    walk_at "r4"
    exact gc_one hq h
theorem kP_inj {i j i' j' : Int} : kP i j = kP i' j' ↔ i = i' ∧ j = j' := by
  unfold kP
  simp
theorem ok_cells (T : Tx K mg) : FnOk P w K mg base CX0 1 T.f_cells T.d_cells ["_law_boxes_here"] (lift K spCells) := by
  refine okD T.o_cells.F sc_cells (fun xs M Φ h => by obtain ⟨_, rfl, _⟩ := on1_ex h; rfl) fun cdv A outer s H E hr => ⟨_, (dss_cons (ds_set 1 sc_cells.nd de_dict0T)
  (dss_cons (ds_forL (de_var 0) (dg_tup (n := 2) rfl (dgs_cons (dg_name 2 sc_cells.nd) (dgs_cons (dg_name 3 sc_cells.nd) dgs_nil))) (dss_one (ds_forR2 rfl T.n_range (da_cons (de_ix (de_var 2) de_int) (da_cons (de_op od_add (de_ix (de_var 3) de_int) de_int) da_nil)) (dg_name 4 sc_cells.nd) (dss_one (ds_forR2 rfl T.n_range (da_cons (de_ix (de_var 2) de_int) (da_cons (de_op od_add (de_ix (de_var 3) de_int) de_int) da_nil)) (dg_name 5 sc_cells.nd) (dss_one (ds_putT hr (de_var 1) (da_cons (de_var 4) (da_cons (de_var 5) da_nil)) de_bl)) PassesOwn.never rfl)) PassesOwn.never rfl)) PassesOwn.never rfl)
  (dss_one (ds_ret (de_var 1))))), fun xs M Φ h => ?_⟩
  replace h := on1_ex h
  obtain ⟨x1, rfl, h⟩ := h
  replace h := onBl_ex h
  obtain ⟨bs, rfl, hs, h⟩ := h
  walk_at "hd"
  walk_at "r4"
  intro q hq
  walk_at "hd"
  walk_at "r4"
  refine ⟨fun n Δ M' => ∃ (k2 k3 k4 k5 : Option DV) (ks : List (List Key)), Δ = [some (.dat (.list (bs.map bD))), some (.own q), k2, k3, k4, k5] ∧ M' = mset M q (.dct ks) ∧ (∀ i j, kP i j ∈ ks ↔ ((bs.take n).any fun b => hasB b i j) = true) ∧ ks.length ≤ n * 144, ⟨none, none, none, none, [], rfl, rfl, fun i j => ?_, Nat.zero_le _⟩, ?_, ?_⟩
  · simp
  · rintro n d Δ M' hd ⟨k2, k3, k4, k5, ks, rfl, rfl, hk, hl⟩
    obtain ⟨b, eb, rfl⟩ := map_get hd
    have hn : n < bs.length := (List.getElem?_eq_some_iff.mp eb).1
    have hb := hs.2.2 _ (List.mem_of_getElem? eb)
    have ok := okB_iff.mp hb.1
    have hb2 := hb.2
    have h6 := hs.2.1
    walk_at "r4"
    refine ⟨⟨⟨by omega, by omega⟩, by omega, by omega⟩, fun a Δ M' => ∃ (k4 k5 : Option DV) (ks : List (List Key)), Δ = [some (.dat (.list (bs.map bD))), some (.own q), some (.dat (.tuple [.int b.x, .int b.y])), some (.dat (.tuple [.int b.X, .int b.Y])), k4, k5] ∧ M' = mset M q (.dct ks) ∧
      (∀ i j, kP i j ∈ ks ↔ (((bs.take n).any fun b => hasB b i j) = true ∨ (b.x ≤ i ∧ i < b.x + (a : Int) ∧ b.y ≤ j ∧ j ≤ b.Y))) ∧ ks.length ≤ n * 144 + a * 12, ⟨k4, k5, ks, rfl, rfl, fun i j => ?_, by omega⟩, ?_, ?_⟩
    · rw [hk]
      exact ⟨.inl, fun z => z.elim id fun z => by omega⟩
    · rintro a Δ M' ha ⟨k4, k5, ks, rfl, rfl, hk2, hl2⟩
      walk_at "r4"
      refine ⟨⟨⟨by omega, by omega⟩, by omega, by omega⟩, fun c Δ M' => ∃ (k5 : Option DV) (ks : List (List Key)), Δ = [some (.dat (.list (bs.map bD))), some (.own q), some (.dat (.tuple [.int b.x, .int b.y])), some (.dat (.tuple [.int b.X, .int b.Y])), some (.dat (.int (b.x + (a : Int)))), k5] ∧ M' = mset M q (.dct ks) ∧
        (∀ i j, kP i j ∈ ks ↔ ((((bs.take n).any fun b => hasB b i j) = true ∨ (b.x ≤ i ∧ i < b.x + (a : Int) ∧ b.y ≤ j ∧ j ≤ b.Y)) ∨ (i = b.x + (a : Int) ∧ b.y ≤ j ∧ j < b.y + (c : Int)))) ∧ ks.length ≤ n * 144 + a * 12 + c, ⟨k5, ks, rfl, rfl, fun i j => ?_, by omega⟩, ?_, ?_⟩
      · rw [hk2]
        exact ⟨.inl, fun z => z.elim id fun z => by omega⟩
      · rintro c Δ M' hc ⟨k5, ks, rfl, rfl, hk3, hl3⟩
        walk_at "r4"
        refine ⟨by omega, _, addK ks (kP (b.x + (a : Int)) (b.y + (c : Int))), rfl, rfl, fun i j => ?_, by have := addK_len ks (kP (b.x + (a : Int)) (b.y + (c : Int))); omega⟩
        rw [mem_addK, hk3, kP_inj]
        constructor
        · rintro (z | z)
          · rcases z with z | z
            · exact .inl z
            · exact .inr (by omega)
          · exact .inr (by omega)
        · rintro (z | z)
          · exact .inl (.inl z)
          · by_cases c' : j = b.y + (c : Int)
            · exact .inr (by omega)
            · exact .inl (.inr (by omega))
      · rintro Δ M' ⟨k5, ks, rfl, rfl, hk3, hl3⟩
        refine ⟨_, _, ks, rfl, rfl, fun i j => ?_, by omega⟩
        rw [hk3]
        constructor
        · rintro ((z | z) | z)
          · exact .inl z
          · exact .inr (by omega)
          · exact .inr (by omega)
        · rintro (z | z)
          · exact .inl (.inl z)
          · by_cases c : i = b.x + (a : Int)
            · exact .inr (by omega)
            · exact .inl (.inr (by omega))
    · rintro Δ M' ⟨k4, k5, ks, rfl, rfl, hk2, hl2⟩
      refine ⟨_, _, _, _, ks, rfl, rfl, fun i j => ?_, by omega⟩
      rw [hk2, any_snoc _ eb, Bool.or_eq_true, hasB_iff]
      constructor
      · exact fun z => z.elim .inl fun z => .inr (by omega)
      · exact fun z => z.elim .inl fun z => .inr (by omega)
  · rintro Δ M' ⟨k2, k3, k4, k5, ks, rfl, rfl, hk, hl⟩
    rw [List.length_map, List.take_length] at hk
    subst_vars
    walk_at "r4"
    refine h q ks hq fun i j => ?_
    rw [Bool.eq_iff_iff, memK_iff]
    exact hk i j
def onCv (x : DV) (P : Cv → Prop) : Prop := ∃ c, x = .dat (cvD c) ∧ P c
theorem onCv_mk {c : Cv} {P : Cv → Prop} (h : P c) : onCv (.dat (cvD c)) P := ⟨c, rfl, h⟩
/-! ### the law's own words about covers -/
def spLHas : DSp := fun xs M Φ => on2 xs fun x y => onX x fun c => onX y fun b => Φ (.dat (.bool (inB c b))) M
theorem spLHas_q (xs : List DV) (M : Mp) (Φ : DK) : spLHas xs M Φ = (on2 xs fun x y => onX x fun c => onX y fun b => Φ (.dat (.bool (inB c b))) M) := propext Iff.rfl
def spParts : DSp := fun xs M Φ => on3 xs fun x y z => onX x fun b => onI y fun i => onI z fun a => (i = 0 ∨ i = 1) ∧ Φ (.dat (.list [bD (upB b i a), bD (owB b i (a + 1))])) M
theorem spParts_q (xs : List DV) (M : Mp) (Φ : DK) : spParts xs M Φ = (on3 xs fun x y z => onX x fun b => onI y fun i => onI z fun a => (i = 0 ∨ i = 1) ∧ Φ (.dat (.list [bD (upB b i a), bD (owB b i (a + 1))])) M) := propext Iff.rfl
def Far (b : B4) : Prop := (-(10 ^ 13) ≤ b.x ∧ b.X ≤ 10 ^ 13) ∧ (-(10 ^ 13) ≤ b.y ∧ b.Y ≤ 10 ^ 13)
def spIn : DSp := fun xs M Φ => on2 xs fun x y => onO x fun p => onX y fun b => (okB b = true ∧ Far b) ∧ Pen M p ∧ ∀ u v M', Fr p M M' → Φ (.dat (.list [.int u, .int v])) M'
theorem spIn_q (xs : List DV) (M : Mp) (Φ : DK) : spIn xs M Φ = (on2 xs fun x y => onO x fun p => onX y fun b => (okB b = true ∧ Far b) ∧ Pen M p ∧ ∀ u v M', Fr p M M' → Φ (.dat (.list [.int u, .int v])) M') := propext Iff.rfl
def spAsked : DSp := fun xs M Φ => on2 xs fun x y => onO x fun p => onBs y fun bs => (Shp bs ∧ ∀ c ∈ bs, Far c) ∧ Pen M p ∧ ∀ b M', okB b = true → Fr p M M' → Φ (.dat (bD b)) M'
theorem spAsked_q (xs : List DV) (M : Mp) (Φ : DK) : spAsked xs M Φ = (on2 xs fun x y => onO x fun p => onBs y fun bs => (Shp bs ∧ ∀ c ∈ bs, Far c) ∧ Pen M p ∧ ∀ b M', okB b = true → Fr p M M' → Φ (.dat (bD b)) M') := propext Iff.rfl
theorem Lst.not {bs : List B4} {b : B4} {u v : Int} (h : Lst bs b u v) : ¬ Cov bs b := fun c => by
  have := c u v h.1.1
  rw [h.1.2] at this
  cases this
theorem Lst.eq {bs : List B4} {b : B4} {u v u' v' : Int} (h : Lst bs b u v) (k : Lst bs b u' v') : u = u' ∧ v = v' := by
  have h1 := h.2 u' v' k.1.1 k.1.2
  have h2 := k.2 u v h.1.1 h.1.2
  omega
def Due (bs : List B4) (b : B4) (d : PyData) : Prop := (d = .none ∧ Cov bs b) ∨ ∃ u v, d = .tuple [.int u, .int v] ∧ Lst bs b u v
def spMissing : DSp := fun xs M Φ => on3 xs fun x y z => on3I y fun t ox oy => onX z fun b => onCl x M fun bs => (Frm t ox oy ∧ Grd 6 bs ∧ okB b = true) ∧ ∀ d, Due (bs.map (strB t ox oy)) b d → Φ (.dat d) M
theorem spMissing_q (xs : List DV) (M : Mp) (Φ : DK) : spMissing xs M Φ = (on3 xs fun x y z => on3I y fun t ox oy => onX z fun b => onCl x M fun bs => (Frm t ox oy ∧ Grd 6 bs ∧ okB b = true) ∧ ∀ d, Due (bs.map (strB t ox oy)) b d → Φ (.dat d) M) := propext Iff.rfl
local macro_rules | `(tactic| walk_at "r5") => `(tactic| try simp (config := { maxSteps := 10000000 }) only [↓onV_mk_q, ↓onI_mk_q, ↓onB_mk_q, ↓onS_mk_q, ↓onT_mk_q, ↓onL_mk_q, ↓onD_mk_q, ↓onO_mk_q, ↓onOL_mk_q, ↓onOC_mk_q, ↓onQ_t_q, ↓onQ_l_q, ↓onQ_o_q, ↓onK_l_q, ↓onK_o_q, ↓on1_mk_q, ↓on2_mk_q, ↓on3_mk_q, ↓on4_mk_q, ↓on5_mk_q, ↓on6_mk_q, ↓onDs_0_q, ↓onDs_1_q, ↓onDs_2_q, ↓onDs_3_q, ↓onDs_4_q, ↓onDs_5_q, ↓onDs_6_q, ↓onDs_7_q, ↓onDs_8_q, ↓onDs_9_q, ↓onDs_10_q, ↓onDs_11_q, ↓onDs_12_q, ↓dVar_q, ↓dC_q, ↓dTy_q, ↓dOp_q, ↓dB_q, ↓dChain_q, ↓dAnd_q, ↓dOr_q, ↓dNot_q, ↓dAndV_q, ↓dOrV_q, ↓dNotV_q, ↓dIf_q, ↓dUnI_q, ↓δI_q, ↓δI0_q, ↓δB_q, ↓δCatT_q, ↓δCatL_q, ↓δCatLO_q, ↓dNil_q, ↓dCons_q, ↓dTup_q, ↓dLst_q, ↓dLstO_q, ↓dFrz_q, ↓onAt_0_q, ↓onAt_1_q, ↓onAt_2_q, ↓onAt_3_q, ↓onAt_4_q, ↓onAt_5_q, ↓onAt_6_q, ↓onAt_7_q, ↓δIx_q, ↓dCB_q, ↓δLen_q, ↓δLenS_q, ↓δStrI_q, ↓δAbs_q, ↓δ2I_q, ↓δListOf_q, ↓δRepr_q, ↓δIsi_mk_q, ↓eqD_ii_q, ↓eqD_ss_q, ↓eqD_bb_q, ↓δEq_q, ↓δNe_q, ↓δNeS_q, ↓δEqS_q, ↓dNoPart_q, ↓dPart_q, ↓dSlT_q, ↓dNext_q, ↓dSeq_q, ↓dBreak_q, ↓dCont_q, ↓dDrop_q, ↓dRet_q, ↓dRetN_q, ↓dIfS_q, ↓dgName_q, ↓dgNil_mk_q, ↓dgCons_mk_q, ↓onNs_0_q, ↓onNs_s_q, ↓dgTup_q, ↓dgSub_q, ↓dAsg_q, ↓dAppend_q, ↓dForL_q, ↓dForT_q, ↓dForR1_q, ↓dForR2_q, ↓dCall_q, ↓dDict0_q, ↓onKey_i_q, ↓onKey_s_q, ↓dDict1_q, ↓dDict2_q, ↓dDict1T_q, ↓sp1_q, ↓srcL_q, ↓srcT_q, ↓srcR1_q, ↓srcR2_q, ↓dEnd_t_q, ↓dEnd_f_q, ↓dComp_q, ↓tcNo_q, ↓δSortI_q, ↓δMinI_q, ↓δMaxI_q, ↓δ3I_q, ↓δTupOf_q, ↓onW_t_q, ↓onW_l_q, ↓δIn_q, ↓dExtend_q, ↓dSlL_q, ↓δSumI_q, ↓δAllB_q, ↓δAnyB_q, ↓δIntB_q, ↓dPar_q, ↓δCatS_q, ↓dSlS_q, ↓dListR2_q, ↓dAug_q, ↓δMinP_q, ↓dDict0T_q, ↓dPutT_q, ↓onP_mk_q, ↓δInT_q, ↓dRevT_q, ↓dSlTW_q, ↓onFr_l_q, ↓onFr_o_q, ↓dFrzA_q, ↓srcM_q, ↓dWhile_q, ↓dPop_q, ↓onN_mk_q, ↓δIsN_q, ↓δNotIn_q, ↓δNotInT_q, CompRun_n, CompRun_c, TurnsU_n, TurnsU_c, dCompU_q, capD, startD, onAt_last, onKs, keysD, rngD_0, rngD_1, rngD_2, rngD_3, rngD_4, isNone_none, isNone_bool, isNone_int, isNone_str, isNone_list, isNone_tuple, isNone_dict,
  Option.bind_some, Option.bind_none, Option.join_some, Option.join_none, Option.getD_some, Option.map_some, Option.map_none, List.getElem?_cons_zero, List.getElem?_cons_succ, List.set_cons_zero, List.set_cons_succ, List.map_cons, List.map_nil, List.length_cons, List.length_nil, List.replicate, List.cons_append, List.nil_append, List.any_cons, List.any_nil,
  mset_same, mset_mset, ↓reduceIte, Bool.not_true, Bool.not_false, Bool.or_false, Bool.or_true, Bool.true_or, Bool.false_or, Bool.and_true, Bool.and_false, Bool.true_and, Bool.false_and, Bool.bne_true, Bool.bne_false, Bool.false_eq_true, eq_self, true_and, and_true, ixN_30, ixN_31, ixN_32, exists_eq_left', exists_eq_left, Option.some.injEq, Nat.reduceAdd, Nat.reduceSub, Nat.zero_add, Nat.reduceLT, Nat.reduceLeDiff, Int.reduceToNat, Int.reducePow, Int.reduceSub, Int.reduceMul, Int.reduceAdd, Int.reduceNeg,
  Int.reduceLT, Int.reduceLE, Int.reduceEq, Int.zero_add, Int.cast_ofNat_Int, decide_true, decide_false, sizeLine_eq, eqA_nil, eqA_cons, eqA_cn, eqA_nc, eq_tt, eq_ll, eq_nn, eq_ii, eq_ss, eq_bb, ty_int_none, ty_int_bool, ty_int_int, ty_int_str, ty_int_list, ty_int_tuple, ty_int_dict, ty_bool_none, ty_bool_bool, ty_bool_int, ty_bool_str, ty_bool_list, ty_bool_tuple, ty_bool_dict, ty_tuple_none, ty_tuple_bool, ty_tuple_int, ty_tuple_str, ty_tuple_list, ty_tuple_tuple, ty_tuple_dict, ty_list_none, ty_list_bool, ty_list_int, ty_list_str, ty_list_list, ty_list_tuple, ty_list_dict, ty_str_none, ty_str_bool, ty_str_int, ty_str_str, ty_str_list, ty_str_tuple, ty_str_dict, ty_dict_none, ty_dict_bool, ty_dict_int, ty_dict_str, ty_dict_list, ty_dict_tuple, ty_dict_dict, ↓onX_mk_q, ↓onX_m4_q, ↓onQ_bD_q, ↓onT_bD_q, onBs_mk, onBl_mk, ↓spHas_q, ↓spGap_q, ↓spBetween_q, ↓spTo_q, ↓spHasB_q, ↓spSteps_q, ↓spSquare_q, ↓spCommon_q, ↓spCut_q, ↓spLeft_q, ↓spLies_q, ↓spW_q, ↓spHasAll_q, ↓spUp_q, ↓spOw_q, ↓spNum_q, ↓spCuts_q, ↓spPenN_q, ↓spDraw_q, onZs_mk, ↓on3I_mk_q, ↓spHole_q, ↓spBox_q, ↓spFrameL_q, ↓spLaid_q, ↓spCells_q, ↓spSpot_q, ↓spGapL_q, ↓spHolds_q, ↓spLHas_q, ↓spParts_q, ↓spIn_q, ↓spAsked_q, ↓dMinD_q, ↓dSS_q, ↓dgLst_q])
theorem ok_l_has (T : Tx K mg) : FnOk P w K mg base CX0 1 T.f_l_has T.d_l_has ["_law_one", "_law_box_here"] (lift K spLHas) := by
  refine okD T.o_l_has.F sc_l_has (fun xs M Φ h => by obtain ⟨_, _, rfl, _⟩ := on2_ex h; rfl) fun cdv A outer s H E hr => ⟨_, (dss_cons (ds_asg (de_var 1) (dg_tup (n := 2) rfl (dgs_cons (dg_name 2 sc_l_has.nd) (dgs_cons (dg_name 3 sc_l_has.nd) dgs_nil))))
  (dss_cons (ds_if (DW.dt (dw_or (dt_cmp od_lt (de_ix (de_var 2) de_int) (de_ix (de_ix (de_var 0) de_int) de_int)) (dw_or1 (dt_cmp od_lt (de_ix (de_var 2) de_int) (de_ix (de_ix (de_var 0) de_int) de_int))))) (dss_one (ds_ret de_bl)) dss_nil)
  (dss_one (ds_ret (de_and (de_cmp od_le (de_ix (de_var 3) de_int) (de_ix (de_ix (de_var 0) de_int) de_int)) (de_one (de_cmp od_le (de_ix (de_var 3) de_int) (de_ix (de_ix (de_var 0) de_int) de_int)))))))), fun xs M Φ h => ?_⟩
  replace h := on2_ex h
  obtain ⟨x1, x2, rfl, h⟩ := h
  replace h := onX_ex h
  obtain ⟨c, rfl, h⟩ := h
  replace h := onX_ex h
  obtain ⟨b, rfl, h⟩ := h
  unfold inB at h
  walk_at "hd"
  walk_at "r5"
  walk_at "hd"
  walk_at "r5"
  refine cases_true (fun z => ?_) fun z => cases_true (fun z1 => ?_) fun z1 => ?_
  · rw [decide_eq_false (by omega)] at h
    exact h
  · rw [decide_eq_false (by omega)] at h
    exact h
  · subst_vars
    walk_at "r5"
    refine cases_true (fun z2 => ?_) fun z2 => ?_
    · rw [show decide (c.x ≤ b.x ∧ c.y ≤ b.y ∧ b.X ≤ c.X ∧ b.Y ≤ c.Y) = decide (b.Y ≤ c.Y) from decide_eq_decide.mpr (by omega)] at h
      exact h
    · rw [decide_eq_false (by omega)] at h
      exact h
theorem ok_parts (T : Tx K mg) : FnOk P w K mg base CX0 1 T.f_parts T.d_parts ["_law_box_here", "_law_way", "_law_at"] (lift K spParts) := by
  refine okD T.o_parts.F sc_parts (fun xs M Φ h => by obtain ⟨_, _, _, rfl, _⟩ := on3_ex h; rfl) fun cdv A outer s H E hr => ⟨_, (dss_cons (ds_asg (de_var 0) (dg_tup (n := 2) rfl (dgs_cons (dg_name 3 sc_parts.nd) (dgs_cons (dg_name 4 sc_parts.nd) dgs_nil))))
  (dss_cons (ds_if (dt_cmp (od_eq hr) (de_var 1) de_int) (dss_one (ds_ret (de_lst (da_cons (de_tup (da_cons (de_var 3) (da_cons (de_tup (da_cons (de_var 2) (da_cons (de_ix (de_var 4) de_int) da_nil))) da_nil))) (da_cons (de_tup (da_cons (de_tup (da_cons (de_op od_add (de_var 2) de_int) (da_cons (de_ix (de_var 3) de_int) da_nil))) (da_cons (de_var 4) da_nil))) da_nil))))) dss_nil)
  (dss_one (ds_ret (de_lst (da_cons (de_tup (da_cons (de_var 3) (da_cons (de_tup (da_cons (de_ix (de_var 4) de_int) (da_cons (de_var 2) da_nil))) da_nil))) (da_cons (de_tup (da_cons (de_tup (da_cons (de_ix (de_var 3) de_int) (da_cons (de_op od_add (de_var 2) de_int) da_nil))) (da_cons (de_var 4) da_nil))) da_nil))))))), fun xs M Φ h => ?_⟩
  replace h := on3_ex h
  obtain ⟨x1, x2, x3, rfl, h⟩ := h
  replace h := onX_ex h
  obtain ⟨b, rfl, h⟩ := h
  replace h := onI_ex h
  obtain ⟨i, rfl, h⟩ := h
  replace h := onI_ex h
  obtain ⟨a, rfl, hi, h⟩ := h
  unfold upB owB at h
  rcases hi with rfl | rfl
  · walk_at "hd"
    walk_at "r5"
    subst_vars
    walk_at "r5"
    exact h
  · walk_at "hd"
    walk_at "r5"
    subst_vars
    walk_at "r5"
    subst_vars
    walk_at "r5"
    exact h
theorem ok_in (T : Tx K mg) : FnOk P w K mg base CX0 2 T.f_in T.d_in ["_law_pen_here", "_law_box_here"] (lift K spIn) := by
  have G_draw : FnOk P w K mg base CX0 1 T.f_draw T.d_draw ["_law_pen_here", "_law_many"] (lift K spDraw) := ok_draw T
  refine okD T.o_in.F sc_in (fun xs M Φ h => by obtain ⟨_, _, rfl, _⟩ := on2_ex h; rfl) fun cdv A outer s H E hr => ⟨_, (dss_cons (ds_set 2 sc_in.nd (de_lstO da_nil))
  (dss_cons (ds_forR1 rfl T.n_range (da_cons de_int da_nil) (dg_name 3 sc_in.nd) (dss_cons (ds_set 4 sc_in.nd (de_ix (de_ix (de_var 1) de_int) (de_var 3)))
  (dss_cons (ds_set 5 sc_in.nd (de_ix (de_ix (de_var 1) de_int) (de_var 3)))
  (dss_one (ds_expr (de_append (de_var 2) (de_ix (de_lst (da_cons (de_var 4) (da_cons (de_var 5) (da_cons (de_op od_add (de_var 4) (de_call G_draw (hr.mono (by first | decide | omega)) rfl T.o_draw.m T.o_draw.F.kp T.o_draw.b pass0 (da_cons (de_var 0) (da_cons (de_op od_add (de_op od_sub (de_var 5) (de_var 4)) de_int) da_nil)))) da_nil)))) (de_call G_draw (hr.mono (by first | decide | omega)) rfl T.o_draw.m T.o_draw.F.kp T.o_draw.b pass0 (da_cons (de_var 0) (da_cons de_int da_nil))))))))) PassesOwn.never rfl)
  (dss_one (ds_ret (de_frz (de_var 2)))))), fun xs M Φ h => ?_⟩
  replace h := on2_ex h
  obtain ⟨x1, x2, rfl, h⟩ := h
  replace h := onO_ex h
  obtain ⟨p, rfl, h⟩ := h
  replace h := onX_ex h
  obtain ⟨b, rfl, ⟨hb, hB⟩, hp, h⟩ := h
  have hb := okB_iff.mp hb
  unfold Far at hB
  walk_at "hd"
  walk_at "r5"
  intro q hq
  have n1 : p ≠ q := hp.ne hq
  walk_at "hd"
  walk_at "r5"
  refine ⟨⟨by decide, by decide⟩, turnsRU ?_⟩
  walk_at "r5"
  refine ⟨⟨by omega, by omega⟩, hp.put n1, fun r1 M1 a1 b1 f1 => ⟨f1.1, fun r2 M2 a2 b2 f2 => ?_⟩⟩
  have g2 : M2 q = some (.lst []) := (f1.trans f2).own mset_same (Ne.symm n1)
  refine tab (l := [b.x, b.X, b.x + r1]) (fun _ => True) a2 b2 (fun _ _ => trivial) fun u _ => ?_
  rw [g2]
  walk_at "r5"
  refine ⟨⟨by omega, by omega⟩, f2.1.put n1, fun r3 M3 a3 b3 f3 => ⟨f3.1, fun r4 M4 a4 b4 f4 => ?_⟩⟩
  have g4 : M4 q = some (.lst [.int u]) := (f3.trans f4).own mset_same (Ne.symm n1)
  refine tab (l := [b.y, b.Y, b.y + r3]) (fun _ => True) a4 b4 (fun _ _ => trivial) fun v _ => ?_
  rw [g4]
  walk_at "r5"
  subst_vars
  walk_at "r5"
  have F1 : Fr p M M2 := ((Fr.refl hp).new hq (Ne.symm n1)).trans (f1.trans f2)
  have F2 : Fr p M M4 := (F1.new hq (Ne.symm n1)).trans (f3.trans f4)
  refine h u v _ ⟨?_, fun a ha hn => ?_⟩
  · exact (F2.1.put n1).del n1
  · have hne : a ≠ q := fun z => hn (by rw [z]; exact hq)
    rw [mdel_ne hne, mset_ne hne]
    exact F2.2 a ha hn
theorem ok_asked (T : Tx K mg) : FnOk P w K mg base CX0 3 T.f_asked T.d_asked ["_law_pen_here", "_law_shape"] (lift K spAsked) := by
  have G_in : FnOk P w K mg base CX0 2 T.f_in T.d_in ["_law_pen_here", "_law_box_here"] (lift K spIn) := ok_in T
  have G_draw : FnOk P w K mg base CX0 1 T.f_draw T.d_draw ["_law_pen_here", "_law_many"] (lift K spDraw) := ok_draw T
  refine okD T.o_asked.F sc_asked (fun xs M Φ h => by obtain ⟨_, _, rfl, _⟩ := on2_ex h; rfl) fun cdv A outer s H E hr => ⟨_, (dss_cons (ds_set 2 sc_asked.nd (de_call G_in (hr.mono (by first | decide | omega)) rfl T.o_in.m T.o_in.F.kp T.o_in.b pass0 (da_cons (de_var 0) (da_cons (de_ix (de_var 1) (de_call G_draw (hr.mono (by first | decide | omega)) rfl T.o_draw.m T.o_draw.F.kp T.o_draw.b pass0 (da_cons (de_var 0) (da_cons (de_callB cd_len rfl T.n_len bt_len (da_cons (de_var 1) da_nil)) da_nil)))) da_nil))))
  (dss_cons (ds_set 3 sc_asked.nd (de_call G_in (hr.mono (by first | decide | omega)) rfl T.o_in.m T.o_in.F.kp T.o_in.b pass0 (da_cons (de_var 0) (da_cons (de_ix (de_var 1) (de_call G_draw (hr.mono (by first | decide | omega)) rfl T.o_draw.m T.o_draw.F.kp T.o_draw.b pass0 (da_cons (de_var 0) (da_cons (de_callB cd_len rfl T.n_len bt_len (da_cons (de_var 1) da_nil)) da_nil)))) da_nil))))
  (dss_cons (ds_setCU 4 true sc_asked.nd (compOk_of (sc := defScope s_asked) (XN := ["_law_pen_here", "_law_shape", "_law_one", "_law_other", "_law_low", "_law_high", "_law_more", "_law_way"]) (N := ["_law_way", "_law_one", "_law_other"]) (ix := [none, some 2, some 3]) rfl rfl (by decide +kernel)) (di_range1 rfl T.n_range (da_cons de_int da_nil)) (fun C ex s H => (dg_name 0 (show List.Nodup (["_law_way", "_law_one", "_law_other"] : List Str) by decide +kernel))) (fun C ex s H => dts_nil) (fun C ex s H => (de_callB (cd_min2 rfl) rfl T.n_min bt_min (da_cons (de_ix (de_var 1) (de_var 0)) (da_cons (de_ix (de_var 2) (de_var 0)) da_nil)))) rfl)
  (dss_cons (ds_setCU 5 true sc_asked.nd (compOk_of (sc := defScope s_asked) (XN := ["_law_pen_here", "_law_shape", "_law_one", "_law_other", "_law_low", "_law_high", "_law_more", "_law_way"]) (N := ["_law_way", "_law_one", "_law_other"]) (ix := [none, some 2, some 3]) rfl rfl (by decide +kernel)) (di_range1 rfl T.n_range (da_cons de_int da_nil)) (fun C ex s H => (dg_name 0 (show List.Nodup (["_law_way", "_law_one", "_law_other"] : List Str) by decide +kernel))) (fun C ex s H => dts_nil) (fun C ex s H => (de_callB (cd_max2 rfl) rfl T.n_max bt_max (da_cons (de_ix (de_var 1) (de_var 0)) (da_cons (de_ix (de_var 2) (de_var 0)) da_nil)))) rfl)
  (dss_cons (ds_set 6 sc_asked.nd (de_ix (de_lst (da_cons de_int (da_cons de_int (da_cons de_int (da_cons de_int (da_cons de_int (da_cons de_int (da_cons (de_op od_add de_int (de_call G_draw (hr.mono (by first | decide | omega)) rfl T.o_draw.m T.o_draw.F.kp T.o_draw.b pass0 (da_cons (de_var 0) (da_cons (de_op od_pow de_int de_int) da_nil)))) (da_cons (de_op od_pow de_int de_int) da_nil))))))))) (de_call G_draw (hr.mono (by first | decide | omega)) rfl T.o_draw.m T.o_draw.F.kp T.o_draw.b pass0 (da_cons (de_var 0) (da_cons de_int da_nil)))))
  (dss_cons (ds_set 7 sc_asked.nd (de_call G_draw (hr.mono (by first | decide | omega)) rfl T.o_draw.m T.o_draw.F.kp T.o_draw.b pass0 (da_cons (de_var 0) (da_cons de_int da_nil))))
  (dss_cons (ds_if (dt_cmp (od_eq hr) (de_call G_draw (hr.mono (by first | decide | omega)) rfl T.o_draw.m T.o_draw.F.kp T.o_draw.b pass0 (da_cons (de_var 0) (da_cons de_int da_nil))) de_int) (dss_one (ds_asg (de_op od_sub (de_ix (de_var 4) (de_var 7)) (de_var 6)) (dg_sub (de_var 4) (de_var 7)))) (dss_one (ds_asg (de_op od_add (de_ix (de_var 5) (de_var 7)) (de_var 6)) (dg_sub (de_var 5) (de_var 7)))))
  (dss_one (ds_ret (de_tup (da_cons (de_callTy cd_tupleOf rfl T.n_tuple bt_tuple (da_cons (de_var 4) da_nil)) (da_cons (de_callTy cd_tupleOf rfl T.n_tuple bt_tuple (da_cons (de_var 5) da_nil)) da_nil)))))))))))), fun xs M Φ h => ?_⟩
  replace h := on2_ex h
  obtain ⟨x1, x2, rfl, h⟩ := h
  replace h := onO_ex h
  obtain ⟨p, rfl, h⟩ := h
  replace h := onBs_ex h
  obtain ⟨bs, rfl, ⟨hs, hB⟩, hp, h⟩ := h
  have hs1 := hs.1
  have hs2 := hs.2.1
  have pick : ∀ (r : Int), 0 ≤ r → r < bs.length → ∃ c, c ∈ bs ∧ L2.atI (bs.map bD) r = some (bD c) := fun r h0 h1 => by
    obtain ⟨k, rfl⟩ := Int.eq_ofNat_of_zero_le h0
    have hk : k < bs.length := by omega
    exact ⟨bs[k], List.getElem_mem hk, atI_nat (by rw [List.getElem?_map, List.getElem?_eq_getElem hk]; rfl)⟩
  walk_at "hd"
  walk_at "r5"
  rw [List.length_map]
  refine ⟨⟨by omega, by omega⟩, hp, fun r1 M1 a1 b1 f1 => ?_⟩
  obtain ⟨c1, m1, e1⟩ := pick r1 a1 b1
  refine onAt_of e1 ?_
  walk_at "r5"
  refine ⟨⟨hs.2.2 _ m1, hB _ m1⟩, f1.1, fun u v M2 f2 => ?_⟩
  walk_at "hd"
  walk_at "r5"
  rw [List.length_map]
  refine ⟨⟨by omega, by omega⟩, f2.1, fun r2 M3 a2 b2 f3 => ?_⟩
  obtain ⟨c2, m2, e2⟩ := pick r2 a2 b2
  refine onAt_of e2 ?_
  walk_at "r5"
  refine ⟨⟨hs.2.2 _ m2, hB _ m2⟩, f3.1, fun u' v' M4 f4 => ?_⟩
  have F4 : Fr p M M4 := ((f1.trans f2).trans f3).trans f4
  walk_at "hd"
  walk_at "r5"
  refine ⟨⟨by decide, by decide⟩, fun q hq => ?_⟩
  walk_at "hd"
  walk_at "r5"
  refine ⟨⟨by decide, by decide⟩, fun q2 hq2 => ?_⟩
  have n1 : p ≠ q := F4.1.ne hq
  have nq : q ≠ q2 := fun e => by rw [← e, mset_same] at hq2; cases hq2
  have n2 : p ≠ q2 := (F4.1.put n1).ne hq2
  have hM : M q = none ∧ M q2 = none := by
    have hq2' : M4 q2 = none := by rw [mset_ne (Ne.symm nq)] at hq2; exact hq2
    constructor
    · cases e : M q with
      | none => rfl
      | some o => have := F4.2 q (Ne.symm n1) (by rw [e]; exact Option.some_ne_none _); rw [hq, e] at this; cases this
    · cases e : M q2 with
      | none => rfl
      | some o => have := F4.2 q2 (Ne.symm n2) (by rw [e]; exact Option.some_ne_none _); rw [hq2', e] at this; cases this
  have F5 : Fr p M (mset (mset M4 q (.lst [.int (min u u'), .int (min v v')])) q2 (.lst [.int (max u u'), .int (max v v')])) := (F4.new hM.1 (Ne.symm n1)).new hM.2 (Ne.symm n2)
  walk_at "hd"
  walk_at "r5"
  refine ⟨cp10 _ (by decide), F5.1, fun r3 M5 a3 b3 f5 => ⟨cp10 _ (by decide), f5.1, fun r4 M6 a4 b4 f6 => ?_⟩⟩
  refine tab (l := [0, 0, 0, 0, 1, 1, 1 + r3, 10 ^ 40]) (fun w => 0 ≤ w) a4 b4 (fun w hw => ?_) fun mo hmo => ?_
  · simp only [List.mem_cons, List.not_mem_nil, or_false] at hw
    rcases hw with rfl | rfl | rfl | rfl | rfl | rfl | rfl | rfl <;> first | omega | decide
  walk_at "hd"
  walk_at "r5"
  refine ⟨f6.1, fun wy M7 a5 b5 f7 => ?_⟩
  walk_at "hd"
  walk_at "r5"
  refine ⟨f7.1, fun r8 M8 a8 b8 f8 => ?_⟩
  have F8 := (F5.trans f5).trans ((f6.trans f7).trans f8)
  have gq : M8 q = some (.lst [.int (min u u'), .int (min v v')]) := ((f5.trans f6).trans (f7.trans f8)).own (by rw [mset_ne nq, mset_same]) (Ne.symm n1)
  have gq2 : M8 q2 = some (.lst [.int (max u u'), .int (max v v')]) := ((f5.trans f6).trans (f7.trans f8)).own mset_same (Ne.symm n2)
  have two : wy = 0 ∨ wy = 1 := by omega
  refine cases_true (fun z => ?_) fun z => ?_
  · rw [gq]
    walk_at "r5"
    rcases two with rfl | rfl
    · walk_at "r5"
      refine ⟨0, rfl, ?_⟩
      subst_vars
      walk_at "r5"
      rw [mset_ne (Ne.symm nq), gq2]
      walk_at "r5"
      exact h ⟨_, _, _, _⟩ _ (okB_iff.mpr ⟨by dsimp only; omega, by dsimp only; omega⟩) (F8.new hM.1 (Ne.symm n1))
    · walk_at "r5"
      refine ⟨1, rfl, ?_⟩
      subst_vars
      walk_at "r5"
      rw [mset_ne (Ne.symm nq), gq2]
      walk_at "r5"
      exact h ⟨_, _, _, _⟩ _ (okB_iff.mpr ⟨by dsimp only; omega, by dsimp only; omega⟩) (F8.new hM.1 (Ne.symm n1))
  · rw [gq2]
    walk_at "r5"
    rcases two with rfl | rfl
    · walk_at "r5"
      refine ⟨0, rfl, ?_⟩
      subst_vars
      walk_at "r5"
      rw [mset_ne nq, gq]
      walk_at "r5"
      exact h ⟨_, _, _, _⟩ _ (okB_iff.mpr ⟨by dsimp only; omega, by dsimp only; omega⟩) (F8.new hM.2 (Ne.symm n2))
    · walk_at "r5"
      refine ⟨1, rfl, ?_⟩
      subst_vars
      walk_at "r5"
      rw [mset_ne nq, gq]
      walk_at "r5"
      exact h ⟨_, _, _, _⟩ _ (okB_iff.mpr ⟨by dsimp only; omega, by dsimp only; omega⟩) (F8.new hM.2 (Ne.symm n2))
theorem low_lst {bs : List B4} {t ox oy : Int} {b : B4} (ht : 1 ≤ t) (hb : okB b = true) (h0 : anyB bs ((b.x - ox) / t) ((b.y - oy) / t) = false) : Lst (bs.map (strB t ox oy)) b b.x b.y := by
  have hb := okB_iff.mp hb
  refine ⟨⟨by rw [hasB_iff]; omega, by rw [laid_any ht]; exact h0⟩, fun u v hu _ => ?_⟩
  rw [hasB_iff] at hu
  omega
theorem mis_lst {bs : List B4} {t ox oy : Int} {b : B4} (ht : 1 ≤ t) (hc : ∀ c ∈ bs, Cel c) (hb : okB b = true) (h0 : anyB bs ((b.x - ox) / t) ((b.y - oy) / t) = true) (fs : List (Int × Int))
    (hfs : ∀ u v, (u, v) ∈ fs ↔ ∃ x y, ((b.x - ox) / t ≤ x ∧ x ≤ 12) ∧ ((b.y - oy) / t ≤ y ∧ y ≤ 12) ∧ Mis bs t ox oy b x y u v) (r : Int × Int) (hr : r ∈ fs) (lr : ∀ s ∈ fs, ltP s r = false) : Lst (bs.map (strB t ox oy)) b r.1 r.2 := by
  have c0 := cel_any hc h0
  have no12 : ∀ x y, 11 < x ∨ 11 < y → anyB bs x y = false := fun x y h => Bool.eq_false_iff.mpr fun k => by have := cel_any hc k; omega
  obtain ⟨x, y, hx, hy, q, ⟨e1, h1⟩, e2, h2⟩ := (hfs r.1 r.2).mp hr
  refine ⟨⟨by rw [hasB_iff, e1, e2]; rw [e1] at h1; rw [e2] at h2; exact ⟨Int.le_max_left _ _, h1, Int.le_max_left _ _, h2⟩, by rw [laid_any ht, e1, e2, mis_at ht hx.1, mis_at ht hy.1]; exact q⟩, fun u v hu nu => ?_⟩
  rw [hasB_iff] at hu
  rw [laid_any ht] at nu
  have mx : (b.x - ox) / t ≤ (u - ox) / t := Int.ediv_le_ediv (by omega) (by omega)
  have my : (b.y - oy) / t ≤ (v - oy) / t := Int.ediv_le_ediv (by omega) (by omega)
  have ux := (div_iff (t := t) (o := ox) (u := u) ht).mp rfl
  have uy := (div_iff (t := t) (o := oy) (u := v) ht).mp rfl
  generalize hX : (u - ox) / t = X at *
  generalize hY : (v - oy) / t = Y at *
  have kx := Int.mul_le_mul_of_nonneg_right (show min X 12 ≤ X by omega) (show 0 ≤ t by omega)
  have ky := Int.mul_le_mul_of_nonneg_right (show min Y 12 ≤ Y by omega) (show 0 ≤ t by omega)
  have na : anyB bs (min X 12) (min Y 12) = false := by
    by_cases g : X ≤ 11 ∧ Y ≤ 11
    · rw [show min X 12 = X by omega, show min Y 12 = Y by omega]
      exact nu
    · exact no12 _ _ (by omega)
  have mem := (hfs (max b.x (min X 12 * t + ox)) (max b.y (min Y 12 * t + oy))).mpr ⟨_, _, ⟨by omega, by omega⟩, ⟨by omega, by omega⟩, na, ⟨rfl, by omega⟩, rfl, by omega⟩
  have := lr _ mem
  clear hfs lr hr e1 e2 h1 h2 hx hy q na nu c0 h0 mem no12 hX hY
  unfold ltP at this
  dsimp only at this
  split at this <;> simp only [decide_eq_false_iff_not] at this <;> omega
theorem ok_missing (T : Tx K mg) : FnOk P w K mg base CX0 1 T.f_missing T.d_missing ["_law_cells_here", "_law_frame_here", "_law_box_here"] (lift K spMissing) := by
  refine okG T.o_missing.F sc_missing (fun xs M Φ h => by obtain ⟨_, _, _, rfl, _⟩ := on3_ex h; rfl) fun cdv A outer s H E hr => ⟨_, (dss_cons (ds_asg (de_var 2) (dg_tup (n := 2) rfl (dgs_cons (dg_name 6 sc_missing.nd) (dgs_cons (dg_name 7 sc_missing.nd) dgs_nil))))
  (dss_cons (ds_setCU 3 false sc_missing.nd (compOk_of (sc := defScope s_missing) (XN := ["_law_cells_here", "_law_frame_here", "_law_box_here", "_law_here", "_law_found", "_law_x", "_law_low", "_law_high", "_law_y", "_law_at"]) (N := ["_law_way", "_law_frame_here", "_law_low"]) (ix := [none, some 1, some 6]) rfl rfl (by decide +kernel)) (di_range1 rfl T.n_range (da_cons de_int da_nil)) (fun C ex s H => (dg_name 0 (show List.Nodup (["_law_way", "_law_frame_here", "_law_low"] : List Str) by decide +kernel))) (fun C ex s H => dts_nil) (fun C ex s H => (de_op od_fdivB (de_op od_sub (de_ix (de_var 2) (de_var 0)) (de_ix (de_var 1) (de_op od_add de_int (de_var 0)))) (de_ix (de_var 1) de_int))) rfl)
  (dss_cons (ds_if (dt_cmp (od_notinT hr) (de_callTy cd_tupleOf rfl T.n_tuple bt_tuple (da_cons (de_var 3) da_nil)) (de_var 0)) (dss_one (ds_ret (de_var 6))) dss_nil)
  (dss_cons (ds_set 4 sc_missing.nd (de_lstO da_nil))
  (dss_cons (ds_forR2 rfl T.n_range (da_cons (de_ix (de_var 3) de_int) (da_cons de_int da_nil)) (dg_name 5 sc_missing.nd) (dss_one (ds_forR2 rfl T.n_range (da_cons (de_ix (de_var 3) de_int) (da_cons de_int da_nil)) (dg_name 8 sc_missing.nd) (dss_cons (ds_set 9 sc_missing.nd (de_tup (da_cons (de_callB (cd_max2 rfl) rfl T.n_max bt_max (da_cons (de_ix (de_var 6) de_int) (da_cons (de_op od_add (de_op od_mul (de_var 5) (de_ix (de_var 1) de_int)) (de_ix (de_var 1) de_int)) da_nil))) (da_cons (de_callB (cd_max2 rfl) rfl T.n_max bt_max (da_cons (de_ix (de_var 6) de_int) (da_cons (de_op od_add (de_op od_mul (de_var 8) (de_ix (de_var 1) de_int)) (de_ix (de_var 1) de_int)) da_nil))) da_nil))))
  (dss_one (ds_if (DW.dt (dw_and (dt_cmp (od_notinT hr) (de_tup (da_cons (de_var 5) (da_cons (de_var 8) da_nil))) (de_var 0)) (dw_and (dt_cmp od_le (de_ix (de_var 9) de_int) (de_ix (de_var 7) de_int)) (dw_and1 (dt_cmp od_le (de_ix (de_var 9) de_int) (de_ix (de_var 7) de_int)))))) (dss_one (ds_expr (de_append (de_var 4) (de_var 9)))) dss_nil))) PassesOwn.never rfl)) PassesOwn.never rfl)
  (dss_one (ds_ret (de_minD hr rfl rfl T.n_min bt_min (da_cons (de_var 4) da_nil))))))))), fun xs M Φ h => ?_⟩
  replace h := on3_ex h
  obtain ⟨x1, x2, x3, rfl, h⟩ := h
  replace h := on3I_ex h
  obtain ⟨t, ox, oy, rfl, h⟩ := h
  replace h := onX_ex h
  obtain ⟨b, rfl, h⟩ := h
  replace h := onCl_ex h
  obtain ⟨l, ks, bs, rfl, hl, hk, ⟨hf, hg, hb⟩, h⟩ := h
  have hf' := hf
  unfold Frm at hf'
  have lg : t.natAbs.log2 < 9000 := Nat.lt_of_lt_of_le (log2_lt' (k := 70) (by omega) (by decide)) (by decide)
  walk_at "hd"
  walk_at "r5"
  walk_at "hd"
  walk_at "r5"
  refine ⟨⟨by decide, by decide⟩, ⟨by omega, lg⟩, ⟨by omega, lg⟩, ?_⟩
  walk_at "hd"
  walk_at "r5"
  rw [hl]
  walk_at "r5"
  rw [hk]
  cases q0 : anyB bs ((b.x - ox) / t) ((b.y - oy) / t) with
  | false =>
    walk_at "r5"
    exact gc_no (h _ (.inr ⟨_, _, rfl, low_lst hf'.1.1 hb q0⟩))
  | true =>
    have cc := cel_any hg.2.2 q0
    have mi := mis_iff hf'.1.1 hg.2.2 hb q0
    have ml := mis_lst hf'.1.1 hg.2.2 hb q0
    generalize (b.x - ox) / t = i0 at *
    generalize (b.y - oy) / t = j0 at *
    walk_at "r5"
    walk_at "hd"
    walk_at "r5"
    intro q hq
    have hlq : l ≠ q := fun z => by rw [z, hq] at hl; cases hl
    walk_at "hd"
    walk_at "r5"
    refine ⟨⟨⟨by omega, by omega⟩, by decide, by decide⟩, fun a Δ M2 => ∃ (k5 k8 k9 : Option DV) (fs : List (Int × Int)), Δ = [some (.own l), some (.dat (.tuple [.int t, .int ox, .int oy])), some (.dat (bD b)), some (.dat (.list [.int i0, .int j0])), some (.own q), k5, some (.dat (.tuple [.int b.x, .int b.y])), some (.dat (.tuple [.int b.X, .int b.Y])), k8, k9] ∧
      M2 = mset M q (.lst (fs.map prD)) ∧ (∀ u v, (u, v) ∈ fs ↔ ∃ x y, (i0 ≤ x ∧ x < i0 + (a : Int)) ∧ (j0 ≤ y ∧ y ≤ 12) ∧ Mis bs t ox oy b x y u v) ∧ fs.length ≤ a * 13, ⟨_, _, _, [], rfl, rfl, fun u v => ⟨fun z => (nomatch z), fun ⟨x, y, z, _⟩ => by omega⟩, Nat.zero_le _⟩, ?_, ?_⟩
    · rintro a Δ M2 ha ⟨k5, k8, k9, fs, rfl, rfl, hfs, hlen⟩
      walk_at "r5"
      refine ⟨⟨⟨by omega, by omega⟩, by decide, by decide⟩, fun c Δ M2 => ∃ (k8 k9 : Option DV) (fs : List (Int × Int)), Δ = [some (.own l), some (.dat (.tuple [.int t, .int ox, .int oy])), some (.dat (bD b)), some (.dat (.list [.int i0, .int j0])), some (.own q), some (.dat (.int (i0 + (a : Int)))), some (.dat (.tuple [.int b.x, .int b.y])), some (.dat (.tuple [.int b.X, .int b.Y])), k8, k9] ∧
        M2 = mset M q (.lst (fs.map prD)) ∧ (∀ u v, (u, v) ∈ fs ↔ ((∃ x y, (i0 ≤ x ∧ x < i0 + (a : Int)) ∧ (j0 ≤ y ∧ y ≤ 12) ∧ Mis bs t ox oy b x y u v) ∨ ∃ y, (j0 ≤ y ∧ y < j0 + (c : Int)) ∧ Mis bs t ox oy b (i0 + (a : Int)) y u v)) ∧ fs.length ≤ a * 13 + c,
        ⟨_, _, fs, rfl, rfl, fun u v => (hfs u v).trans ⟨.inl, fun z => z.elim id fun ⟨y, z, _⟩ => by omega⟩, by omega⟩, ?_, ?_⟩
      · rintro c Δ M2 hc ⟨k8, k9, fs, rfl, rfl, hfs, hlen⟩
        have skip : ¬ (∃ u v, Mis bs t ox oy b (i0 + (a : Int)) (j0 + (c : Int)) u v) → ∀ u v, (u, v) ∈ fs ↔ ((∃ x y, (i0 ≤ x ∧ x < i0 + (a : Int)) ∧ (j0 ≤ y ∧ y ≤ 12) ∧ Mis bs t ox oy b x y u v) ∨ ∃ y, (j0 ≤ y ∧ y < j0 + ((c + 1 : Nat) : Int)) ∧ Mis bs t ox oy b (i0 + (a : Int)) y u v) := fun hn u v => by
          rw [hfs]
          constructor
          · rintro (z | ⟨y, z, m⟩)
            · exact .inl z
            · exact .inr ⟨y, by omega, m⟩
          · rintro (z | ⟨y, z, m⟩)
            · exact .inl z
            · by_cases e : y = j0 + (c : Int)
              · rw [e] at m
                exact absurd ⟨u, v, m⟩ hn
              · exact .inr ⟨y, by omega, m⟩
        rw [dgName_q]
        walk_at "hd"
        walk_at "r5"
        refine ⟨.inl (by omega), .inl (by omega), ?_⟩
        subst_vars
        walk_at "r5"
        rw [mset_ne hlq, hl]
        walk_at "r5"
        rw [hk]
        cases q1 : anyB bs (i0 + (a : Int)) (j0 + (c : Int)) with
        | true =>
          walk_at "r5"
          exact ⟨_, _, fs, rfl, rfl, skip fun ⟨u, v, m, _⟩ => (by rw [q1] at m; cases m), by omega⟩
        | false =>
          walk_at "r5"
          refine cases_true (fun z1 => cases_true (fun z2 => ?_) fun z2 => ?_) fun z1 => ?_
          · refine ⟨by rw [List.length_map]; omega, _, _, fs ++ [(max b.x ((i0 + (a : Int)) * t + ox), max b.y ((j0 + (c : Int)) * t + oy))], rfl, by rw [List.map_append]; rfl, fun u v => ?_, by rw [List.length_append, List.length_singleton]; omega⟩
            rw [List.mem_append, List.mem_singleton, hfs, Prod.mk.injEq]
            constructor
            · rintro ((z | ⟨y, z, m⟩) | ⟨e1, e2⟩)
              · exact .inl z
              · exact .inr ⟨y, by omega, m⟩
              · exact .inr ⟨j0 + (c : Int), by omega, q1, ⟨e1, by rw [e1]; exact z1⟩, e2, by rw [e2]; exact z2⟩
            · rintro (z | ⟨y, z, m⟩)
              · exact .inl (.inl z)
              · by_cases e : y = j0 + (c : Int)
                · rw [e] at m
                  exact .inr ⟨m.2.1.1, m.2.2.1⟩
                · exact .inl (.inr ⟨y, by omega, m⟩)
          · exact ⟨_, _, fs, rfl, rfl, skip fun ⟨u, v, _, _, e, m⟩ => z2 (by rw [← e]; exact m), by omega⟩
          · exact ⟨_, _, fs, rfl, rfl, skip fun ⟨u, v, _, ⟨e, m⟩, _⟩ => z1 (by rw [← e]; exact m), by omega⟩
      · rintro Δ M2 ⟨k8, k9, fs, rfl, rfl, hfs, hlen⟩
        refine ⟨_, _, _, fs, rfl, rfl, fun u v => ?_, by omega⟩
        rw [hfs]
        constructor
        · rintro (⟨x, y, z, z2, m⟩ | ⟨y, z, m⟩)
          · exact ⟨x, y, by omega, z2, m⟩
          · exact ⟨_, y, by omega, by omega, m⟩
        · rintro ⟨x, y, z, z2, m⟩
          by_cases e : x = i0 + (a : Int)
          · rw [e] at m
            exact .inr ⟨y, by omega, m⟩
          · exact .inl ⟨x, y, by omega, z2, m⟩
    · rintro Δ M2 ⟨k5, k8, k9, fs, rfl, rfl, hfs, hlen⟩
      subst_vars
      walk_at "r5"
      refine ⟨fs, .inr ⟨q, rfl, mset_same⟩, fun e => gc_one hq (h _ (.inl ⟨rfl, mi.mp fun x y u v hx hy m => ?_⟩)), fun r hr lr => gc_one hq (h _ (.inr ⟨r.1, r.2, rfl, ml fs (fun u v => ?_) r hr lr⟩))⟩
      · have := (hfs u v).mpr ⟨x, y, by omega, hy, m⟩
        rw [e] at this
        cases this
      · rw [hfs]
        constructor
        · rintro ⟨x, y, z1, z2, m⟩
          exact ⟨x, y, by omega, z2, m⟩
        · rintro ⟨x, y, z1, z2, m⟩
          exact ⟨x, y, by omega, z2, m⟩
/-! ### the law's own look at a paper -/
def Ext (M M' : Mp) : Prop := ∀ a, M a ≠ none → M' a = M a
theorem Ext.refl (M : Mp) : Ext M M := fun _ _ => rfl
theorem Ext.new {M M' : Mp} {q : Addr} {o : OO} (h : Ext M M') (hq : M q = none) : Ext M (mset M' q o) := fun a ha => by
  rw [mset_ne fun e => ha (by rw [e]; exact hq)]
  exact h a ha
theorem Ext.none {M M' : Mp} {q : Addr} (h : Ext M M') (hq : M' q = none) : M q = none := by
  cases e : M q with
  | none => rfl
  | some o => have := h q (by rw [e]; exact Option.some_ne_none _); rw [hq, e] at this; cases this
def spWL : DSp := fun xs M Φ => on1 xs fun x => onD x fun d => Φ (.dat (.bool (isWholeD d))) M
theorem spWL_q (xs : List DV) (M : Mp) (Φ : DK) : spWL xs M Φ = (on1 xs fun x => onD x fun d => Φ (.dat (.bool (isWholeD d))) M) := propext Iff.rfl
def spLeaf : DSp := fun xs M Φ => on3 xs fun x y z => onBs x fun bs => onX y fun b => onT z fun ds => ∃ h k, ds = [h, k] ∧ (h.canLay0 = true ∧ okB b = true) ∧ Φ (.dat (.bool (isS h (Str.ofString "box") && leafD bs b k))) M
theorem spLeaf_q (xs : List DV) (M : Mp) (Φ : DK) : spLeaf xs M Φ = (on3 xs fun x y z => onBs x fun bs => onX y fun b => onT z fun ds => ∃ h k, ds = [h, k] ∧ (h.canLay0 = true ∧ okB b = true) ∧ Φ (.dat (.bool (isS h (Str.ofString "box") && leafD bs b k))) M) := propext Iff.rfl
def spLook (n : Nat) : DSp := fun xs M Φ => on3 xs fun x y z => onBs x fun bs => onX y fun b => onD z fun d => (Pap n d ∧ okB b = true ∧ n ≤ 26) ∧ ∀ M', Ext M M' → Φ (.dat (.bool (holdsD bs n b d))) M'
theorem spLook_q (n : Nat) (xs : List DV) (M : Mp) (Φ : DK) : spLook n xs M Φ = (on3 xs fun x y z => onBs x fun bs => onX y fun b => onD z fun d => (Pap n d ∧ okB b = true ∧ n ≤ 26) ∧ ∀ M', Ext M M' → Φ (.dat (.bool (holdsD bs n b d))) M') := propext Iff.rfl
local macro_rules | `(tactic| walk_at "r6") => `(tactic| try simp (config := { maxSteps := 10000000 }) only [↓onV_mk_q, ↓onI_mk_q, ↓onB_mk_q, ↓onS_mk_q, ↓onT_mk_q, ↓onL_mk_q, ↓onD_mk_q, ↓onO_mk_q, ↓onOL_mk_q, ↓onOC_mk_q, ↓onQ_t_q, ↓onQ_l_q, ↓onQ_o_q, ↓onK_l_q, ↓onK_o_q, ↓on1_mk_q, ↓on2_mk_q, ↓on3_mk_q, ↓on4_mk_q, ↓on5_mk_q, ↓on6_mk_q, ↓onDs_0_q, ↓onDs_1_q, ↓onDs_2_q, ↓onDs_3_q, ↓onDs_4_q, ↓onDs_5_q, ↓onDs_6_q, ↓onDs_7_q, ↓onDs_8_q, ↓onDs_9_q, ↓onDs_10_q, ↓onDs_11_q, ↓onDs_12_q, ↓dVar_q, ↓dC_q, ↓dTy_q, ↓dOp_q, ↓dB_q, ↓dChain_q, ↓dAnd_q, ↓dOr_q, ↓dNot_q, ↓dAndV_q, ↓dOrV_q, ↓dNotV_q, ↓dIf_q, ↓dUnI_q, ↓δI_q, ↓δI0_q, ↓δB_q, ↓δCatT_q, ↓δCatL_q, ↓δCatLO_q, ↓dNil_q, ↓dCons_q, ↓dTup_q, ↓dLst_q, ↓dLstO_q, ↓dFrz_q, ↓onAt_0_q, ↓onAt_1_q, ↓onAt_2_q, ↓onAt_3_q, ↓onAt_4_q, ↓onAt_5_q, ↓onAt_6_q, ↓onAt_7_q, ↓δIx_q, ↓dCB_q, ↓δLen_q, ↓δLenS_q, ↓δStrI_q, ↓δAbs_q, ↓δ2I_q, ↓δListOf_q, ↓δRepr_q, ↓δIsi_mk_q, ↓eqD_ii_q, ↓eqD_ss_q, ↓eqD_bb_q, ↓δEq_q, ↓δNe_q, ↓δNeS_q, ↓δEqS_q, ↓dNoPart_q, ↓dPart_q, ↓dSlT_q, ↓dNext_q, ↓dSeq_q, ↓dBreak_q, ↓dCont_q, ↓dDrop_q, ↓dRet_q, ↓dRetN_q, ↓dIfS_q, ↓dgName_q, ↓dgNil_mk_q, ↓dgCons_mk_q, ↓onNs_0_q, ↓onNs_s_q, ↓dgTup_q, ↓dgSub_q, ↓dAsg_q, ↓dAppend_q, ↓dForL_q, ↓dForT_q, ↓dForR1_q, ↓dForR2_q, ↓dCall_q, ↓dDict0_q, ↓onKey_i_q, ↓onKey_s_q, ↓dDict1_q, ↓dDict2_q, ↓dDict1T_q, ↓sp1_q, ↓srcL_q, ↓srcT_q, ↓srcR1_q, ↓srcR2_q, ↓dEnd_t_q, ↓dEnd_f_q, ↓dComp_q, ↓tcNo_q, ↓δSortI_q, ↓δMinI_q, ↓δMaxI_q, ↓δ3I_q, ↓δTupOf_q, ↓onW_t_q, ↓onW_l_q, ↓δIn_q, ↓dExtend_q, ↓dSlL_q, ↓δSumI_q, ↓δAllB_q, ↓δAnyB_q, ↓δIntB_q, ↓dPar_q, ↓δCatS_q, ↓dSlS_q, ↓dListR2_q, ↓dAug_q, ↓δMinP_q, ↓dDict0T_q, ↓dPutT_q, ↓onP_mk_q, ↓δInT_q, ↓dRevT_q, ↓dSlTW_q, ↓onFr_l_q, ↓onFr_o_q, ↓dFrzA_q, ↓srcM_q, ↓dWhile_q, ↓dPop_q, ↓onN_mk_q, ↓δIsN_q, ↓δNotIn_q, ↓δNotInT_q, CompRun_n, CompRun_c, TurnsU_n, TurnsU_c, dCompU_q, capD, startD, onAt_last, onKs, keysD, rngD_0, rngD_1, rngD_2, rngD_3, rngD_4, isNone_none, isNone_bool, isNone_int, isNone_str, isNone_list, isNone_tuple, isNone_dict,
  Option.bind_some, Option.bind_none, Option.join_some, Option.join_none, Option.getD_some, Option.map_some, Option.map_none, List.getElem?_cons_zero, List.getElem?_cons_succ, List.set_cons_zero, List.set_cons_succ, List.map_cons, List.map_nil, List.length_cons, List.length_nil, List.replicate, List.cons_append, List.nil_append, List.any_cons, List.any_nil,
  mset_same, mset_mset, ↓reduceIte, Bool.not_true, Bool.not_false, Bool.or_false, Bool.or_true, Bool.true_or, Bool.false_or, Bool.and_true, Bool.and_false, Bool.true_and, Bool.false_and, Bool.bne_true, Bool.bne_false, Bool.false_eq_true, eq_self, true_and, and_true, ixN_30, ixN_31, ixN_32, exists_eq_left', exists_eq_left, Option.some.injEq, Nat.reduceAdd, Nat.reduceSub, Nat.zero_add, Nat.reduceLT, Nat.reduceLeDiff, Int.reduceToNat, Int.reducePow, Int.reduceSub, Int.reduceMul, Int.reduceAdd, Int.reduceNeg,
  Int.reduceLT, Int.reduceLE, Int.reduceEq, Int.zero_add, Int.cast_ofNat_Int, decide_true, decide_false, sizeLine_eq, eqA_nil, eqA_cons, eqA_cn, eqA_nc, eq_tt, eq_ll, eq_nn, eq_ii, eq_ss, eq_bb, ty_int_none, ty_int_bool, ty_int_int, ty_int_str, ty_int_list, ty_int_tuple, ty_int_dict, ty_bool_none, ty_bool_bool, ty_bool_int, ty_bool_str, ty_bool_list, ty_bool_tuple, ty_bool_dict, ty_tuple_none, ty_tuple_bool, ty_tuple_int, ty_tuple_str, ty_tuple_list, ty_tuple_tuple, ty_tuple_dict, ty_list_none, ty_list_bool, ty_list_int, ty_list_str, ty_list_list, ty_list_tuple, ty_list_dict, ty_str_none, ty_str_bool, ty_str_int, ty_str_str, ty_str_list, ty_str_tuple, ty_str_dict, ty_dict_none, ty_dict_bool, ty_dict_int, ty_dict_str, ty_dict_list, ty_dict_tuple, ty_dict_dict, ↓onX_mk_q, ↓onX_m4_q, ↓onQ_bD_q, ↓onT_bD_q, onBs_mk, onBl_mk, ↓spHas_q, ↓spGap_q, ↓spBetween_q, ↓spTo_q, ↓spHasB_q, ↓spSteps_q, ↓spSquare_q, ↓spCommon_q, ↓spCut_q, ↓spLeft_q, ↓spLies_q, ↓spW_q, ↓spHasAll_q, ↓spUp_q, ↓spOw_q, ↓spNum_q, ↓spCuts_q, ↓spPenN_q, ↓spDraw_q, onZs_mk, ↓on3I_mk_q, ↓spHole_q, ↓spBox_q, ↓spFrameL_q, ↓spLaid_q, ↓spCells_q, ↓spSpot_q, ↓spGapL_q, ↓spHolds_q, ↓spLHas_q, ↓spParts_q, ↓spIn_q, ↓spAsked_q, ↓dMinD_q, ↓dSS_q, ↓dgLst_q, ↓spWL_q, ↓δNeNil_q, ↓δCatSO_q, ↓δBoolI_q, ↓dgLst_q])
theorem ok_whole (T : Tx K mg) : FnOk P w K mg base CX0 1 T.f_whole T.d_whole ["_law_thing"] (lift K spWL) := by
  refine okD T.o_whole.F sc_whole (fun xs M Φ h => by obtain ⟨_, rfl, _⟩ := on1_ex h; rfl) fun cdv A outer s H E hr => ⟨_, (dss_one (ds_ret (de_and (de_callB (cd_isi (kit_int _)) rfl T.n_isinstance bt_isinstance (da_cons (de_var 0) (da_cons (de_ty rfl T.n_int bt_int) da_nil))) (de_one (de_not (de_callB (cd_isi (kit_bool _)) rfl T.n_isinstance bt_isinstance (da_cons (de_var 0) (da_cons (de_ty rfl T.n_bool bt_bool) da_nil)))))))), fun xs M Φ h => ?_⟩
  replace h := on1_ex h
  obtain ⟨x1, rfl, h⟩ := h
  replace h := onD_ex h
  obtain ⟨d, rfl, h⟩ := h
  walk_at "r6"
  cases d <;> simpa [isTyp, tyN, isWholeD] using h
theorem inB_eq {c b : B4} (hb : okB b = true) : inB c b = allB c b := by
  rw [Bool.eq_iff_iff]
  refine ⟨inB_all hb, fun h => ?_⟩
  have := allB_iff.mp h
  unfold inB
  exact decide_eq_true (by omega)
theorem ok_leaf_holds (T : Tx K mg) : FnOk P w K mg base CX0 2 T.f_leaf_holds T.d_leaf_holds ["_law_shape", "_law_box_here", "_law_paper"] (lift K spLeaf) := by
  have G_l_has : FnOk P w K mg base CX0 1 T.f_l_has T.d_l_has ["_law_one", "_law_box_here"] (lift K spLHas) := ok_l_has T
  have G_whole : FnOk P w K mg base CX0 1 T.f_whole T.d_whole ["_law_thing"] (lift K spWL) := ok_whole T
  refine okD T.o_leaf_holds.F sc_leaf_holds (fun xs M Φ h => by obtain ⟨_, _, _, rfl, _⟩ := on3_ex h; rfl) fun cdv A outer s H E hr => ⟨_, (dss_cons (ds_if (DW.dt (dw_or (dt_cmp (od_ne hr) (de_ix (de_var 2) de_int) de_str) (dw_or (dt_not (dt_val (de_call G_whole (hr.mono (by first | decide | omega)) rfl T.o_whole.m T.o_whole.F.kp T.o_whole.b pass0 (da_cons (de_ix (de_var 2) de_int) da_nil)))) (dw_or1 (dt_not (dt_chain od_le od_lt de_int (de_ix (de_var 2) de_int) (de_callB cd_len rfl T.n_len bt_len (da_cons (de_var 0) da_nil)))))))) (dss_one (ds_ret de_bl)) dss_nil)
  (dss_one (ds_ret (de_call G_l_has (hr.mono (by first | decide | omega)) rfl T.o_l_has.m T.o_l_has.F.kp T.o_l_has.b pass0 (da_cons (de_ix (de_var 0) (de_ix (de_var 2) de_int)) (da_cons (de_var 1) da_nil)))))), fun xs M Φ h => ?_⟩
  replace h := on3_ex h
  obtain ⟨x1, x2, x3, rfl, h⟩ := h
  replace h := onBs_ex h
  obtain ⟨bs, rfl, h⟩ := h
  replace h := onX_ex h
  obtain ⟨b, rfl, h⟩ := h
  replace h := onT_ex h
  obtain ⟨ds, rfl, x, k, rfl, ⟨hl, hb⟩, h⟩ := h
  walk_at "hd"
  walk_at "r6"
  refine eqD_str hl lay_word ?_
  cases q : isS x (Str.ofString "box") with
  | false =>
    rw [q] at h
    walk_at "r6"
    simpa using h
  | true =>
    rw [q, Bool.true_and] at h
    walk_at "r6"
    cases k with
    | int k =>
      have el : leafD bs b (.int k) = (numB bs k && (match bs[k.toNat]? with | some c => allB c b | none => false)) := rfl
      rw [el] at h
      unfold isWholeD
      walk_at "r6"
      rw [List.length_map]
      unfold numB at h
      refine cases_true (fun z0 => ?_) fun z0 => ?_
      · by_cases z1 : k < bs.length
        · rw [decide_eq_true z0, decide_eq_true z1] at h
          rw [decide_eq_true z1]
          subst_vars
          walk_at "r6"
          obtain ⟨c, ec⟩ : ∃ c, bs[k.toNat]? = some c := ⟨_, List.getElem?_eq_getElem (by omega)⟩
          rw [ec] at h
          obtain ⟨j, rfl⟩ := Int.eq_ofNat_of_zero_le z0
          refine onAt_of (d := bD c) (atI_nat (by rw [List.getElem?_map]; rw [Int.toNat_natCast] at ec; rw [ec]; rfl)) ?_
          walk_at "r6"
          rw [inB_eq hb]
          simpa using h
        · rw [decide_eq_false z1] at h
          rw [decide_eq_false z1]
          walk_at "r6"
          simpa using h
      · rw [decide_eq_false z0] at h
        simpa using h
    | _ =>
      unfold isWholeD
      walk_at "r6"
      simpa [leafD] using h
def wD (e : B4 × PyData) : PyData := .tuple [bD e.1, e.2]
def Wait (bs : List B4) (R : Bool) (ws : List (B4 × PyData)) : Prop := (∀ e ∈ ws, okB e.1 = true ∧ Pap 26 e.2) ∧ (ws.all fun e => holdsD bs 26 e.1 e.2) = R
theorem Wait.last {bs : List B4} {R : Bool} {ws : List (B4 × PyData)} {e : B4 × PyData} (h : Wait bs R (ws ++ [e])) : (okB e.1 = true ∧ Pap 26 e.2) ∧ (∀ x ∈ ws, okB x.1 = true ∧ Pap 26 x.2) ∧ ((ws.all fun e => holdsD bs 26 e.1 e.2) && holdsD bs 26 e.1 e.2) = R := by
  obtain ⟨h1, h2⟩ := h
  refine ⟨h1 e (by simp), fun x hx => h1 x (by simp [hx]), ?_⟩
  rw [← h2, List.all_append]
  simp
theorem Wait.no {bs : List B4} {R : Bool} {ws : List (B4 × PyData)} {e : B4 × PyData} (h : Wait bs R (ws ++ [e])) (k : holdsD bs 26 e.1 e.2 = false) : R = false := by
  have := h.last.2.2
  rw [k, Bool.and_false] at this
  exact this.symm
theorem Wait.drop {bs : List B4} {R : Bool} {ws : List (B4 × PyData)} {e : B4 × PyData} (h : Wait bs R (ws ++ [e])) (k : holdsD bs 26 e.1 e.2 = true) : Wait bs R ws := by
  have := h.last.2
  rw [k, Bool.and_true] at this
  exact this
theorem Wait.split {bs : List B4} {R : Bool} {ws : List (B4 × PyData)} {b : B4} {x p q : PyData} {i a : Int} (h : Wait bs R (ws ++ [(b, .tuple [x, .int i, .int a, p, q])])) (hx : isS x (Str.ofString "cut") = true) (hc : cutsB b i a = true) :
    Wait bs R (ws ++ [(upB b i a, p), (owB b i (a + 1), q)]) := by
  obtain ⟨⟨hb, hp⟩, h1, h2⟩ := h.last
  have hp : Pap 25 p ∧ Pap 25 q := ⟨hp.2.1, hp.2.2⟩
  have hb : okB b = true := hb
  have cc := cutsB_iff.mp hc
  have so := sub_ok hb cc.1 cc.2.1 cc.2.2
  refine ⟨fun e he => ?_, ?_⟩
  · rcases List.mem_append.mp he with he | he
    · exact h1 e he
    · simp only [List.mem_cons, List.not_mem_nil, or_false] at he
      rcases he with rfl | rfl
      · exact ⟨so.1, hp.1.up⟩
      · exact ⟨so.2, hp.2.up⟩
  · rw [← h2, List.all_append]
    have e : holdsD bs 26 b (.tuple [x, .int i, .int a, p, q]) = (isS x (Str.ofString "cut") && (cutsB b i a && (holdsD bs 25 (upB b i a) p && holdsD bs 25 (owB b i (a + 1)) q))) := rfl
    show (_ && _) = (_ && holdsD bs 26 b (.tuple [x, .int i, .int a, p, q]))
    rw [e, hx, hc, ← holdsD_up hp.1, ← holdsD_up hp.2]
    simp
noncomputable def wsz (ws : List (B4 × PyData)) : Nat := (ws.map fun e => sizeOf e.2).sum
theorem wsz_last (ws : List (B4 × PyData)) (e : B4 × PyData) : wsz (ws ++ [e]) = wsz ws + sizeOf e.2 := by
  unfold wsz
  rw [List.map_append, List.sum_append]
  simp
theorem size_pos (d : PyData) : 0 < sizeOf d := by cases d <;> simp <;> omega
theorem wsz_split (ws : List (B4 × PyData)) (b b1 b2 : B4) (x i a p q : PyData) : wsz (ws ++ [(b1, p), (b2, q)]) < wsz (ws ++ [(b, .tuple [x, i, a, p, q])]) := by
  rw [wsz_last]
  unfold wsz
  rw [List.map_append, List.sum_append]
  simp
  omega
def Dep (ws : List (B4 × PyData)) : Prop := ∀ j e, ws[j]? = some e → Pap (26 - j) e.2
theorem Dep.drop {ws : List (B4 × PyData)} {e : B4 × PyData} (h : Dep (ws ++ [e])) : Dep ws := fun j x hj => h j x (by rw [List.getElem?_append_left (List.getElem?_eq_some_iff.mp hj).1]; exact hj)
theorem Dep.len {ws : List (B4 × PyData)} (h : Dep ws) : ws.length ≤ 26 := by
  by_cases hl : ws.length ≤ 26
  · exact hl
  · have := h 26 _ (List.getElem?_eq_getElem (by omega))
    exact this.elim
theorem Dep.split {ws : List (B4 × PyData)} {b b1 b2 : B4} {x i a p q : PyData} (h : Dep (ws ++ [(b, .tuple [x, i, a, p, q])])) : Dep (ws ++ [(b1, p), (b2, q)]) := by
  have top := h ws.length _ (by rw [List.getElem?_append_right (Nat.le_refl _), Nat.sub_self]; rfl)
  have hl := h.len
  rw [List.length_append, List.length_singleton] at hl
  obtain ⟨n, hn⟩ : ∃ n, 26 - ws.length = n + 1 := ⟨25 - ws.length, by omega⟩
  rw [hn] at top
  have hp : Pap n p ∧ Pap n q := ⟨top.2.1, top.2.2⟩
  intro j e he
  by_cases hj : j < ws.length
  · rw [List.getElem?_append_left hj] at he
    exact h j e (by rw [List.getElem?_append_left hj]; exact he)
  · rw [List.getElem?_append_right (by omega)] at he
    have hz := (List.getElem?_eq_some_iff.mp he).1
    simp only [List.length_cons, List.length_nil] at hz
    have two : j = ws.length ∨ j = ws.length + 1 := by omega
    rcases two with rfl | rfl
    · rw [Nat.sub_self] at he
      cases he
      exact hp.1.le (by omega)
    · rw [Nat.add_sub_cancel_left] at he
      cases he
      exact hp.2.le (by omega)
theorem pop2 {i j : Nat} {x y : PyData} {Δ : DSt} {M : Mp} {K : DSt → Mp → Prop} (h : K ((Δ.set i (some (.dat x))).set j (some (.dat y))) M) : onT (.dat (.tuple [x, y])) fun ds => onNs 2 ds fun xs => dgCons (dgName i) (dgCons (dgName j) dgNil) xs Δ M K := h
theorem neD_str {h : PyData} {s : Str} {P : Bool → Prop} (hl : h.canLay0 = true) (hs : (PyData.str s).canLay0 = true) (p : P (isS h s)) : eqD h (.str s) P := eqD_str hl hs p
theorem ifs_hide {t : DTT} {a b : DTS} {D : DEnds} {Δ : DSt} {M : Mp} (h : ∀ B : DTS, B = b → dIfS t a B D Δ M) : dIfS t a b D Δ M := h b rfl
def LookJ (bs : List B4) (b : B4) (d : PyData) (M0 : Mp) (R : Bool) (m : Nat) (Δ : DSt) (M : Mp) : Prop :=
  ∃ q ws x4 x5 x6 x7 x8, Δ = [some (.dat (.tuple (bs.map bD))), some (.dat (bD b)), some (.dat d), some (.own q), x4, x5, x6, x7, x8] ∧ M q = some (.lst (ws.map wD)) ∧ M0 q = none ∧ Ext M0 M ∧ (Wait bs R ws ∧ Dep ws) ∧ m = wsz ws
local macro_rules | `(tactic| walk_at "r7") => `(tactic| try simp (config := { maxSteps := 10000000 }) only [↓onV_mk_q, ↓onI_mk_q, ↓onB_mk_q, ↓onS_mk_q, ↓onT_mk_q, ↓onL_mk_q, ↓onD_mk_q, ↓onO_mk_q, ↓onOL_mk_q, ↓onOC_mk_q, ↓onQ_t_q, ↓onQ_l_q, ↓onQ_o_q, ↓onK_l_q, ↓onK_o_q, ↓on1_mk_q, ↓on2_mk_q, ↓on3_mk_q, ↓on4_mk_q, ↓on5_mk_q, ↓on6_mk_q, ↓onDs_0_q, ↓onDs_1_q, ↓onDs_2_q, ↓onDs_3_q, ↓onDs_4_q, ↓onDs_5_q, ↓onDs_6_q, ↓onDs_7_q, ↓onDs_8_q, ↓onDs_9_q, ↓onDs_10_q, ↓onDs_11_q, ↓onDs_12_q, ↓dVar_q, ↓dC_q, ↓dTy_q, ↓dOp_q, ↓dB_q, ↓dChain_q, ↓dAnd_q, ↓dOr_q, ↓dNot_q, ↓dAndV_q, ↓dOrV_q, ↓dNotV_q, ↓dIf_q, ↓dUnI_q, ↓δI_q, ↓δI0_q, ↓δB_q, ↓δCatT_q, ↓δCatL_q, ↓δCatLO_q, ↓dNil_q, ↓dCons_q, ↓dTup_q, ↓dLst_q, ↓dLstO_q, ↓dFrz_q, ↓onAt_0_q, ↓onAt_1_q, ↓onAt_2_q, ↓onAt_3_q, ↓onAt_4_q, ↓onAt_5_q, ↓onAt_6_q, ↓onAt_7_q, ↓δIx_q, ↓dCB_q, ↓δLen_q, ↓δLenS_q, ↓δStrI_q, ↓δAbs_q, ↓δ2I_q, ↓δListOf_q, ↓δRepr_q, ↓δIsi_mk_q, ↓eqD_ii_q, ↓eqD_ss_q, ↓eqD_bb_q, ↓δEq_q, ↓δNe_q, ↓δNeS_q, ↓δEqS_q, ↓dNoPart_q, ↓dPart_q, ↓dSlT_q, ↓dNext_q, ↓dSeq_q, ↓dBreak_q, ↓dCont_q, ↓dDrop_q, ↓dRet_q, ↓dRetN_q, ↓dIfS_q, ↓dgName_q, ↓dgNil_mk_q, ↓dgCons_mk_q, ↓onNs_0_q, ↓onNs_s_q, ↓dgTup_q, ↓dgSub_q, ↓dAsg_q, ↓dAppend_q, ↓dForL_q, ↓dForT_q, ↓dForR1_q, ↓dForR2_q, ↓dCall_q, ↓dDict0_q, ↓onKey_i_q, ↓onKey_s_q, ↓dDict1_q, ↓dDict2_q, ↓dDict1T_q, ↓sp1_q, ↓srcL_q, ↓srcT_q, ↓srcR1_q, ↓srcR2_q, ↓dEnd_t_q, ↓dEnd_f_q, ↓dComp_q, ↓tcNo_q, ↓δSortI_q, ↓δMinI_q, ↓δMaxI_q, ↓δ3I_q, ↓δTupOf_q, ↓onW_t_q, ↓onW_l_q, ↓δIn_q, ↓dExtend_q, ↓dSlL_q, ↓δSumI_q, ↓δAllB_q, ↓δAnyB_q, ↓δIntB_q, ↓dPar_q, ↓δCatS_q, ↓dSlS_q, ↓dListR2_q, ↓dAug_q, ↓δMinP_q, ↓dDict0T_q, ↓dPutT_q, ↓onP_mk_q, ↓δInT_q, ↓dRevT_q, ↓dSlTW_q, ↓onFr_l_q, ↓onFr_o_q, ↓dFrzA_q, ↓srcM_q, ↓dWhile_q, ↓dPop_q, ↓onN_mk_q, ↓δIsN_q, ↓δNotIn_q, ↓δNotInT_q, CompRun_n, CompRun_c, TurnsU_n, TurnsU_c, dCompU_q, capD, startD, onAt_last, onKs, keysD, rngD_0, rngD_1, rngD_2, rngD_3, rngD_4, isNone_none, isNone_bool, isNone_int, isNone_str, isNone_list, isNone_tuple, isNone_dict,
  Option.bind_some, Option.bind_none, Option.join_some, Option.join_none, Option.getD_some, Option.map_some, Option.map_none, List.getElem?_cons_zero, List.getElem?_cons_succ, List.set_cons_zero, List.set_cons_succ, List.map_cons, List.map_nil, List.length_cons, List.length_nil, List.replicate, List.cons_append, List.nil_append, List.any_cons, List.any_nil,
  mset_same, mset_mset, ↓reduceIte, Bool.not_true, Bool.not_false, Bool.or_false, Bool.or_true, Bool.true_or, Bool.false_or, Bool.and_true, Bool.and_false, Bool.true_and, Bool.false_and, Bool.bne_true, Bool.bne_false, Bool.false_eq_true, eq_self, true_and, and_true, ixN_30, ixN_31, ixN_32, exists_eq_left', exists_eq_left, Option.some.injEq, Nat.reduceAdd, Nat.reduceSub, Nat.zero_add, Nat.reduceLT, Nat.reduceLeDiff, Int.reduceToNat, Int.reducePow, Int.reduceSub, Int.reduceMul, Int.reduceAdd, Int.reduceNeg,
  Int.reduceLT, Int.reduceLE, Int.reduceEq, Int.zero_add, Int.cast_ofNat_Int, decide_true, decide_false, sizeLine_eq, eqA_nil, eqA_cons, eqA_cn, eqA_nc, eq_tt, eq_ll, eq_nn, eq_ii, eq_ss, eq_bb, ty_int_none, ty_int_bool, ty_int_int, ty_int_str, ty_int_list, ty_int_tuple, ty_int_dict, ty_bool_none, ty_bool_bool, ty_bool_int, ty_bool_str, ty_bool_list, ty_bool_tuple, ty_bool_dict, ty_tuple_none, ty_tuple_bool, ty_tuple_int, ty_tuple_str, ty_tuple_list, ty_tuple_tuple, ty_tuple_dict, ty_list_none, ty_list_bool, ty_list_int, ty_list_str, ty_list_list, ty_list_tuple, ty_list_dict, ty_str_none, ty_str_bool, ty_str_int, ty_str_str, ty_str_list, ty_str_tuple, ty_str_dict, ty_dict_none, ty_dict_bool, ty_dict_int, ty_dict_str, ty_dict_list, ty_dict_tuple, ty_dict_dict, ↓onX_mk_q, ↓onX_m4_q, ↓onQ_bD_q, ↓onT_bD_q, onBs_mk, onBl_mk, ↓spHas_q, ↓spGap_q, ↓spBetween_q, ↓spTo_q, ↓spHasB_q, ↓spSteps_q, ↓spSquare_q, ↓spCommon_q, ↓spCut_q, ↓spLeft_q, ↓spLies_q, ↓spW_q, ↓spHasAll_q, ↓spUp_q, ↓spOw_q, ↓spNum_q, ↓spCuts_q, ↓spPenN_q, ↓spDraw_q, onZs_mk, ↓on3I_mk_q, ↓spHole_q, ↓spBox_q, ↓spFrameL_q, ↓spLaid_q, ↓spCells_q, ↓spSpot_q, ↓spGapL_q, ↓spHolds_q, ↓spLHas_q, ↓spParts_q, ↓spIn_q, ↓spAsked_q, ↓dMinD_q, ↓dSS_q, ↓dgLst_q, ↓spWL_q, ↓δNeNil_q, ↓δCatSO_q, ↓δBoolI_q, ↓dgLst_q, ↓spLeaf_q])
theorem ok_holds (T : Tx K mg) : FnOk P w K mg base CX0 3 T.f_holds T.d_holds ["_law_shape", "_law_box_here", "_law_thing"] (lift K (spLook 26)) := by
  have G_parts : FnOk P w K mg base CX0 1 T.f_parts T.d_parts ["_law_box_here", "_law_way", "_law_at"] (lift K spParts) := ok_parts T
  have G_leaf_holds : FnOk P w K mg base CX0 2 T.f_leaf_holds T.d_leaf_holds ["_law_shape", "_law_box_here", "_law_paper"] (lift K spLeaf) := ok_leaf_holds T
  have G_whole : FnOk P w K mg base CX0 1 T.f_whole T.d_whole ["_law_thing"] (lift K spWL) := ok_whole T
  refine okD T.o_holds.F sc_holds (fun xs M Φ h => by obtain ⟨_, _, _, rfl, _⟩ := on3_ex h; rfl) fun cdv A outer s H E hr => ⟨_, (dss_cons (ds_set 3 sc_holds.nd (de_lstO (da_cons (de_tup (da_cons (de_var 1) (da_cons (de_var 2) da_nil))) da_nil)))
  (dss_cons (ds_while (dt_cmp (od_neNil hr) (de_var 3) (de_lst da_nil)) (dss_cons (ds_asg (de_pop (de_var 3)) (dg_tup (n := 2) rfl (dgs_cons (dg_name 4 sc_holds.nd) (dgs_cons (dg_name 5 sc_holds.nd) dgs_nil))))
  (dss_cons (ds_if (DW.dt (dw_or (dt_not (dt_val (de_callB (cd_isi (kit_tuple _)) rfl T.n_isinstance bt_isinstance (da_cons (de_var 5) (da_cons (de_ty rfl T.n_tuple bt_tuple) da_nil))))) (dw_or1 (dt_cmp (od_notin hr) (de_callB cd_len rfl T.n_len bt_len (da_cons (de_var 5) da_nil)) (de_tup (da_cons de_int (da_cons de_int da_nil))))))) (dss_one (ds_ret de_bl)) dss_nil)
  (dss_one (ds_if (dt_cmp (od_eq hr) (de_callB cd_len rfl T.n_len bt_len (da_cons (de_var 5) da_nil)) de_int) (dss_one (ds_if (dt_not (dt_val (de_call G_leaf_holds (hr.mono (by first | decide | omega)) rfl T.o_leaf_holds.m T.o_leaf_holds.F.kp T.o_leaf_holds.b pass0 (da_cons (de_var 0) (da_cons (de_var 4) (da_cons (de_var 5) da_nil)))))) (dss_one (ds_ret de_bl)) dss_nil)) (dss_cons (ds_asg (de_sliceT (de_var 5) (do_some de_int) (do_some de_int)) (dg_tup (n := 2) rfl (dgs_cons (dg_name 7 sc_holds.nd) (dgs_cons (dg_name 8 sc_holds.nd) dgs_nil))))
  (dss_cons (ds_if (DW.dt (dw_or (dt_cmp (od_ne hr) (de_ix (de_var 5) de_int) de_str) (dw_or (dt_not (dt_val (de_call G_whole (hr.mono (by first | decide | omega)) rfl T.o_whole.m T.o_whole.F.kp T.o_whole.b pass0 (da_cons (de_var 7) da_nil)))) (dw_or (dt_not (dt_val (de_call G_whole (hr.mono (by first | decide | omega)) rfl T.o_whole.m T.o_whole.F.kp T.o_whole.b pass0 (da_cons (de_var 8) da_nil)))) (dw_or1 (dt_cmp (od_notin hr) (de_var 7) (de_tup (da_cons de_int (da_cons de_int da_nil))))))))) (dss_one (ds_ret de_bl)) dss_nil)
  (dss_cons (ds_if (dt_not (dt_chain od_le od_lt (de_ix (de_ix (de_var 4) de_int) (de_var 7)) (de_var 8) (de_ix (de_ix (de_var 4) de_int) (de_var 7)))) (dss_one (ds_ret de_bl)) dss_nil)
  (dss_cons (ds_set 6 sc_holds.nd (de_call G_parts (hr.mono (by first | decide | omega)) rfl T.o_parts.m T.o_parts.F.kp T.o_parts.b pass0 (da_cons (de_var 4) (da_cons (de_var 7) (da_cons (de_var 8) da_nil)))))
  (dss_one (ds_set 3 sc_holds.nd (de_op od_catSO (de_var 3) (de_lst (da_cons (de_tup (da_cons (de_ix (de_var 6) de_int) (da_cons (de_ix (de_var 5) de_int) da_nil))) (da_cons (de_tup (da_cons (de_ix (de_var 6) de_int) (da_cons (de_ix (de_var 5) de_int) da_nil))) da_nil)))))))))))))) PassesOwn.never)
  (dss_one (ds_ret de_bl)))), fun xs M Φ h => ?_⟩
  replace h := on3_ex h
  obtain ⟨x1, x2, x3, rfl, h⟩ := h
  replace h := onBs_ex h
  obtain ⟨bs, rfl, h⟩ := h
  replace h := onX_ex h
  obtain ⟨b, rfl, h⟩ := h
  replace h := onD_ex h
  obtain ⟨d, rfl, ⟨hp, hb, hn⟩, h⟩ := h
  walk_at "hd"
  walk_at "r6"
  intro q hq
  walk_at "hd"
  walk_at "r6"
  generalize hR : holdsD bs 26 b d = R at h
  refine ⟨LookJ bs b d M R, ⟨_, q, [(b, d)], _, _, _, _, _, rfl, mset_same, hq, (Ext.refl M).new hq, ⟨⟨fun e he => ?_, ?_⟩, fun j e he => ?_⟩, rfl⟩, ?_⟩
  · rw [List.mem_singleton.mp he]
    exact ⟨hb, hp⟩
  · simp [hR]
  · cases j with
    | zero => cases he; exact hp
    | succ j => cases he
  clear hR hp hb hn
  intro n Δ M1 hJ
  clear hq q
  obtain ⟨q, ws, x4, x5, x6, x7, x8, rfl, hM, hq, hE, ⟨hW, hD⟩, rfl⟩ := hJ
  walk_at "r6"
  rw [hM]
  walk_at "r6"
  rcases List.eq_nil_or_concat ws with rfl | ⟨ws, e, rfl⟩
  · subst_vars
    walk_at "r6"
    simp only [List.isEmpty_nil, Bool.not_true, Bool.false_eq_true, if_false]
    have := hW.2
    simp only [List.all_nil] at this
    rw [← this] at h
    exact h _ hE
  · rw [List.concat_eq_append] at hM hW hD ⊢
    have ne : (!(List.map wD (ws ++ [e])).isEmpty) = true := by simp
    rw [if_pos ne]
    refine ⟨ws.map wD, wD e, by rw [List.map_append]; rfl, ?_⟩
    obtain ⟨b', d'⟩ := e
    refine pop2 (x := bD b') (y := d') ?_
    have hl := hW.last.1
    have E1 : Ext M (mset M1 q (OO.lst (ws.map wD))) := hE.new hq
    cases d' with
    | tuple ds =>
      by_cases h2 : ds.length = 2
      · obtain ⟨x, k, rfl⟩ := two_of h2
        have e : holdsD bs 26 b' (.tuple [x, k]) = (isS x (Str.ofString "box") && leafD bs b' k) := rfl
        walk_at "hd"
        walk_at "r7"
        refine ⟨rfl, ?_⟩
        subst_vars
        walk_at "r7"
        refine ⟨_, _, rfl, ⟨hl.2, hl.1⟩, ?_⟩
        rw [← e]
        cases hd : holdsD bs 26 b' (.tuple [x, k]) with
        | false =>
          rw [hW.no hd] at h
          walk_at "r7"
          exact h _ E1
        | true =>
          walk_at "r7"
          refine ⟨_, ?_, q, ws, _, _, _, _, _, rfl, mset_same, hq, E1, ⟨hW.drop hd, hD.drop⟩, rfl⟩
          rw [wsz_last]
          exact Nat.lt_add_of_pos_right (size_pos _)
      · by_cases h5 : ds.length = 5
        · obtain ⟨x, i, a, p, q', rfl⟩ := five_of h5
          have e : holdsD bs 26 b' (.tuple [x, i, a, p, q']) = (isS x (Str.ofString "cut") && (cutsD b' i a && (holdsD bs 25 (upD b' i a) p && holdsD bs 25 (owD b' i a) q'))) := rfl
          walk_at "hd"
          walk_at "r7"
          refine ⟨rfl, ?_⟩
          subst_vars
          refine ifs_hide fun B hB => ?_
          walk_at "r7"
          subst hB
          walk_at "hd"
          walk_at "r7"
          refine ⟨by decide, ?_⟩
          rw [show DL.cutD [x, i, a, p, q'] (some 1) (some 3) = [i, a] from rfl]
          walk_at "r7"
          walk_at "hd"
          walk_at "r7"
          refine neD_str hl.2.1 lay_word ?_
          cases hx : isS x (Str.ofString "cut") with
          | false =>
            rw [hx, Bool.false_and] at e
            rw [hW.no e] at h
            walk_at "r7"
            exact h _ E1
          | true =>
            walk_at "r7"
            rw [hx, Bool.true_and] at e
            cases i with
            | int i =>
              cases a with
              | int a =>
                have hc : cutsD b' (.int i) (.int a) = cutsB b' i a := rfl
                rw [hc] at e
                have no : cutsB b' i a = false → Φ (.dat (.bool false)) (mset M1 q (OO.lst (ws.map wD))) := fun z => by
                  rw [z, Bool.false_and] at e
                  rw [hW.no e] at h
                  exact h _ E1
                unfold isWholeD
                walk_at "r7"
                refine ⟨rfl, ?_⟩
                by_cases hi : i = 0 ∨ i = 1
                · rw [show (decide (0 = i) || decide (1 = i)) = true by simp; omega]
                  walk_at "r7"
                  walk_at "hd"
                  walk_at "r7"
                  refine onAt_of (d := .int (loB b' i)) (by rcases hi with rfl | rfl <;> rfl) ?_
                  walk_at "r7"
                  refine cases_true (fun z0 => ?_) fun z0 => no (Bool.eq_false_iff.mpr fun y => z0 (cutsB_iff.mp y).2.1)
                  refine onAt_of (d := .int (hiB b' i)) (by rcases hi with rfl | rfl <;> rfl) ?_
                  walk_at "r7"
                  by_cases z1 : a < hiB b' i
                  · rw [decide_eq_true z1]
                    have yes : cutsB b' i a = true := cutsB_iff.mpr ⟨hi, z0, z1⟩
                    walk_at "r7"
                    walk_at "hd"
                    walk_at "r7"
                    refine ⟨hi, ?_⟩
                    subst_vars
                    walk_at "r7"
                    have hs := hW.split hx yes
                    have hz := hD.split (b1 := upB b' i a) (b2 := owB b' i (a + 1))
                    have hl2 := hD.len
                    rw [List.length_append, List.length_singleton] at hl2
                    refine ⟨by rw [List.length_map]; omega, fun r hr2 => ⟨_, wsz_split _ _ _ _ _ _ _ _ _, r, _, _, _, _, _, _, rfl, ?_, E1.none hr2, E1.new (E1.none hr2), ⟨hs, hz⟩, rfl⟩⟩
                    rw [mset_same, List.map_append]
                    rfl
                  · rw [decide_eq_false z1]
                    walk_at "r7"
                    exact no (Bool.eq_false_iff.mpr fun y => z1 (cutsB_iff.mp y).2.2)
                · rw [show (decide (0 = i) || decide (1 = i)) = false by simp; omega]
                  walk_at "r7"
                  refine no (Bool.eq_false_iff.mpr fun y => ?_)
                  have := (cutsB_iff.mp y).1
                  omega
              | _ =>
                rw [hW.no (by rw [e]; rfl)] at h
                unfold isWholeD
                walk_at "r7"
                exact h _ E1
            | _ =>
              rw [hW.no (by rw [e]; rfl)] at h
              unfold isWholeD
              walk_at "r7"
              exact h _ E1
        · have no := hW.no (holdsD_no h2 h5)
          rw [no] at h
          walk_at "hd"
          walk_at "r7"
          refine ⟨rfl, ?_⟩
          rw [decide_eq_false (show ¬ (2 : Int) = ds.length by omega), decide_eq_false (show ¬ (5 : Int) = ds.length by omega)]
          exact h _ E1
    | _ =>
      have no := hW.no rfl
      rw [no] at h
      walk_at "hd"
      walk_at "r7"
      exact h _ E1
theorem holds_cv {bs : List B4} : ∀ {c : Cv} {n : Nat} {b : B4}, c.dep ≤ n → holdsD bs n b (cvD c) = holdsB bs b c
  | c, 0, _, h => by have := c.dep_pos; omega
  | .box k, n + 1, b, _ => by
    show (isS (.str (Str.ofString "box")) (Str.ofString "box") && leafD bs b (.int k)) = holdsB bs b (.box k)
    rw [show isS (.str (Str.ofString "box")) (Str.ofString "box") = true by decide +kernel, Bool.true_and]
    rfl
  | .cut w a p q, n + 1, b, h => by
    rw [dep_cut] at h
    show (isS (.str (Str.ofString "cut")) (Str.ofString "cut") && (cutsB b w a && (holdsD bs n (upB b w a) (cvD p) && holdsD bs n (owB b w (a + 1)) (cvD q)))) = holdsB bs b (.cut w a p q)
    rw [show isS (.str (Str.ofString "cut")) (Str.ofString "cut") = true by decide +kernel, Bool.true_and, holds_cv (by omega), holds_cv (by omega)]
    rfl
theorem Ext.own {M M' : Mp} {a : Addr} {o : OO} (h : Ext M M') (k : M a = some o) : M' a = some o := by rw [h a (by rw [k]; exact Option.some_ne_none _)]; exact k
theorem Ext.pen {M M' : Mp} {p : Addr} (h : Ext M M') (k : Pen M p) : Pen M' p := by
  obtain ⟨o, ho, hp⟩ := k
  exact ⟨o, ho, h.own hp⟩
def spDeep (n : Nat) : DSp := fun xs M Φ => on1 xs fun x => onCv x fun c => c.dep ≤ n ∧ Φ (.dat (.int c.dep)) M
theorem spDeep_q (n : Nat) (xs : List DV) (M : Mp) (Φ : DK) : spDeep n xs M Φ = (on1 xs fun x => onCv x fun c => c.dep ≤ n ∧ Φ (.dat (.int c.dep)) M) := propext Iff.rfl
theorem spDeep_void (xs : List DV) (M : Mp) (Φ : DK) : ¬ spDeep 0 xs M Φ := fun h => by
  replace h := on1_ex h
  obtain ⟨x, rfl, c, rfl, h, _⟩ := h
  have := c.dep_pos
  omega
def spNo : DSp := fun xs M Φ => on2 xs fun x y => ∃ u v : Int, x = .dat (.tuple [.str (Str.ofString "no"), .tuple [.int u, .int v]]) ∧ y = .dat (.tuple [.int u, .int v]) ∧ Φ (.dat (.bool true)) M
theorem spNo_q (xs : List DV) (M : Mp) (Φ : DK) : spNo xs M Φ = (on2 xs fun x y => ∃ u v : Int, x = .dat (.tuple [.str (Str.ofString "no"), .tuple [.int u, .int v]]) ∧ y = .dat (.tuple [.int u, .int v]) ∧ Φ (.dat (.bool true)) M) := propext Iff.rfl
local macro_rules | `(tactic| walk_at "r8") => `(tactic| try simp (config := { maxSteps := 10000000 }) only [↓onV_mk_q, ↓onI_mk_q, ↓onB_mk_q, ↓onS_mk_q, ↓onT_mk_q, ↓onL_mk_q, ↓onD_mk_q, ↓onO_mk_q, ↓onOL_mk_q, ↓onOC_mk_q, ↓onQ_t_q, ↓onQ_l_q, ↓onQ_o_q, ↓onK_l_q, ↓onK_o_q, ↓on1_mk_q, ↓on2_mk_q, ↓on3_mk_q, ↓on4_mk_q, ↓on5_mk_q, ↓on6_mk_q, ↓onDs_0_q, ↓onDs_1_q, ↓onDs_2_q, ↓onDs_3_q, ↓onDs_4_q, ↓onDs_5_q, ↓onDs_6_q, ↓onDs_7_q, ↓onDs_8_q, ↓onDs_9_q, ↓onDs_10_q, ↓onDs_11_q, ↓onDs_12_q, ↓dVar_q, ↓dC_q, ↓dTy_q, ↓dOp_q, ↓dB_q, ↓dChain_q, ↓dAnd_q, ↓dOr_q, ↓dNot_q, ↓dAndV_q, ↓dOrV_q, ↓dNotV_q, ↓dIf_q, ↓dUnI_q, ↓δI_q, ↓δI0_q, ↓δB_q, ↓δCatT_q, ↓δCatL_q, ↓δCatLO_q, ↓dNil_q, ↓dCons_q, ↓dTup_q, ↓dLst_q, ↓dLstO_q, ↓dFrz_q, ↓onAt_0_q, ↓onAt_1_q, ↓onAt_2_q, ↓onAt_3_q, ↓onAt_4_q, ↓onAt_5_q, ↓onAt_6_q, ↓onAt_7_q, ↓δIx_q, ↓dCB_q, ↓δLen_q, ↓δLenS_q, ↓δStrI_q, ↓δAbs_q, ↓δ2I_q, ↓δListOf_q, ↓δRepr_q, ↓δIsi_mk_q, ↓eqD_ii_q, ↓eqD_ss_q, ↓eqD_bb_q, ↓δEq_q, ↓δNe_q, ↓δNeS_q, ↓δEqS_q, ↓dNoPart_q, ↓dPart_q, ↓dSlT_q, ↓dNext_q, ↓dSeq_q, ↓dBreak_q, ↓dCont_q, ↓dDrop_q, ↓dRet_q, ↓dRetN_q, ↓dIfS_q, ↓dgName_q, ↓dgNil_mk_q, ↓dgCons_mk_q, ↓onNs_0_q, ↓onNs_s_q, ↓dgTup_q, ↓dgSub_q, ↓dAsg_q, ↓dAppend_q, ↓dForL_q, ↓dForT_q, ↓dForR1_q, ↓dForR2_q, ↓dCall_q, ↓dDict0_q, ↓onKey_i_q, ↓onKey_s_q, ↓dDict1_q, ↓dDict2_q, ↓dDict1T_q, ↓sp1_q, ↓srcL_q, ↓srcT_q, ↓srcR1_q, ↓srcR2_q, ↓dEnd_t_q, ↓dEnd_f_q, ↓dComp_q, ↓tcNo_q, ↓δSortI_q, ↓δMinI_q, ↓δMaxI_q, ↓δ3I_q, ↓δTupOf_q, ↓onW_t_q, ↓onW_l_q, ↓δIn_q, ↓dExtend_q, ↓dSlL_q, ↓δSumI_q, ↓δAllB_q, ↓δAnyB_q, ↓δIntB_q, ↓dPar_q, ↓δCatS_q, ↓dSlS_q, ↓dListR2_q, ↓dAug_q, ↓δMinP_q, ↓dDict0T_q, ↓dPutT_q, ↓onP_mk_q, ↓δInT_q, ↓dRevT_q, ↓dSlTW_q, ↓onFr_l_q, ↓onFr_o_q, ↓dFrzA_q, ↓srcM_q, ↓dWhile_q, ↓dPop_q, ↓onN_mk_q, ↓δIsN_q, ↓δNotIn_q, ↓δNotInT_q, CompRun_n, CompRun_c, TurnsU_n, TurnsU_c, dCompU_q, capD, startD, onAt_last, onKs, keysD, rngD_0, rngD_1, rngD_2, rngD_3, rngD_4, isNone_none, isNone_bool, isNone_int, isNone_str, isNone_list, isNone_tuple, isNone_dict,
  Option.bind_some, Option.bind_none, Option.join_some, Option.join_none, Option.getD_some, Option.map_some, Option.map_none, List.getElem?_cons_zero, List.getElem?_cons_succ, List.set_cons_zero, List.set_cons_succ, List.map_cons, List.map_nil, List.length_cons, List.length_nil, List.replicate, List.cons_append, List.nil_append, List.any_cons, List.any_nil,
  mset_same, mset_mset, ↓reduceIte, Bool.not_true, Bool.not_false, Bool.or_false, Bool.or_true, Bool.true_or, Bool.false_or, Bool.and_true, Bool.and_false, Bool.true_and, Bool.false_and, Bool.bne_true, Bool.bne_false, Bool.false_eq_true, eq_self, true_and, and_true, ixN_30, ixN_31, ixN_32, exists_eq_left', exists_eq_left, Option.some.injEq, Nat.reduceAdd, Nat.reduceSub, Nat.zero_add, Nat.reduceLT, Nat.reduceLeDiff, Int.reduceToNat, Int.reducePow, Int.reduceSub, Int.reduceMul, Int.reduceAdd, Int.reduceNeg,
  Int.reduceLT, Int.reduceLE, Int.reduceEq, Int.zero_add, Int.cast_ofNat_Int, decide_true, decide_false, sizeLine_eq, eqA_nil, eqA_cons, eqA_cn, eqA_nc, eq_tt, eq_ll, eq_nn, eq_ii, eq_ss, eq_bb, ty_int_none, ty_int_bool, ty_int_int, ty_int_str, ty_int_list, ty_int_tuple, ty_int_dict, ty_bool_none, ty_bool_bool, ty_bool_int, ty_bool_str, ty_bool_list, ty_bool_tuple, ty_bool_dict, ty_tuple_none, ty_tuple_bool, ty_tuple_int, ty_tuple_str, ty_tuple_list, ty_tuple_tuple, ty_tuple_dict, ty_list_none, ty_list_bool, ty_list_int, ty_list_str, ty_list_list, ty_list_tuple, ty_list_dict, ty_str_none, ty_str_bool, ty_str_int, ty_str_str, ty_str_list, ty_str_tuple, ty_str_dict, ty_dict_none, ty_dict_bool, ty_dict_int, ty_dict_str, ty_dict_list, ty_dict_tuple, ty_dict_dict, ↓onX_mk_q, ↓onX_m4_q, ↓onQ_bD_q, ↓onT_bD_q, onBs_mk, onBl_mk, ↓spHas_q, ↓spGap_q, ↓spBetween_q, ↓spTo_q, ↓spHasB_q, ↓spSteps_q, ↓spSquare_q, ↓spCommon_q, ↓spCut_q, ↓spLeft_q, ↓spLies_q, ↓spW_q, ↓spHasAll_q, ↓spUp_q, ↓spOw_q, ↓spNum_q, ↓spCuts_q, ↓spPenN_q, ↓spDraw_q, onZs_mk, ↓on3I_mk_q, ↓spHole_q, ↓spBox_q, ↓spFrameL_q, ↓spLaid_q, ↓spCells_q, ↓spSpot_q, ↓spGapL_q, ↓spHolds_q, ↓spLHas_q, ↓spParts_q, ↓spIn_q, ↓spAsked_q, ↓dMinD_q, ↓dSS_q, ↓dgLst_q, ↓spWL_q, ↓δNeNil_q, ↓δCatSO_q, ↓δBoolI_q, ↓dgLst_q, ↓spLeaf_q, ↓spLook_q, ↓spDeep_q, ↓spNo_q, ↓spCovered_q, ↓spMissing_q, ↓spHolds_q])
theorem ok_deep (T : Tx K mg) (n : Nat) : FnOk P w K mg base CX0 (1 + n) T.f_deep T.d_deep ["_law_paper"] (lift K (spDeep n)) := by
  refine Nat.rec (motive := fun n => FnOk P w K mg base CX0 (1 + n) T.f_deep T.d_deep ["_law_paper"] (lift K (spDeep n))) ?_ (fun n G_deep => ?_) n
  · exact fnVoid spDeep_void
  show FnOk P w K mg base CX0 (1 + n + 1) T.f_deep T.d_deep ["_law_paper"] (lift K (spDeep (n + 1)))
  refine okD T.o_deep.F sc_deep (fun xs M Φ h => by obtain ⟨_, rfl, _⟩ := on1_ex h; rfl) fun cdv A outer s H E hr => ⟨_, (dss_cons (ds_if (dt_cmp (od_eq hr) (de_callB cd_len rfl T.n_len bt_len (da_cons (de_var 0) da_nil)) de_int) (dss_one (ds_ret de_int)) dss_nil)
  (dss_one (ds_ret (de_op od_add de_int (de_callB (cd_max2 rfl) rfl T.n_max bt_max (da_cons (de_call G_deep (hr.mono (by first | decide | omega)) rfl T.o_deep.m T.o_deep.F.kp T.o_deep.b pass0 (da_cons (de_ix (de_var 0) de_int) da_nil)) (da_cons (de_call G_deep (hr.mono (by first | decide | omega)) rfl T.o_deep.m T.o_deep.F.kp T.o_deep.b pass0 (da_cons (de_ix (de_var 0) de_int) da_nil)) da_nil))))))), fun xs M Φ h => ?_⟩
  replace h := on1_ex h
  obtain ⟨x1, rfl, h⟩ := h
  obtain ⟨c, rfl, hd, h⟩ := h
  cases c with
  | box k =>
    unfold cvD
    walk_at "hd"
    walk_at "r8"
    exact h
  | cut i a p q =>
    rw [dep_cut] at hd h
    unfold cvD
    walk_at "hd"
    walk_at "r8"
    subst_vars
    walk_at "r8"
    refine onCv_mk ⟨by omega, onCv_mk ⟨by omega, ?_⟩⟩
    rw [show (1 + max (p.dep : Int) (q.dep : Int)) = ((max p.dep q.dep + 1 : Nat) : Int) by omega]
    exact h
theorem eq_no {u v : Int} {P : Bool → Prop} (h : P true) : eqD (.tuple [.str (Str.ofString "no"), .tuple [.int u, .int v]]) (.tuple [.str (Str.ofString "no"), .tuple [.int u, .int v]]) P := by
  refine eqD_of ?_ ?_
  · unfold okEq
    simp [PyData.canLay0, PyData.canLayAll0, PyData.depth, PyData.depthAll]
    try decide +kernel
  · rw [eq_tt, eqA_cons, eqA_cons, eqA_nil, eq_ss, eq_tt, eqA_cons, eqA_cons, eqA_nil, eq_ii, eq_ii, decide_eq_true rfl, decide_eq_true rfl, decide_eq_true rfl]
    exact h
theorem ok_no (T : Tx K mg) : FnOk P w K mg base CX0 2 T.f_no T.d_no ["_law_found", "_law_due"] (lift K spNo) := by
  have G_whole : FnOk P w K mg base CX0 1 T.f_whole T.d_whole ["_law_thing"] (lift K spWL) := ok_whole T
  refine okD T.o_no.F sc_no (fun xs M Φ h => by obtain ⟨_, _, rfl, _⟩ := on2_ex h; rfl) fun cdv A outer s H E hr => ⟨_, (dss_cons (ds_if (DW.dt (dw_or (dt_cmp (od_ne hr) (de_var 0) (de_tup (da_cons de_str (da_cons (de_var 1) da_nil)))) (dw_or1 (dt_not (dt_val (de_callB (cd_isi (kit_tuple _)) rfl T.n_isinstance bt_isinstance (da_cons (de_ix (de_var 0) de_int) (da_cons (de_ty rfl T.n_tuple bt_tuple) da_nil)))))))) (dss_one (ds_ret de_bl)) dss_nil)
  (dss_one (ds_ret (de_and (de_call G_whole (hr.mono (by first | decide | omega)) rfl T.o_whole.m T.o_whole.F.kp T.o_whole.b pass0 (da_cons (de_ix (de_ix (de_var 0) de_int) de_int) da_nil)) (de_one (de_call G_whole (hr.mono (by first | decide | omega)) rfl T.o_whole.m T.o_whole.F.kp T.o_whole.b pass0 (da_cons (de_ix (de_ix (de_var 0) de_int) de_int) da_nil))))))), fun xs M Φ h => ?_⟩
  replace h := on2_ex h
  obtain ⟨x1, x2, rfl, h⟩ := h
  obtain ⟨u, v, rfl, rfl, h⟩ := h
  walk_at "hd"
  walk_at "r8"
  refine eq_no ?_
  walk_at "r8"
  subst_vars
  walk_at "r8"
  unfold isWholeD
  walk_at "r8"
  exact h
theorem str_rng {t ox oy : Int} {bs : List B4} (hf : Frm t ox oy) (hg : Grd 6 bs) {c : B4} (hc : c ∈ bs.map (strB t ox oy)) : (ox ≤ c.x ∧ c.X ≤ ox + 120000000000) ∧ (oy ≤ c.y ∧ c.Y ≤ oy + 120000000000) := by
  obtain ⟨b, hb, rfl⟩ := List.mem_map.mp hc
  obtain ⟨_, h1, h2⟩ := hg.2.2 b hb
  unfold Frm at hf
  have a1 := Int.mul_nonneg h1.1 (show 0 ≤ t by omega)
  have a2 := Int.mul_nonneg h2.1 (show 0 ≤ t by omega)
  have a3 := Int.mul_le_mul_of_nonneg_right h1.2 (show 0 ≤ t by omega)
  have a4 := Int.mul_le_mul_of_nonneg_right h2.2 (show 0 ≤ t by omega)
  unfold strB
  dsimp only
  omega
theorem strOk {f ox oy : Int} {b : B4} (hf : 1 ≤ f) (h : okB b = true) : okB (strB f ox oy b) = true := by
  rw [okB_iff] at *
  unfold strB
  dsimp only
  have h1 := Int.mul_le_mul_of_nonneg_right h.1 (show 0 ≤ f by omega)
  have h2 := Int.mul_le_mul_of_nonneg_right h.2 (show 0 ≤ f by omega)
  omega
theorem ok_law (T : Tx K mg) : FnOk P w K mg base CX0 33 T.f_law T.d_law ["_law_script"] (lift K spLaw) := by
  have G_pen : FnOk P w K mg base CX0 1 T.f_pen T.d_pen ["_law_script", "_law_k"] (lift K spPenN) := ok_pen T
  have G_boxes : FnOk P w K mg base CX0 3 T.f_boxes T.d_boxes ["_law_pen_here"] (lift K spHole) := ok_boxes T
  have G_l_frame : FnOk P w K mg base CX0 2 T.f_l_frame T.d_l_frame ["_law_pen_here"] (lift K spFrameL) := ok_l_frame T
  have G_laid : FnOk P w K mg base CX0 1 T.f_laid T.d_laid ["_law_boxes_here", "_law_frame_here"] (lift K spLaid) := ok_laid T
  have G_cells : FnOk P w K mg base CX0 1 T.f_cells T.d_cells ["_law_boxes_here"] (lift K spCells) := ok_cells T
  have G_asked : FnOk P w K mg base CX0 3 T.f_asked T.d_asked ["_law_pen_here", "_law_shape"] (lift K spAsked) := ok_asked T
  have G_missing : FnOk P w K mg base CX0 1 T.f_missing T.d_missing ["_law_cells_here", "_law_frame_here", "_law_box_here"] (lift K spMissing) := ok_missing T
  have G_covered : FnOk P w K mg base CX0 32 T.f_covered T.d_covered ["shape", "box"] (lift K spCovered) := ok_covered T
  have G_holds_cover : FnOk P w K mg base CX0 31 T.f_holds_cover T.d_holds_cover ["shape", "box", "thing"] (lift K (spHolds 26)) := ok_holds_cover T 26
  have G_no : FnOk P w K mg base CX0 2 T.f_no T.d_no ["_law_found", "_law_due"] (lift K spNo) := ok_no T
  have G_holds : FnOk P w K mg base CX0 3 T.f_holds T.d_holds ["_law_shape", "_law_box_here", "_law_thing"] (lift K (spLook 26)) := ok_holds T
  have G_deep : FnOk P w K mg base CX0 26 T.f_deep T.d_deep ["_law_paper"] (lift K (spDeep 25)) := ok_deep T 25
  refine okD T.o_law.F sc_law (fun xs M Φ ⟨ns, e, _⟩ => by rw [e]; rfl) fun cdv A outer s H E hr => ⟨_, (dss_cons (ds_forR1 rfl T.n_range (da_cons (de_callB (cd_max2 rfl) rfl T.n_max bt_max (da_cons de_int (da_cons (de_callB (cd_min2 rfl) rfl T.n_min bt_min (da_cons (de_callB cd_len rfl T.n_len bt_len (da_cons (de_var 0) da_nil)) (da_cons de_int da_nil))) da_nil))) da_nil) (dg_name 1 sc_law.nd) (dss_cons (ds_set 2 sc_law.nd (de_call G_pen (hr.mono (by first | decide | omega)) rfl T.o_pen.m T.o_pen.F.kp T.o_pen.b pass0 (da_cons (de_var 0) (da_cons (de_var 1) da_nil))))
  (dss_cons (ds_set 3 sc_law.nd (de_call G_boxes (hr.mono (by first | decide | omega)) rfl T.o_boxes.m T.o_boxes.F.kp T.o_boxes.b pass0 (da_cons (de_var 2) da_nil)))
  (dss_cons (ds_set 4 sc_law.nd (de_call G_l_frame (hr.mono (by first | decide | omega)) rfl T.o_l_frame.m T.o_l_frame.F.kp T.o_l_frame.b pass0 (da_cons (de_var 2) da_nil)))
  (dss_cons (ds_set 5 sc_law.nd (de_call G_laid (hr.mono (by first | decide | omega)) rfl T.o_laid.m T.o_laid.F.kp T.o_laid.b pass0 (da_cons (de_var 3) (da_cons (de_var 4) da_nil))))
  (dss_cons (ds_set 6 sc_law.nd (de_call G_cells (hr.mono (by first | decide | omega)) rfl T.o_cells.m T.o_cells.F.kp T.o_cells.b pass0 (da_cons (de_var 3) da_nil)))
  (dss_cons (ds_set 7 sc_law.nd (de_tup (da_cons de_str (da_cons de_int da_nil))))
  (dss_one (ds_forR1 rfl T.n_range (da_cons de_int da_nil) (dg_name 8 sc_law.nd) (dss_cons (ds_set 9 sc_law.nd (de_call G_asked (hr.mono (by first | decide | omega)) rfl T.o_asked.m T.o_asked.F.kp T.o_asked.b pass0 (da_cons (de_var 2) (da_cons (de_var 5) da_nil))))
  (dss_cons (ds_set 10 sc_law.nd (de_call G_missing (hr.mono (by first | decide | omega)) rfl T.o_missing.m T.o_missing.F.kp T.o_missing.b pass0 (da_cons (de_var 6) (da_cons (de_var 4) (da_cons (de_var 9) da_nil)))))
  (dss_cons (ds_set 11 sc_law.nd (de_call G_covered (hr.mono (by first | decide | omega)) rfl T.o_covered.m T.o_covered.F.kp T.o_covered.b pass0 (da_cons (de_var 5) (da_cons (de_var 9) da_nil))))
  (dss_cons (ds_if (DW.dt (dw_or (dt_not (dt_val (de_callB (cd_isi (kit_tuple _)) rfl T.n_isinstance bt_isinstance (da_cons (de_var 11) (da_cons (de_ty rfl T.n_tuple bt_tuple) da_nil))))) (dw_or1 (dt_cmp (od_ne hr) (de_callB cd_len rfl T.n_len bt_len (da_cons (de_var 11) da_nil)) de_int)))) (dss_one (ds_ret de_bl)) dss_nil)
  (dss_cons (ds_if (dt_cmp od_isN (de_var 10) de_non) (dss_cons (ds_set 7 sc_law.nd (de_ix (de_var 11) de_int))
  (dss_one (ds_if (DW.dt (dw_or (dt_cmp (od_ne hr) (de_ix (de_var 11) de_int) de_str) (dw_or (dt_not (dt_val (de_call G_holds (hr.mono (by first | decide | omega)) rfl T.o_holds.m T.o_holds.F.kp T.o_holds.b pass0 (da_cons (de_var 5) (da_cons (de_var 9) (da_cons (de_var 7) da_nil)))))) (dw_or1 (dt_cmp od_gt (de_call G_deep (hr.mono (by first | decide | omega)) rfl T.o_deep.m T.o_deep.F.kp T.o_deep.b pass0 (da_cons (de_var 7) da_nil)) de_int))))) (dss_one (ds_ret de_bl)) dss_nil))) (dss_one (ds_if (dt_not (dt_val (de_call G_no (hr.mono (by first | decide | omega)) rfl T.o_no.m T.o_no.F.kp T.o_no.b pass0 (da_cons (de_var 11) (da_cons (de_var 10) da_nil))))) (dss_one (ds_ret de_bl)) dss_nil)))
  (dss_cons (ds_set 12 sc_law.nd (de_call G_holds_cover (hr.mono (by first | decide | omega)) rfl T.o_holds_cover.m T.o_holds_cover.F.kp T.o_holds_cover.b pass0 (da_cons (de_var 5) (da_cons (de_var 9) (da_cons (de_var 7) da_nil)))))
  (dss_one (ds_if (DW.dt (dw_or (dt_not (dt_val (de_callB (cd_isi (kit_bool _)) rfl T.n_isinstance bt_isinstance (da_cons (de_var 12) (da_cons (de_ty rfl T.n_bool bt_bool) da_nil))))) (dw_or1 (dt_cmp (od_ne hr) (de_var 12) (de_cmp od_isN (de_var 10) de_non))))) (dss_one (ds_ret de_bl)) dss_nil)))))))) PassesOwn.never rfl)))))))) PassesOwn.never rfl)
  (dss_one (ds_ret de_bl))), fun xs M Φ ⟨ns, e, hn, h⟩ => ?_⟩
  subst e
  walk_at "hd"
  walk_at "r8"
  rw [List.length_map]
  refine ⟨⟨by omega, by omega⟩, fun i Δ M' => ∃ k1 k2 k3 k4 k5 k6 k7 k8 k9 k10 k11 k12 : Option DV, Δ = [some (.dat (.list (ns.map PyData.int))), k1, k2, k3, k4, k5, k6, k7, k8, k9, k10, k11, k12], ⟨none, none, none, none, none, none, none, none, none, none, none, none, rfl⟩, ?_, ?_⟩
  · rintro i Δ M' hi ⟨k1, k2, k3, k4, k5, k6, k7, k8, k9, k10, k11, k12, rfl⟩
    rw [dgName_q]
    walk_at "hd"
    walk_at "r8"
    refine ⟨by omega, fun p o hp ho => ?_⟩
    walk_at "hd"
    walk_at "r8"
    refine ⟨Pen.mset ho, fun bs M1 hg hP => ?_⟩
    walk_at "hd"
    walk_at "r8"
    refine ⟨hP, fun t ox oy M2 hf hP2 => ?_⟩
    walk_at "hd"
    walk_at "r8"
    refine ⟨hg, ?_⟩
    walk_at "hd"
    walk_at "r8"
    refine ⟨hg, fun l ks hl hk => ?_⟩
    have n1 : p ≠ l := hP2.ne hl
    have shp : Shp (bs.map (strB t ox oy)) := by
      refine ⟨by rw [List.length_map]; exact hg.1, by rw [List.length_map]; exact hg.2.1, fun c hc => ?_⟩
      obtain ⟨b, hb, rfl⟩ := List.mem_map.mp hc
      exact strOk hf.1.1 (hg.2.2 b hb).1
    have hB : ∀ c ∈ bs.map (strB t ox oy), Far c := fun c hc => by
      have := str_rng hf hg hc
      have hf' := hf
      unfold Frm at hf'
      unfold Far
      omega
    walk_at "hd"
    walk_at "r8"
    subst_vars
    walk_at "r8"
    refine ⟨⟨by decide, by decide⟩, fun j Δ M3 => ∃ (c : Cv) (k8 k9 k10 k11 k12 : Option DV), Δ = [some (.dat (.list (ns.map PyData.int))), some (.dat (.int (i : Int))), some (.own p), some (.dat (.list (bs.map bD))), some (.dat (.tuple [.int t, .int ox, .int oy])), some (.dat (.tuple ((bs.map (strB t ox oy)).map bD))), some (.own l), some (.dat (cvD c)), k8, k9, k10, k11, k12] ∧ c.dep ≤ 25 ∧ M3 l = some (.dct ks) ∧ Pen M3 p,
      ⟨.box 0, _, _, _, _, _, rfl, by decide, mset_same, hP2.put n1⟩, ?_, ?_⟩
    · rintro j Δ M3 hj ⟨c0, k8, k9, k10, k11, k12, rfl, hd0, hl3, hP3⟩
      rw [dgName_q]
      walk_at "hd"
      walk_at "r8"
      refine ⟨⟨shp, hB⟩, hP3, fun b M4 hb f4 => ?_⟩
      have gl4 := f4.own hl3 (Ne.symm n1)
      walk_at "hd"
      walk_at "r8"
      refine ⟨l, ks, bs, rfl, gl4, hk, ⟨hf, hg, hb⟩, fun d hd => ?_⟩
      walk_at "hd"
      walk_at "r8"
      refine ⟨⟨shp, hb⟩, fun cv c hc dc => ?_, fun u v hl' => ?_⟩
      · obtain rfl : d = .none := by
          rcases hd with ⟨e, _⟩ | ⟨u, v, _, e⟩
          · exact e
          · exact absurd cv e.not
        walk_at "hd"
        walk_at "r8"
        walk_at "hd"
        walk_at "r8"
        refine ⟨⟨pap_cv (by omega), hb⟩, fun M5 e5 => ?_⟩
        rw [holds_cv (by omega), hc, if_neg (by decide)]
        refine onCv_mk ⟨dc, ?_⟩
        rw [decide_eq_false (by omega), if_neg (by decide)]
        walk_at "hd"
        walk_at "r8"
        refine ⟨pap_cv (by omega), ?_⟩
        rw [holds_cv (by omega), hc]
        subst_vars
        walk_at "r8"
        exact ⟨_, _, _, _, _, _, rfl, dc, e5.own gl4, e5.pen f4.1⟩
      · obtain rfl : d = .tuple [.int u, .int v] := by
          rcases hd with ⟨_, e⟩ | ⟨u', v', rfl, e⟩
          · exact absurd e hl'.not
          · obtain ⟨rfl, rfl⟩ := hl'.eq e
            rfl
        walk_at "hd"
        walk_at "r8"
        walk_at "hd"
        walk_at "r8"
        refine ⟨u, v, rfl, rfl, ?_⟩
        walk_at "hd"
        walk_at "r8"
        refine ⟨pap_cv (by omega), ?_⟩
        rw [holds_cv (by omega), show holdsB (bs.map (strB t ox oy)) b c0 = false from Bool.eq_false_iff.mpr fun z => hl'.not (holds_sound z)]
        subst_vars
        walk_at "r8"
        exact ⟨_, _, _, _, _, _, rfl, hd0, gl4, f4.1⟩
    · rintro Δ M3 ⟨c0, k8, k9, k10, k11, k12, rfl, hd0, hl3, hP3⟩
      exact ⟨_, _, _, _, _, _, _, _, _, _, _, _, rfl⟩
  · rintro Δ M' ⟨k1, k2, k3, k4, k5, k6, k7, k8, k9, k10, k11, k12, rfl⟩
    subst_vars
    walk_at "r8"
    exact h _
end
theorem len_1 {α : Type} {l : List α} (h : l.length = 1) : ∃ a0, l = [a0] := by
  match l, h with
  | [a0], _ => exact ⟨a0, rfl⟩
theorem len_2 {α : Type} {l : List α} (h : l.length = 2) : ∃ a0 a1, l = [a0, a1] := by
  match l, h with
  | [a0, a1], _ => exact ⟨a0, a1, rfl⟩
theorem len_3 {α : Type} {l : List α} (h : l.length = 3) : ∃ a0 a1 a2, l = [a0, a1, a2] := by
  match l, h with
  | [a0, a1, a2], _ => exact ⟨a0, a1, a2, rfl⟩
theorem all_mk {l : PySem.W.OpenLaw} {w : World} {K : PySem.W.Frag} {h : Heap} {mg : Str → Option Value} {fa : Addr} (X : K.In h) (G : h.Ns mainGlobals mg) (hfa : mg "law" = some (.ref fa))
    {f0 : Addr} {od0 an0 : Option Addr} {sl0 : Array (Option Value)} {oc0 kV0 dc0 pm0 cd0 ct0 : Value} {f1 : Addr} {od1 an1 : Option Addr} {sl1 : Array (Option Value)} {oc1 kV1 dc1 pm1 cd1 ct1 : Value} {f2 : Addr} {od2 an2 : Option Addr} {sl2 : Array (Option Value)} {oc2 kV2 dc2 pm2 cd2 ct2 : Value} {f3 : Addr} {od3 an3 : Option Addr} {sl3 : Array (Option Value)} {oc3 kV3 dc3 pm3 cd3 ct3 : Value} {f4 : Addr} {od4 an4 : Option Addr} {sl4 : Array (Option Value)} {oc4 kV4 dc4 pm4 cd4 ct4 : Value} {f5 : Addr} {od5 an5 : Option Addr} {sl5 : Array (Option Value)} {oc5 kV5 dc5 pm5 cd5 ct5 : Value} {f6 : Addr} {od6 an6 : Option Addr} {sl6 : Array (Option Value)} {oc6 kV6 dc6 pm6 cd6 ct6 : Value} {f7 : Addr} {od7 an7 : Option Addr} {sl7 : Array (Option Value)} {oc7 kV7 dc7 pm7 cd7 ct7 : Value} {f8 : Addr} {od8 an8 : Option Addr} {sl8 : Array (Option Value)} {oc8 kV8 dc8 pm8 cd8 ct8 : Value} {f9 : Addr} {od9 an9 : Option Addr} {sl9 : Array (Option Value)} {oc9 kV9 dc9 pm9 cd9 ct9 : Value} {f10 : Addr} {od10 an10 : Option Addr} {sl10 : Array (Option Value)} {oc10 kV10 dc10 pm10 cd10 ct10 : Value} {f11 : Addr} {od11 an11 : Option Addr} {sl11 : Array (Option Value)} {oc11 kV11 dc11 pm11 cd11 ct11 : Value} {f12 : Addr} {od12 an12 : Option Addr} {sl12 : Array (Option Value)} {oc12 kV12 dc12 pm12 cd12 ct12 : Value} {f13 : Addr} {od13 an13 : Option Addr} {sl13 : Array (Option Value)} {oc13 kV13 dc13 pm13 cd13 ct13 : Value} {f14 : Addr} {od14 an14 : Option Addr} {sl14 : Array (Option Value)} {oc14 kV14 dc14 pm14 cd14 ct14 : Value} {f15 : Addr} {od15 an15 : Option Addr} {sl15 : Array (Option Value)} {oc15 kV15 dc15 pm15 cd15 ct15 : Value} {f16 : Addr} {od16 an16 : Option Addr} {sl16 : Array (Option Value)} {oc16 kV16 dc16 pm16 cd16 ct16 : Value} {f17 : Addr} {od17 an17 : Option Addr} {sl17 : Array (Option Value)} {oc17 kV17 dc17 pm17 cd17 ct17 : Value} {f18 : Addr} {od18 an18 : Option Addr} {sl18 : Array (Option Value)} {oc18 kV18 dc18 pm18 cd18 ct18 : Value} {f19 : Addr} {od19 an19 : Option Addr} {sl19 : Array (Option Value)} {oc19 kV19 dc19 pm19 cd19 ct19 : Value} {f20 : Addr} {od20 an20 : Option Addr} {sl20 : Array (Option Value)} {oc20 kV20 dc20 pm20 cd20 ct20 : Value} {f21 : Addr} {od21 an21 : Option Addr} {sl21 : Array (Option Value)} {oc21 kV21 dc21 pm21 cd21 ct21 : Value} {f22 : Addr} {od22 an22 : Option Addr} {sl22 : Array (Option Value)} {oc22 kV22 dc22 pm22 cd22 ct22 : Value} {f23 : Addr} {od23 an23 : Option Addr} {sl23 : Array (Option Value)} {oc23 kV23 dc23 pm23 cd23 ct23 : Value} {f24 : Addr} {od24 an24 : Option Addr} {sl24 : Array (Option Value)} {oc24 kV24 dc24 pm24 cd24 ct24 : Value} {f25 : Addr} {od25 an25 : Option Addr} {sl25 : Array (Option Value)} {oc25 kV25 dc25 pm25 cd25 ct25 : Value} {f26 : Addr} {od26 an26 : Option Addr} {sl26 : Array (Option Value)} {oc26 kV26 dc26 pm26 cd26 ct26 : Value} {f27 : Addr} {od27 an27 : Option Addr} {sl27 : Array (Option Value)} {oc27 kV27 dc27 pm27 cd27 ct27 : Value} {f28 : Addr} {od28 an28 : Option Addr} {sl28 : Array (Option Value)} {oc28 kV28 dc28 pm28 cd28 ct28 : Value} {f29 : Addr} {od29 an29 : Option Addr} {sl29 : Array (Option Value)} {oc29 kV29 dc29 pm29 cd29 ct29 : Value} {f30 : Addr} {od30 an30 : Option Addr} {sl30 : Array (Option Value)} {oc30 kV30 dc30 pm30 cd30 ct30 : Value} {f31 : Addr} {od31 an31 : Option Addr} {sl31 : Array (Option Value)} {oc31 kV31 dc31 pm31 cd31 ct31 : Value} {f32 : Addr} {od32 an32 : Option Addr} {sl32 : Array (Option Value)} {oc32 kV32 dc32 pm32 cd32 ct32 : Value} {f33 : Addr} {od33 an33 : Option Addr} {sl33 : Array (Option Value)} {oc33 kV33 dc33 pm33 cd33 ct33 : Value} {f34 : Addr} {od34 an34 : Option Addr} {sl34 : Array (Option Value)} {oc34 kV34 dc34 pm34 cd34 ct34 : Value} {f35 : Addr} {od35 an35 : Option Addr} {sl35 : Array (Option Value)} {oc35 kV35 dc35 pm35 cd35 ct35 : Value} {f36 : Addr} {od36 an36 : Option Addr} {sl36 : Array (Option Value)} {oc36 kV36 dc36 pm36 cd36 ct36 : Value}
    (a0 : PySem.W.nsIn K mainGlobals "is_whole" = some (some (.ref f0))) (l0 : K.lookup f0 = some ⟨oc0, od0, .func (PySem.W.fnOf "is_whole" "is_whole" (defArgs s_is_whole) (defBody s_is_whole) (defScope s_is_whole) .none kV0 dc0 pm0 an0 cd0 ct0), sl0⟩) (c0 : PySem.W.codeIn K cd0 "is_whole" = true) (k0 : PySem.W.keepIn K (.ref f0) = true)
    (a1 : PySem.W.nsIn K mainGlobals "has_spots" = some (some (.ref f1))) (l1 : K.lookup f1 = some ⟨oc1, od1, .func (PySem.W.fnOf "has_spots" "has_spots" (defArgs s_has_spots) (defBody s_has_spots) (defScope s_has_spots) .none kV1 dc1 pm1 an1 cd1 ct1), sl1⟩) (c1 : PySem.W.codeIn K cd1 "has_spots" = true) (k1 : PySem.W.keepIn K (.ref f1) = true)
    (a2 : PySem.W.nsIn K mainGlobals "has" = some (some (.ref f2))) (l2 : K.lookup f2 = some ⟨oc2, od2, .func (PySem.W.fnOf "has" "has" (defArgs s_has) (defBody s_has) (defScope s_has) .none kV2 dc2 pm2 an2 cd2 ct2), sl2⟩) (c2 : PySem.W.codeIn K cd2 "has" = true) (k2 : PySem.W.keepIn K (.ref f2) = true)
    (a3 : PySem.W.nsIn K mainGlobals "has_all" = some (some (.ref f3))) (l3 : K.lookup f3 = some ⟨oc3, od3, .func (PySem.W.fnOf "has_all" "has_all" (defArgs s_has_all) (defBody s_has_all) (defScope s_has_all) .none kV3 dc3 pm3 an3 cd3 ct3), sl3⟩) (c3 : PySem.W.codeIn K cd3 "has_all" = true) (k3 : PySem.W.keepIn K (.ref f3) = true)
    (a4 : PySem.W.nsIn K mainGlobals "steps_to" = some (some (.ref f4))) (l4 : K.lookup f4 = some ⟨oc4, od4, .func (PySem.W.fnOf "steps_to" "steps_to" (defArgs s_steps_to) (defBody s_steps_to) (defScope s_steps_to) .none kV4 dc4 pm4 an4 cd4 ct4), sl4⟩) (c4 : PySem.W.codeIn K cd4 "steps_to" = true) (k4 : PySem.W.keepIn K (.ref f4) = true)
    (a5 : PySem.W.nsIn K mainGlobals "steps_between" = some (some (.ref f5))) (l5 : K.lookup f5 = some ⟨oc5, od5, .func (PySem.W.fnOf "steps_between" "steps_between" (defArgs s_steps_between) (defBody s_steps_between) (defScope s_steps_between) .none kV5 dc5 pm5 an5 cd5 ct5), sl5⟩) (c5 : PySem.W.codeIn K cd5 "steps_between" = true) (k5 : PySem.W.keepIn K (.ref f5) = true)
    (a6 : PySem.W.nsIn K mainGlobals "gap" = some (some (.ref f6))) (l6 : K.lookup f6 = some ⟨oc6, od6, .func (PySem.W.fnOf "gap" "gap" (defArgs s_gap) (defBody s_gap) (defScope s_gap) .none kV6 dc6 pm6 an6 cd6 ct6), sl6⟩) (c6 : PySem.W.codeIn K cd6 "gap" = true) (k6 : PySem.W.keepIn K (.ref f6) = true)
    (a7 : PySem.W.nsIn K mainGlobals "up_to" = some (some (.ref f7))) (l7 : K.lookup f7 = some ⟨oc7, od7, .func (PySem.W.fnOf "up_to" "up_to" (defArgs s_up_to) (defBody s_up_to) (defScope s_up_to) .none kV7 dc7 pm7 an7 cd7 ct7), sl7⟩) (c7 : PySem.W.codeIn K cd7 "up_to" = true) (k7 : PySem.W.keepIn K (.ref f7) = true)
    (a8 : PySem.W.nsIn K mainGlobals "onward_from" = some (some (.ref f8))) (l8 : K.lookup f8 = some ⟨oc8, od8, .func (PySem.W.fnOf "onward_from" "onward_from" (defArgs s_onward_from) (defBody s_onward_from) (defScope s_onward_from) .none kV8 dc8 pm8 an8 cd8 ct8), sl8⟩) (c8 : PySem.W.codeIn K cd8 "onward_from" = true) (k8 : PySem.W.keepIn K (.ref f8) = true)
    (a9 : PySem.W.nsIn K mainGlobals "common" = some (some (.ref f9))) (l9 : K.lookup f9 = some ⟨oc9, od9, .func (PySem.W.fnOf "common" "common" (defArgs s_common) (defBody s_common) (defScope s_common) .none kV9 dc9 pm9 an9 cd9 ct9), sl9⟩) (c9 : PySem.W.codeIn K cd9 "common" = true) (k9 : PySem.W.keepIn K (.ref f9) = true)
    (a10 : PySem.W.nsIn K mainGlobals "cut_out" = some (some (.ref f10))) (l10 : K.lookup f10 = some ⟨oc10, od10, .func (PySem.W.fnOf "cut_out" "cut_out" (defArgs s_cut_out) (defBody s_cut_out) (defScope s_cut_out) .none kV10 dc10 pm10 an10 cd10 ct10), sl10⟩) (c10 : PySem.W.codeIn K cd10 "cut_out" = true) (k10 : PySem.W.keepIn K (.ref f10) = true)
    (a11 : PySem.W.nsIn K mainGlobals "left_over" = some (some (.ref f11))) (l11 : K.lookup f11 = some ⟨oc11, od11, .func (PySem.W.fnOf "left_over" "left_over" (defArgs s_left_over) (defBody s_left_over) (defScope s_left_over) .none kV11 dc11 pm11 an11 cd11 ct11), sl11⟩) (c11 : PySem.W.codeIn K cd11 "left_over" = true) (k11 : PySem.W.keepIn K (.ref f11) = true)
    (a12 : PySem.W.nsIn K mainGlobals "covered" = some (some (.ref f12))) (l12 : K.lookup f12 = some ⟨oc12, od12, .func (PySem.W.fnOf "covered" "covered" (defArgs s_covered) (defBody s_covered) (defScope s_covered) .none kV12 dc12 pm12 an12 cd12 ct12), sl12⟩) (c12 : PySem.W.codeIn K cd12 "covered" = true) (k12 : PySem.W.keepIn K (.ref f12) = true)
    (a13 : PySem.W.nsIn K mainGlobals "cover_of" = some (some (.ref f13))) (l13 : K.lookup f13 = some ⟨oc13, od13, .func (PySem.W.fnOf "cover_of" "cover_of" (defArgs s_cover_of) (defBody s_cover_of) (defScope s_cover_of) .none kV13 dc13 pm13 an13 cd13 ct13), sl13⟩) (c13 : PySem.W.codeIn K cd13 "cover_of" = true) (k13 : PySem.W.keepIn K (.ref f13) = true)
    (a14 : PySem.W.nsIn K mainGlobals "cut_places" = some (some (.ref f14))) (l14 : K.lookup f14 = some ⟨oc14, od14, .func (PySem.W.fnOf "cut_places" "cut_places" (defArgs s_cut_places) (defBody s_cut_places) (defScope s_cut_places) .none kV14 dc14 pm14 an14 cd14 ct14), sl14⟩) (c14 : PySem.W.codeIn K cd14 "cut_places" = true) (k14 : PySem.W.keepIn K (.ref f14) = true)
    (a15 : PySem.W.nsIn K mainGlobals "holds_cover" = some (some (.ref f15))) (l15 : K.lookup f15 = some ⟨oc15, od15, .func (PySem.W.fnOf "holds_cover" "holds_cover" (defArgs s_holds_cover) (defBody s_holds_cover) (defScope s_holds_cover) .none kV15 dc15 pm15 an15 cd15 ct15), sl15⟩) (c15 : PySem.W.codeIn K cd15 "holds_cover" = true) (k15 : PySem.W.keepIn K (.ref f15) = true)
    (a16 : PySem.W.nsIn K mainGlobals "is_number_of" = some (some (.ref f16))) (l16 : K.lookup f16 = some ⟨oc16, od16, .func (PySem.W.fnOf "is_number_of" "is_number_of" (defArgs s_is_number_of) (defBody s_is_number_of) (defScope s_is_number_of) .none kV16 dc16 pm16 an16 cd16 ct16), sl16⟩) (c16 : PySem.W.codeIn K cd16 "is_number_of" = true) (k16 : PySem.W.keepIn K (.ref f16) = true)
    (a17 : PySem.W.nsIn K mainGlobals "cuts" = some (some (.ref f17))) (l17 : K.lookup f17 = some ⟨oc17, od17, .func (PySem.W.fnOf "cuts" "cuts" (defArgs s_cuts) (defBody s_cuts) (defScope s_cuts) .none kV17 dc17 pm17 an17 cd17 ct17), sl17⟩) (c17 : PySem.W.codeIn K cd17 "cuts" = true) (k17 : PySem.W.keepIn K (.ref f17) = true)
    (a18 : PySem.W.nsIn K mainGlobals "_law_pen" = some (some (.ref f18))) (l18 : K.lookup f18 = some ⟨oc18, od18, .func (PySem.W.fnOf "_law_pen" "_law_pen" (defArgs s_pen) (defBody s_pen) (defScope s_pen) .none kV18 dc18 pm18 an18 cd18 ct18), sl18⟩) (c18 : PySem.W.codeIn K cd18 "_law_pen" = true) (k18 : PySem.W.keepIn K (.ref f18) = true)
    (a19 : PySem.W.nsIn K mainGlobals "_law_draw" = some (some (.ref f19))) (l19 : K.lookup f19 = some ⟨oc19, od19, .func (PySem.W.fnOf "_law_draw" "_law_draw" (defArgs s_draw) (defBody s_draw) (defScope s_draw) .none kV19 dc19 pm19 an19 cd19 ct19), sl19⟩) (c19 : PySem.W.codeIn K cd19 "_law_draw" = true) (k19 : PySem.W.keepIn K (.ref f19) = true)
    (a20 : PySem.W.nsIn K mainGlobals "_law_hole" = some (some (.ref f20))) (l20 : K.lookup f20 = some ⟨oc20, od20, .func (PySem.W.fnOf "_law_hole" "_law_hole" (defArgs s_hole) (defBody s_hole) (defScope s_hole) .none kV20 dc20 pm20 an20 cd20 ct20), sl20⟩) (c20 : PySem.W.codeIn K cd20 "_law_hole" = true) (k20 : PySem.W.keepIn K (.ref f20) = true)
    (a21 : PySem.W.nsIn K mainGlobals "_law_box" = some (some (.ref f21))) (l21 : K.lookup f21 = some ⟨oc21, od21, .func (PySem.W.fnOf "_law_box" "_law_box" (defArgs s_box) (defBody s_box) (defScope s_box) .none kV21 dc21 pm21 an21 cd21 ct21), sl21⟩) (c21 : PySem.W.codeIn K cd21 "_law_box" = true) (k21 : PySem.W.keepIn K (.ref f21) = true)
    (a22 : PySem.W.nsIn K mainGlobals "_law_boxes" = some (some (.ref f22))) (l22 : K.lookup f22 = some ⟨oc22, od22, .func (PySem.W.fnOf "_law_boxes" "_law_boxes" (defArgs s_boxes) (defBody s_boxes) (defScope s_boxes) .none kV22 dc22 pm22 an22 cd22 ct22), sl22⟩) (c22 : PySem.W.codeIn K cd22 "_law_boxes" = true) (k22 : PySem.W.keepIn K (.ref f22) = true)
    (a23 : PySem.W.nsIn K mainGlobals "_law_frame" = some (some (.ref f23))) (l23 : K.lookup f23 = some ⟨oc23, od23, .func (PySem.W.fnOf "_law_frame" "_law_frame" (defArgs s_l_frame) (defBody s_l_frame) (defScope s_l_frame) .none kV23 dc23 pm23 an23 cd23 ct23), sl23⟩) (c23 : PySem.W.codeIn K cd23 "_law_frame" = true) (k23 : PySem.W.keepIn K (.ref f23) = true)
    (a24 : PySem.W.nsIn K mainGlobals "_law_laid" = some (some (.ref f24))) (l24 : K.lookup f24 = some ⟨oc24, od24, .func (PySem.W.fnOf "_law_laid" "_law_laid" (defArgs s_laid) (defBody s_laid) (defScope s_laid) .none kV24 dc24 pm24 an24 cd24 ct24), sl24⟩) (c24 : PySem.W.codeIn K cd24 "_law_laid" = true) (k24 : PySem.W.keepIn K (.ref f24) = true)
    (a25 : PySem.W.nsIn K mainGlobals "_law_cells" = some (some (.ref f25))) (l25 : K.lookup f25 = some ⟨oc25, od25, .func (PySem.W.fnOf "_law_cells" "_law_cells" (defArgs s_cells) (defBody s_cells) (defScope s_cells) .none kV25 dc25 pm25 an25 cd25 ct25), sl25⟩) (c25 : PySem.W.codeIn K cd25 "_law_cells" = true) (k25 : PySem.W.keepIn K (.ref f25) = true)
    (a26 : PySem.W.nsIn K mainGlobals "_law_has" = some (some (.ref f26))) (l26 : K.lookup f26 = some ⟨oc26, od26, .func (PySem.W.fnOf "_law_has" "_law_has" (defArgs s_l_has) (defBody s_l_has) (defScope s_l_has) .none kV26 dc26 pm26 an26 cd26 ct26), sl26⟩) (c26 : PySem.W.codeIn K cd26 "_law_has" = true) (k26 : PySem.W.keepIn K (.ref f26) = true)
    (a27 : PySem.W.nsIn K mainGlobals "_law_parts" = some (some (.ref f27))) (l27 : K.lookup f27 = some ⟨oc27, od27, .func (PySem.W.fnOf "_law_parts" "_law_parts" (defArgs s_parts) (defBody s_parts) (defScope s_parts) .none kV27 dc27 pm27 an27 cd27 ct27), sl27⟩) (c27 : PySem.W.codeIn K cd27 "_law_parts" = true) (k27 : PySem.W.keepIn K (.ref f27) = true)
    (a28 : PySem.W.nsIn K mainGlobals "_law_whole" = some (some (.ref f28))) (l28 : K.lookup f28 = some ⟨oc28, od28, .func (PySem.W.fnOf "_law_whole" "_law_whole" (defArgs s_whole) (defBody s_whole) (defScope s_whole) .none kV28 dc28 pm28 an28 cd28 ct28), sl28⟩) (c28 : PySem.W.codeIn K cd28 "_law_whole" = true) (k28 : PySem.W.keepIn K (.ref f28) = true)
    (a29 : PySem.W.nsIn K mainGlobals "_law_leaf_holds" = some (some (.ref f29))) (l29 : K.lookup f29 = some ⟨oc29, od29, .func (PySem.W.fnOf "_law_leaf_holds" "_law_leaf_holds" (defArgs s_leaf_holds) (defBody s_leaf_holds) (defScope s_leaf_holds) .none kV29 dc29 pm29 an29 cd29 ct29), sl29⟩) (c29 : PySem.W.codeIn K cd29 "_law_leaf_holds" = true) (k29 : PySem.W.keepIn K (.ref f29) = true)
    (a30 : PySem.W.nsIn K mainGlobals "_law_holds" = some (some (.ref f30))) (l30 : K.lookup f30 = some ⟨oc30, od30, .func (PySem.W.fnOf "_law_holds" "_law_holds" (defArgs s_holds) (defBody s_holds) (defScope s_holds) .none kV30 dc30 pm30 an30 cd30 ct30), sl30⟩) (c30 : PySem.W.codeIn K cd30 "_law_holds" = true) (k30 : PySem.W.keepIn K (.ref f30) = true)
    (a31 : PySem.W.nsIn K mainGlobals "_law_missing" = some (some (.ref f31))) (l31 : K.lookup f31 = some ⟨oc31, od31, .func (PySem.W.fnOf "_law_missing" "_law_missing" (defArgs s_missing) (defBody s_missing) (defScope s_missing) .none kV31 dc31 pm31 an31 cd31 ct31), sl31⟩) (c31 : PySem.W.codeIn K cd31 "_law_missing" = true) (k31 : PySem.W.keepIn K (.ref f31) = true)
    (a32 : PySem.W.nsIn K mainGlobals "_law_in" = some (some (.ref f32))) (l32 : K.lookup f32 = some ⟨oc32, od32, .func (PySem.W.fnOf "_law_in" "_law_in" (defArgs s_in) (defBody s_in) (defScope s_in) .none kV32 dc32 pm32 an32 cd32 ct32), sl32⟩) (c32 : PySem.W.codeIn K cd32 "_law_in" = true) (k32 : PySem.W.keepIn K (.ref f32) = true)
    (a33 : PySem.W.nsIn K mainGlobals "_law_asked" = some (some (.ref f33))) (l33 : K.lookup f33 = some ⟨oc33, od33, .func (PySem.W.fnOf "_law_asked" "_law_asked" (defArgs s_asked) (defBody s_asked) (defScope s_asked) .none kV33 dc33 pm33 an33 cd33 ct33), sl33⟩) (c33 : PySem.W.codeIn K cd33 "_law_asked" = true) (k33 : PySem.W.keepIn K (.ref f33) = true)
    (a34 : PySem.W.nsIn K mainGlobals "_law_deep" = some (some (.ref f34))) (l34 : K.lookup f34 = some ⟨oc34, od34, .func (PySem.W.fnOf "_law_deep" "_law_deep" (defArgs s_deep) (defBody s_deep) (defScope s_deep) .none kV34 dc34 pm34 an34 cd34 ct34), sl34⟩) (c34 : PySem.W.codeIn K cd34 "_law_deep" = true) (k34 : PySem.W.keepIn K (.ref f34) = true)
    (a35 : PySem.W.nsIn K mainGlobals "_law_no" = some (some (.ref f35))) (l35 : K.lookup f35 = some ⟨oc35, od35, .func (PySem.W.fnOf "_law_no" "_law_no" (defArgs s_no) (defBody s_no) (defScope s_no) .none kV35 dc35 pm35 an35 cd35 ct35), sl35⟩) (c35 : PySem.W.codeIn K cd35 "_law_no" = true) (k35 : PySem.W.keepIn K (.ref f35) = true)
    (a36 : PySem.W.nsIn K mainGlobals "law" = some (some (.ref f36))) (l36 : K.lookup f36 = some ⟨oc36, od36, .func (PySem.W.fnOf "law" "law" (defArgs s_law) (defBody s_law) (defScope s_law) .none kV36 dc36 pm36 an36 cd36 ct36), sl36⟩) (c36 : PySem.W.codeIn K cd36 "law" = true) (k36 : PySem.W.keepIn K (.ref f36) = true)
    (z0 : PySem.W.nsIn K mainGlobals "abs" = some none)
    (z1 : PySem.W.nsIn K mainGlobals "bool" = some none)
    (z2 : PySem.W.nsIn K mainGlobals "int" = some none)
    (z3 : PySem.W.nsIn K mainGlobals "isinstance" = some none)
    (z4 : PySem.W.nsIn K mainGlobals "len" = some none)
    (z5 : PySem.W.nsIn K mainGlobals "max" = some none)
    (z6 : PySem.W.nsIn K mainGlobals "min" = some none)
    (z7 : PySem.W.nsIn K mainGlobals "range" = some none)
    (z8 : PySem.W.nsIn K mainGlobals "set" = some none)
    (z9 : PySem.W.nsIn K mainGlobals "sorted" = some none)
    (z10 : PySem.W.nsIn K mainGlobals "tuple" = some none) :
    ∃ fd : FuncData, (∀ (s : Shared) (v : Value), BindsTo s fd ⟨[v], []⟩ [("_law_script", v)]) ∧ ∀ base : Heap, K.In base → base.Ns mainGlobals mg → FnOk l.prog w K mg base CX0 33 fa fd ["_law_script"] (lift K spLaw) := by
  have e := hfa.symm.trans (PySem.W.mg_of X G a36)
  cases e
  have F0 := fun_mk (st := s_is_whole) l0 c0 k0
  have b0 := F0.binds (ps := ["thing"]) fun _ _ _ _ _ _ us hl => by obtain ⟨_, rfl⟩ := len_1 hl; rfl
  have F1 := fun_mk (st := s_has_spots) l1 c1 k1
  have b1 := F1.binds (ps := ["box"]) fun _ _ _ _ _ _ us hl => by obtain ⟨_, rfl⟩ := len_1 hl; rfl
  have F2 := fun_mk (st := s_has) l2 c2 k2
  have b2 := F2.binds (ps := ["box", "spot"]) fun _ _ _ _ _ _ us hl => by obtain ⟨_, _, rfl⟩ := len_2 hl; rfl
  have F3 := fun_mk (st := s_has_all) l3 c3 k3
  have b3 := F3.binds (ps := ["box", "other"]) fun _ _ _ _ _ _ us hl => by obtain ⟨_, _, rfl⟩ := len_2 hl; rfl
  have F4 := fun_mk (st := s_steps_to) l4 c4 k4
  have b4 := F4.binds (ps := ["box", "spot"]) fun _ _ _ _ _ _ us hl => by obtain ⟨_, _, rfl⟩ := len_2 hl; rfl
  have F5 := fun_mk (st := s_steps_between) l5 c5 k5
  have b5 := F5.binds (ps := ["one", "other"]) fun _ _ _ _ _ _ us hl => by obtain ⟨_, _, rfl⟩ := len_2 hl; rfl
  have F6 := fun_mk (st := s_gap) l6 c6 k6
  have b6 := F6.binds (ps := ["one", "other", "way"]) fun _ _ _ _ _ _ us hl => by obtain ⟨_, _, _, rfl⟩ := len_3 hl; rfl
  have F7 := fun_mk (st := s_up_to) l7 c7 k7
  have b7 := F7.binds (ps := ["box", "way", "at"]) fun _ _ _ _ _ _ us hl => by obtain ⟨_, _, _, rfl⟩ := len_3 hl; rfl
  have F8 := fun_mk (st := s_onward_from) l8 c8 k8
  have b8 := F8.binds (ps := ["box", "way", "at"]) fun _ _ _ _ _ _ us hl => by obtain ⟨_, _, _, rfl⟩ := len_3 hl; rfl
  have F9 := fun_mk (st := s_common) l9 c9 k9
  have b9 := F9.binds (ps := ["one", "other"]) fun _ _ _ _ _ _ us hl => by obtain ⟨_, _, rfl⟩ := len_2 hl; rfl
  have F10 := fun_mk (st := s_cut_out) l10 c10 k10
  have b10 := F10.binds (ps := ["one", "other"]) fun _ _ _ _ _ _ us hl => by obtain ⟨_, _, rfl⟩ := len_2 hl; rfl
  have F11 := fun_mk (st := s_left_over) l11 c11 k11
  have b11 := F11.binds (ps := ["box", "others"]) fun _ _ _ _ _ _ us hl => by obtain ⟨_, _, rfl⟩ := len_2 hl; rfl
  have F12 := fun_mk (st := s_covered) l12 c12 k12
  have b12 := F12.binds (ps := ["shape", "box"]) fun _ _ _ _ _ _ us hl => by obtain ⟨_, _, rfl⟩ := len_2 hl; rfl
  have F13 := fun_mk (st := s_cover_of) l13 c13 k13
  have b13 := F13.binds (ps := ["shape", "box"]) fun _ _ _ _ _ _ us hl => by obtain ⟨_, _, rfl⟩ := len_2 hl; rfl
  have F14 := fun_mk (st := s_cut_places) l14 c14 k14
  have b14 := F14.binds (ps := ["shape", "box", "way"]) fun _ _ _ _ _ _ us hl => by obtain ⟨_, _, _, rfl⟩ := len_3 hl; rfl
  have F15 := fun_mk (st := s_holds_cover) l15 c15 k15
  have b15 := F15.binds (ps := ["shape", "box", "thing"]) fun _ _ _ _ _ _ us hl => by obtain ⟨_, _, _, rfl⟩ := len_3 hl; rfl
  have F16 := fun_mk (st := s_is_number_of) l16 c16 k16
  have b16 := F16.binds (ps := ["shape", "k"]) fun _ _ _ _ _ _ us hl => by obtain ⟨_, _, rfl⟩ := len_2 hl; rfl
  have F17 := fun_mk (st := s_cuts) l17 c17 k17
  have b17 := F17.binds (ps := ["box", "way", "at"]) fun _ _ _ _ _ _ us hl => by obtain ⟨_, _, _, rfl⟩ := len_3 hl; rfl
  have F18 := fun_mk (st := s_pen) l18 c18 k18
  have b18 := F18.binds (ps := ["_law_script", "_law_k"]) fun _ _ _ _ _ _ us hl => by obtain ⟨_, _, rfl⟩ := len_2 hl; rfl
  have F19 := fun_mk (st := s_draw) l19 c19 k19
  have b19 := F19.binds (ps := ["_law_pen_here", "_law_many"]) fun _ _ _ _ _ _ us hl => by obtain ⟨_, _, rfl⟩ := len_2 hl; rfl
  have F20 := fun_mk (st := s_hole) l20 c20 k20
  have b20 := F20.binds (ps := ["_law_pen_here"]) fun _ _ _ _ _ _ us hl => by obtain ⟨_, rfl⟩ := len_1 hl; rfl
  have F21 := fun_mk (st := s_box) l21 c21 k21
  have b21 := F21.binds (ps := ["_law_pen_here", "_law_box_here"]) fun _ _ _ _ _ _ us hl => by obtain ⟨_, _, rfl⟩ := len_2 hl; rfl
  have F22 := fun_mk (st := s_boxes) l22 c22 k22
  have b22 := F22.binds (ps := ["_law_pen_here"]) fun _ _ _ _ _ _ us hl => by obtain ⟨_, rfl⟩ := len_1 hl; rfl
  have F23 := fun_mk (st := s_l_frame) l23 c23 k23
  have b23 := F23.binds (ps := ["_law_pen_here"]) fun _ _ _ _ _ _ us hl => by obtain ⟨_, rfl⟩ := len_1 hl; rfl
  have F24 := fun_mk (st := s_laid) l24 c24 k24
  have b24 := F24.binds (ps := ["_law_boxes_here", "_law_frame_here"]) fun _ _ _ _ _ _ us hl => by obtain ⟨_, _, rfl⟩ := len_2 hl; rfl
  have F25 := fun_mk (st := s_cells) l25 c25 k25
  have b25 := F25.binds (ps := ["_law_boxes_here"]) fun _ _ _ _ _ _ us hl => by obtain ⟨_, rfl⟩ := len_1 hl; rfl
  have F26 := fun_mk (st := s_l_has) l26 c26 k26
  have b26 := F26.binds (ps := ["_law_one", "_law_box_here"]) fun _ _ _ _ _ _ us hl => by obtain ⟨_, _, rfl⟩ := len_2 hl; rfl
  have F27 := fun_mk (st := s_parts) l27 c27 k27
  have b27 := F27.binds (ps := ["_law_box_here", "_law_way", "_law_at"]) fun _ _ _ _ _ _ us hl => by obtain ⟨_, _, _, rfl⟩ := len_3 hl; rfl
  have F28 := fun_mk (st := s_whole) l28 c28 k28
  have b28 := F28.binds (ps := ["_law_thing"]) fun _ _ _ _ _ _ us hl => by obtain ⟨_, rfl⟩ := len_1 hl; rfl
  have F29 := fun_mk (st := s_leaf_holds) l29 c29 k29
  have b29 := F29.binds (ps := ["_law_shape", "_law_box_here", "_law_paper"]) fun _ _ _ _ _ _ us hl => by obtain ⟨_, _, _, rfl⟩ := len_3 hl; rfl
  have F30 := fun_mk (st := s_holds) l30 c30 k30
  have b30 := F30.binds (ps := ["_law_shape", "_law_box_here", "_law_thing"]) fun _ _ _ _ _ _ us hl => by obtain ⟨_, _, _, rfl⟩ := len_3 hl; rfl
  have F31 := fun_mk (st := s_missing) l31 c31 k31
  have b31 := F31.binds (ps := ["_law_cells_here", "_law_frame_here", "_law_box_here"]) fun _ _ _ _ _ _ us hl => by obtain ⟨_, _, _, rfl⟩ := len_3 hl; rfl
  have F32 := fun_mk (st := s_in) l32 c32 k32
  have b32 := F32.binds (ps := ["_law_pen_here", "_law_box_here"]) fun _ _ _ _ _ _ us hl => by obtain ⟨_, _, rfl⟩ := len_2 hl; rfl
  have F33 := fun_mk (st := s_asked) l33 c33 k33
  have b33 := F33.binds (ps := ["_law_pen_here", "_law_shape"]) fun _ _ _ _ _ _ us hl => by obtain ⟨_, _, rfl⟩ := len_2 hl; rfl
  have F34 := fun_mk (st := s_deep) l34 c34 k34
  have b34 := F34.binds (ps := ["_law_paper"]) fun _ _ _ _ _ _ us hl => by obtain ⟨_, rfl⟩ := len_1 hl; rfl
  have F35 := fun_mk (st := s_no) l35 c35 k35
  have b35 := F35.binds (ps := ["_law_found", "_law_due"]) fun _ _ _ _ _ _ us hl => by obtain ⟨_, _, rfl⟩ := len_2 hl; rfl
  have F36 := fun_mk (st := s_law) l36 c36 k36
  have b36 := F36.binds (ps := ["_law_script"]) fun _ _ _ _ _ _ us hl => by obtain ⟨_, rfl⟩ := len_1 hl; rfl
  let T : Tx K mg := ⟨_, _, ⟨F0, PySem.W.mg_of X G a0, b0⟩, _, _, ⟨F1, PySem.W.mg_of X G a1, b1⟩, _, _, ⟨F2, PySem.W.mg_of X G a2, b2⟩, _, _, ⟨F3, PySem.W.mg_of X G a3, b3⟩, _, _, ⟨F4, PySem.W.mg_of X G a4, b4⟩, _, _, ⟨F5, PySem.W.mg_of X G a5, b5⟩, _, _, ⟨F6, PySem.W.mg_of X G a6, b6⟩, _, _, ⟨F7, PySem.W.mg_of X G a7, b7⟩, _, _, ⟨F8, PySem.W.mg_of X G a8, b8⟩, _, _, ⟨F9, PySem.W.mg_of X G a9, b9⟩, _, _, ⟨F10, PySem.W.mg_of X G a10, b10⟩, _, _, ⟨F11, PySem.W.mg_of X G a11, b11⟩, _, _, ⟨F12, PySem.W.mg_of X G a12, b12⟩, _, _, ⟨F13, PySem.W.mg_of X G a13, b13⟩, _, _, ⟨F14, PySem.W.mg_of X G a14, b14⟩, _, _, ⟨F15, PySem.W.mg_of X G a15, b15⟩, _, _, ⟨F16, PySem.W.mg_of X G a16, b16⟩, _, _, ⟨F17, PySem.W.mg_of X G a17, b17⟩, _, _, ⟨F18, PySem.W.mg_of X G a18, b18⟩, _, _, ⟨F19, PySem.W.mg_of X G a19, b19⟩, _, _, ⟨F20, PySem.W.mg_of X G a20, b20⟩, _, _, ⟨F21, PySem.W.mg_of X G a21, b21⟩, _, _, ⟨F22, PySem.W.mg_of X G a22, b22⟩, _, _, ⟨F23, PySem.W.mg_of X G a23, b23⟩, _, _, ⟨F24, PySem.W.mg_of X G a24, b24⟩, _, _, ⟨F25, PySem.W.mg_of X G a25, b25⟩, _, _, ⟨F26, PySem.W.mg_of X G a26, b26⟩, _, _, ⟨F27, PySem.W.mg_of X G a27, b27⟩, _, _, ⟨F28, PySem.W.mg_of X G a28, b28⟩, _, _, ⟨F29, PySem.W.mg_of X G a29, b29⟩, _, _, ⟨F30, PySem.W.mg_of X G a30, b30⟩, _, _, ⟨F31, PySem.W.mg_of X G a31, b31⟩, _, _, ⟨F32, PySem.W.mg_of X G a32, b32⟩, _, _, ⟨F33, PySem.W.mg_of X G a33, b33⟩, _, _, ⟨F34, PySem.W.mg_of X G a34, b34⟩, _, _, ⟨F35, PySem.W.mg_of X G a35, b35⟩, _, _, ⟨F36, PySem.W.mg_of X G a36, b36⟩, PySem.W.mg_none_of X G z0, PySem.W.mg_none_of X G z1, PySem.W.mg_none_of X G z2, PySem.W.mg_none_of X G z3, PySem.W.mg_none_of X G z4, PySem.W.mg_none_of X G z5, PySem.W.mg_none_of X G z6, PySem.W.mg_none_of X G z7, PySem.W.mg_none_of X G z8, PySem.W.mg_none_of X G z9, PySem.W.mg_none_of X G z10⟩
  exact ⟨_, fun s v => .of_eq rfl, fun base _ _ => ok_law T⟩
theorem walk {l : PySem.W.OpenLaw} {q : Program} {loose : List Str} {XP : (Str → Option Value) → Heap → Prop} {YP : World → Heap → Prop} {d : DefRec} {K : Params → PySem.W.Frag} (hn : l.most = some 63) (hdf : d.params.defaults = [])
    (hY : ∀ (w : World) (h : Heap), YP w h → (K w.params).In h)
    (F : ∀ (w : World) (mg : Str → Option Value) (fa : Addr) (h : Heap), (K w.params).In h → h.Ns mainGlobals mg → mg d.name = some (.ref fa) →
      ∃ fd : FuncData, (∀ (s : Shared) (u : Value), BindsTo s fd ⟨[u], []⟩ [("_law_script", u)]) ∧ ∀ base : Heap, (K w.params).In base → base.Ns mainGlobals mg → FnOk l.prog w (K w.params) mg base CX0 33 fa fd ["_law_script"] (lift (K w.params) spLaw)) :
    PySem.W.WalkO q loose XP YP l.row.toRowW d [] (fun f vs => PySem.call f vs) :=
  L2.walk_of (n := 63) (k := 33) (x := "_law_script") (CX := fun _ => CX0) (sp := fun w => lift (K w.params) spLaw) hn (by decide) hdf ⟨rfl, by decide, by decide, rfl⟩ hY F
    (fun w H a ns hl hO hS => law_start hl hO hS) fun _ _ _ _ _ z => z
end My
theorem PySem.W.Fast.tw3273828126632619192 : True := trivial
theorem PySem.W.Fast.tw6078653073982698091 : True := trivial
theorem PySem.W.Fast.tw3872762339097364786 : True := trivial
theorem PySem.W.Fast.tw5253222423313143503 : True := trivial
theorem PySem.W.Fast.tw8046234050492507285 : True := trivial
theorem PySem.W.Fast.tw7387416418854191089 : True := trivial
theorem PySem.W.Fast.tw4722577633694227722 : True := trivial
theorem PySem.W.Fast.tw436638274013783726 : True := trivial
theorem PySem.W.Fast.tw8603026807727911544 : True := trivial
theorem PySem.W.Fast.tw3145792712754588366 : True := trivial
theorem PySem.W.Fast.tw3032238457828821906 : True := trivial
theorem PySem.W.Fast.tw11143256119741784617 : True := trivial
theorem PySem.W.Fast.tw1065113263272644123 : True := trivial
theorem PySem.W.Fast.tw11910100908354460999 : True := trivial
theorem PySem.W.Fast.tw9030582168460273998 : True := trivial
theorem PySem.W.Fast.tw10889581598888091173 : True := trivial
theorem PySem.W.Fast.tw6866556261262815895 : True := trivial
theorem PySem.W.Fast.tw9232365974914976982 : True := trivial
theorem PySem.W.Fast.tw8005445418071675372 : True := trivial
theorem PySem.W.Fast.tw2389352262761128442 : True := trivial
theorem PySem.W.Fast.tw3447438294974613554 : True := trivial
theorem PySem.W.Fast.tw14978336322547785157 : True := trivial
theorem PySem.W.Fast.tw831061914025980640 : True := trivial
theorem PySem.W.Fast.tw3480756738909638516 : True := trivial
theorem PySem.W.Fast.tw13575978914508979488 : True := trivial
theorem PySem.W.Fast.tw7291134513172945933 : True := trivial
theorem PySem.W.Fast.tw4026203357641276480 : True := trivial
theorem PySem.W.Fast.tw7713764159363159585 : True := trivial
theorem PySem.W.Fast.tw17945027726028814250 : True := trivial
theorem PySem.W.Fast.tw11400710334635557026 : True := trivial
theorem PySem.W.Fast.tw16432447748641515874 : True := trivial
theorem PySem.W.Fast.tw5280128214661021694 : True := trivial
theorem PySem.W.Fast.tw10181624991901459575 : True := trivial
theorem PySem.W.Fast.tw15943016205965612910 : True := trivial
theorem PySem.W.Fast.tw8351491517622268498 : True := trivial
theorem PySem.W.Fast.tw9238003509788944594 : True := trivial
theorem PySem.W.Fast.tw12704040719841421584 : True := trivial
theorem PySem.W.Fast.tw14812583233122905952 : True := trivial
theorem PySem.W.Fast.tw3770013914685235943 : True := trivial
theorem PySem.W.Fast.tw15338763845349448044 : True := trivial
theorem PySem.W.Fast.tw16104672819843647379 : True := trivial
theorem PySem.W.Fast.tw11521303128850878898 : True := trivial
theorem PySem.W.Fast.tw8266335286477271405 : True := trivial
theorem PySem.W.Fast.tw14452251126766954035 : True := trivial
theorem PySem.W.Fast.tw11589347700198167424 : True := trivial
theorem PySem.W.Fast.tw8365179964818932602 : True := trivial
theorem PySem.W.Fast.tw1789228555945814751 : True := trivial
theorem PySem.W.Fast.tw10638105413534101935 : True := trivial
theorem PySem.W.Fast.tw10545201519591775923 : True := trivial
theorem PySem.W.Fast.tw14243208159586486469 : True := trivial
theorem PySem.W.Fast.tw17305676439078419594 : True := trivial
theorem PySem.W.Fast.tw1298198695865943106 : True := trivial
theorem PySem.W.Fast.tw10448176205611323237 : True := trivial
theorem PySem.W.Fast.tw376032609832688878 : True := trivial
theorem PySem.W.Fast.tw7330297653733593297 : True := trivial
theorem PySem.W.Fast.tw16704974600492400187 : True := trivial
theorem PySem.W.Fast.tw5117153278928688644 : True := trivial
theorem PySem.W.Fast.tw2607733362900855517 : True := trivial
theorem PySem.W.Fast.tw13649534340057091441 : True := trivial
theorem PySem.W.Fast.tw970284773164588930 : True := trivial
theorem PySem.W.Fast.tw12527766875250798910 : True := trivial
theorem PySem.W.Fast.tw9712884990505151731 : True := trivial
theorem PySem.W.Fast.tw10857911109009928782 : True := trivial
theorem PySem.W.Fast.tw4760183833785037751 : True := trivial
theorem PySem.W.Fast.tw9962526334815509553 : True := trivial
theorem PySem.W.Fast.tw1062474754336007939 : True := trivial
theorem PySem.W.Fast.tw6964497188708018690 : True := trivial
theorem PySem.W.Fast.tw7309029971082734522 : True := trivial
theorem PySem.W.Fast.tw9807761220800547126 : True := trivial
theorem PySem.W.Fast.tw4177903853769321517 : True := trivial
theorem PySem.W.Fast.tw5421160511915152221 : True := trivial
theorem PySem.W.Fast.tw932007755472255796 : True := trivial
theorem PySem.W.Fast.tw12548175244936011230 : True := trivial
theorem PySem.W.Fast.tw4679709503380268099 : True := trivial
theorem PySem.W.Fast.tw912153138865043948 : True := trivial
theorem PySem.W.Fast.tw693305928569540491 : True := trivial
theorem PySem.W.Fast.tw10342825394601671859 : True := trivial
theorem PySem.W.Fast.tw11519074753633343001 : True := trivial
theorem PySem.W.Fast.tw12582633242477651635 : True := trivial
theorem PySem.W.Fast.tw8278645953951848472 : True := trivial
theorem PySem.W.Fast.tw11706909642570808011 : True := trivial
theorem PySem.W.Fast.tw491374047228987743 : True := trivial
theorem PySem.W.Fast.tw2622195489909712992 : True := trivial
theorem PySem.W.Fast.tw3744053819035901813 : True := trivial
theorem PySem.W.Fast.tw247577452390299255 : True := trivial
theorem PySem.W.Fast.tw10672203304705309319 : True := trivial
theorem PySem.W.Fast.tw7194500004328154985 : True := trivial
theorem PySem.W.Fast.tw18024093858387553897 : True := trivial
theorem PySem.W.Fast.tw5482883229886834221 : True := trivial
theorem PySem.W.Fast.tw1195525423143423065 : True := trivial
theorem PySem.W.Fast.tw1423362746782581403 : True := trivial
theorem PySem.W.Fast.tw4587587195113381032 : True := trivial
theorem PySem.W.Fast.tw2956626507860479927 : True := trivial
theorem PySem.W.Fast.tw12597024224442612901 : True := trivial
theorem PySem.W.Fast.tw14473509091048656197 : True := trivial
theorem PySem.W.Fast.tw12291090873773862693 : True := trivial
theorem PySem.W.Fast.tw15995585321179516398 : True := trivial
theorem PySem.W.Fast.tw1254248778718226076 : True := trivial
theorem PySem.W.Fast.tw14349796807957663735 : True := trivial
theorem PySem.W.Fast.tw13512663831417736437 : True := trivial
theorem PySem.W.Fast.tw15147635224498470681 : True := trivial
theorem PySem.W.Fast.tw456198657145203456 : True := trivial
theorem PySem.W.Fast.tw13050448165062287934 : True := trivial
theorem PySem.W.Fast.tw7560434535454428201 : True := trivial
theorem PySem.W.Fast.tw9660712240624079189 : True := trivial
theorem PySem.W.Fast.tw7619515581131701940 : True := trivial
theorem PySem.W.Fast.tw8665809313567554132 : True := trivial
theorem PySem.W.Fast.tw7692006019801392597 : True := trivial
theorem PySem.W.Fast.tw11417443715503795389 : True := trivial
theorem PySem.W.Fast.tw9062601484266400760 : True := trivial
theorem PySem.W.Fast.tw6514192871153380399 : True := trivial
theorem PySem.W.Fast.tw4573395275170716222 : True := trivial
theorem PySem.W.Fast.tw4879175298362773757 : True := trivial
theorem PySem.W.Fast.tw2259018122769214431 : True := trivial
theorem PySem.W.Fast.tw8906732181292473089 : True := trivial
theorem PySem.W.Fast.tw4322953663320173049 : True := trivial
theorem PySem.W.Fast.tw5366644996632478248 : True := trivial
theorem PySem.W.Fast.tw12421176516852548553 : True := trivial
theorem PySem.W.Fast.tw6607608402545900339 : True := trivial
theorem PySem.W.Fast.tw15706214399649670025 : True := trivial
theorem PySem.W.Fast.tw15048292381359500642 : True := trivial
theorem PySem.W.Fast.tw10395852004434940577 : True := trivial
theorem PySem.W.Fast.tw5445936085464806446 : True := trivial
theorem PySem.W.Fast.tw10139167789691776255 : True := trivial
theorem PySem.W.Fast.tw15610101324220329389 : True := trivial
theorem PySem.W.Fast.tw17948371975301568117 : True := trivial
theorem PySem.W.Fast.tw6204822858862981794 : True := trivial
theorem PySem.W.Fast.tw2378918869465468176 : True := trivial
theorem PySem.W.Fast.tw3568461470581230318 : True := trivial
theorem PySem.W.Fast.tw11408612531609892316 : True := trivial
theorem PySem.W.Fast.tw3268036014831117915 : True := trivial
theorem PySem.W.Fast.tw11595078349167174035 : True := trivial
theorem PySem.W.Fast.tw4399406004470378592 : True := trivial
theorem PySem.W.Fast.tw792399278588728083 : True := trivial
theorem PySem.W.Fast.tw15570702260289563733 : True := trivial
theorem PySem.W.Fast.tw2658154218190907328 : True := trivial
theorem PySem.W.Fast.tw4137709434170213658 : True := trivial
theorem PySem.W.Fast.tw13687411775289318133 : True := trivial
theorem PySem.W.Fast.tw2269740536540158376 : True := trivial
theorem PySem.W.Fast.tw4585645022060632948 : True := trivial
theorem PySem.W.Fast.tw11994868922692649221 : True := trivial
theorem PySem.W.Fast.tw17474506261968916347 : True := trivial
theorem PySem.W.Fast.tw11655927050193536438 : True := trivial
theorem PySem.W.Fast.tw12655370200384268124 : True := trivial
theorem PySem.W.Fast.tw2862127147719124273 : True := trivial
theorem PySem.W.Fast.tw15811781310562217919 : True := trivial
theorem PySem.W.Fast.tw9341705564286583722 : True := trivial
theorem PySem.W.Fast.tw1017189178788894246 : True := trivial
theorem PySem.W.Fast.tw15401479144490067188 : True := trivial
theorem PySem.W.Fast.tw10596914400906160900 : True := trivial
theorem PySem.W.Fast.tw18172955060536281516 : True := trivial
theorem PySem.W.Fast.tw4549662175262792445 : True := trivial
theorem PySem.W.Fast.tw9228313813542949753 : True := trivial
theorem PySem.W.Fast.tw4435086937266204500 : True := trivial
theorem PySem.W.Fast.tw5941059708844737169 : True := trivial
theorem PySem.W.Fast.tw10678181450243036462 : True := trivial
theorem PySem.W.Fast.tw3819216415073324440 : True := trivial
theorem PySem.W.Fast.tw8246207209655870183 : True := trivial
theorem PySem.W.Fast.tw13542683775785308544 : True := trivial
theorem PySem.W.Fast.tw3957269352740827169 : True := trivial
theorem PySem.W.Fast.tw9635242028505541069 : True := trivial
theorem PySem.W.Fast.tw15944371409493700301 : True := trivial
theorem PySem.W.Fast.tw845498745953144539 : True := trivial
theorem PySem.W.Fast.tw12670184869409813822 : True := trivial
theorem PySem.W.Fast.tw9297663776036092669 : True := trivial
theorem PySem.W.Fast.tw17038934057067305817 : True := trivial
theorem PySem.W.Fast.tw1147900159494347557 : True := trivial
theorem PySem.W.Fast.tw6735152986586133025 : True := trivial
theorem PySem.W.Fast.tw16013398201102408350 : True := trivial
theorem PySem.W.Fast.tw1935473893017647186 : True := trivial
theorem PySem.W.Fast.tw10702677595372582420 : True := trivial
theorem PySem.W.Fast.tw8333056278587104992 : True := trivial
theorem PySem.W.Fast.tw11926910748746229530 : True := trivial
theorem PySem.W.Fast.tw6026275158819038839 : True := trivial
theorem PySem.W.Fast.tw16257201246941437022 : True := trivial
theorem PySem.W.Fast.tw8439955538834096615 : True := trivial
theorem PySem.W.Fast.tw17396677636283102501 : True := trivial
theorem PySem.W.Fast.tw15683999849246521706 : True := trivial
theorem PySem.W.Fast.tw7542859658508841060 : True := trivial
theorem PySem.W.Fast.tw8357204559187208349 : True := trivial
theorem PySem.W.Fast.tw9926142566653597911 : True := trivial
theorem PySem.W.Fast.tw1200813334934758739 : True := trivial
theorem PySem.W.Fast.tw16397147857945928321 : True := trivial
theorem PySem.W.Fast.tw8474568512066868041 : True := trivial
theorem PySem.W.Fast.tw5636108915113125915 : True := trivial
theorem PySem.W.Fast.tw17534280007503317431 : True := trivial
theorem PySem.W.Fast.tw6857716534481147478 : True := trivial
theorem PySem.W.Fast.tw12526557706641514576 : True := trivial
theorem PySem.W.Fast.tw17929666912559383640 : True := trivial
theorem PySem.W.Fast.tw17936923451224085696 : True := trivial
theorem PySem.W.Fast.tw289495879913821047 : True := trivial
theorem PySem.W.Fast.tw3466757590370475028 : True := trivial
theorem PySem.W.Fast.tw9527651790664908206 : True := trivial
theorem PySem.W.Fast.tw13218858794878626142 : True := trivial
theorem PySem.W.Fast.tw6096249050555819298 : True := trivial
theorem PySem.W.Fast.tw14381887563705123672 : True := trivial
theorem PySem.W.Fast.tw13449887914927217205 : True := trivial
theorem PySem.W.Fast.tw12234034613831046870 : True := trivial
theorem PySem.W.Fast.tw15162875777477011393 : True := trivial
theorem PySem.W.Fast.tw7723649240914661819 : True := trivial
theorem PySem.W.Fast.tw10614044744438176025 : True := trivial
theorem PySem.W.Fast.tw1493103129279833857 : True := trivial
theorem PySem.W.Fast.tw7381837989429513449 : True := trivial
theorem PySem.W.Fast.tw9473614525217776655 : True := trivial
theorem PySem.W.Fast.tw8634592403918997442 : True := trivial
theorem PySem.W.Fast.tw13507049340699284787 : True := trivial
theorem PySem.W.Fast.tw12230780395802824099 : True := trivial
theorem PySem.W.Fast.tw12805511189040030763 : True := trivial
theorem PySem.W.Fast.tw7753707658955832419 : True := trivial
theorem PySem.W.Fast.tw4128026539998295232 : True := trivial
theorem PySem.W.Fast.tw1457518289622500100 : True := trivial
theorem PySem.W.Fast.tw12469450279109177971 : True := trivial
theorem PySem.W.Fast.tw15007824310111178950 : True := trivial
theorem PySem.W.Fast.tw3738691707800272792 : True := trivial
theorem PySem.W.Fast.tw2110743615818532230 : True := trivial
theorem PySem.W.Fast.tw9618222791276191568 : True := trivial
theorem PySem.W.Fast.tw9730432049937906110 : True := trivial
theorem PySem.W.Fast.tw6304567671414256989 : True := trivial
theorem PySem.W.Fast.tw3914763898861849679 : True := trivial
theorem PySem.W.Fast.tw9651910513514333513 : True := trivial
theorem PySem.W.Fast.tw18132133818736561041 : True := trivial
theorem PySem.W.Fast.tw5862232217166155871 : True := trivial
theorem PySem.W.Fast.tw3831843783589796329 : True := trivial
theorem PySem.W.Fast.tw17247535270021075299 : True := trivial
theorem PySem.W.Fast.tw15731626762658146670 : True := trivial
theorem PySem.W.Fast.tw802434481513075908 : True := trivial
theorem PySem.W.Fast.tw8366647645760033329 : True := trivial
theorem PySem.W.Fast.tw9520962664353441639 : True := trivial
theorem PySem.W.Fast.tw5429875170930299496 : True := trivial
theorem PySem.W.Fast.tw3239054340550885743 : True := trivial
theorem PySem.W.Fast.tw3788101302327745750 : True := trivial
open PySem PySem.W PyProof.Rows
set_option maxRecDepth 100000 in
set_option maxHeartbeats 0 in
theorem PySem.Challenge.cw_landsentered_k10_covered_or_not_holds : PySem.Challenge.rw_landsentered_k10_covered_or_not.Holds := by
  w_on; o_law; k_head; (case hw => w_witness2)
  k_fill
  refine My.walk (l := PySem.Challenge.rw_landsentered_k10_covered_or_not) rfl rfl (fun w h Y => PySem.W.kIn_of Y) ?F
  case F =>
    intro w mg fa h KX G hmg
    refine' My.all_mk KX G hmg ?a0 ?l0 ?c0 ?k0 ?a1 ?l1 ?c1 ?k1 ?a2 ?l2 ?c2 ?k2 ?a3 ?l3 ?c3 ?k3 ?a4 ?l4 ?c4 ?k4 ?a5 ?l5 ?c5 ?k5 ?a6 ?l6 ?c6 ?k6 ?a7 ?l7 ?c7 ?k7 ?a8 ?l8 ?c8 ?k8 ?a9 ?l9 ?c9 ?k9 ?a10 ?l10 ?c10 ?k10 ?a11 ?l11 ?c11 ?k11 ?a12 ?l12 ?c12 ?k12 ?a13 ?l13 ?c13 ?k13 ?a14 ?l14 ?c14 ?k14 ?a15 ?l15 ?c15 ?k15 ?a16 ?l16 ?c16 ?k16 ?a17 ?l17 ?c17 ?k17 ?a18 ?l18 ?c18 ?k18 ?a19 ?l19 ?c19 ?k19 ?a20 ?l20 ?c20 ?k20 ?a21 ?l21 ?c21 ?k21 ?a22 ?l22 ?c22 ?k22 ?a23 ?l23 ?c23 ?k23 ?a24 ?l24 ?c24 ?k24 ?a25 ?l25 ?c25 ?k25 ?a26 ?l26 ?c26 ?k26 ?a27 ?l27 ?c27 ?k27 ?a28 ?l28 ?c28 ?k28 ?a29 ?l29 ?c29 ?k29 ?a30 ?l30 ?c30 ?k30 ?a31 ?l31 ?c31 ?k31 ?a32 ?l32 ?c32 ?k32 ?a33 ?l33 ?c33 ?k33 ?a34 ?l34 ?c34 ?k34 ?a35 ?l35 ?c35 ?k35 ?a36 ?l36 ?c36 ?k36 ?z0 ?z1 ?z2 ?z3 ?z4 ?z5 ?z6 ?z7 ?z8 ?z9 ?z10
    (case a0 => k_is)
    (case l0 => k_is)
    (case c0 => k_is)
    (case k0 => k_is)
    (case a1 => k_is)
    (case l1 => k_is)
    (case c1 => k_is)
    (case k1 => k_is)
    (case a2 => k_is)
    (case l2 => k_is)
    (case c2 => k_is)
    (case k2 => k_is)
    (case a3 => k_is)
    (case l3 => k_is)
    (case c3 => k_is)
    (case k3 => k_is)
    (case a4 => k_is)
    (case l4 => k_is)
    (case c4 => k_is)
    (case k4 => k_is)
    (case a5 => k_is)
    (case l5 => k_is)
    (case c5 => k_is)
    (case k5 => k_is)
    (case a6 => k_is)
    (case l6 => k_is)
    (case c6 => k_is)
    (case k6 => k_is)
    (case a7 => k_is)
    (case l7 => k_is)
    (case c7 => k_is)
    (case k7 => k_is)
    (case a8 => k_is)
    (case l8 => k_is)
    (case c8 => k_is)
    (case k8 => k_is)
    (case a9 => k_is)
    (case l9 => k_is)
    (case c9 => k_is)
    (case k9 => k_is)
    (case a10 => k_is)
    (case l10 => k_is)
    (case c10 => k_is)
    (case k10 => k_is)
    (case a11 => k_is)
    (case l11 => k_is)
    (case c11 => k_is)
    (case k11 => k_is)
    (case a12 => k_is)
    (case l12 => k_is)
    (case c12 => k_is)
    (case k12 => k_is)
    (case a13 => k_is)
    (case l13 => k_is)
    (case c13 => k_is)
    (case k13 => k_is)
    (case a14 => k_is)
    (case l14 => k_is)
    (case c14 => k_is)
    (case k14 => k_is)
    (case a15 => k_is)
    (case l15 => k_is)
    (case c15 => k_is)
    (case k15 => k_is)
    (case a16 => k_is)
    (case l16 => k_is)
    (case c16 => k_is)
    (case k16 => k_is)
    (case a17 => k_is)
    (case l17 => k_is)
    (case c17 => k_is)
    (case k17 => k_is)
    (case a18 => k_is)
    (case l18 => k_is)
    (case c18 => k_is)
    (case k18 => k_is)
    (case a19 => k_is)
    (case l19 => k_is)
    (case c19 => k_is)
    (case k19 => k_is)
    (case a20 => k_is)
    (case l20 => k_is)
    (case c20 => k_is)
    (case k20 => k_is)
    (case a21 => k_is)
    (case l21 => k_is)
    (case c21 => k_is)
    (case k21 => k_is)
    (case a22 => k_is)
    (case l22 => k_is)
    (case c22 => k_is)
    (case k22 => k_is)
    (case a23 => k_is)
    (case l23 => k_is)
    (case c23 => k_is)
    (case k23 => k_is)
    (case a24 => k_is)
    (case l24 => k_is)
    (case c24 => k_is)
    (case k24 => k_is)
    (case a25 => k_is)
    (case l25 => k_is)
    (case c25 => k_is)
    (case k25 => k_is)
    (case a26 => k_is)
    (case l26 => k_is)
    (case c26 => k_is)
    (case k26 => k_is)
    (case a27 => k_is)
    (case l27 => k_is)
    (case c27 => k_is)
    (case k27 => k_is)
    (case a28 => k_is)
    (case l28 => k_is)
    (case c28 => k_is)
    (case k28 => k_is)
    (case a29 => k_is)
    (case l29 => k_is)
    (case c29 => k_is)
    (case k29 => k_is)
    (case a30 => k_is)
    (case l30 => k_is)
    (case c30 => k_is)
    (case k30 => k_is)
    (case a31 => k_is)
    (case l31 => k_is)
    (case c31 => k_is)
    (case k31 => k_is)
    (case a32 => k_is)
    (case l32 => k_is)
    (case c32 => k_is)
    (case k32 => k_is)
    (case a33 => k_is)
    (case l33 => k_is)
    (case c33 => k_is)
    (case k33 => k_is)
    (case a34 => k_is)
    (case l34 => k_is)
    (case c34 => k_is)
    (case k34 => k_is)
    (case a35 => k_is)
    (case l35 => k_is)
    (case c35 => k_is)
    (case k35 => k_is)
    (case a36 => k_is)
    (case l36 => k_is)
    (case c36 => k_is)
    (case k36 => k_is)
    (case z0 => k_is)
    (case z1 => k_is)
    (case z2 => k_is)
    (case z3 => k_is)
    (case z4 => k_is)
    (case z5 => k_is)
    (case z6 => k_is)
    (case z7 => k_is)
    (case z8 => k_is)
    (case z9 => k_is)
    (case z10 => k_is)

