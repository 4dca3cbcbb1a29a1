import PyProof.Rows.All
import Wide.All
import OpenK.AllK
import Wide.FinOn
import Lean
import PyProof.EqAt
import PyProof.EqKinds
import PyProof.TupleCall
import PyProof.ReprRoads
import PyProof.EqLayable
import PyProof.NeData
import PyProof.Rows.TupDisplay
import PySem.Challenge.RW_landsentered_k17_what_is_a_telling
set_option Elab.async false
set_option linter.all false
set_option maxRecDepth 100000
namespace L2
open PySem PySem.Spec PyProof.Rows

/-- a key: an int or a str -/
abbrev Key := Sum Int Str
def keyIs : Key → Value → Bool
  | .inl k, v => Value.isInt k v
  | .inr x, v => Value.isStrOf x v
def keyH (w : World) : Key → Int
  | .inl k => hashInt k
  | .inr x => hashStr w x
theorem keyIs_shape : ∀ {k : Key} {v : Value}, keyIs k v = true → (∃ i t, k = Sum.inl i ∧ v = Value.int i t) ∨ (∃ x t, k = Sum.inr x ∧ v = Value.str x t)
  | .inl i, v, h => by
    obtain ⟨t, e⟩ := Value.isInt_shape (k := i) (v := v) h
    exact .inl ⟨i, t, rfl, e⟩
  | .inr x, v, h => by
    obtain ⟨t, e⟩ := Value.isStrOf_shape (x := x) (v := v) h
    exact .inr ⟨x, t, rfl, e⟩
theorem keyIs_int (i : Int) (t : Tok) : keyIs (.inl i) (.int i t) = true := by simp [keyIs, Value.isInt]
theorem keyIs_str (x : Str) (t : Tok) : keyIs (.inr x) (.str x t) = true := by simp [keyIs, Value.isStrOf]
theorem key_ll (a b : Int) : decide ((Sum.inl a : Key) = Sum.inl b) = (a == b) := by
  by_cases e : a = b
  · subst e; simp
  · have h : ¬ (Sum.inl a : Key) = Sum.inl b := fun q => e (Sum.inl.inj q)
    rw [decide_eq_false h]
    exact (beq_eq_false_iff_ne.mpr e).symm
theorem key_rr (a b : Str) : decide ((Sum.inr a : Key) = Sum.inr b) = decide (a = b) := by
  by_cases e : a = b
  · subst e; simp
  · have h : ¬ (Sum.inr a : Key) = Sum.inr b := fun q => e (Sum.inr.inj q)
    rw [decide_eq_false h, decide_eq_false e]
theorem key_lr (a : Int) (b : Str) : decide ((Sum.inl a : Key) = Sum.inr b) = false := decide_eq_false (fun q => nomatch q)
theorem key_rl (a : Str) (b : Int) : decide ((Sum.inr a : Key) = Sum.inl b) = false := decide_eq_false (fun q => nomatch q)

def mixKind (prog : Program) (w : World) : PySem.KeyKind prog w Key where
  is := keyIs
  hash := keyH w
  inj := fun v a b ha hb => by
    rcases keyIs_shape ha with ⟨i, t, rfl, rfl⟩ | ⟨x, t, rfl, rfl⟩
    · rcases keyIs_shape hb with ⟨j, u, rfl, e⟩ | ⟨y, u, rfl, e⟩
      · injection e with e1 _; rw [e1]
      · exact nomatch e
    · rcases keyIs_shape hb with ⟨j, u, rfl, e⟩ | ⟨y, u, rfl, e⟩
      · exact nomatch e
      · injection e with e1 _; rw [e1]
  byValue := fun k v h => by
    rcases keyIs_shape h with ⟨i, t, rfl, rfl⟩ | ⟨x, t, rfl, rfl⟩ <;> rfl
  pyHash := fun hv h => by
    rcases keyIs_shape hv with ⟨i, t, rfl, rfl⟩ | ⟨x, t, rfl, rfl⟩
    · exact wpAny_pyHash_int h
    · exact wpAny_pyHash_str h
  eqBool := fun hu hv h => by
    rcases keyIs_shape hu with ⟨i, t, rfl, rfl⟩ | ⟨x, t, rfl, rfl⟩
    · rcases keyIs_shape hv with ⟨j, u, rfl, rfl⟩ | ⟨y, u, rfl, rfl⟩
      · rw [key_ll] at h; exact wpAny_eqBool_int h
      · rw [key_lr] at h; exact SeqAt.EqAt.int_str i t y u _ _ _ _ h
    · rcases keyIs_shape hv with ⟨j, u, rfl, rfl⟩ | ⟨y, u, rfl, rfl⟩
      · rw [key_rl] at h; exact SeqAt.EqAt.str_int x t j u _ _ _ _ h
      · rw [key_rr] at h; exact wpAny_eqBool_str h
  «strs» := fun k x t v h => by
    rcases keyIs_shape h with ⟨i, u, rfl, e⟩ | ⟨y, u, rfl, e⟩
    · exact nomatch e
    · injection e with e1 _
      subst e1
      cases v <;> rfl

theorem mixKind_int (prog : Program) (w : World) (i : Int) (t : Tok) : (mixKind prog w).is (.inl i) (.int i t) = true := keyIs_int i t
theorem mixKind_str (prog : Program) (w : World) (x : Str) (t : Tok) : (mixKind prog w).is (.inr x) (.str x t) = true := keyIs_str x t
end L2

namespace L2
open PySem PySem.Spec PyProof.Rows

/-- a value, without the heap -/
inductive V where
  | non | bl (b : Bool) | int (i : Int) | str (x : Str) | byt (b : Array UInt8) | flt (b : UInt64) | ref (a : Addr) | ty (n : String)
  deriving DecidableEq

def RelV : V → Value → Prop
  | .non, u => u = Value.none
  | .bl b, u => u = Value.bool b
  | .int i, u => ∃ t, u = Value.int i t
  | .str x, u => ∃ t, u = Value.str x t
  | .byt b, u => ∃ t, u = Value.bytes b t
  | .flt b, u => ∃ t, u = Value.float b t
  | .ref a, u => u = Value.ref a
  | .ty n, u => u = Value.type n

abbrev Vals : List V → List Value → Prop := Paired RelV
theorem Vals.length {xs : List V} {us : List Value} (r : Vals xs us) : xs.length = us.length := Paired.length r
theorem Vals.get : ∀ {xs : List V} {us : List Value} {i : Nat} {x : V}, Vals xs us → xs[i]? = some x → ∃ u, us[i]? = some u ∧ RelV x u
  | _, _, _, _, .nil, e => by simp at e
  | _, _, 0, _, .cons r _, e => by simp at e; subst e; exact ⟨_, rfl, r⟩
  | _, _, i + 1, x, .cons _ t, e => by
    obtain ⟨u, h1, h2⟩ := Vals.get (i := i) (x := x) t (by simpa using e)
    exact ⟨u, by simpa using h1, h2⟩
theorem Vals.set {x : V} {u : Value} (r : RelV x u) : ∀ {xs : List V} {us : List Value} (i : Nat), Vals xs us → Vals (xs.set i x) (us.set i u)
  | _, _, _, .nil => .nil
  | _, _, 0, .cons _ t => .cons r t
  | _, _, i + 1, .cons q t => .cons q (Vals.set r i t)
theorem Vals.append : ∀ {xs ys : List V} {us ws : List Value}, Vals xs us → Vals ys ws → Vals (xs ++ ys) (us ++ ws)
  | _, _, _, _, .nil, s => s
  | _, _, _, _, .cons r t, s => .cons r (Vals.append t s)
theorem Vals.take : ∀ {xs : List V} {us : List Value} (n : Nat), Vals xs us → Vals (xs.take n) (us.take n)
  | _, _, 0, _ => .nil
  | _, _, _ + 1, .nil => .nil
  | _, _, n + 1, .cons r t => .cons r (Vals.take n t)
theorem Vals.drop : ∀ {xs : List V} {us : List Value} (n : Nat), Vals xs us → Vals (xs.drop n) (us.drop n)
  | _, _, 0, r => r
  | _, _, _ + 1, .nil => .nil
  | _, _, n + 1, .cons _ t => Vals.drop n t

def RelO : Option V → Option Value → Prop
  | some v, some u => RelV v u
  | none, none => True
  | _, _ => False
def KV {κ : Type} : List (κ × V) → List (κ × Value) → Prop := Paired fun (p : κ × V) (q : κ × Value) => p.1 = q.1 ∧ RelV p.2 q.2

/-- a key of a dict (00_mix): an int or a text -/
def kV : Key → V
  | .inl i => .int i
  | .inr x => .str x

/-- what stands at a tracked address -/
inductive HO where
  /-- a list -/
  | lst (xs : List V)
  /-- a tuple (never changes) -/
  | tup (xs : List V)
  /-- a dict whose keys are ints and texts; one whose keys are tuples of ints and texts (the empty one is both) -/
  | dK (kvs : List (Key × V)) | dT (kvs : List (List Key × V))
  /-- a set of ints: its members, its size -/
  | set (S : Int → Bool) (n : Nat)
  /-- an instance of the class at C, its dict at dx, its attributes -/
  | ins (C dx : Addr) (fs : List (Str × V))
  /-- the dict of the instance at x -/
  | own (x : Addr)
  /-- the dict of an exception -/
  | xd (fs : List (Str × V))
  /-- a bound method, f of x -/
  | met (f x : Addr)
  /-- a range object lo, lo + 1, .. below hi -/
  | rng (lo hi : Int)
  /-- a thing that is known to the object (the script; a dict while a loop walks it): read, never written while it is so -/
  | frz (o : Obj) (u : HO)
  /-- a code object's table -/
  | tbl (ps : Array Value)
  /-- any other thing, by what is true of its one object (a def of one's own: SetO a S n := HO.ext fun h => ..) -/
  | ext (φ : Heap → Prop)

abbrev Hp := Addr → Option HO
def upd (H : Hp) (a : Addr) (o : HO) : Hp := fun b => if b = a then some o else H b
theorem upd_same {H : Hp} {a : Addr} {o : HO} : upd H a o a = some o := by unfold upd; rw [if_pos rfl]
theorem upd_ne {H : Hp} {a b : Addr} {o : HO} (h : b ≠ a) : upd H a o b = H b := by unfold upd; rw [if_neg h]
theorem upd_upd {H : Hp} {a : Addr} {o u : HO} : upd (upd H a o) a u = upd H a u := by
  funext b; unfold upd; split <;> rfl
/-- two objects of different content stand apart -/
theorem ne_of {H : Hp} {a b : Addr} {o u : HO} (h : H a = some o) (h' : H b = some u) (d : o ≠ u) : a ≠ b := by
  intro e; subst e; rw [h] at h'; exact d (Option.some.inj h')
theorem ne_of_none {H : Hp} {a b : Addr} {o : HO} (h : H a = some o) (h' : H b = none) : a ≠ b := by
  intro e; subst e; rw [h] at h'; cases h'

section
variable (P : Program) (w : World)
def ObjOk (H : Hp) (h : Heap) (a : Addr) : HO → Prop
  | .lst xs => xs.length ≤ sizeLine ∧ ∃ (its : List Value) (n : Nat), Vals xs its ∧ h.get? a = some { cls := .type "list", data := .seq its.toArray n }
  | .tup xs => xs.length ≤ sizeLine ∧ ∃ its : List Value, Vals xs its ∧ IsTup h a its.toArray
  | .dK kvs => kvs.length ≤ sizeLine ∧ (a == sysModules) = false ∧ ∃ vs, KV kvs vs ∧ h.DictOf (mixKind P w) a vs
  | .dT kvs => kvs.length ≤ sizeLine ∧ (a == sysModules) = false ∧ ∃ xs : List (List Key × Addr × Value),
      Paired (fun (p : List Key × V) (q : List Key × Addr × Value) => p.1 = q.1 ∧ H q.2.1 = some (.tup (p.1.map kV)) ∧ RelV p.2 q.2.2) kvs xs ∧
      ∃ o es ep, h.get? a = some o ∧ o.ExactDict ∧ o.data = .dict es ep ∧ es.toList = xs.map (entryOfKey (tupleKind (mixKind P w))) ∧ (xs.map (·.1)).Nodup
  | .set S n => h.SetOf (intKind P w) a S n
  | .ins C dx fs => H dx = some (.own a) ∧ fs.length ≤ 1000 ∧ dx ≠ a ∧ h.get? a = some (PySem.W.instObj C dx) ∧
      ∃ mA, h.Ns1 dx mA ∧ (∀ f, RelO (fs.lookup f) (mA f)) ∧ PySem.Within mA (fs.map (·.1))
  | .own _ => ∃ o, h.get? a = some o
  | .xd fs => ∃ mA, h.Ns1 a mA ∧ ∀ f, RelO (fs.lookup f) (mA f)
  | .rng lo hi => ∃ t u v, h.get? a = some { cls := .type "range", data := .fields #[.int lo t, .int hi u, .int 1 v] }
  | .frz o u => h.get? a = some o ∧ ObjOk H h a u
  | .tbl ps => h.get? a = some { cls := .none, data := .fields ps }
  | .met f x => h.get? a = some (PySem.W.methodObj (.ref f) (.ref x))
  | .ext φ => φ h ∧ (∃ o, h.get? a = some o) ∧ ∀ h1 h2 : Heap, φ h1 → (∀ o, h1.get? a = some o → h2.get? a = some o) → φ h2
/-- the abstract heap is held -/
def HOk (H : Hp) (h : Heap) : Prop := ∀ a o, H a = some o → ObjOk P w H h a o
end

section
variable {P : Program} {w : World} {H H' : Hp} {h h' : Heap} {a : Addr} {o : HO}
theorem ObjOk.lt (x : ObjOk P w H h a o) : a < h.objs.size := by
  cases o with
  | lst xs => obtain ⟨_, _, _, _, e⟩ := x; exact Heap.lt_size e
  | tup xs => obtain ⟨_, _, _, p⟩ := x; exact p.lt
  | dK kvs => obtain ⟨_, _, _, _, o, _, _, e, _⟩ := x; exact Heap.lt_size e
  | dT kvs => obtain ⟨_, _, _, _, o, _, _, e, _⟩ := x; exact Heap.lt_size e
  | set S n => obtain ⟨o, _, _, _, e, _⟩ := x; exact Heap.lt_size e
  | ins C dx fs => obtain ⟨_, _, _, e, _⟩ := x; exact Heap.lt_size e
  | own y => obtain ⟨_, e⟩ := x; exact Heap.lt_size e
  | xd fs => obtain ⟨_, ⟨_, _, _, e, _⟩, _⟩ := x; exact Heap.lt_size e
  | rng lo hi => obtain ⟨_, _, _, e⟩ := x; exact Heap.lt_size e
  | frz ob u => obtain ⟨e, _⟩ := x; exact Heap.lt_size e
  | tbl ps => exact Heap.lt_size (show h.get? a = some _ from x)
  | met f y => exact Heap.lt_size (show h.get? a = some _ from x)
  | ext φ => obtain ⟨_, ⟨_, e⟩, _⟩ := x; exact Heap.lt_size e
theorem Paired.mapP {α β : Type} {F G : α → β → Prop} : ∀ {l₁ : List α} {l₂ : List β}, Paired F l₁ l₂ → (∀ a b, F a b → G a b) → Paired G l₁ l₂
  | _, _, .nil, _ => .nil
  | _, _, .cons r t, f => .cons (f _ _ r) (Paired.mapP t f)
/-- what an object's description leans on: its own object, its own dict, the tuples -/
theorem ObjOk.stay (x : ObjOk P w H h a o) (k : ∀ b u, (b = a ∨ H b = some (.own a)) → h.get? b = some u → h'.get? b = some u)
    (ho : ∀ b, H b = some (.own a) → H' b = some (.own a)) (ht : ∀ b xs, H b = some (.tup xs) → H' b = some (.tup xs)) : ObjOk P w H' h' a o := by
  induction o with
  | lst xs => obtain ⟨z, its, n, r, e⟩ := x; exact ⟨z, its, n, r, k _ _ (.inl rfl) e⟩
  | tup xs => obtain ⟨z, its, r, ob, e, c⟩ := x; exact ⟨z, its, r, ob, k _ _ (.inl rfl) e, c⟩
  | dK kvs => obtain ⟨z, y, vs, r, ob, es, ep, e, c⟩ := x; exact ⟨z, y, vs, r, ob, es, ep, k _ _ (.inl rfl) e, c⟩
  | dT kvs =>
    obtain ⟨z, y, xs, r, ob, es, ep, e, c⟩ := x
    exact ⟨z, y, xs, Paired.mapP r fun p q z => ⟨z.1, ht _ _ z.2.1, z.2.2⟩, ob, es, ep, k _ _ (.inl rfl) e, c⟩
  | set S n => obtain ⟨ob, es, ep, t, e, c⟩ := x; exact ⟨ob, es, ep, t, k _ _ (.inl rfl) e, c⟩
  | ins C dx fs =>
    obtain ⟨d, z, ne, e, mA, ⟨od, es, ep, e2, c⟩, r⟩ := x
    exact ⟨ho _ d, z, ne, k _ _ (.inl rfl) e, mA, ⟨od, es, ep, k _ _ (.inr d) e2, c⟩, r⟩
  | own y => obtain ⟨ob, e⟩ := x; exact ⟨ob, k _ _ (.inl rfl) e⟩
  | xd fs => obtain ⟨mA, ⟨od, es, ep, e, c⟩, r⟩ := x; exact ⟨mA, ⟨od, es, ep, k _ _ (.inl rfl) e, c⟩, r⟩
  | rng lo hi => obtain ⟨t, u, v, e⟩ := x; exact ⟨t, u, v, k _ _ (.inl rfl) e⟩
  | frz ob u ih => obtain ⟨e, q⟩ := x; exact ⟨k _ _ (.inl rfl) e, ih q⟩
  | tbl ps =>
    have e : h.get? a = some { cls := .none, data := .fields ps } := x
    show h'.get? a = some { cls := .none, data := .fields ps }
    exact k a _ (.inl rfl) e
  | met f y =>
    have e : h.get? a = some (PySem.W.methodObj (.ref f) (.ref y)) := x
    show h'.get? a = some (PySem.W.methodObj (.ref f) (.ref y))
    exact k a _ (.inl rfl) e
  | ext φ => obtain ⟨p, ⟨o, e⟩, st⟩ := x; exact ⟨st _ _ p fun o q => k _ _ (.inl rfl) q, ⟨o, k _ _ (.inl rfl) e⟩, st⟩
theorem HOk.lt (x : HOk P w H h) (e : H a = some o) : a < h.objs.size := (x a o e).lt
theorem HOk.fresh (x : HOk P w H h) (e : h.objs.size ≤ a) : H a = none := by
  cases q : H a with
  | none => rfl
  | some u => exact absurd (Nat.lt_of_lt_of_le (x.lt q) e) (Nat.lt_irrefl _)
/-- every object of the heap is kept -/
theorem HOk.kept (x : HOk P w H h) (k : ∀ b u, h.get? b = some u → h'.get? b = some u) : HOk P w H h' := fun a o e =>
  (x a o e).stay (fun b u _ q => k b u q) (fun _ q => q) fun _ _ q => q
/-- a new object is laid and tracked -/
theorem HOk.laid (x : HOk P w H h) (k : ∀ b u, h.get? b = some u → h'.get? b = some u) (hp : h.objs.size ≤ a) (new : ObjOk P w (upd H a o) h' a o) : HOk P w (upd H a o) h' := fun b u e => by
  have hn := x.fresh hp
  by_cases hb : b = a
  · subst hb; rw [upd_same] at e; cases e; exact new
  · rw [upd_ne hb] at e
    exact (x b u e).stay (fun c v _ q => k c v q) (fun c q => by rw [upd_ne (ne_of_none q hn)]; exact q) fun c xs q => by rw [upd_ne (ne_of_none q hn)]; exact q
end

/-- what may be read as u: it is u, or a known u -/
def Rd (H : Hp) (a : Addr) (u : HO) : Prop := H a = some u ∨ ∃ o, H a = some (.frz o u)
theorem Rd.of {H : Hp} {a : Addr} {u : HO} (h : H a = some u) : Rd H a u := .inl h
theorem Rd.ok {P : Program} {w : World} {H : Hp} {h : Heap} {a : Addr} {u : HO} (r : Rd H a u) (x : HOk P w H h) : ObjOk P w H h a u := by
  rcases r with r | ⟨o, r⟩
  · exact x a u r
  · obtain ⟨_, q⟩ := x a _ r
    exact q
/-- what may be written -/
def Mut : Option HO → Prop
  | some (.lst _) => True
  | some (.dK _) => True
  | some (.dT _) => True
  | some (.set _ _) => True
  | some (.ins _ _ _) => True
  | some (.ext _) => True
  | _ => False
section
variable {P : Program} {w : World} {H : Hp} {h h' : Heap} {x e : Addr} {o' : HO}
/-- the object at e is changed: x itself, or the dict of the instance x -/
theorem HOk.write (ok : HOk P w H h) (mu : Mut (H x)) (he : e = x ∨ H e = some (.own x)) (k : ∀ b u, b ≠ e → h.get? b = some u → h'.get? b = some u) (heo : ∃ u, h'.get? e = some u)
    (new : ObjOk P w (upd H x o') h' x o') : HOk P w (upd H x o') h' := fun b u q => by
  have nown : ∀ c y, H c = some (.own y) → c ≠ x := fun c y r z => by subst z; rw [r] at mu; exact mu
  have ntup : ∀ c xs, H c = some (.tup xs) → c ≠ x := fun c xs r z => by subst z; rw [r] at mu; exact mu
  by_cases hb : b = x
  · subst hb; rw [upd_same] at q; cases q; exact new
  · rw [upd_ne hb] at q
    by_cases hbe : b = e
    · have q' : H b = some (.own x) := by
        rcases he with z | z
        · exact absurd (hbe.trans z) hb
        · rw [hbe]; exact z
      rw [q] at q'; cases q'
      obtain ⟨v, hv⟩ := heo
      exact ⟨v, by rw [hbe]; exact hv⟩
    · refine (ok b u q).stay (fun c v hc r => k c v ?_ r) (fun c r => by rw [upd_ne (nown c b r)]; exact r) fun c xs r => by rw [upd_ne (ntup c xs r)]; exact r
      rcases hc with rfl | hc
      · exact hbe
      · rintro rfl
        rcases he with z | z
        · exact nown c b hc z
        · rw [hc] at z; cases z; exact hb rfl
end

/-! ### kept unless tracked; of the frames at fs (the callers') the slots may change (an exception that passes writes there); of the records at ex (iterators) nothing is said -/
structure Un (fs ex : List Addr) (H H' : Hp) (h h' : Heap) : Prop where
  keep : ∀ b o, h.get? b = some o → H b = none → b ∉ fs → b ∉ ex → h'.get? b = some o
  slot : ∀ b o, h.get? b = some o → H b = none → b ∈ fs → b ∉ ex → ∃ sl, h'.get? b = some { o with slots := sl }
  free : ∀ b o, h.get? b = some o → H b = none → b ∉ ex → H' b = none
  there : ∀ b o, h.get? b = some o → b ∉ ex → ∃ o', h'.get? b = some o'
  tups : ∀ b xs, H b = some (.tup xs) → H' b = some (.tup xs)
  frzs : ∀ b o u, H b = some (.frz o u) → H' b = some (.frz o u)
  tbls : ∀ b ps, H b = some (.tbl ps) → ∃ more, H' b = some (.tbl (ps ++ more))
section
variable {fs fs' ex ex' : List Addr} {H H1 H2 : Hp} {h h1 h2 h' : Heap} {a x e : Addr} {o : HO}
theorem Un.any (u : Un fs ex H H1 h h1) {b : Addr} {ob : Obj} (q : h.get? b = some ob) (n : H b = none) (hx : b ∉ ex) : ∃ sl, h1.get? b = some { ob with slots := sl } := by
  by_cases hb : b ∈ fs
  · exact u.slot b ob q n hb hx
  · exact ⟨ob.slots, u.keep b ob q n hb hx⟩
theorem Un.trans (a : Un fs ex H H1 h h1) (b : Un fs ex H1 H2 h1 h2) : Un fs ex H H2 h h2 where
  keep := fun c ob q n hc hx => b.keep c ob (a.keep c ob q n hc hx) (a.free c ob q n hx) hc hx
  slot := fun c ob q n hc hx => by
    obtain ⟨sl, e1⟩ := a.slot c ob q n hc hx
    obtain ⟨sl', e2⟩ := b.slot c _ e1 (a.free c ob q n hx) hc hx
    exact ⟨sl', e2⟩
  free := fun c ob q n hx => by
    obtain ⟨o', e1⟩ := a.there c ob q hx
    exact b.free c o' e1 (a.free c ob q n hx) hx
  there := fun c ob q hx => by
    obtain ⟨o', e1⟩ := a.there c ob q hx
    exact b.there c o' e1 hx
  tups := fun c xs q => b.tups c xs (a.tups c xs q)
  frzs := fun c ob xs q => b.frzs c ob xs (a.frzs c ob xs q)
  tbls := fun c ps q => by
    obtain ⟨m1, e1⟩ := a.tbls c ps q
    obtain ⟨m2, e2⟩ := b.tbls c _ e1
    exact ⟨m1 ++ m2, by rw [e2, Array.append_assoc]⟩
theorem Un.kept (k : ∀ b u, h.get? b = some u → h'.get? b = some u) : Un fs ex H H h h' :=
  ⟨fun b ob q _ _ _ => k b ob q, fun b ob q _ _ _ => ⟨ob.slots, k b ob q⟩, fun _ _ _ n _ => n, fun b ob q _ => ⟨ob, k b ob q⟩, fun _ _ q => q, fun _ _ _ q => q, fun _ ps q => ⟨#[], by rw [q]; simp⟩⟩
theorem Un.refl : Un fs ex H H h h := Un.kept fun _ _ q => q
theorem Un.laid (k : ∀ b u, h.get? b = some u → h'.get? b = some u) (hp : h.objs.size ≤ a) (hn : H a = none) : Un fs ex H (upd H a o) h h' where
  keep := fun b u q _ _ _ => k b u q
  slot := fun b u q _ _ _ => ⟨u.slots, k b u q⟩
  free := fun b u q n _ => by rw [upd_ne (Nat.ne_of_lt (Nat.lt_of_lt_of_le (Heap.lt_size q) hp))]; exact n
  there := fun b u q _ => ⟨u, k b u q⟩
  tups := fun b xs q => by rw [upd_ne (ne_of_none q hn)]; exact q
  frzs := fun b u xs q => by rw [upd_ne (ne_of_none q hn)]; exact q
  tbls := fun b ps q => ⟨#[], by rw [upd_ne (ne_of_none q hn), q]; simp⟩
theorem Un.write (mu : Mut (H x)) (he : e = x ∨ H e = some (.own x)) (k : ∀ b u, b ≠ e → h.get? b = some u → h'.get? b = some u) (heo : ∃ u, h'.get? e = some u) : Un fs ex H (upd H x o) h h' := by
  have hx : ∀ b, H b = none → b ≠ x := fun b n z => by subst z; rw [n] at mu; exact mu
  have hb : ∀ b, H b = none → b ≠ e := fun b n z => by
    subst z
    rcases he with r | r
    · exact hx b n r
    · rw [n] at r; cases r
  have hm : ∀ b u, H b = some u → ¬ Mut (some u) → b ≠ x := fun b u q nm z => by subst z; rw [q] at mu; exact nm mu
  refine ⟨fun b u q n _ _ => k b u (hb b n) q, fun b u q n _ _ => ⟨u.slots, k b u (hb b n) q⟩, fun b u q n _ => by rw [upd_ne (hx b n)]; exact n, fun b u q _ => ?_,
    fun b xs q => by rw [upd_ne (hm b _ q fun z => z)]; exact q, fun b u xs q => by rw [upd_ne (hm b _ q fun z => z)]; exact q, fun b ps q => ⟨#[], by rw [upd_ne (hm b _ q fun z => z), q]; simp⟩⟩
  by_cases hbe : b = e
  · subst hbe; exact heo
  · exact ⟨u, k b u hbe q⟩
end

/-! ### the heap without what is tracked -/
def trk (h : Heap) (H : Hp) : List Addr := (List.range h.objs.size).filter fun a => (H a).isSome
def hidT (h : Heap) (H : Hp) : Heap := PySem.W.hideAll h (trk h H)
theorem hidT_size (h : Heap) (H : Hp) : (hidT h H).objs.size = h.objs.size := PySem.W.hideAll_size _ _
theorem hidT_get {h : Heap} {H : Hp} {b : Addr} {o : Obj} (e : h.get? b = some o) (n : H b = none) : (hidT h H).get? b = some o :=
  PySem.W.hideAll_get _ e fun hm => by
    have q : (H b).isSome = true := (List.mem_filter.mp hm).2
    rw [n] at q; simp at q
theorem of_hidT {h : Heap} {H : Hp} {b : Addr} {o : Obj} (e : (hidT h H).get? b = some o) : h.get? b = some o ∧ H b = none := by
  have e' : h.get? b = some o := PySem.W.of_hideAll (trk h H) e
  refine ⟨e', ?_⟩
  cases q : H b with
  | none => rfl
  | some x =>
    have hm : b ∈ trk h H := List.mem_filter.mpr ⟨List.mem_range.mpr (Heap.lt_size e'), by simp [q]⟩
    have z : (hidT h H).get? b = none := PySem.W.hideAll_none (trk h H) hm
    rw [z] at e; cases e

/-! ### OpenK's ledger, filled with every new object but one -/
def allNews (g h : Heap) (L : Addr) : List (Addr × Obj) := (List.range h.objs.size).filterMap fun a => if a = L ∨ (g.get? a).isSome = true then none else (h.get? a).map fun o => (a, o)
def rest (g h : Heap) (L d : Addr) : List (Addr × Obj) := (allNews g h L).filter fun p => decide (p.1 ≠ d)
end L2

namespace L2
open PySem PySem.Spec PyProof.Rows

/-- the module's facts, over the base: the heap at the law's entry without what is tracked there -/
structure Mod (K : PySem.W.Frag) (mg : Str → Option Value) (base : Heap) : Prop where
  kin : K.In base
  glob : base.Ns mainGlobals mg
  blt : ∃ mb, base.Ns builtinsNs mb ∧ ∀ x : Str, x ≠ "__name__" → mb x = bootBuiltins x
  nolimit : base.NoLimit

/-- the context: a def's body (or a comprehension's block) running. base: fixed through the whole law; s₀, H₀: the entry; outer: the frames whose slots others may change (a def's callers); stack: all frames that run;
   ex: iterators that were made ahead of the entry and are walked here (a comprehension's); fn: the names whose cells were made at the entry (a def: all; a comprehension's block: its own); calm: not within an except suite; pn: pins that every state bears; xe: what is wanted of an exception that leaves the code -/
structure Cx where
  prog : Program
  w : World
  K : PySem.W.Frag
  mg : Str → Option Value
  base : Heap
  A : Around
  N : List Str
  s₀ : Shared
  H₀ : Hp
  env : Env
  outer : List Env
  stack : List Env
  ex : List Addr
  fn : Str → Bool
  calm : Bool
  pn : List (Addr × Obj)
  xe : Value → Shared → Prop
/-- the callers' frames -/
def frs (l : List Env) : List Addr := l.filterMap (·.frame)
abbrev Cx.fs (X : Cx) : List Addr := frs X.outer

def Vis (sc : Scope) (x : Str) : Prop := sc.names.lookup x = some .local ∨ sc.names.lookup x = some .cell ∨ sc.names.lookup x = some .free
def Loc (sc : Scope) (x : Str) : Prop := sc.names.lookup x = some .local ∨ sc.names.lookup x = some .cell
def Look (env : Env) (h : Heap) (m : Str → Option Value) (x : Str) (u : Value) : Prop :=
  (env.kindOf x = some .local ∧ m x = some u) ∨ ((env.kindOf x = some .cell ∨ env.kindOf x = some .free) ∧ ∃ c, env.cells.lookup x = some c ∧ h.IsCell c (some u))

structure Cx.Ok (X : Cx) : Prop where
  mod : Mod X.K X.mg X.base
  kind : X.env.scope.kind = .function
  glob : X.env.globals = mainGlobals
  blt : X.env.builtins = builtinsNs
  above : X.s₀.heap.objs.size ≤ X.env.locals
  inj : ∀ x y c, X.env.cells.lookup x = some c → X.env.cells.lookup y = some c → x = y
  has : ∀ x, (X.env.kindOf x = some .cell ∨ X.env.kindOf x = some .free) → ∃ c, X.env.cells.lookup x = some c
  cab : ∀ x c, X.fn x = true → X.env.cells.lookup x = some c → X.s₀.heap.objs.size ≤ c
  hd : X.calm = true → X.A.handled = none
  frames : X.A.frames = some X.stack
  stk : X.stack = X.outer ∨ (X.stack = X.env :: X.outer ∧ X.env.frame = some X.env.locals)
  exf : ∀ b ∈ X.ex, b ≠ X.env.locals ∧ ∀ x c, X.env.cells.lookup x = some c → c ≠ b
  bs : ∀ b o, X.base.get? b = some o → X.s₀.heap.get? b = some o ∧ X.H₀ b = none
  bsz : X.base.objs.size ≤ X.s₀.heap.objs.size
  noex : ∀ b o, X.base.get? b = some o → b ∉ X.ex
  exfs : ∀ b ∈ X.ex, b ∉ X.fs
  funs : X.s₀.heap.FunFrames X.base X.outer
  frf : ∀ b ∈ X.fs, X.H₀ b = none

structure Inv (X : Cx) (pins : List (Addr × Obj)) (σ : List (Option V)) (H : Hp) (s : Shared) : Prop where
  ok : X.Ok
  os : s.os = X.s₀.os
  bare : AllBare s.gens
  base : Un X.fs X.ex X.H₀ H X.s₀.heap s.heap
  loc : ∃ m, s.heap.Ns X.env.locals m ∧ ∀ (i : Nat) (x : Str) (v : V), X.N[i]? = some x → σ[i]? = some (some v) → Vis X.env.scope x → ∃ u, RelV v u ∧ Look X.env s.heap m x u
  cell : ∀ x c, X.env.cells.lookup x = some c → ∃ v, s.heap.IsCell c v
  free : H X.env.locals = none
  freeC : ∀ x c, X.env.cells.lookup x = some c → H c = none
  pin : ∀ p ∈ X.pn ++ pins, s.heap.get? p.1 = some p.2 ∧ H p.1 = none ∧ p.1 ≠ X.env.locals ∧ p.1 ∉ X.fs ∧ ∀ v, p.2.data ≠ .cell v
  hok : HOk X.prog X.w H s.heap
  len : σ.length = X.N.length

section
variable {X : Cx} {pins : List (Addr × Obj)} {σ : List (Option V)} {H H' : Hp} {s : Shared} {h' : Heap}

theorem Cx.Ok.nofr (ok : X.Ok) {b : Addr} {o : Obj} (e : X.base.get? b = some o) : b ∉ X.fs := fun hb => by
  have := (ok.funs.mem hb).1
  rw [e] at this; cases this
theorem Inv.bs (I : Inv X pins σ H s) : ∀ b o, X.base.get? b = some o → s.heap.get? b = some o ∧ H b = none := fun b o e =>
  ⟨I.base.keep b o (I.ok.bs b o e).1 (I.ok.bs b o e).2 (I.ok.nofr e) (I.ok.noex b o e), I.base.free b o (I.ok.bs b o e).1 (I.ok.bs b o e).2 (I.ok.noex b o e)⟩
theorem Inv.bk (I : Inv X pins σ H s) : ∀ b o, X.base.get? b = some o → s.heap.get? b = some o := fun b o e => (I.bs b o e).1
theorem Inv.mod (I : Inv X pins σ H s) : Mod X.K X.mg X.base := I.ok.mod
theorem Inv.kIn (I : Inv X pins σ H s) : X.K.In s.heap := I.ok.mod.kin.keeps I.bk
/-- the frame over the base: for OpenK's rules (K.In X.base is I.mod.kin) -/
theorem Inv.fr (I : Inv X pins σ H s) : ∃ m, Fr X.base X.env.locals s.heap m :=
  let ⟨m, hn, _⟩ := I.loc
  ⟨m, hn, I.bk, Nat.le_trans I.ok.bsz I.ok.above⟩
theorem Inv.lt (I : Inv X pins σ H s) : X.env.locals < s.heap.objs.size := let ⟨_, hn, _⟩ := I.loc; hn.lt
theorem Inv.sz (I : Inv X pins σ H s) : X.s₀.heap.objs.size ≤ s.heap.objs.size := Nat.le_trans I.ok.above (Nat.le_of_lt I.lt)
theorem Inv.nofs (I : Inv X pins σ H s) {a : Addr} (h : s.heap.objs.size ≤ a) : a ∉ X.fs := fun hb => by
  obtain ⟨_, o, ho, _⟩ := I.ok.funs.mem hb
  exact absurd (Nat.lt_of_lt_of_le (Heap.lt_size ho) (Nat.le_trans I.sz h)) (Nat.lt_irrefl _)
theorem Inv.cne (I : Inv X pins σ H s) : ∀ x c, X.env.cells.lookup x = some c → c ≠ X.env.locals := fun x c e z => by
  obtain ⟨v, o, ho, hd⟩ := I.cell x c e
  obtain ⟨m, ⟨o', es, ep, ho', hd', _⟩, _⟩ := I.loc
  rw [z, ho'] at ho; cases ho; rw [hd'] at hd; cases hd
theorem Inv.funs (I : Inv X pins σ H s) : s.heap.FunFrames X.base X.outer := by
  have all : ∀ (l : List Env), (∀ b ∈ frs l, b ∈ X.fs) → X.s₀.heap.FunFrames X.base l → s.heap.FunFrames X.base l := by
    intro l
    induction l with
    | nil => intro _ _; trivial
    | cons env r ih =>
      intro hs hl
      obtain ⟨hk, ⟨L, o, hf, hn, ho, hd⟩, hr⟩ := hl
      have hL : L ∈ X.fs := hs L (by unfold frs; rw [List.filterMap_cons, hf]; exact List.mem_cons_self)
      obtain ⟨sl, e⟩ := I.base.slot L o ho (I.ok.frf L hL) hL fun z => I.ok.exfs L z hL
      exact ⟨hk, ⟨L, _, hf, hn, e, hd⟩, ih (fun b hb => hs b (by unfold frs; rw [List.filterMap_cons, hf]; exact List.mem_cons_of_mem _ hb)) hr⟩
  exact all X.outer (fun _ hb => hb) I.ok.funs

/-- the frames that run, for a call -/
theorem Inv.stack (I : Inv X pins σ H s) : s.heap.FunFrames X.base X.stack := by
  rcases I.ok.stk with e | ⟨e, hf⟩
  · rw [e]; exact I.funs
  · rw [e]
    obtain ⟨m, hn, _⟩ := I.loc
    refine .cons (by rw [I.ok.kind]; decide) hf hn ?_ I.funs
    exact Heap.get?_none_of_le (Nat.le_trans I.ok.bsz I.ok.above)
theorem Inv.stkSub (I : Inv X pins σ H s) : ∀ b ∈ frs X.stack, b ∈ X.env.locals :: X.fs := fun b hb => by
  rcases I.ok.stk with e | ⟨e, hf⟩
  · rw [e] at hb; exact List.mem_cons_of_mem _ hb
  · rw [e] at hb
    unfold frs at hb
    rw [List.filterMap_cons, hf] at hb
    exact hb
theorem Inv.stkFree (I : Inv X pins σ H s) : ∀ b ∈ frs X.stack, H b = none := fun b hb => by
  rcases List.mem_cons.mp (I.stkSub b hb) with e | hb
  · rw [e]; exact I.free
  · obtain ⟨_, o, ho, _⟩ := I.ok.funs.mem hb
    exact I.base.free b o ho (I.ok.frf b hb) fun z => I.ok.exfs b z hb

/-- THE STEP: the untracked objects but the frame and the records at ch are kept (the callers' frames up to slots), the frame's map is kept, the new abstract heap is held -/
theorem Inv.step {g' : Array GenState} {t' : Nat} {d' : Drawn} {ch : List Addr} (I : Inv X pins σ H s)
    (hch : ∀ b ∈ ch, (b ∈ X.ex ∨ X.s₀.heap.objs.size ≤ b) ∧ b ≠ X.env.locals ∧ (∀ x c, X.env.cells.lookup x = some c → c ≠ b) ∧ ∀ p ∈ X.pn ++ pins, p.1 ≠ b)
    (keep : ∀ b o, b ≠ X.env.locals → b ∉ X.fs → b ∉ ch → s.heap.get? b = some o → H b = none → h'.get? b = some o)
    (slot : ∀ b o, b ≠ X.env.locals → b ∈ X.fs → b ∉ ch → s.heap.get? b = some o → H b = none → ∃ sl, h'.get? b = some { o with slots := sl }) (free : ∀ b o, b ∉ ch → s.heap.get? b = some o → H b = none → H' b = none)
    (there : ∀ b o, b ∉ ch → s.heap.get? b = some o → ∃ o', h'.get? b = some o')
    (tups : ∀ b xs, H b = some (.tup xs) → H' b = some (.tup xs)) (frzs : ∀ b o u, H b = some (.frz o u) → H' b = some (.frz o u)) (tbls : ∀ b ps, H b = some (.tbl ps) → ∃ more, H' b = some (.tbl (ps ++ more)))
    (ns : ∀ m, s.heap.Ns X.env.locals m → h'.Ns X.env.locals m) (hok : HOk X.prog X.w H' h') (hg : AllBare g') :
    Inv X pins σ H' { s with heap := h', gens := g', drawn := d', toks := t' } := by
  have neL : ∀ b o, X.s₀.heap.get? b = some o → b ≠ X.env.locals := fun b o e => Nat.ne_of_lt (Nat.lt_of_lt_of_le (Heap.lt_size e) I.ok.above)
  have neC : ∀ b o, X.s₀.heap.get? b = some o → b ∉ X.ex → b ∉ ch := fun b o e hx hb => by
    rcases (hch b hb).1 with z | z
    · exact hx z
    · exact absurd (Nat.lt_of_lt_of_le (Heap.lt_size e) z) (Nat.lt_irrefl _)
  have cellK : ∀ x c, X.env.cells.lookup x = some c → ∀ v, s.heap.IsCell c v → h'.IsCell c v := fun x c e v ⟨o, ho, hd⟩ => by
    have nch : c ∉ ch := fun z => (hch c z).2.2.1 x c e rfl
    by_cases hc : c ∈ X.fs
    · obtain ⟨sl, q⟩ := slot c o (I.cne x c e) hc nch ho (I.freeC x c e)
      exact ⟨_, q, hd⟩
    · exact ⟨o, keep c o (I.cne x c e) hc nch ho (I.freeC x c e), hd⟩
  refine ⟨I.ok, I.os, hg, ⟨fun b o e n hb hx => ?_, fun b o e n hb hx => ?_, fun b o e n hx => ?_, fun b o e hx => ?_, fun b xs e => tups b xs (I.base.tups b xs e), fun b o xs e => frzs b o xs (I.base.frzs b o xs e), fun b ps e => ?_⟩, ?_, fun x c e => ?_, ?_, fun x c e => ?_, fun p hp => ?_, hok, I.len⟩
  · exact keep b o (neL b o e) hb (neC b o e hx) (I.base.keep b o e n hb hx) (I.base.free b o e n hx)
  · obtain ⟨sl, e1⟩ := I.base.slot b o e n hb hx
    obtain ⟨sl', e2⟩ := slot b _ (neL b o e) hb (neC b o e hx) e1 (I.base.free b o e n hx)
    exact ⟨sl', e2⟩
  · obtain ⟨o', e1⟩ := I.base.there b o e hx
    exact free b o' (neC b o e hx) e1 (I.base.free b o e n hx)
  · obtain ⟨o', e1⟩ := I.base.there b o e hx
    exact there b o' (neC b o e hx) e1
  · obtain ⟨m1, e1⟩ := I.base.tbls b ps e
    obtain ⟨m2, e2⟩ := tbls b _ e1
    exact ⟨m1 ++ m2, by rw [e2, Array.append_assoc]⟩
  · obtain ⟨m, hn, hl⟩ := I.loc
    refine ⟨m, ns m hn, fun i x v e1 e2 e3 => ?_⟩
    obtain ⟨u, r, l⟩ := hl i x v e1 e2 e3
    refine ⟨u, r, ?_⟩
    rcases l with l | ⟨k, c, e, z⟩
    · exact .inl l
    · exact .inr ⟨k, c, e, cellK x c e _ z⟩
  · obtain ⟨v, z⟩ := I.cell x c e
    exact ⟨v, cellK x c e v z⟩
  · obtain ⟨m, ⟨o, _, _, ho, _⟩, _⟩ := I.loc
    exact free _ o (fun z => (hch _ z).2.1 rfl) ho I.free
  · obtain ⟨v, o, ho, hd⟩ := I.cell x c e
    exact free c o (fun z => (hch c z).2.2.1 x c e rfl) ho (I.freeC x c e)
  · obtain ⟨e, n, ne, nf, d⟩ := I.pin p hp
    have nch : p.1 ∉ ch := fun z => (hch p.1 z).2.2.2 p hp rfl
    exact ⟨keep p.1 p.2 ne nf nch e n, free p.1 p.2 nch e n, ne, nf, d⟩
/-- .. where the frame's own object is kept too -/
theorem Inv.un {t' : Nat} (I : Inv X pins σ H s) (u : Un X.fs [] H H' s.heap h') (hok : HOk X.prog X.w H' h') : Inv X pins σ H' { s with heap := h', toks := t' } := by
  obtain ⟨m, ⟨o, es, ep, ho, r⟩, _⟩ := id I.loc
  obtain ⟨sl, hL⟩ := u.any ho I.free (by simp)
  exact I.step (g' := s.gens) (d' := s.drawn) (ch := []) (fun _ z => nomatch z) (fun b o _ hb _ e n => u.keep b o e n hb (by simp)) (fun b o _ hb _ e n => u.slot b o e n hb (by simp)) (fun b o _ e n => u.free b o e n (by simp)) (fun b o _ e => u.there b o e (by simp)) u.tups u.frzs u.tbls (fun m' hm => by
    obtain ⟨o', es', ep', ho', r'⟩ := hm
    rw [ho] at ho'; cases ho'
    exact ⟨_, es', ep', hL, r'⟩) hok I.bare
/-- behind a call (or a comprehension's block): the slots of this frame may have changed too, the records at ch may have turned -/
theorem Inv.call {g' : Array GenState} {t' : Nat} {d' : Drawn} {ch : List Addr} (I : Inv X pins σ H s) (u : Un (frs X.stack) ch H H' s.heap h') (hok : HOk X.prog X.w H' h') (hg : AllBare g')
    (hch : ∀ b ∈ ch, (b ∈ X.ex ∨ X.s₀.heap.objs.size ≤ b) ∧ b ≠ X.env.locals ∧ (∀ x c, X.env.cells.lookup x = some c → c ≠ b) ∧ ∀ p ∈ X.pn ++ pins, p.1 ≠ b) :
    Inv X pins σ H' { s with heap := h', gens := g', drawn := d', toks := t' } := by
  obtain ⟨m, ⟨o, es, ep, ho, r⟩, _⟩ := id I.loc
  obtain ⟨sl, hL⟩ := u.any ho I.free fun z => (hch _ z).2.1 rfl
  exact I.step (ch := ch) hch (fun b o hL hb hc e n => u.keep b o e n (fun z => (List.mem_cons.mp (I.stkSub b z)).elim hL hb) hc) (fun b o _ _ hc e n => u.any e n hc) (fun b o hc e n => u.free b o e n hc) (fun b o hc e => u.there b o e hc) u.tups u.frzs u.tbls (fun m' hm => by
    obtain ⟨o', es', ep', ho', r'⟩ := hm
    rw [ho] at ho'; cases ho'
    exact ⟨_, es', ep', hL, r'⟩) hok hg
/-- an untracked record of ours (an iterator) has turned -/
theorem Inv.turned {t' : Nat} {it : Addr} (I : Inv X pins σ H s) (k : ∀ b o, b ≠ it → s.heap.get? b = some o → h'.get? b = some o) (hn : H it = none) (hL : it ≠ X.env.locals)
    (h1 : it ∈ X.ex ∨ X.s₀.heap.objs.size ≤ it) (h2 : ∀ x c, X.env.cells.lookup x = some c → c ≠ it) (h3 : ∀ p ∈ X.pn ++ pins, p.1 ≠ it) : Inv X pins σ H { s with heap := h', toks := t' } := by
  have nit : ∀ b u, H b = some u → b ≠ it := fun b u e z => by rw [z, hn] at e; cases e
  refine I.step (g' := s.gens) (d' := s.drawn) (ch := [it]) (fun b hb => ?_) (fun b o _ _ hc e _ => k b o (fun z => hc (by simp [z])) e) (fun b o _ _ hc e _ => ⟨o.slots, k b o (fun z => hc (by simp [z])) e⟩) (fun _ _ _ _ n => n)
    (fun b o hc e => ⟨o, k b o (fun z => hc (by simp [z])) e⟩) (fun _ _ e => e) (fun _ _ _ e => e) (fun b ps e => ⟨#[], by rw [e]; simp⟩) (fun m hm => ?_) (fun b u e => ?_) I.bare
  · have e : b = it := by simpa using hb
    subst e
    exact ⟨h1, hL, h2, h3⟩
  · obtain ⟨o, es, ep, ho, r⟩ := hm
    exact ⟨o, es, ep, k _ o (Ne.symm hL) ho, r⟩
  · refine (I.hok b u e).stay (fun c v hc q => k c v ?_ q) (fun _ q => q) fun _ _ q => q
    rcases hc with z | z
    · rw [z]; exact nit b u e
    · exact nit c _ z
theorem Inv.tok (I : Inv X pins σ H s) (t : Nat) : Inv X pins σ H { s with toks := t } := I.un (h' := s.heap) (t' := t) Un.refl I.hok
/-- all objects kept -/
theorem Inv.kept {t' : Nat} (I : Inv X pins σ H s) (k : ∀ b u, s.heap.get? b = some u → h'.get? b = some u) : Inv X pins σ H { s with heap := h', toks := t' } := I.un (Un.kept k) (I.hok.kept k)
/-- a new object laid and tracked -/
theorem Inv.laid {a : Addr} {o : HO} {t' : Nat} (I : Inv X pins σ H s) (k : ∀ b u, s.heap.get? b = some u → h'.get? b = some u) (hp : s.heap.objs.size ≤ a) (new : ObjOk X.prog X.w (upd H a o) h' a o) :
    Inv X pins σ (upd H a o) { s with heap := h', toks := t' } := I.un (Un.laid k hp (I.hok.fresh hp)) (I.hok.laid k hp new)
/-- an object written -/
theorem Inv.write {x e : Addr} {o : HO} {t' : Nat} (I : Inv X pins σ H s) (mu : Mut (H x)) (he : e = x ∨ H e = some (.own x)) (k : ∀ b u, b ≠ e → s.heap.get? b = some u → h'.get? b = some u) (heo : ∃ u, h'.get? e = some u)
    (new : ObjOk X.prog X.w (upd H x o) h' x o) : Inv X pins σ (upd H x o) { s with heap := h', toks := t' } := I.un (Un.write mu he k heo) (I.hok.write mu he k heo new)
theorem Inv.pins_of {pins' : List (Addr × Obj)} (I : Inv X pins σ H s) (h : ∀ p ∈ pins', s.heap.get? p.1 = some p.2 ∧ H p.1 = none ∧ p.1 ≠ X.env.locals ∧ p.1 ∉ X.fs ∧ ∀ v, p.2.data ≠ .cell v) : Inv X pins' σ H s :=
  ⟨I.ok, I.os, I.bare, I.base, I.loc, I.cell, I.free, I.freeC, fun p hp => (List.mem_append.mp hp).elim (fun z => I.pin p (List.mem_append_left _ z)) (h p), I.hok, I.len⟩

theorem nodup_ix {N : List Str} (hN : N.Nodup) {i j : Nat} {x : Str} (a : N[i]? = some x) (b : N[j]? = some x) : i = j := by
  obtain ⟨h1, e1⟩ := List.getElem?_eq_some_iff.mp a
  obtain ⟨h2, e2⟩ := List.getElem?_eq_some_iff.mp b
  exact (List.getElem_inj hN).mp (e1.trans e2.symm)

/-- a name is stored; what changed -/
theorem store_ok2 {M : Model} {A : Around} {E : Value → Shared → Prop} {i : Nat} {x : Str} {v : V} {u : Value} {Q : Unit → Shared → Prop} (I : Inv X pins σ H s) (hN : X.N.Nodup) (hi : X.N[i]? = some x) (hx : Loc X.env.scope x) (r : RelV v u)
    (h : ∀ s', Inv X pins (σ.set i (some v)) H s' → (∃ a, Heap.SameBut a s.heap s'.heap ∧ (a = X.env.locals ∨ X.env.cells.lookup x = some a)) → Q () s') (hf : X.fn x = true ∨ X.env.scope.names.lookup x = some .local := by first | exact .inl rfl | exact .inr rfl | assumption) : wpAny M A (storeName X.env x u) Q E s := by
  obtain ⟨m, hn, hl⟩ := id I.loc
  have hcls : (X.env.scope.kind == .class || (X.env.scope.kind == .module && X.env.locals != X.env.globals)) = false := by rw [I.ok.kind]; rfl
  have hiσ : i < σ.length := by rw [I.len]; exact (List.getElem?_eq_some_iff.mp hi).1
  have cne := I.cne
  have tracked : ∀ {a : Addr} {h' : Heap}, (∃ o, s.heap.get? a = some o ∧ H a = none) → Heap.SameBut a s.heap h' → HOk X.prog X.w H h' := fun {a h'} ha hs b ob e => by
    obtain ⟨_, _, hfree⟩ := ha
    refine (I.hok b ob e).stay (fun c w' hc q => (hs.2 c ?_).trans q) (fun _ q => q) fun _ _ q => q
    rintro rfl
    rcases hc with rfl | hc
    · rw [hfree] at e; cases e
    · rw [hfree] at hc; cases hc
  rcases hx with hk | hk
  · refine wpAny_storeName_local hk hn (fun h' hn' hs => ?_) hcls
    obtain ⟨oL, _, _, hoL, _⟩ := id hn
    refine h _ ⟨I.ok, I.os, I.bare, ⟨fun b o e n hb hx => ?_, fun b o e n hb hx => ?_, I.base.free, fun b o e hx => ?_, I.base.tups, I.base.frzs, I.base.tbls⟩, ⟨_, hn', fun j y v' e1 e2 e3 => ?_⟩, fun y c e => ?_, I.free, I.freeC, fun p hp => ?_, tracked ⟨oL, hoL, I.free⟩ hs, by simpa using I.len⟩ ⟨_, hs, .inl rfl⟩
    · exact (hs.2 b (Nat.ne_of_lt (Nat.lt_of_lt_of_le (Heap.lt_size e) I.ok.above))).trans (I.base.keep b o e n hb hx)
    · obtain ⟨sl, e1⟩ := I.base.slot b o e n hb hx
      exact ⟨sl, (hs.2 b (Nat.ne_of_lt (Nat.lt_of_lt_of_le (Heap.lt_size e) I.ok.above))).trans e1⟩
    · obtain ⟨o', e1⟩ := I.base.there b o e hx
      exact ⟨o', (hs.2 b (Nat.ne_of_lt (Nat.lt_of_lt_of_le (Heap.lt_size e) I.ok.above))).trans e1⟩
    · by_cases hj : j = i
      · subst hj
        rw [hi] at e1; cases e1
        rw [List.getElem?_set_self hiσ] at e2
        cases e2
        exact ⟨u, r, .inl ⟨hk, by simp⟩⟩
      · rw [List.getElem?_set_ne (Ne.symm hj)] at e2
        obtain ⟨u', r', q⟩ := hl j y v' e1 e2 e3
        refine ⟨u', r', ?_⟩
        rcases q with ⟨k, e⟩ | ⟨k, c, e, z⟩
        · refine .inl ⟨k, ?_⟩
          have : y ≠ x := fun e => hj (nodup_ix hN e1 (e ▸ hi))
          simp [this, e]
        · exact .inr ⟨k, c, e, z.sameBut hs (cne y c e)⟩
    · obtain ⟨w', z⟩ := I.cell y c e
      exact ⟨w', z.sameBut hs (cne y c e)⟩
    · obtain ⟨e, n, ne, nf, d⟩ := I.pin p hp
      exact ⟨(hs.2 p.1 ne).trans e, n, ne, nf, d⟩
  · have hfn : X.fn x = true := by
      rcases hf with z | z
      · exact z
      · rw [z] at hk; cases hk
    obtain ⟨c, hc⟩ := I.ok.has x (.inl hk)
    obtain ⟨w', z⟩ := I.cell x c hc
    refine wpAny_storeName_cell I.ok.kind hk hc z (fun h' hc' hs => ?_)
    obtain ⟨oc, hoc, hocd⟩ := id z
    refine h { s with heap := h' } ⟨I.ok, I.os, I.bare, ⟨fun b o e n hb hx => ?_, fun b o e n hb hx => ?_, I.base.free, fun b o e hx => ?_, I.base.tups, I.base.frzs, I.base.tbls⟩, ⟨m, hn.sameBut hs (Ne.symm (cne x c hc)), fun j y v' e1 e2 e3 => ?_⟩, fun y c' e => ?_, I.free, I.freeC, fun p hp => ?_, tracked ⟨oc, hoc, I.freeC x c hc⟩ hs, by simpa using I.len⟩ ⟨c, hs, .inr hc⟩
    · exact (hs.2 b (Nat.ne_of_lt (Nat.lt_of_lt_of_le (Heap.lt_size e) (I.ok.cab x c hfn hc)))).trans (I.base.keep b o e n hb hx)
    · obtain ⟨sl, e1⟩ := I.base.slot b o e n hb hx
      exact ⟨sl, (hs.2 b (Nat.ne_of_lt (Nat.lt_of_lt_of_le (Heap.lt_size e) (I.ok.cab x c hfn hc)))).trans e1⟩
    · obtain ⟨o', e1⟩ := I.base.there b o e hx
      exact ⟨o', (hs.2 b (Nat.ne_of_lt (Nat.lt_of_lt_of_le (Heap.lt_size e) (I.ok.cab x c hfn hc)))).trans e1⟩
    · by_cases hj : j = i
      · subst hj
        rw [hi] at e1; cases e1
        rw [List.getElem?_set_self hiσ] at e2
        cases e2
        exact ⟨u, r, .inr ⟨.inl hk, c, hc, hc'⟩⟩
      · rw [List.getElem?_set_ne (Ne.symm hj)] at e2
        obtain ⟨u', r', q⟩ := hl j y v' e1 e2 e3
        refine ⟨u', r', ?_⟩
        rcases q with q | ⟨k, c', e, z'⟩
        · exact .inl q
        · refine .inr ⟨k, c', e, z'.sameBut hs ?_⟩
          rintro rfl
          exact hj (nodup_ix hN e1 (I.ok.inj _ _ _ e hc ▸ hi))
    · by_cases hcc : c' = c
      · subst hcc; exact ⟨_, hc'⟩
      · obtain ⟨w2, z2⟩ := I.cell y c' e
        exact ⟨w2, z2.sameBut hs hcc⟩
    · obtain ⟨e, n, ne, nf, d⟩ := I.pin p hp
      refine ⟨(hs.2 p.1 ?_).trans e, n, ne, nf, d⟩
      intro q
      rw [q, hoc] at e
      have q' : oc = p.2 := Option.some.inj e
      exact d w' (by rw [← q']; exact hocd)
theorem store_ok {M : Model} {A : Around} {E : Value → Shared → Prop} {i : Nat} {x : Str} {v : V} {u : Value} {Q : Unit → Shared → Prop} (I : Inv X pins σ H s) (hN : X.N.Nodup) (hi : X.N[i]? = some x) (hx : Loc X.env.scope x) (r : RelV v u)
    (h : ∀ s', Inv X pins (σ.set i (some v)) H s' → Q () s') (hf : X.fn x = true ∨ X.env.scope.names.lookup x = some .local := by first | exact .inl rfl | exact .inr rfl | assumption) : wpAny M A (storeName X.env x u) Q E s :=
  store_ok2 I hN hi hx r (fun s' I' _ => h s' I') hf
/-- behind a call or a block, the state as it is -/
theorem Inv.call' {s' : Shared} {ch : List Addr} (I : Inv X pins σ H s) (ho : s'.os = s.os) (u : Un (frs X.stack) ch H H' s.heap s'.heap) (hok : HOk X.prog X.w H' s'.heap) (hg : AllBare s'.gens)
    (hch : ∀ b ∈ ch, (b ∈ X.ex ∨ X.s₀.heap.objs.size ≤ b) ∧ b ≠ X.env.locals ∧ (∀ x c, X.env.cells.lookup x = some c → c ≠ b) ∧ ∀ p ∈ X.pn ++ pins, p.1 ≠ b) : Inv X pins σ H' s' := by
  obtain ⟨h', g', d', t', o'⟩ := s'
  have e : o' = s.os := ho
  subst e
  exact I.call (g' := g') (t' := t') (d' := d') u hok hg hch
end

/-! ### the judgements -/
/-- an exception: its class, its own dict's address (where it has one), the abstract heap behind it -/
abbrev XK := Value → Option Addr → Hp → Prop
abbrev St := List (Option V)
abbrev VK := V → Hp → Prop
/-- an expression's reading; a test's; an argument list's -/
abbrev TE := St → Hp → VK → Prop
abbrev TT := St → Hp → (Bool → Hp → Prop) → Prop
abbrev TA := St → Hp → (List V → Hp → Prop) → Prop
/-- what is wanted behind a statement -/
structure Ends where
  nx : St → Hp → Prop
  rt : VK
  bk : St → Hp → Prop := fun _ _ => False
  ct : St → Hp → Prop := fun _ _ => False
abbrev TS := Ends → St → Hp → Prop

def EP (X : Cx) (pins : List (Addr × Obj)) (σ : St) (Q : VK) (u : Value) (s' : Shared) : Prop := ∃ v H', Inv X pins σ H' s' ∧ RelV v u ∧ Q v H'
def TP (X : Cx) (pins : List (Addr × Obj)) (σ : St) (Q : Bool → Hp → Prop) (b : Bool) (s' : Shared) : Prop := ∃ H', Inv X pins σ H' s' ∧ Q b H'
def AP (X : Cx) (pins : List (Addr × Obj)) (σ : St) (Q : List V → Hp → Prop) (us : List Value) (s' : Shared) : Prop := ∃ vs H', Inv X pins σ H' s' ∧ Vals vs us ∧ Q vs H'
def SP (X : Cx) (pins : List (Addr × Obj)) (D : Ends) (f : Flow) (s' : Shared) : Prop :=
  match f with
  | .next => ∃ σ' H', Inv X pins σ' H' s' ∧ D.nx σ' H'
  | .brk => ∃ σ' H', Inv X pins σ' H' s' ∧ D.bk σ' H'
  | .cont => ∃ σ' H', Inv X pins σ' H' s' ∧ D.ct σ' H'
  | .ret u => ∃ v σ' H', Inv X pins σ' H' s' ∧ RelV v u ∧ D.rt v H'

def PE (X : Cx) (e : Expr) (t : TE) : Prop :=
  ∀ (pins : List (Addr × Obj)) (s : Shared) (σ : St) (H : Hp) (Q : VK), Inv X pins σ H s → t σ H Q → wpAny (model X.prog X.w) X.A (eval e X.env) (EP X pins σ Q) X.xe s
def PT (X : Cx) (e : Expr) (t : TT) : Prop :=
  ∀ (pins : List (Addr × Obj)) (s : Shared) (σ : St) (H : Hp) (Q : Bool → Hp → Prop), Inv X pins σ H s → t σ H Q → wpAny (model X.prog X.w) X.A (isTrue e X.env (eval e X.env)) (TP X pins σ Q) X.xe s
/-- a test whatever its 'whole' is (and, or) -/
def PW (X : Cx) (e : Expr) (t : TT) : Prop :=
  ∀ (whole : Sem Value) (pins : List (Addr × Obj)) (s : Shared) (σ : St) (H : Hp) (Q : Bool → Hp → Prop), Inv X pins σ H s → t σ H Q → wpAny (model X.prog X.w) X.A (isTrue e X.env whole) (TP X pins σ Q) X.xe s
theorem PW.pt {X : Cx} {e : Expr} {t : TT} (h : PW X e t) : PT X e t := h _
/-- an argument list (no star), from the left -/
def PA (X : Cx) (es : List Expr) (t : TA) : Prop :=
  ∀ (pos : Pos) (pins : List (Addr × Obj)) (s : Shared) (σ : St) (H : Hp) (Q : List V → Hp → Prop), Inv X pins σ H s → t σ H Q → wpAny (model X.prog X.w) X.A (spliced (backTo pos (starEach es X.env))) (AP X pins σ Q) X.xe s
def PS (X : Cx) (st : Stmt) (t : TS) : Prop :=
  ∀ (pins : List (Addr × Obj)) (s : Shared) (σ : St) (H : Hp) (D : Ends), Inv X pins σ H s → t D σ H → wpAny (model X.prog X.w) X.A (exec st X.env) (SP X pins D) X.xe s
def PSs (X : Cx) (st : List Stmt) (t : TS) : Prop :=
  ∀ (pins : List (Addr × Obj)) (s : Shared) (σ : St) (H : Hp) (D : Ends), Inv X pins σ H s → t D σ H → wpAny (model X.prog X.w) X.A (execs st X.env) (SP X pins D) X.xe s
/-- weaken the end -/
theorem thn {α : Type} {t : Sem α} {Q Q' : α → Shared → Prop} {M : Model} {A : Around} {E : Value → Shared → Prop} {s : Shared} (h : wpAny M A t Q E s) (hQ : ∀ a s, Q a s → Q' a s) : wpAny M A t Q' E s := wpAny_mono h hQ fun _ _ x => x
end L2

namespace L2
open PySem PySem.Spec PyProof.Rows
section
variable {X : Cx}


/-! ### names and constants -/
def tVar (i : Nat) : TE := fun σ H Q => ∃ v, σ[i]? = some (some v) ∧ Q v H
def tC (v : V) : TE := fun _ H Q => Q v H
theorem pe_var {i : Nat} {x : Str} {pos : Pos} (hN : X.N[i]? = some x) (hv : Vis X.env.scope x) (hd : (x == ("__debug__" : Str)) = false := by decide) (hcd : (x == ("__classdict__" : Str)) = false := by decide) : PE X (.Name x pos) (tVar i) := by
  intro pins s σ H Q I h
  obtain ⟨v, e, h⟩ := h
  obtain ⟨m, hn, hl⟩ := I.loc
  obtain ⟨u, r, l⟩ := hl i x v hN e hv
  have fin : EP X pins σ Q u s := ⟨v, H, I, r, h⟩
  rcases l with ⟨hk, hm⟩ | ⟨hk, c, hc, hcell⟩
  · exact wpAny_Name (wpAny_loadName_local I.ok.kind hk hn hm fin) hd
  · rcases hk with hk | hk
    · exact wpAny_Name (wpAny_loadName_cell I.ok.kind hk hc hcell fin) hd
    · exact wpAny_Name (wpAny_loadName_free I.ok.kind hk hc hcell fin hcd) hd
theorem pe_int {i j pos} : PE X (.Constant (.int i) j pos) (tC (.int i)) := fun _ _ _ H _ I h => wpAny_Constant_int ⟨.int i, H, I.tok _, ⟨_, rfl⟩, h⟩
theorem pe_bl {b j pos} : PE X (.Constant (.bool b) j pos) (tC (.bl b)) := fun _ _ _ H _ I h => Constant_bool ⟨.bl b, H, I, rfl, h⟩
theorem pe_non {j pos} : PE X (.Constant .none j pos) (tC .non) := fun _ _ _ H _ I h => Constant_none ⟨.non, H, I, rfl, h⟩
theorem pe_str {x j pos} : PE X (.Constant (.str x) j pos) (tC (.str x)) := fun _ _ _ H _ I h => Calls.Constant_str ⟨.str x, H, I.tok _, ⟨_, rfl⟩, h⟩

/-- a global name of the def -/
def Gl (X : Cx) (x : Str) : Prop := X.env.kindOf x = some .globalImplicit
theorem ld_glob {E : Value → Shared → Prop} {pins : List (Addr × Obj)} {s : Shared} {σ : St} {H : Hp} {x : Str} {u : Value} {pos : Pos} {Q : Value → Shared → Prop} (I : Inv X pins σ H s) (hg : Gl X x) (hm : X.mg x = some u) (h : Q u s)
    (hd : (x == ("__debug__" : Str)) = false := by decide) : wpAny (model X.prog X.w) X.A (eval (.Name x pos) X.env) Q E s :=
  Calls.Name_function_global I.ok.kind hg (Calls.loadGlobal_global (by rw [I.ok.glob]; exact I.mod.glob.keeps I.bk) hm h) hd
theorem ld_blt {E : Value → Shared → Prop} {pins : List (Addr × Obj)} {s : Shared} {σ : St} {H : Hp} {x : Str} {u : Value} {pos : Pos} {Q : Value → Shared → Prop} (I : Inv X pins σ H s) (hg : Gl X x) (hm : X.mg x = none) (hv : bootBuiltins x = some u) (h : Q u s)
    (hn : x ≠ "__name__" := by decide) (hd : (x == ("__debug__" : Str)) = false := by decide) : wpAny (model X.prog X.w) X.A (eval (.Name x pos) X.env) Q E s := by
  obtain ⟨mb, h1, h2⟩ := I.mod.blt
  exact Calls.Name_function_global I.ok.kind hg (Calls.loadGlobal_builtin (by rw [I.ok.glob]; exact I.mod.glob.keeps I.bk) hm (by rw [I.ok.blt]; exact h1.keeps I.bk) ((h2 x hn).trans hv) h) hd
/-- a module's constant, a class, a function, as a value -/
theorem pe_glob {x : Str} {v : V} {u : Value} {pos : Pos} (hg : Gl X x) (hm : X.mg x = some u) (r : RelV v u) (hd : (x == ("__debug__" : Str)) = false := by decide) : PE X (.Name x pos) (tC v) :=
  fun _ _ _ H _ I h => ld_glob I hg hm ⟨v, H, I, r, h⟩ hd
theorem pe_bltn {x : Str} {v : V} {u : Value} {pos : Pos} (hg : Gl X x) (hm : X.mg x = none) (hv : bootBuiltins x = some u) (r : RelV v u) (hn : x ≠ "__name__" := by decide) (hd : (x == ("__debug__" : Str)) = false := by decide) : PE X (.Name x pos) (tC v) :=
  fun _ _ _ H _ I h => ld_blt I hg hm hv ⟨v, H, I, r, h⟩ hn hd

/-! ### arithmetic -/
/-- two ints -/
def t2I (ta tb : TE) (k : Int → Int → Hp → Prop) : St → Hp → Prop := fun σ H => ta σ H fun x H1 => tb σ H1 fun y H2 => ∃ i j, x = .int i ∧ y = .int j ∧ k i j H2
def tAdd (ta tb : TE) : TE := fun σ H Q => t2I ta tb (fun i j H2 => Q (.int (i + j)) H2) σ H
def tSub (ta tb : TE) : TE := fun σ H Q => t2I ta tb (fun i j H2 => Q (.int (i - j)) H2) σ H
/-- the left factor below 2^64 -/
def tMul (ta tb : TE) : TE := fun σ H Q => t2I ta tb (fun i j H2 => (-(2 ^ 64) < i ∧ i < 2 ^ 64) ∧ Q (.int (i * j)) H2) σ H
variable {a b : Expr} {ta tb : TE} {pos : Pos}

/-! ### comparisons -/
def PC (X : Cx) (op : CmpOp) (a b : Expr) (t : TE) : Prop :=
  ∀ (pins : List (Addr × Obj)) (s : Shared) (σ : St) (H : Hp) (Q : VK), Inv X pins σ H s → t σ H Q →
    wpAny (model X.prog X.w) X.A (eval a X.env) (fun v s₁ => wpAny (model X.prog X.w) X.A (eval b X.env) (fun u s₂ => wpAny (model X.prog X.w) X.A (compareOp op v u) (EP X pins σ Q) X.xe s₂) X.xe s₁) X.xe s
def tCmp (p : Int → Int → Bool) (ta tb : TE) : TE := fun σ H Q => t2I ta tb (fun i j H2 => Q (.bl (p i j)) H2) σ H
abbrev tLt : TE → TE → TE := tCmp fun i j => decide (i < j)
abbrev tLe : TE → TE → TE := tCmp fun i j => decide (i ≤ j)
abbrev tGt : TE → TE → TE := tCmp fun i j => decide (j < i)
abbrev tGe : TE → TE → TE := tCmp fun i j => decide (j ≤ i)
abbrev tEqI : TE → TE → TE := tCmp fun i j => decide (i = j)
abbrev tNeI : TE → TE → TE := tCmp fun i j => !decide (i = j)
/-- is None -/
def tIsN (ta : TE) : TE := fun σ H Q => ta σ H fun x H1 => Q (.bl (decide (x = .non))) H1
def tNotN (ta : TE) : TE := fun σ H Q => ta σ H fun x H1 => Q (.bl (!decide (x = .non))) H1
/-- a comparison as a value, as a test -/
def tB (t : TE) : TT := fun σ H Q => t σ H fun x H1 => ∃ c, x = .bl c ∧ Q c H1
/-- an expression whose value is a bool, as a test -/
theorem pt_val {e : Expr} {t : TE} (h : PE X e t) (he : ∀ whole, isTrue e X.env whole = (do let v ← whole; standAt e.pos; holding [v] (truthy v)) := by intro _; rfl) : PT X e (tB t) := by
  intro pins s σ H Q I hw
  refine isTrue_plain (thn (h pins s σ H _ I hw) fun v s1 ⟨x, H1, I1, r1, q1⟩ => ?_) (he _)
  obtain ⟨d, rfl, q⟩ := q1
  cases r1
  exact wpAny_truthy_bool ⟨H1, I1, q⟩

/-! ### and, or, not -/
variable {tA tB' : TT} {rest : List Expr}
def tAnd (t u : TT) : TT := fun σ H Q => t σ H fun c H1 => if c = true then u σ H1 Q else Q false H1
def tOr (t u : TT) : TT := fun σ H Q => t σ H fun c H1 => if c = true then Q true H1 else u σ H1 Q
def tNot (t : TT) : TT := fun σ H Q => t σ H fun c H1 => Q (!c) H1
theorem pw_and1 (ha : PT X a tA) : PW X (.BoolOp .And [a] pos) tA := by
  intro wh pins s σ H Q I h
  refine isTrue_and (thn (ha pins s σ H Q I h) fun c s1 e => ?_)
  cases c with
  | true => exact isTrue_and_nil e
  | false => exact e
theorem pw_or1 (ha : PT X a tA) : PW X (.BoolOp .Or [a] pos) tA := by
  intro wh pins s σ H Q I h
  refine isTrue_or (thn (ha pins s σ H Q I h) fun c s1 e => ?_)
  cases c with
  | false => exact isTrue_or_nil e
  | true => exact e
theorem pw_and (ha : PT X a tA) (hb : PW X (.BoolOp .And (b :: rest) pos) tB') : PW X (.BoolOp .And (a :: b :: rest) pos) (tAnd tA tB') := by
  intro wh pins s σ H Q I h
  refine isTrue_and (thn (ha pins s σ H _ I h) fun c s1 ⟨H1, I1, q1⟩ => ?_)
  cases c with
  | true => exact hb wh pins s1 σ H1 Q I1 q1
  | false => exact ⟨H1, I1, q1⟩
theorem pw_or (ha : PT X a tA) (hb : PW X (.BoolOp .Or (b :: rest) pos) tB') : PW X (.BoolOp .Or (a :: b :: rest) pos) (tOr tA tB') := by
  intro wh pins s σ H Q I h
  refine isTrue_or (thn (ha pins s σ H _ I h) fun c s1 ⟨H1, I1, q1⟩ => ?_)
  cases c with
  | true => exact ⟨H1, I1, q1⟩
  | false => exact hb wh pins s1 σ H1 Q I1 q1
theorem pt_not (ha : PT X a tA) : PT X (.UnaryOp .Not a pos) (tNot tA) := by
  intro pins s σ H Q I h
  exact isTrue_not (ha pins s σ H (fun c H1 => Q (!c) H1) I h)
/-- .. as values (bools) -/
def tAndV (ta tb : TE) : TE := fun σ H Q => ta σ H fun x H1 => ∃ c, x = .bl c ∧ if c = true then tb σ H1 Q else Q (.bl false) H1
def tOrV (ta tb : TE) : TE := fun σ H Q => ta σ H fun x H1 => ∃ c, x = .bl c ∧ if c = true then Q (.bl true) H1 else tb σ H1 Q
def tNotV (ta : TE) : TE := fun σ H Q => ta σ H fun x H1 => ∃ c, x = .bl c ∧ Q (.bl (!c)) H1
theorem pe_one {op} {t : TE} (h : PE X a t) : PE X (.BoolOp op [a] pos) t := fun pins s σ H Q I hw => BoolOp_one (h pins s σ H Q I hw)
theorem pe_and (ha : PE X a ta) (hb : PE X (.BoolOp .And (b :: rest) pos) tb) : PE X (.BoolOp .And (a :: b :: rest) pos) (tAndV ta tb) := by
  intro pins s σ H Q I h
  refine BoolOp_and (thn (ha pins s σ H _ I h) fun v s1 ⟨x, H1, I1, r1, q1⟩ => ?_)
  obtain ⟨c, rfl, q1⟩ := q1
  cases r1
  refine wpAny_truthy_bool ?_
  cases c with
  | true => exact hb pins s1 σ H1 Q I1 q1
  | false => exact ⟨.bl false, H1, I1, rfl, q1⟩
theorem pe_or (ha : PE X a ta) (hb : PE X (.BoolOp .Or (b :: rest) pos) tb) : PE X (.BoolOp .Or (a :: b :: rest) pos) (tOrV ta tb) := by
  intro pins s σ H Q I h
  refine BoolOp_or (thn (ha pins s σ H _ I h) fun v s1 ⟨x, H1, I1, r1, q1⟩ => ?_)
  obtain ⟨c, rfl, q1⟩ := q1
  cases r1
  refine wpAny_truthy_bool ?_
  cases c with
  | false => exact hb pins s1 σ H1 Q I1 q1
  | true => exact ⟨.bl true, H1, I1, rfl, q1⟩
theorem pe_not (ha : PE X a ta) : PE X (.UnaryOp .Not a pos) (tNotV ta) := by
  intro pins s σ H Q I h
  refine UnaryOp_ (thn (ha pins s σ H _ I h) fun v s1 ⟨x, H1, I1, r1, q1⟩ => ?_)
  obtain ⟨c, rfl, q1⟩ := q1
  cases r1
  exact not_of (wpAny_truthy_bool ⟨.bl (!c), H1, I1, rfl, q1⟩)
/-- a if t else b -/
def tIf (t : TT) (ta tb : TE) : TE := fun σ H Q => t σ H fun c H1 => if c = true then ta σ H1 Q else tb σ H1 Q
end
end L2

namespace L2
open PySem PySem.Spec PyProof.Rows

/-! ### a list, a tuple that is read: tracked, frozen, or an object of the module -/
def SqL (K : PySem.W.Frag) (H : Hp) (a : Addr) (xs : List V) : Prop :=
  Rd H a (.lst xs) ∨
    ∃ (o : Obj) (its : Array Value) (n : Nat), K.lookup a = some o ∧ o.cls = .type "list" ∧ o.dict = none ∧ o.data = .seq its n ∧ its.size ≤ sizeLine ∧ Vals xs its.toList
def SqT (K : PySem.W.Frag) (H : Hp) (a : Addr) (xs : List V) : Prop :=
  Rd H a (.tup xs) ∨
    ∃ (o : Obj) (its : Array Value) (n : Nat), K.lookup a = some o ∧ o.cls = .type "tuple" ∧ o.data = .seq its n ∧ its.size ≤ sizeLine ∧ Vals xs its.toList
def absV : Value → Option V
  | .none => some .non
  | .bool b => some (.bl b)
  | .int i _ => some (.int i)
  | .str x _ => some (.str x)
  | .bytes b _ => some (.byt b)
  | .float b _ => some (.flt b)
  | .ref a => some (.ref a)
  | .type n => some (.ty n)
  | _ => none
theorem RelV.abs {x : V} {u : Value} (r : RelV x u) : absV u = some x := by
  cases x with
  | non => cases r; rfl
  | bl _ => cases r; rfl
  | int _ => obtain ⟨t, rfl⟩ := r; rfl
  | str _ => obtain ⟨t, rfl⟩ := r; rfl
  | byt _ => obtain ⟨t, rfl⟩ := r; rfl
  | flt _ => obtain ⟨t, rfl⟩ := r; rfl
  | ref _ => cases r; rfl
  | ty _ => cases r; rfl
theorem RelV.inj {x y : V} {u : Value} (r : RelV x u) (q : RelV y u) : x = y := Option.some.inj (r.abs.symm.trans q.abs)
theorem Vals.inj : ∀ {xs ys : List V} {us : List Value}, Vals xs us → Vals ys us → xs = ys
  | _, _, _, .nil, .nil => rfl
  | _, _, _, .cons r t, .cons r' t' => by rw [r.inj r', Vals.inj t t']
section
variable {X : Cx} {pins : List (Addr × Obj)} {σ : St} {H : Hp} {s : Shared} {a : Addr} {xs ys : List V}
theorem SqL.of {K : PySem.W.Frag} (h : H a = some (.lst xs)) : SqL K H a xs := .inl (.inl h)
theorem SqT.of {K : PySem.W.Frag} (h : H a = some (.tup xs)) : SqT K H a xs := .inl (.inl h)
theorem Inv.list (I : Inv X pins σ H s) (h : SqL X.K H a xs) : ∃ its : List Value, Vals xs its ∧ PlainL s.heap a its.toArray ∧ xs.length ≤ sizeLine := by
  rcases h with h | ⟨o, its, n, hk, hc, hd, hs, hz, r⟩
  · obtain ⟨z, its, n, r, e⟩ := h.ok I.hok
    exact ⟨its, r, ⟨_, n, e, rfl, rfl, rfl⟩, z⟩
  · refine ⟨its.toList, r, ⟨o, n, I.kIn a o hk, hc, hd, by simpa using hs⟩, ?_⟩
    have e := r.length
    simp only [Array.length_toList] at e
    omega
theorem Inv.tuple (I : Inv X pins σ H s) (h : SqT X.K H a xs) : ∃ its : List Value, Vals xs its ∧ IsTup s.heap a its.toArray ∧ xs.length ≤ sizeLine := by
  rcases h with h | ⟨o, its, n, hk, hc, hs, hz, r⟩
  · obtain ⟨z, its, r, p⟩ := h.ok I.hok
    exact ⟨its, r, p, z⟩
  · refine ⟨its.toList, r, ⟨o, I.kIn a o hk, hc, n, by simpa using hs⟩, ?_⟩
    have e := r.length
    simp only [Array.length_toList] at e
    omega
theorem Inv.list_inj (I : Inv X pins σ H s) (h : SqL X.K H a xs) (h' : SqL X.K H a ys) : xs = ys := by
  obtain ⟨its, r, ⟨o, n, e, _, _, d⟩, _⟩ := I.list h
  obtain ⟨its', r', ⟨o', n', e', _, _, d'⟩, _⟩ := I.list h'
  rw [e] at e'; cases e'
  rw [d] at d'
  injection d' with d1 _
  have : its = its' := by simpa using congrArg Array.toList d1
  subst this
  exact r.inj r'
theorem Inv.tuple_inj (I : Inv X pins σ H s) (h : SqT X.K H a xs) (h' : SqT X.K H a ys) : xs = ys := by
  obtain ⟨its, r, ⟨o, e, _, n, d⟩, _⟩ := I.tuple h
  obtain ⟨its', r', ⟨o', e', _, n', d'⟩, _⟩ := I.tuple h'
  rw [e] at e'; cases e'
  rw [d] at d'
  injection d' with d1 _
  have : its = its' := by simpa using congrArg Array.toList d1
  subst this
  exact r.inj r'
end

/-! ### another wish about exceptions -/
abbrev Cx.wish (X : Cx) (E : Value → Shared → Prop) : Cx := { X with xe := E }
/-- no exception leaves -/
abbrev Cx.nox (X : Cx) : Cx := X.wish fun _ _ => False
theorem Cx.Ok.wish {X : Cx} (ok : X.Ok) (E : Value → Shared → Prop) : (X.wish E).Ok :=
  ⟨ok.mod, ok.kind, ok.glob, ok.blt, ok.above, ok.inj, ok.has, ok.cab, ok.hd, ok.frames, ok.stk, ok.exf, ok.bs, ok.bsz, ok.noex, ok.exfs, ok.funs, ok.frf⟩
theorem Cx.Ok.unwish {X : Cx} {E : Value → Shared → Prop} (ok : (X.wish E).Ok) : X.Ok :=
  ⟨ok.mod, ok.kind, ok.glob, ok.blt, ok.above, ok.inj, ok.has, ok.cab, ok.hd, ok.frames, ok.stk, ok.exf, ok.bs, ok.bsz, ok.noex, ok.exfs, ok.funs, ok.frf⟩
section
variable {X : Cx} {pins : List (Addr × Obj)} {σ : St} {H : Hp} {s : Shared} {E : Value → Shared → Prop}
theorem Inv.wish (I : Inv X pins σ H s) (E : Value → Shared → Prop) : Inv (X.wish E) pins σ H s := ⟨I.ok.wish E, I.os, I.bare, I.base, I.loc, I.cell, I.free, I.freeC, I.pin, I.hok, I.len⟩
theorem Inv.unwish (I : Inv (X.wish E) pins σ H s) : Inv X pins σ H s := ⟨I.ok.unwish, I.os, I.bare, I.base, I.loc, I.cell, I.free, I.freeC, I.pin, I.hok, I.len⟩
theorem SP.unwish {D : Ends} {f : Flow} {s' : Shared} (h : SP (X.wish E) pins D f s') : SP X pins D f s' := by
  cases f with
  | next => obtain ⟨σ', H', I, q⟩ := h; exact ⟨σ', H', I.unwish, q⟩
  | brk => obtain ⟨σ', H', I, q⟩ := h; exact ⟨σ', H', I.unwish, q⟩
  | cont => obtain ⟨σ', H', I, q⟩ := h; exact ⟨σ', H', I.unwish, q⟩
  | ret u => obtain ⟨v, σ', H', I, r, q⟩ := h; exact ⟨v, σ', H', I.unwish, r, q⟩
theorem PSs.nox {st : List Stmt} {t : TS} (h : PSs X.nox st t) : PSs X st t := fun pins s σ H D I hw =>
  wpAny_mono (h pins s σ H D (I.wish _) hw) (fun _ _ q => q.unwish) fun _ _ z => False.elim z
end

/-! ### blocks and small statements -/
section
variable {X : Cx} {st : Stmt} {rest : List Stmt} {t u : TS} {e : Expr} {te : TE} {pos : Pos}
def tNext : TS := fun D σ H => D.nx σ H
def tSeq (t u : TS) : TS := fun D σ H => t { D with nx := u D } σ H
theorem pss_nil : PSs X [] tNext := fun _ _ σ H _ I h => wpAny_execs_nil ⟨σ, H, I, h⟩
theorem pss_cons (h1 : PS X st t) (h2 : PSs X rest u) : PSs X (st :: rest) (tSeq t u) := by
  intro pins s σ H D I h
  refine wpAny_execs_cons (thn (h1 pins s σ H { D with nx := u D } I h) fun f s1 q => ?_)
  cases f with
  | next =>
    obtain ⟨σ', H', I', q⟩ := q
    exact h2 pins s1 σ' H' D I' q
  | ret v => exact q
  | brk => exact q
  | cont => exact q
theorem pss_one (h1 : PS X st t) : PSs X [st] t := by
  intro pins s σ H D I h
  refine wpAny_execs_cons (thn (h1 pins s σ H D I h) fun f s1 q => ?_)
  cases f with
  | next => exact wpAny_execs_nil q
  | ret v => exact q
  | brk => exact q
  | cont => exact q
def tBreak : TS := fun D σ H => D.bk σ H
def tCont : TS := fun D σ H => D.ct σ H
/-- in a def's body nothing is shown -/
theorem Inv.quiet {pins : List (Addr × Obj)} {σ : St} {H : Hp} {s : Shared} (I : Inv X pins σ H s) : interactive X.env = false := by simp [interactive, I.ok.kind]
/-- an expression whose value is dropped -/
def tDrop (te : TE) : TS := fun D σ H => te σ H fun _ H1 => D.nx σ H1
theorem ps_expr (he : PE X e te) (hs : swapsWith e none pos.line X.env = pure false := by rfl) : PS X (.Expr e pos) (tDrop te) := by
  intro pins s σ H D I h
  exact wpAny_Expr_any (thn (he pins s σ H _ I h) fun v s1 ⟨x, H1, I1, r1, q1⟩ => ⟨σ, H1, I1, q1⟩) I.quiet hs
def tRet (te : TE) : TS := fun D σ H => te σ H D.rt
theorem ps_ret (he : PE X e te) : PS X (.Return (some e) pos) (tRet te) := by
  intro pins s σ H D I h
  exact wpAny_Return_some (thn (he pins s σ H _ I h) fun v s1 ⟨x, H1, I1, r1, q1⟩ => ⟨x, σ, H1, I1, r1, q1⟩)
def tRetN : TS := fun D _ H => D.rt .non H
def tIfS (c : TT) (t u : TS) : TS := fun D σ H => c σ H fun b H1 => if b = true then t D σ H1 else u D σ H1
theorem ps_if {c : Expr} {a b : List Stmt} {tc : TT} (hc : PT X c tc) (ha : PSs X a t) (hb : PSs X b u) : PS X (.If c a b pos) (tIfS tc t u) := by
  intro pins s σ H D I h
  refine wpAny_If (thn (hc pins s σ H _ I h) fun d s1 ⟨H1, I1, q1⟩ => ?_)
  cases d with
  | true => exact ha pins s1 σ H1 D I1 q1
  | false => exact hb pins s1 σ H1 D I1 q1
/-- code that the proof never comes to -/
def tNever : TS := fun _ _ _ => False
end

/-! ### targets -/
abbrev TG := V → St → Hp → (St → Hp → Prop) → Prop
abbrev TGs := List V → St → Hp → (St → Hp → Prop) → Prop
def PG (X : Cx) (target : Expr) (t : TG) : Prop :=
  ∀ (pins : List (Addr × Obj)) (s : Shared) (σ : St) (H : Hp) (v : V) (u : Value) (Q : St → Hp → Prop), Inv X pins σ H s → RelV v u → t v σ H Q →
    wpAny (model X.prog X.w) X.A (assign target X.env u) (fun _ s' => ∃ σ' H', Inv X pins σ' H' s' ∧ Q σ' H') X.xe s
/-- several targets, one after another -/
def PGs (X : Cx) (ts : List Expr) (t : TGs) : Prop :=
  ∀ (pins : List (Addr × Obj)) (s : Shared) (σ : St) (H : Hp) (vs : List V) (us : List Value) (Q : St → Hp → Prop), Inv X pins σ H s → Vals vs us → t vs σ H Q →
    wpAny (model X.prog X.w) X.A (assignInOrder ((assignEach ts X.env).map (·.2)) us) (fun _ s' => ∃ σ' H', Inv X pins σ' H' s' ∧ Q σ' H') X.xe s
/-- o[i] = v, by values -/
abbrev TSet := V → V → V → Hp → (Hp → Prop) → Prop
def PSet (X : Cx) (t : TSet) : Prop :=
  ∀ (pins : List (Addr × Obj)) (s : Shared) (σ : St) (H : Hp) (o i v : V) (ov iv u : Value) (Q : Hp → Prop), Inv X pins σ H s → RelV o ov → RelV i iv → RelV v u → t o i v H Q →
    wpAny (model X.prog X.w) X.A (setItem ov iv u) (fun _ s' => ∃ H', Inv X pins σ H' s' ∧ Q H') X.xe s
/-- a op= b, by values -/
abbrev TIp := V → V → Hp → VK → Prop
def PIp (X : Cx) (op : Operator) (t : TIp) : Prop :=
  ∀ (pins : List (Addr × Obj)) (s : Shared) (σ : St) (H : Hp) (x y : V) (v u : Value) (Q : VK), Inv X pins σ H s → RelV x v → RelV y u → t x y H Q →
    wpAny (model X.prog X.w) X.A (inplaceOp op v u) (EP X pins σ Q) X.xe s
section
variable {X : Cx} {pos : Pos}
def gName (i : Nat) : TG := fun v σ H Q => Q (σ.set i (some v)) H
theorem pg_name {i : Nat} {x : Str} (hN : X.N.Nodup) (hi : X.N[i]? = some x) (hx : Loc X.env.scope x) (hf : X.fn x = true ∨ X.env.scope.names.lookup x = some .local := by first | exact .inl rfl | exact .inr rfl | assumption) : PG X (.Name x pos) (gName i) := by
  intro pins s σ H v u Q I r h
  exact wpAny_assign_Name (store_ok I hN hi hx r (fun s' I' => ⟨_, H, I', h⟩) hf)
def gNil : TGs := fun vs σ H Q => vs = [] ∧ Q σ H
def gCons (t : TG) (u : TGs) : TGs := fun vs σ H Q => ∃ v r, vs = v :: r ∧ t v σ H fun σ' H' => u r σ' H' Q
theorem pgs_nil : PGs X [] gNil := by
  intro pins s σ H vs us Q I r h
  obtain ⟨e, h⟩ := h
  subst e
  cases r
  exact assignInOrder_nil ⟨σ, H, I, h⟩
theorem pgs_cons {e : Expr} {es : List Expr} {t : TG} {u : TGs} (h1 : PG X e t) (h2 : PGs X es u)
    (hs : (assignEach (e :: es) X.env).map (·.2) = assign e X.env :: (assignEach es X.env).map (·.2) := by rfl) : PGs X (e :: es) (gCons t u) := by
  intro pins s σ H vs us Q I r h
  obtain ⟨v, vr, e1, h⟩ := h
  subst e1
  cases r with
  | cons r rr =>
    rw [hs]
    refine assignInOrder_cons (thn (h1 pins s σ H _ _ _ I r h) fun _ s1 ⟨σ1, H1, I1, q1⟩ => ?_)
    exact h2 pins s1 σ1 H1 _ _ Q I1 rr q1
/-- (a, b, ..) = a tuple of that length -/
def gTup (K : PySem.W.Frag) (n : Nat) (t : TGs) : TG := fun v σ H Q => ∃ a xs, v = .ref a ∧ SqT K H a xs ∧ xs.length = n ∧ t xs σ H Q
theorem pg_tup {es : List Expr} {k : Nat} {t : TGs} {n : Nat} (hc : X.calm = true) (h : PGs X es t)
    (hn : (assignEach es X.env).length = n := by rfl) (hst : (assignEach es X.env).findIdx? (·.1) = none := by rfl) : PG X (.Tuple es k pos) (gTup X.K n t) := by
  intro pins s σ H v u Q I r hw
  obtain ⟨a, xs, e1, hq, hl, hw⟩ := hw
  subst e1
  cases r
  obtain ⟨its, rv, ht, hz⟩ := I.tuple hq
  refine assign_Tuple_tuple (I.ok.hd hc) ht (by simp [hn, ← hl, rv.length]) hst fun h' hx => ?_
  have I1 : Inv X pins σ H { s with heap := h' } := I.kept (t' := s.toks) fun b o e => hx b o (Nat.ne_of_lt (Heap.lt_size e)) e
  exact h pins _ σ H xs _ Q I1 (by simpa using rv) hw
/-- o[i] = .. -/
def gSub (to ti : TE) (t : TSet) : TG := fun v σ H Q => to σ H fun o H1 => ti σ H1 fun i H2 => t o i v H2 fun H3 => Q σ H3
theorem pg_sub {o i : Expr} {to ti : TE} {t : TSet} (ho : PE X o to) (hi : PE X i ti) (hs : PSet X t)
    (ha : ∀ v, assign (.Subscript o i pos) X.env v = (do
      let ov ← holding [v] (eval o X.env)
      let iv ← holding [v, ov] (eval i X.env)
      standAt pos
      holding [v, ov, iv] (setItem ov iv v)
      release [v, ov, iv] []) := by intro _; rfl) : PG X (.Subscript o i pos) (gSub to ti t) := by
  intro pins s σ H v u Q I r h
  rw [ha]
  refine wpAny_bind (wpAny_holding (thn (ho pins s σ H _ I h) fun ov s1 ⟨x, H1, I1, r1, q1⟩ => ?_))
  refine wpAny_bind (wpAny_holding (thn (hi pins s1 σ H1 _ I1 q1) fun iv s2 ⟨y, H2, I2, r2, q2⟩ => ?_))
  refine wpAny_bind (wpAny_standAt (wpAny_bind (wpAny_holding (thn (hs pins s2 σ H2 x y v ov iv u _ I2 r1 r2 r q2) fun _ s3 ⟨H3, I3, q3⟩ => ?_))))
  exact wpAny_release ⟨σ, H3, I3, q3⟩
/-- target = value -/
def tAsg (te : TE) (g : TG) : TS := fun D σ H => te σ H fun x H1 => g x σ H1 D.nx
theorem ps_asg {tg e : Expr} {te : TE} {g : TG} (he : PE X e te) (hg : PG X tg g) (hs : swapsWithSole [tg] e pos.line X.env = pure false := by rfl) (hw : swappedStores [tg] e X.env = pure none := by rfl)
    (h1 : (assignEach [tg] X.env).map (·.2) = [assign tg X.env] := by rfl) : PS X (.Assign [tg] e pos) (tAsg te g) := by
  intro pins s σ H D I h
  refine wpAny_Assign_stores (thn (he pins s σ H _ I h) fun v s1 ⟨x, H1, I1, r1, q1⟩ => ?_) hs hw
  rw [h1]
  exact thn (hg pins s1 σ H1 x v _ I1 r1 q1) fun _ s2 q => q
/-- name = value -/
theorem ps_set {i : Nat} {x : Str} {e : Expr} {te : TE} {pos' : Pos} (hN : X.N.Nodup) (hi : X.N[i]? = some x) (hx : Loc X.env.scope x) (he : PE X e te) (hs : swapsWith e (some (.Name x pos')) pos.line X.env = pure false := by rfl) (hf : X.fn x = true ∨ X.env.scope.names.lookup x = some .local := by first | exact .inl rfl | exact .inr rfl | assumption) :
    PS X (.Assign [.Name x pos'] e pos) (tAsg te (gName i)) := by
  intro pins s σ H D I h
  refine wpAny_Assign_Name (thn (he pins s σ H _ I h) fun v s1 ⟨y, H1, I1, r1, q1⟩ => ?_) hs
  exact store_ok I1 hN hi hx r1 (fun s2 I2 => ⟨_, H1, I2, q1⟩) hf
/-- a, b = x, y with plain local names: stored from the right; the pair itself is not tracked (the opening rows as in PyProof/Rows/TupAssign.lean:23) -/
def tPar (i j : Nat) (ta : TA) : TS := fun D σ H => ta σ H fun vs H1 => ∃ v w, vs = [v, w] ∧ D.nx ((σ.set i (some v)).set j (some w)) H1
/-- name op= e -/
def tAug (i : Nat) (te : TE) (ti : TIp) : TS := fun D σ H => ∃ x, σ[i]? = some (some x) ∧ te σ H fun y H1 => ti x y H1 fun z H2 => D.nx (σ.set i (some z)) H2
/-- o[i] op= e -/
def tAugS (to ti te : TE) (tget : V → V → Hp → VK → Prop) (tip : TIp) (tset : TSet) : TS := fun D σ H => to σ H fun o H1 => ti σ H1 fun i H2 => tget o i H2 fun x H3 => te σ H3 fun y H4 => tip x y H4 fun z H5 => tset o i z H5 fun H6 => D.nx σ H6
/-- o[i], by values -/
def PGet (X : Cx) (t : V → V → Hp → VK → Prop) : Prop :=
  ∀ (pins : List (Addr × Obj)) (s : Shared) (σ : St) (H : Hp) (o i : V) (ov iv : Value) (Q : VK), Inv X pins σ H s → RelV o ov → RelV i iv → t o i H Q →
    wpAny (model X.prog X.w) X.A (getItem ov iv) (EP X pins σ Q) X.xe s
/-- ints -/
def ipI (f : Int → Int → Int) : TIp := fun x y H Q => ∃ i j, x = .int i ∧ y = .int j ∧ Q (.int (f i j)) H
end

/-! ### while -/
section
variable {X : Cx} {pos : Pos}
/-- the invariant W with its measure -/
def tWhile (c : TT) (tb : TS) : TS := fun D σ H => ∃ W : Nat → St → Hp → Prop, (∃ m, W m σ H) ∧ ∀ m σ H, W m σ H →
  c σ H fun b H1 => if b = true then ∃ N : St → Hp → Prop, (∀ σ' H', N σ' H' → ∃ m', m' < m ∧ W m' σ' H') ∧ tb { D with nx := N, ct := N, bk := D.nx } σ H1 else D.nx σ H1
end

/-! ### what a loop or a comprehension walks -/
/-- at turn i: it yields x (the heap may grow), or it stops -/
structure It where
  go : Nat → Hp → Prop
  yld : Nat → Hp → V → Hp → Prop
  stop : Nat → Hp → Prop
/-- the iterator's own objects may turn: they are not the frame's, not pinned, younger than the entry (or a comprehension's own) -/
def FpOk (X : Cx) (pins : List (Addr × Obj)) (H : Hp) (b : Addr) : Prop :=
  H b = none ∧ b ≠ X.env.locals ∧ b ∉ X.fs ∧ (b ∈ X.ex ∨ X.s₀.heap.objs.size ≤ b) ∧ (∀ x c, X.env.cells.lookup x = some c → c ≠ b) ∧ ∀ p ∈ X.pn ++ pins, p.1 ≠ b
theorem Inv.fpOk {X : Cx} {pins : List (Addr × Obj)} {σ : St} {H H' : Hp} {s : Shared} {b : Addr} (I : Inv X pins σ H s) (hb : s.heap.objs.size ≤ b) (hn : H' b = none) : FpOk X pins H' b := by
  refine ⟨hn, Nat.ne_of_gt (Nat.lt_of_lt_of_le I.lt hb), I.nofs hb, .inr (Nat.le_trans I.sz hb), fun x c e z => ?_, fun p hp z => ?_⟩
  · obtain ⟨v, q⟩ := I.cell x c e
    exact absurd (Nat.lt_of_lt_of_le q.lt (by rw [z]; exact hb)) (Nat.lt_irrefl _)
  · exact absurd (Nat.lt_of_lt_of_le (Heap.lt_size (I.pin p hp).1) (by rw [z]; exact hb)) (Nat.lt_irrefl _)
structure Turn (P : Program) (w : World) (K : PySem.W.Frag) (tg : Expr) (J : It) (fp : List Addr) (it : Addr) (tn : Nat → Heap → Prop) : Prop where
  mem : it ∈ fp
  obj : ∀ i h, tn i h → ∀ b ∈ fp, ∃ o, h.get? b = some o ∧ ∀ v, o.data ≠ .cell v
  keep : ∀ i h h', tn i h → (∀ b ∈ fp, ∀ o, h.get? b = some o → h'.get? b = some o) → tn i h'
  item : ∀ (X : Cx), X.prog = P → X.w = w → X.K = K → X.calm = true → ∀ (i : Nat) (pins : List (Addr × Obj)) (s : Shared) (σ : St) (H : Hp) (E : Value → Shared → Prop), Inv X pins σ H s → (∀ b ∈ fp, FpOk X pins H b) → tn i s.heap → J.go i H →
    wpAny (model P w) X.A (pyNext (.ref it)) (fun r s1 => ∃ u, r = some u ∧
      wpAny (model P w) X.A (letOwnedTupleGo tg (.ref it) u) (fun _ s2 => ∃ x H', Inv X pins σ H' s2 ∧ RelV x u ∧ J.yld i H x H' ∧ tn (i + 1) s2.heap ∧ ∀ b ∈ fp, H' b = none) E s1) E s
  done : ∀ (X : Cx), X.prog = P → X.w = w → X.K = K → X.calm = true → ∀ (i : Nat) (pins : List (Addr × Obj)) (s : Shared) (σ : St) (H : Hp) (E : Value → Shared → Prop), Inv X pins σ H s → (∀ b ∈ fp, FpOk X pins H b) → tn i s.heap → J.stop i H →
    wpAny (model P w) X.A (pyNext (.ref it)) (fun r s1 => r = none ∧ Inv X pins σ H s1) E s
  self : ∀ (A : Around) (i : Nat) (s : Shared) (Q : Value → Shared → Prop) (E : Value → Shared → Prop), tn i s.heap → Q (.ref it) s → wpAny (model P w) A (pyIter (.ref it)) Q E s
abbrev TI := St → Hp → (It → Hp → Prop) → Prop
/-- an iterator has come -/
def PIE (X : Cx) (pins : List (Addr × Obj)) (σ : St) (tg : Expr) (R : It → Hp → Prop) (itv : Value) (s2 : Shared) : Prop :=
  ∃ (it : Addr) (fp : List Addr) (tn : Nat → Heap → Prop) (J : It) (H' : Hp), itv = .ref it ∧ Inv X pins σ H' s2 ∧ Turn X.prog X.w X.K tg J fp it tn ∧ tn 0 s2.heap ∧ (∀ b ∈ fp, FpOk X pins H' b) ∧ R J H'
def PI (X : Cx) (tg iter : Expr) (wi : TI) : Prop :=
  ∀ (pins : List (Addr × Obj)) (s : Shared) (σ : St) (H : Hp) (R : It → Hp → Prop), Inv X pins σ H s → wi σ H R →
    wpAny (model X.prog X.w) X.A (eval iter X.env) (fun v s1 => wpAny (model X.prog X.w) X.A (pyIter v) (PIE X pins σ tg R) X.xe s1) X.xe s

/-- the step ahead of the store is nothing for an iterator that keeps no tuple -/
theorem go_of {M : Model} {A : Around} {E : Value → Shared → Prop} {s : Shared} {tg : Expr} {it : Addr} {u : Value} {o : Obj} {n : String} {vs : Array Value} {Q : Unit → Shared → Prop} (ho : s.heap.get? it = some o) (hc : o.cls = .type n) (hd : o.data = .fields vs)
    (hn : ["enumerate", "zip", "dict_itemiterator", "dict_reverseitemiterator", "odict_iterator", "itertools.zip_longest", "itertools.pairwise"].contains n = false) (hQ : Q () s) : wpAny M A (letOwnedTupleGo tg (.ref it) u) Q E s := by
  unfold letOwnedTupleGo
  cases tg <;> first
    | exact wpAny_pure hQ
    | (cases u <;> first
        | exact wpAny_pure hQ
        | (refine wpAny_bind (wpAny_load ho ?_)
           rw [hc, hd]
           show wpAny M A (if (["enumerate", "zip", "dict_itemiterator", "dict_reverseitemiterator", "odict_iterator", "itertools.zip_longest", "itertools.pairwise"].contains n && vs[0]? == some (rawInt _)) = true then _ else _) Q E s
           rw [if_neg (by intro h; rw [hn, Bool.false_and] at h; cases h)]
           exact wpAny_pure hQ))

/-- the list at a, as it stands at each turn (a loop may append to it) -/
def Itl (K : PySem.W.Frag) (a : Addr) : It :=
  ⟨fun i H => ∃ xs x, SqL K H a xs ∧ xs[i]? = some x, fun i H x H' => H' = H ∧ ∀ xs, SqL K H a xs → xs[i]? = some x, fun i H => ∃ xs, SqL K H a xs ∧ xs.length ≤ i⟩
def Itt (K : PySem.W.Frag) (a : Addr) : It :=
  ⟨fun i H => ∃ xs x, SqT K H a xs ∧ xs[i]? = some x, fun i H x H' => H' = H ∧ ∀ xs, SqT K H a xs → xs[i]? = some x, fun i H => ∃ xs, SqT K H a xs ∧ xs.length ≤ i⟩
/-- lo, lo + 1, .. (n of them) -/
def Itr (lo : Int) (n : Nat) : It := ⟨fun i _ => i < n, fun i H x H' => H' = H ∧ x = .int (lo + i), fun i _ => n ≤ i⟩
theorem turn_list {P : Program} {w : World} {K : PySem.W.Frag} {tg : Expr} (a it : Addr) : Turn P w K tg (Itl K a) [it] it (fun i h => h.IsListIter it a i) where
  mem := by simp
  obj := fun i h st b hb => by
    have e : b = it := by simpa using hb
    subst e
    obtain ⟨o, e, c, d⟩ := st
    exact ⟨o, e, fun v z => by rw [d] at z; cases z⟩
  keep := fun i h h' st k => st.at fun o e => k it (by simp) o e
  item := by
    intro X hP hw hK hc i pins s σ H E I hf st hg
    subst hP hw hK
    obtain ⟨xs, x, hq, hx⟩ := hg
    obtain ⟨its, rv, p, hz⟩ := I.list hq
    obtain ⟨u, hu, ru⟩ := rv.get hx
    obtain ⟨f0, f1, f2, f3, f4, f5⟩ := hf it (by simp)
    refine wpAny_pyNext_list_item st p.isList (x := u) (by simpa using hu) fun h' st' sb => ?_
    have I1 : Inv X pins σ H { s with heap := h' } := I.turned (t' := s.toks) (fun b o hb e => (sb.2 b hb).trans e) f0 f1 f3 f4 f5
    obtain ⟨o, e, c, d⟩ := id st'
    exact ⟨u, rfl, go_of (s := { s with heap := h' }) e c d (by decide) ⟨x, H, I1, ru, ⟨rfl, fun ys hy => by rw [I.list_inj hy hq]; exact hx⟩, st', fun b hb => (hf b hb).1⟩⟩
  done := by
    intro X hP hw hK hc i pins s σ H E I hf st hg
    subst hP hw hK
    obtain ⟨xs, hq, hx⟩ := hg
    obtain ⟨its, rv, p, hz⟩ := I.list hq
    obtain ⟨f0, f1, f2, f3, f4, f5⟩ := hf it (by simp)
    have hl := rv.length
    exact wpAny_pyNext_list_end (I.ok.hd hc) st p.isList (by simp; omega) fun h' eb => ⟨rfl, I.turned (t' := s.toks) (fun b o hb e => eb b o hb e) f0 f1 f3 f4 f5⟩
  self := fun _ _ _ _ _ st h => wpAny_pyIter_listiter st h
theorem turn_tuple {P : Program} {w : World} {K : PySem.W.Frag} {tg : Expr} (a it : Addr) : Turn P w K tg (Itt K a) [it] it (fun i h => h.IsTupleIter it a i) where
  mem := by simp
  obj := fun i h st b hb => by
    have e : b = it := by simpa using hb
    subst e
    obtain ⟨o, e, c, d⟩ := st
    exact ⟨o, e, fun v z => by rw [d] at z; cases z⟩
  keep := fun i h h' st k => st.at fun o e => k it (by simp) o e
  item := by
    intro X hP hw hK hc i pins s σ H E I hf st hg
    subst hP hw hK
    obtain ⟨xs, x, hq, hx⟩ := hg
    obtain ⟨its, rv, p, hz⟩ := I.tuple hq
    obtain ⟨u, hu, ru⟩ := rv.get hx
    obtain ⟨f0, f1, f2, f3, f4, f5⟩ := hf it (by simp)
    refine wpAny_pyNext_tuple_item st (show s.heap.IsTuple a its.toArray from p) (x := u) (by simpa using hu) fun h' st' sb => ?_
    have I1 : Inv X pins σ H { s with heap := h' } := I.turned (t' := s.toks) (fun b o hb e => (sb.2 b hb).trans e) f0 f1 f3 f4 f5
    obtain ⟨o, e, c, d⟩ := id st'
    exact ⟨u, rfl, go_of (s := { s with heap := h' }) e c d (by decide) ⟨x, H, I1, ru, ⟨rfl, fun ys hy => by rw [I.tuple_inj hy hq]; exact hx⟩, st', fun b hb => (hf b hb).1⟩⟩
  done := by
    intro X hP hw hK hc i pins s σ H E I hf st hg
    subst hP hw hK
    obtain ⟨xs, hq, hx⟩ := hg
    obtain ⟨its, rv, p, hz⟩ := I.tuple hq
    obtain ⟨f0, f1, f2, f3, f4, f5⟩ := hf it (by simp)
    have hl := rv.length
    exact wpAny_pyNext_tuple_end (I.ok.hd hc) st (show s.heap.IsTuple a its.toArray from p) (by simp; omega) fun h' eb => ⟨rfl, I.turned (t' := s.toks) (fun b o hb e => eb b o hb e) f0 f1 f3 f4 f5⟩
  self := fun _ _ _ _ _ st h => wpAny_pyIter_tupleiter st h
theorem turn_range {P : Program} {w : World} {K : PySem.W.Frag} {tg : Expr} (it : Addr) (lo : Int) (n : Nat) : Turn P w K tg (Itr lo n) [it] it (fun i h => IsRangeIter h it (lo + (i : Nat) * 1) ((n : Int) - (i : Nat)) 1) where
  mem := by simp
  obj := fun i h st b hb => by
    have e : b = it := by simpa using hb
    subst e
    exact ⟨_, st, fun v z => by
      have z' : Data.fields _ = Data.cell v := z
      cases z'⟩
  keep := fun i h h' st k => k it (by simp) _ st
  item := by
    intro X hP hw hK hc i pins s σ H E I hf st hg
    subst hP hw hK
    obtain ⟨f0, f1, f2, f3, f4, f5⟩ := hf it (by simp)
    have W := Walks.range (prog := X.prog) (w := X.w) (I.ok.hd hc) it lo 1 n
    refine W.item i s _ _ hg st fun v h' tk hv st' kk => ?_
    obtain ⟨t, rfl⟩ := hv
    have I1 : Inv X pins σ H { s with heap := h', toks := tk } := I.turned (fun b o hb e => kk b o (by simpa using hb) e) f0 f1 f3 f4 f5
    refine ⟨_, rfl, go_of (s := { s with heap := h', toks := tk }) (n := "range_iterator") st' rfl rfl (by decide) ⟨.int (lo + i), H, I1, ⟨t, ?_⟩, ⟨rfl, rfl⟩, st', fun b hb => (hf b hb).1⟩⟩
    rw [Int.mul_one]
  done := by
    intro X hP hw hK hc i pins s σ H E I hf st hg
    subst hP hw hK
    obtain ⟨f0, f1, f2, f3, f4, f5⟩ := hf it (by simp)
    exact wpAny_pyNext_range_end (I.ok.hd hc) st (by have : n ≤ i := hg; omega) fun h' eb => ⟨rfl, I.turned (t' := s.toks) (fun b o hb e => eb b o hb e) f0 f1 f3 f4 f5⟩
  self := fun _ _ _ _ _ st h => wpAny_pyIter_rangeiter st h
end L2

namespace L2
open PySem PySem.Spec PyProof.Rows
section
variable {X : Cx} {tg : Expr}
def iList (K : PySem.W.Frag) (tl : TE) : TI := fun σ H R => tl σ H fun x H1 => ∃ a, x = .ref a ∧ (∃ xs, SqL K H1 a xs) ∧ R (Itl K a) H1
def iTup (K : PySem.W.Frag) (tl : TE) : TI := fun σ H R => tl σ H fun x H1 => ∃ a, x = .ref a ∧ (∃ xs, SqT K H1 a xs) ∧ R (Itt K a) H1
theorem pi_list {l : Expr} {tl : TE} (hl : PE X l tl) : PI X tg l (iList X.K tl) := by
  intro pins s σ H R I h
  refine thn (hl pins s σ H _ I h) fun v s1 ⟨x, H1, I1, r1, q1⟩ => ?_
  obtain ⟨a, e, ⟨xs, hq⟩, q⟩ := q1
  subst e
  cases r1
  obtain ⟨its, rv, p, hz⟩ := I1.list hq
  refine wpAny_pyIter_list p.isList ?_
  refine ⟨s1.heap.objs.size, [s1.heap.objs.size], _, _, H1, rfl, I1.kept (t' := s1.toks) fun b o e => Heap.get?_push_of_some _ e, turn_list a _, ⟨_, Heap.get?_push_size _ rfl, rfl, rfl⟩, fun b hb => ?_, q⟩
  have e : b = s1.heap.objs.size := by simpa using hb
  subst e
  exact I1.fpOk (Nat.le_refl _) (I1.hok.fresh (Nat.le_refl _))
theorem pi_tup {l : Expr} {tl : TE} (hl : PE X l tl) : PI X tg l (iTup X.K tl) := by
  intro pins s σ H R I h
  refine thn (hl pins s σ H _ I h) fun v s1 ⟨x, H1, I1, r1, q1⟩ => ?_
  obtain ⟨a, e, ⟨xs, hq⟩, q⟩ := q1
  subst e
  cases r1
  obtain ⟨its, rv, p, hz⟩ := I1.tuple hq
  refine wpAny_pyIter_tuple (show s1.heap.IsTuple a its.toArray from p) ?_
  refine ⟨s1.heap.objs.size, [s1.heap.objs.size], _, _, H1, rfl, I1.kept (t' := s1.toks) fun b o e => Heap.get?_push_of_some _ e, turn_tuple a _, ⟨_, Heap.get?_push_size _ rfl, rfl, rfl⟩, fun b hb => ?_, q⟩
  have e : b = s1.heap.objs.size := by simpa using hb
  subst e
  exact I1.fpOk (Nat.le_refl _) (I1.hok.fresh (Nat.le_refl _))
/-- a range object just made, walked -/
theorem range_it {pins : List (Addr × Obj)} {σ : St} {H : Hp} {s : Shared} {R : It → Hp → Prop} {E : Value → Shared → Prop} {lo hi : Int} {t u v : Tok} {tk : Nat} (I : Inv X pins σ H s) (h1 : -(2 ^ 62) ≤ lo) (h2 : lo < 2 ^ 62) (h3 : -(2 ^ 62) ≤ hi) (h4 : hi < 2 ^ 62)
    (q : R (Itr lo (hi - lo).toNat) H) : wpAny (model X.prog X.w) X.A (pyIter (.ref s.heap.objs.size)) (PIE X pins σ tg R) E { s with heap := s.heap.push { cls := .type "range", data := .fields #[.int lo t, .int hi u, .int 1 v] }, toks := tk } := by
  refine wpAny_pyIter_range (IsRange.new ..) (small_one h1 h2 h3 h4) ?_
  have I1 : Inv X pins σ H { s with heap := s.heap.push { cls := .type "range", data := .fields #[.int lo t, .int hi u, .int 1 v] }, toks := tk } := I.kept fun b o e => Heap.get?_push_of_some _ e
  refine ⟨(s.heap.push { cls := .type "range", data := .fields #[.int lo t, .int hi u, .int 1 v] }).objs.size, [(s.heap.push { cls := .type "range", data := .fields #[.int lo t, .int hi u, .int 1 v] }).objs.size], _, _, H, rfl,
    I1.kept (t' := tk) fun b o e => Heap.get?_push_of_some _ e, turn_range _ lo (hi - lo).toNat, ?_, fun b hb => ?_, q⟩
  · have e1 : lo + ((0 : Nat) : Int) * 1 = lo := by simp
    have e2 : (((hi - lo).toNat : Nat) : Int) - ((0 : Nat) : Int) = Builtin.Range.rangeSize lo hi 1 := by rw [rangeSize_one]; split <;> omega
    show IsRangeIter _ _ (lo + ((0 : Nat) : Int) * 1) ((((hi - lo).toNat : Nat) : Int) - ((0 : Nat) : Int)) 1
    rw [e1, e2]
    exact Heap.get?_push_size _ rfl
  · have e : b = (s.heap.push { cls := .type "range", data := .fields #[.int lo t, .int hi u, .int 1 v] }).objs.size := by simpa using hb
    subst e
    exact I1.fpOk (Nat.le_refl _) (I1.hok.fresh (Nat.le_refl _))
def iRng1 (ta : TA) : TI := fun σ H R => ta σ H fun vs H1 => ∃ j : Int, vs = [.int j] ∧ -(2 ^ 62) ≤ j ∧ j < 2 ^ 62 ∧ R (Itr 0 j.toNat) H1
def iRng2 (ta : TA) : TI := fun σ H R => ta σ H fun vs H1 => ∃ i j : Int, vs = [.int i, .int j] ∧ (-(2 ^ 62) ≤ i ∧ i < 2 ^ 62 ∧ -(2 ^ 62) ≤ j ∧ j < 2 ^ 62) ∧ R (Itr i (j - i).toNat) H1
theorem pi_range1 {a : Expr} {ta : TA} {p pos : Pos} (hg : Gl X "range") (hm : X.mg "range" = none) (ha : PA X [a] ta) (hs : starEach [a] X.env = [(false, eval a X.env)] := by rfl) : PI X tg (.Call (.Name "range" p) [a] [] pos) (iRng1 ta) := by
  intro pins s σ H R I h
  refine Call_ (ld_blt I hg hm boot_range (PyProof.Rows.callWith_type1 (thn (ha pos pins s σ H _ I h) fun us s1 ⟨vs, H1, I1, r1, q1⟩ => ?_) hs rfl))
  obtain ⟨j, e, q1, q2, q⟩ := q1
  subst e
  cases r1 with
  | cons r rr =>
    cases rr
    obtain ⟨t, rfl⟩ := r
    exact call_range_1 (range_it I1 (by omega) (by omega) q1 q2 (by simpa using q))
theorem pi_range2 {a b : Expr} {ta : TA} {p pos : Pos} (hg : Gl X "range") (hm : X.mg "range" = none) (ha : PA X [a, b] ta) (hs : starEach [a, b] X.env = [(false, eval a X.env), (false, eval b X.env)] := by rfl) (hs2 : starEach [b] X.env = [(false, eval b X.env)] := by rfl) :
    PI X tg (.Call (.Name "range" p) [a, b] [] pos) (iRng2 ta) := by
  intro pins s σ H R I h
  refine Call_ (ld_blt I hg hm boot_range (PyProof.Rows.callWith_type1 (thn (ha pos pins s σ H _ I h) fun us s1 ⟨vs, H1, I1, r1, q1⟩ => ?_) (by rw [hs, hs2]) (by rw [hs2]; rfl)))
  obtain ⟨i, j, e, ⟨q1, q2, q3, q4⟩, q⟩ := q1
  subst e
  cases r1 with
  | cons r rr =>
    cases rr with
    | cons r' rr =>
      cases rr
      obtain ⟨t, rfl⟩ := r
      obtain ⟨t', rfl⟩ := r'
      exact call_range_2 (range_it I1 q1 q2 q3 q4 q)

/-! ### for -/
/-- W: the invariant by the turn and a measure; N: what the body is to reach -/
def tFor (wi : TI) (g : TG) (tb : TS) : TS := fun D σ H => wi σ H fun J H1 => ∃ W : Nat → Nat → St → Hp → Prop, (∃ m, W 0 m σ H1) ∧ ∀ i m σ H, W i m σ H →
  (J.stop i H ∧ D.nx σ H) ∨ (J.go i H ∧ ∃ N : St → Hp → Prop, (∀ σ' H', N σ' H' → ∃ m', m' < m ∧ W (i + 1) m' σ' H') ∧ ∀ x H', J.yld i H x H' → g x σ H' fun σ2 H2 => tb { D with nx := N, ct := N, bk := D.nx } σ2 H2)
/-- the records at fp as they stand -/
def pinsAt (fp : List Addr) (h : Heap) : List (Addr × Obj) := fp.filterMap fun b => (h.get? b).map fun o => (b, o)
theorem mem_pinsAt {fp : List Addr} {h : Heap} {b : Addr} {o : Obj} (hb : b ∈ fp) (e : h.get? b = some o) : (b, o) ∈ pinsAt fp h := List.mem_filterMap.mpr ⟨b, hb, by rw [e]; rfl⟩
theorem of_pinsAt {fp : List Addr} {h : Heap} {p : Addr × Obj} (hp : p ∈ pinsAt fp h) : p.1 ∈ fp ∧ h.get? p.1 = some p.2 := by
  obtain ⟨b, hb, e⟩ := List.mem_filterMap.mp hp
  cases q : h.get? b with
  | none => rw [q] at e; cases e
  | some o =>
    rw [q] at e
    have e' : (b, o) = p := Option.some.inj e
    subst e'
    exact ⟨hb, q⟩
theorem Inv.pinned {pins : List (Addr × Obj)} {σ : St} {H : Hp} {s : Shared} {fp : List Addr} (I : Inv X pins σ H s) (hf : ∀ b ∈ fp, FpOk X pins H b) (ho : ∀ b ∈ fp, ∃ o, s.heap.get? b = some o ∧ ∀ v, o.data ≠ .cell v) : Inv X (pins ++ pinsAt fp s.heap) σ H s :=
  I.pins_of fun p hp => (List.mem_append.mp hp).elim (fun z => I.pin p (List.mem_append_right _ z)) fun z => by
    obtain ⟨hb, e⟩ := of_pinsAt z
    obtain ⟨f0, f1, f2, _⟩ := hf p.1 hb
    obtain ⟨o, e', d⟩ := ho p.1 hb
    rw [e] at e'; cases e'
    exact ⟨e, f0, f1, f2, d⟩
theorem Inv.unpinned {pins pl : List (Addr × Obj)} {σ : St} {H : Hp} {s : Shared} (I : Inv X (pins ++ pl) σ H s) : Inv X pins σ H s := I.pins_of fun p hp => I.pin p (List.mem_append_right _ (List.mem_append_left _ hp))
theorem ps_for {iter : Expr} {body : List Stmt} {wi : TI} {g : TG} {tb : TS} {pos : Pos} (hp : PassesOwn (model X.prog X.w) X.A X.env X.xe) (hc : X.calm = true) (hi : PI X tg iter wi) (hg : PG X tg g) (hb : PSs X body tb)
    (hs : ∀ x, foldedSetIterable iter X.env x = pure x := by intro _; rfl) : PS X (.For tg iter body [] pos) (tFor wi g tb) := by
  intro pins s σ H D I h
  refine wpAny_For (thn (hi pins s σ H _ I h) fun v s1 h1 => thn h1 fun itv s2 h2 => ?_) hs
  obtain ⟨it, fp, tn, J, H2, e, I2, T, st2, f2, W, ⟨m0, w0⟩, turn⟩ := h2
  subst e
  -- what stays true of the iterator's objects through the loop
  have stat : ∀ {H' : Hp}, (∀ b ∈ fp, H' b = none) → ∀ b ∈ fp, FpOk X pins H' b := fun hn b hb => ⟨hn b hb, (f2 b hb).2⟩
  refine codeAny_forLoop_any (fun n s' => ∃ i σ' H', Inv X pins σ' H' s' ∧ tn i s'.heap ∧ (∀ b ∈ fp, H' b = none) ∧ W i n σ' H') ?_ m0 ⟨0, σ, H2, I2, st2, fun b hb => (f2 b hb).1, w0⟩
  rintro n s3 ⟨i, σ3, H3, I3, st3, fr3, w3⟩
  rcases turn i n σ3 H3 w3 with ⟨stop, qn⟩ | ⟨go, N, hN, step⟩
  · refine wpAny_passesOwn hp (thn (T.done X rfl rfl rfl hc i pins s3 σ3 H3 X.xe I3 (stat fr3) st3 stop) fun r s4 ⟨hr, I4⟩ => ?_)
    subst hr
    exact wpAny_execs_nil ⟨σ3, H3, I4, qn⟩
  · refine wpAny_passesOwn hp (thn (T.item X rfl rfl rfl hc i pins s3 σ3 H3 X.xe I3 (stat fr3) st3 go) fun r s4 ⟨u, hr, h4⟩ => ?_)
    subst hr
    refine wpAny_passesOwn hp (thn h4 fun _ s5 ⟨x, H5, I5, r5, y5, st5, fr5⟩ => ?_)
    have I5' := I5.pinned (stat fr5) (T.obj _ _ st5)
    refine wpAny_passesOwn hp (thn (hg _ s5 σ3 H5 x u _ I5' r5 (step x H5 y5)) fun _ s6 ⟨σ6, H6, I6, q6⟩ => ?_)
    refine wpAny_passesOwn hp (thn (hb _ s6 σ6 H6 _ I6 q6) fun f s7 q7 => ?_)
    have again : ∀ {σ7 : St} {H7 : Hp}, Inv X (pins ++ pinsAt fp s5.heap) σ7 H7 s7 → N σ7 H7 → ∃ m, m < n ∧ ∃ i σ' H', Inv X pins σ' H' s7 ∧ tn i s7.heap ∧ (∀ b ∈ fp, H' b = none) ∧ W i m σ' H' := fun {σ7 H7} I7 n7 => by
      obtain ⟨m', hm, w7⟩ := hN σ7 H7 n7
      refine ⟨m', hm, i + 1, σ7, H7, I7.unpinned, T.keep _ _ _ st5 fun b hb o e => (I7.pin (b, o) (List.mem_append_right _ (List.mem_append_right _ (mem_pinsAt hb e)))).1, fun b hb => ?_, w7⟩
      obtain ⟨o, e, d⟩ := T.obj _ _ st5 b hb
      exact (I7.pin (b, o) (List.mem_append_right _ (List.mem_append_right _ (mem_pinsAt hb e)))).2.1
    cases f with
    | next => obtain ⟨σ7, H7, I7, n7⟩ := q7; exact again I7 n7
    | cont => obtain ⟨σ7, H7, I7, n7⟩ := q7; exact again I7 n7
    | brk => obtain ⟨σ7, H7, I7, q7⟩ := q7; exact ⟨σ7, H7, I7.unpinned, q7⟩
    | ret v => obtain ⟨x7, σ7, H7, I7, r7, q7⟩ := q7; exact ⟨x7, σ7, H7, I7.unpinned, r7, q7⟩
end

/-! ### the forms one uses -/
/-- over a list that the body leaves as it is -/
theorem for_list {K : PySem.W.Frag} {a : Addr} {xs : List V} {g : TG} {tb : TS} {D : Ends} {σ : St} {H : Hp} (Pv : Nat → St → Hp → Prop) (h0 : Pv 0 σ H) (hl : ∀ i σ H, i ≤ xs.length → Pv i σ H → SqL K H a xs)
    (hs : ∀ i x σ H, xs[i]? = some x → Pv i σ H → g x σ H fun σ2 H2 => tb { D with nx := Pv (i + 1), ct := Pv (i + 1), bk := D.nx } σ2 H2) (hd : ∀ σ H, Pv xs.length σ H → D.nx σ H) :
    ∃ W : Nat → Nat → St → Hp → Prop, (∃ m, W 0 m σ H) ∧ ∀ i m σ H, W i m σ H →
      ((Itl K a).stop i H ∧ D.nx σ H) ∨ ((Itl K a).go i H ∧ ∃ N : St → Hp → Prop, (∀ σ' H', N σ' H' → ∃ m', m' < m ∧ W (i + 1) m' σ' H') ∧ ∀ x H', (Itl K a).yld i H x H' → g x σ H' fun σ2 H2 => tb { D with nx := N, ct := N, bk := D.nx } σ2 H2) := by
  refine ⟨fun i m σ H => m = xs.length - i ∧ i ≤ xs.length ∧ Pv i σ H, ⟨xs.length, by simp, Nat.zero_le _, h0⟩, ?_⟩
  rintro i m σ H ⟨rfl, hi, p⟩
  have q := hl i σ H hi p
  by_cases hlt : i < xs.length
  · refine .inr ⟨⟨xs, xs[i], q, by simp [hlt]⟩, Pv (i + 1), fun σ' H' p' => ⟨xs.length - (i + 1), by omega, rfl, hlt, p'⟩, fun x H' y => ?_⟩
    obtain ⟨e, y⟩ := y
    subst e
    exact hs i x σ _ (y xs q) p
  · have e : i = xs.length := by omega
    subst e
    exact .inl ⟨⟨xs, q, Nat.le_refl _⟩, hd σ H p⟩
theorem for_range {lo : Int} {n : Nat} {g : TG} {tb : TS} {D : Ends} {σ : St} {H : Hp} (Pv : Nat → St → Hp → Prop) (h0 : Pv 0 σ H)
    (hs : ∀ i σ H, i < n → Pv i σ H → g (.int (lo + i)) σ H fun σ2 H2 => tb { D with nx := Pv (i + 1), ct := Pv (i + 1), bk := D.nx } σ2 H2) (hd : ∀ σ H, Pv n σ H → D.nx σ H) :
    ∃ W : Nat → Nat → St → Hp → Prop, (∃ m, W 0 m σ H) ∧ ∀ i m σ H, W i m σ H →
      ((Itr lo n).stop i H ∧ D.nx σ H) ∨ ((Itr lo n).go i H ∧ ∃ N : St → Hp → Prop, (∀ σ' H', N σ' H' → ∃ m', m' < m ∧ W (i + 1) m' σ' H') ∧ ∀ x H', (Itr lo n).yld i H x H' → g x σ H' fun σ2 H2 => tb { D with nx := N, ct := N, bk := D.nx } σ2 H2) := by
  refine ⟨fun i m σ H => m = n - i ∧ i ≤ n ∧ Pv i σ H, ⟨n, by simp, Nat.zero_le _, h0⟩, ?_⟩
  rintro i m σ H ⟨rfl, hi, p⟩
  by_cases hlt : i < n
  · refine .inr ⟨hlt, Pv (i + 1), fun σ' H' p' => ⟨n - (i + 1), by omega, rfl, hlt, p'⟩, fun x H' y => ?_⟩
    obtain ⟨e, y⟩ := y
    subst e y
    exact hs i σ _ hlt p
  · have e : i = n := by omega
    subst e
    exact .inl ⟨Nat.le_refl _, hd σ H p⟩
end L2

namespace L2
open PySem PySem.Spec PyProof.Rows

abbrev R2 := V → V → Hp → VK → Prop
/-- a two-place operation on values: f is binaryOp op, inplaceOp op or compareOp op -/
def OpR (X : Cx) (f : Value → Value → Sem Value) (r : R2) : Prop :=
  ∀ (pins : List (Addr × Obj)) (s : Shared) (σ : St) (H : Hp) (x y : V) (v u : Value) (Q : VK), Inv X pins σ H s → RelV x v → RelV y u → r x y H Q →
    wpAny (model X.prog X.w) X.A (f v u) (EP X pins σ Q) X.xe s
/-- a one-place operation -/
def UnR (X : Cx) (f : Value → Sem Value) (r : V → Hp → VK → Prop) : Prop :=
  ∀ (pins : List (Addr × Obj)) (s : Shared) (σ : St) (H : Hp) (x : V) (v : Value) (Q : VK), Inv X pins σ H s → RelV x v → r x H Q →
    wpAny (model X.prog X.w) X.A (f v) (EP X pins σ Q) X.xe s
/-- a call of a value that is known (a builtin, a type) with values -/
def CallR (X : Cx) (f : Value) (r : List V → Hp → VK → Prop) : Prop :=
  ∀ (pins : List (Addr × Obj)) (s : Shared) (σ : St) (H : Hp) (xs : List V) (us : List Value) (Q : VK), Inv X pins σ H s → Vals xs us → r xs H Q →
    wpAny (model X.prog X.w) X.A (call f us) (EP X pins σ Q) X.xe s
/-- a value's truth -/
def TruR (X : Cx) (r : V → Hp → (Bool → Hp → Prop) → Prop) : Prop :=
  ∀ (pins : List (Addr × Obj)) (s : Shared) (σ : St) (H : Hp) (x : V) (v : Value) (Q : Bool → Hp → Prop), Inv X pins σ H s → RelV x v → r x H Q →
    wpAny (model X.prog X.w) X.A (truthy v) (TP X pins σ Q) X.xe s

def tOp (r : R2) (ta tb : TE) : TE := fun σ H Q => ta σ H fun x H1 => tb σ H1 fun y H2 => r x y H2 Q
def tUn (r : V → Hp → VK → Prop) (ta : TE) : TE := fun σ H Q => ta σ H fun x H1 => r x H1 Q
/-- ints in, under C, and a value out -/
def rI (C : Int → Int → Prop) (g : Int → Int → V) : R2 := fun x y H Q => ∃ i j, x = .int i ∧ y = .int j ∧ C i j ∧ Q (g i j) H
def rI0 (g : Int → Int → V) : R2 := fun x y H Q => ∃ i j, x = .int i ∧ y = .int j ∧ Q (g i j) H
def rU (g : Int → V) : V → Hp → VK → Prop := fun x H Q => ∃ i, x = .int i ∧ Q (g i) H

section
variable {X : Cx} {a b c : Expr} {ta tb tc : TE} {pos : Pos}

theorem binT (ha : PE X a ta) (hb : PE X b tb) {pins : List (Addr × Obj)} {s : Shared} {σ : St} {H : Hp} {R : V → V → Hp → Prop} (I : Inv X pins σ H s)
    (h : ta σ H fun x H1 => tb σ H1 fun y H2 => R x y H2) {Q : Value → Shared → Prop} {f : Value → Value → Sem Value}
    (hf : ∀ v u s2 x y H2, Inv X pins σ H2 s2 → RelV x v → RelV y u → R x y H2 → wpAny (model X.prog X.w) X.A (f v u) Q X.xe s2) :
    wpAny (model X.prog X.w) X.A (eval a X.env) (fun v s₁ => wpAny (model X.prog X.w) X.A (eval b X.env) (fun u s₂ => wpAny (model X.prog X.w) X.A (f v u) Q X.xe s₂) X.xe s₁) X.xe s := by
  refine thn (ha pins s σ H _ I h) fun v s1 ⟨x, H1, I1, r1, q1⟩ => ?_
  refine thn (hb pins s1 σ H1 _ I1 q1) fun u s2 ⟨y, H2, I2, r2, q2⟩ => ?_
  exact hf v u s2 x y H2 I2 r1 r2 q2

theorem pe_op {op : Operator} {r : R2} (ho : OpR X (binaryOp op) r) (ha : PE X a ta) (hb : PE X b tb) : PE X (.BinOp a op b pos) (tOp r ta tb) := by
  intro pins s σ H Q I h
  exact wpAny_BinOp (binT ha hb I h fun v u s2 x y H2 I2 rx ry q => ho pins s2 σ H2 x y v u Q I2 rx ry q)
theorem pe_un {op : UnaryOp} {r : V → Hp → VK → Prop} (ho : UnR X (unaryOp op) r) (ha : PE X a ta) : PE X (.UnaryOp op a pos) (tUn r ta) := by
  intro pins s σ H Q I h
  exact UnaryOp_ (thn (ha pins s σ H _ I h) fun v s1 ⟨x, H1, I1, r1, q1⟩ => ho pins s1 σ H1 x v Q I1 r1 q1)

/-! ### ints -/
theorem opI {f : Value → Value → Sem Value} {C : Int → Int → Prop} {g : Int → Int → Int}
    (rule : ∀ (i j : Int) (t u : Tok) (s : Shared) (Q : Value → Shared → Prop) (E : Value → Shared → Prop), C i j → Q (.int (g i j) s.toks) { s with toks := s.toks + 1 } → wpAny (model X.prog X.w) X.A (f (.int i t) (.int j u)) Q E s) :
    OpR X f (rI C fun i j => .int (g i j)) := by
  intro pins s σ H x y v u Q I rx ry h
  obtain ⟨i, j, rfl, rfl, hc, q⟩ := h
  obtain ⟨t, rfl⟩ := rx
  obtain ⟨t', rfl⟩ := ry
  exact rule i j t t' s _ _ hc ⟨.int (g i j), H, I.tok _, ⟨_, rfl⟩, q⟩
theorem opI0 {f : Value → Value → Sem Value} {g : Int → Int → Int}
    (rule : ∀ (i j : Int) (t u : Tok) (s : Shared) (Q : Value → Shared → Prop) (E : Value → Shared → Prop), Q (.int (g i j) s.toks) { s with toks := s.toks + 1 } → wpAny (model X.prog X.w) X.A (f (.int i t) (.int j u)) Q E s) :
    OpR X f (rI0 fun i j => .int (g i j)) := by
  intro pins s σ H x y v u Q I rx ry h
  obtain ⟨i, j, rfl, rfl, q⟩ := h
  obtain ⟨t, rfl⟩ := rx
  obtain ⟨t', rfl⟩ := ry
  exact rule i j t t' s _ _ ⟨.int (g i j), H, I.tok _, ⟨_, rfl⟩, q⟩
theorem opB0 {f : Value → Value → Sem Value} {g : Int → Int → Bool}
    (rule : ∀ (i j : Int) (t u : Tok) (s : Shared) (Q : Value → Shared → Prop) (E : Value → Shared → Prop), Q (.bool (g i j)) s → wpAny (model X.prog X.w) X.A (f (.int i t) (.int j u)) Q E s) :
    OpR X f (rI0 fun i j => .bl (g i j)) := by
  intro pins s σ H x y v u Q I rx ry h
  obtain ⟨i, j, rfl, rfl, q⟩ := h
  obtain ⟨t, rfl⟩ := rx
  obtain ⟨t', rfl⟩ := ry
  exact rule i j t t' s _ _ ⟨.bl (g i j), H, I, rfl, q⟩

def CDiv (i j : Int) : Prop := 0 < j ∧ j < 1073741824
def CDivN (i j : Int) : Prop := j ≠ 0 ∧ j.natAbs < 1073741824
def CPow (i j : Int) : Prop := 0 ≤ j ∧ j ≤ 1000000 ∧ i.natAbs < 2 ^ 64
def CMul (i j : Int) : Prop := (-(2 ^ 64) < i ∧ i < 2 ^ 64) ∨ (-(2 ^ 64) < j ∧ j < 2 ^ 64)
theorem CMul.ok {i j : Int} (h : CMul i j) : IntMulOk i j := by
  rcases h with ⟨h1, h2⟩ | ⟨h1, h2⟩
  · exact .of_left (intBits_le_64 h1 h2)
  · exact .of_right (intBits_le_64 h1 h2)

theorem op_add : OpR X (binaryOp .Add) (rI0 fun i j => .int (i + j)) := opI0 fun _ _ _ _ _ _ _ q => add_int q
theorem op_sub : OpR X (binaryOp .Sub) (rI0 fun i j => .int (i - j)) := opI0 fun _ _ _ _ _ _ _ q => sub_int q
theorem op_mul : OpR X (binaryOp .Mult) (rI CMul fun i j => .int (i * j)) := opI fun _ _ _ _ _ _ _ hc q => mul_int q hc.ok
/-- // by a positive divisor -/
theorem op_fdiv : OpR X (binaryOp .FloorDiv) (rI CDiv fun i j => .int (i / j)) := opI fun i j _ _ _ _ _ hc q => by
  have h1 : (0 : Int) < j := hc.1
  have h2 : j < 1073741824 := hc.2
  exact floordiv_int (by omega) (by rw [Int.fdiv_eq_ediv_of_nonneg i (by omega)]; exact q) (.inl (PyProof.noPylong_small (by omega)))
/-- % by a positive divisor of any size -/
theorem op_mod : OpR X (binaryOp .Mod) (rI (fun _ j => 0 < j) fun i j => .int (i % j)) := opI fun i j _ _ _ _ _ hc q => by
  have h1 : (0 : Int) < j := hc
  exact mod_int' (by omega) (by rw [Int.fmod_eq_emod_of_nonneg i (by omega)]; exact q)
theorem op_pow : OpR X (binaryOp .Pow) (rI CPow fun i j => .int (i ^ j.toNat)) := opI fun _ _ _ _ _ _ _ hc q => pow_int_small hc.1 hc.2.1 hc.2.2 q


theorem unI {f : Value → Sem Value} {g : Int → Int}
    (rule : ∀ (i : Int) (t : Tok) (s : Shared) (Q : Value → Shared → Prop) (E : Value → Shared → Prop), Q (.int (g i) s.toks) { s with toks := s.toks + 1 } → wpAny (model X.prog X.w) X.A (f (.int i t)) Q E s) :
    UnR X f (rU fun i => .int (g i)) := by
  intro pins s σ H x v Q I rx h
  obtain ⟨i, rfl, q⟩ := h
  obtain ⟨t, rfl⟩ := rx
  exact rule i t s _ _ ⟨.int (g i), H, I.tok _, ⟨_, rfl⟩, q⟩
theorem un_neg : UnR X (unaryOp .USub) (rU fun i => .int (-i)) := unI fun _ _ _ _ _ q => neg_int q

/-! ### bools among ints: n += (a < b) -/
end

/-! ### comparisons -/
/-- the scalars that == tells apart as data does -/
def scal : V → V → Bool
  | .non, .non => true | .non, .int _ => true | .int _, .non => true | .non, .bl _ => true | .bl _, .non => true | .non, .str _ => true | .str _, .non => true
  | .int _, .int _ => true | .bl _, .bl _ => true | .str _, .str _ => true | .byt _, .byt _ => true
  | .int _, .str _ => true | .str _, .int _ => true | .bl _, .str _ => true | .str _, .bl _ => true
  | _, _ => false
def rEq : R2 := fun x y H Q => scal x y = true ∧ Q (.bl (decide (x = y))) H
def rNe : R2 := fun x y H Q => scal x y = true ∧ Q (.bl (!decide (x = y))) H

theorem dec_int {i j : Int} : decide (V.int i = V.int j) = (i == j) := by
  rw [Bool.eq_iff_iff]
  simp
theorem dec_bl {i j : Bool} : decide (V.bl i = V.bl j) = (i == j) := by
  rw [Bool.eq_iff_iff]
  simp
theorem dec_str {i j : Str} : decide (V.str i = V.str j) = (i == j) := by
  rw [Bool.eq_iff_iff]
  simp
theorem dec_byt {i j : Array UInt8} : decide (V.byt i = V.byt j) = (i.toList == j.toList) := by
  rw [Bool.eq_iff_iff]
  cases i
  cases j
  simp

section
variable {X : Cx} {a b c : Expr} {ta tb tc : TE} {pos : Pos}
theorem fin_bl {pins : List (Addr × Obj)} {σ : St} {H : Hp} {s : Shared} {Q : VK} {k k' : Bool} (I : Inv X pins σ H s) (q : Q (.bl k) H) (e : k = k') : EP X pins σ Q (.bool k') s := by
  subst e
  exact ⟨.bl k, H, I, rfl, q⟩
theorem op_eq : OpR X (compareOp .Eq) rEq := by
  intro pins s σ H x y v u Q I rx ry h
  obtain ⟨hs, q⟩ := h
  cases x with
  | non =>
    cases rx
    cases y with
    | non => cases ry; exact PySem.EqNone.eq_none_none (fin_bl I q (by simp))
    | bl j => cases ry; exact PySem.EqNone.eq_none_bool (fin_bl I q (by simp))
    | int j => obtain ⟨t', rfl⟩ := ry; exact PySem.EqNone.eq_none_int (fin_bl I q (by simp))
    | str j => obtain ⟨t', rfl⟩ := ry; exact PySem.EqNone.eq_none_str (fin_bl I q (by simp))
    | _ => exact absurd (show false = true from hs) Bool.false_ne_true
  | bl i =>
    cases rx
    cases y with
    | non => cases ry; exact PySem.EqNone.eq_bool_none (fin_bl I q (by simp))
    | bl j => cases ry; exact eq_bool (fin_bl I q dec_bl)
    | str j => obtain ⟨t', rfl⟩ := ry; exact PySem.EqMixed.eq_bool_str (fin_bl I q (by simp))
    | _ => exact absurd (show false = true from hs) Bool.false_ne_true
  | int i =>
    obtain ⟨t, rfl⟩ := rx
    cases y with
    | non => cases ry; exact PySem.EqNone.eq_int_none (fin_bl I q (by simp))
    | int j => obtain ⟨t', rfl⟩ := ry; exact eq_int (fin_bl I q dec_int)
    | str j => obtain ⟨t', rfl⟩ := ry; exact PySem.EqMixed.eq_int_str (fin_bl I q (by simp))
    | _ => exact absurd (show false = true from hs) Bool.false_ne_true
  | str i =>
    obtain ⟨t, rfl⟩ := rx
    cases y with
    | non => cases ry; exact PySem.EqNone.eq_str_none (fin_bl I q (by simp))
    | bl j => cases ry; exact PySem.EqMixed.eq_str_bool (fin_bl I q (by simp))
    | int j => obtain ⟨t', rfl⟩ := ry; exact PySem.EqMixed.eq_str_int (fin_bl I q (by simp))
    | str j => obtain ⟨t', rfl⟩ := ry; exact eq_str (fin_bl I q dec_str)
    | _ => exact absurd (show false = true from hs) Bool.false_ne_true
  | byt i =>
    obtain ⟨t, rfl⟩ := rx
    cases y with
    | byt j => obtain ⟨t', rfl⟩ := ry; exact PySem.W.eq_bytes (fin_bl I q dec_byt)
    | _ => exact absurd (show false = true from hs) Bool.false_ne_true
  | _ => cases y <;> exact absurd (show false = true from hs) Bool.false_ne_true
theorem op_ne : OpR X (compareOp .NotEq) rNe := by
  intro pins s σ H x y v u Q I rx ry h
  obtain ⟨hs, q⟩ := h
  cases x with
  | non =>
    cases rx
    cases y with
    | non => cases ry; exact PySem.EqNone.ne_none_none (fin_bl I q (by simp))
    | bl j => cases ry; exact PySem.EqNone.ne_none_bool (fin_bl I q (by simp))
    | int j => obtain ⟨t', rfl⟩ := ry; exact PySem.EqNone.ne_none_int (fin_bl I q (by simp))
    | str j => obtain ⟨t', rfl⟩ := ry; exact PySem.EqNone.ne_none_str (fin_bl I q (by simp))
    | _ => exact absurd (show false = true from hs) Bool.false_ne_true
  | bl i =>
    cases rx
    cases y with
    | non => cases ry; exact PySem.EqNone.ne_bool_none (fin_bl I q (by simp))
    | bl j => cases ry; exact ne_bool (fin_bl I q (congrArg not dec_bl))
    | str j => obtain ⟨t', rfl⟩ := ry; exact PySem.EqMixed.ne_bool_str (fin_bl I q (by simp))
    | _ => exact absurd (show false = true from hs) Bool.false_ne_true
  | int i =>
    obtain ⟨t, rfl⟩ := rx
    cases y with
    | non => cases ry; exact PySem.EqNone.ne_int_none (fin_bl I q (by simp))
    | int j => obtain ⟨t', rfl⟩ := ry; exact ne_int (fin_bl I q (congrArg not dec_int))
    | str j => obtain ⟨t', rfl⟩ := ry; exact PySem.EqMixed.ne_int_str (fin_bl I q (by simp))
    | _ => exact absurd (show false = true from hs) Bool.false_ne_true
  | str i =>
    obtain ⟨t, rfl⟩ := rx
    cases y with
    | non => cases ry; exact PySem.EqNone.ne_str_none (fin_bl I q (by simp))
    | bl j => cases ry; exact PySem.EqMixed.ne_str_bool (fin_bl I q (by simp))
    | int j => obtain ⟨t', rfl⟩ := ry; exact PySem.EqMixed.ne_str_int (fin_bl I q (by simp))
    | str j => obtain ⟨t', rfl⟩ := ry; exact ne_str (fin_bl I q (congrArg not dec_str))
    | _ => exact absurd (show false = true from hs) Bool.false_ne_true
  | byt i =>
    obtain ⟨t, rfl⟩ := rx
    cases y with
    | byt j => obtain ⟨t', rfl⟩ := ry; exact PySem.W.ne_bytes (fin_bl I q (congrArg not dec_byt))
    | _ => exact absurd (show false = true from hs) Bool.false_ne_true
  | _ => cases y <;> exact absurd (show false = true from hs) Bool.false_ne_true

theorem op_lt : OpR X (compareOp .Lt) (rI0 fun i j => .bl (decide (i < j))) := opB0 fun _ _ _ _ _ _ _ q => lt_int q
theorem op_le : OpR X (compareOp .LtE) (rI0 fun i j => .bl (decide (i ≤ j))) := opB0 fun _ _ _ _ _ _ _ q => le_int q
theorem op_gt : OpR X (compareOp .Gt) (rI0 fun i j => .bl (decide (j < i))) := opB0 fun _ _ _ _ _ _ _ q => gt_int q
theorem op_ge : OpR X (compareOp .GtE) (rI0 fun i j => .bl (decide (j ≤ i))) := opB0 fun _ _ _ _ _ _ _ q => ge_int q


/-- is, is not of two objects that are tracked lists or instances -/
def isObj : HO → Bool
  | .lst _ => true
  | .ins _ _ _ => true
  | _ => false


theorem nomark (b : Expr) {op : CmpOp} (h : op ≠ .In := by decide) (h2 : op ≠ .NotIn := by decide) : behindInMarks op b = false := by
  have e1 : (op == CmpOp.In) = false := by cases op <;> first | rfl | exact absurd rfl h
  have e2 : (op == CmpOp.NotIn) = false := by cases op <;> first | rfl | exact absurd rfl h2
  cases b <;> simp [behindInMarks, e1, e2]
/-- a comparison as a value; hm: nomark b, or (for in, not in) by with_unfolding_all rfl -/
theorem pe_cmpR {op : CmpOp} {r : R2} (ho : OpR X (compareOp op) r) (ha : PE X a ta) (hb : PE X b tb) (hm : behindInMarks op b = false) : PE X (.Compare a [op] [b] pos) (tOp r ta tb) := by
  intro pins s σ H Q I h
  exact wpAny_Compare1 (binT ha hb I h fun v u s2 x y H2 I2 rx ry q => ho pins s2 σ H2 x y v u Q I2 rx ry q) hm
/-- a reading of a value as a test -/
def tTest (t : TE) : TT := fun σ H Q => t σ H fun x H' => ∃ k, x = .bl k ∧ Q k H'
theorem pt_cmpR {op : CmpOp} {r : R2} (ho : OpR X (compareOp op) r) (ha : PE X a ta) (hb : PE X b tb) (hm : behindInMarks op b = false) : PT X (.Compare a [op] [b] pos) (tTest (tOp r ta tb)) := by
  intro pins s σ H Q I h
  refine wpAny_isTrue_Compare1 (thn (ha pins s σ H _ I h) fun v s1 ⟨x, H1, I1, r1, q1⟩ => thn (hb pins s1 σ H1 _ I1 q1) fun u s2 ⟨y, H2, I2, r2, q2⟩ =>
    thn (ho pins s2 σ H2 x y v u _ I2 r1 r2 q2) fun c s3 ⟨z, H3, I3, r3, k, e, q3⟩ => ?_) hm
  subst e
  cases r3
  exact wpAny_truthy_bool ⟨H3, I3, q3⟩
/-- a op1 b op2 c -/
def tChain (r r' : R2) (ta tb tc : TE) : TE := fun σ H Q => ta σ H fun x H1 => tb σ H1 fun y H2 => r x y H2 fun z H3 => ∃ k, z = .bl k ∧
  (if k = true then tc σ H3 fun w' H4 => r' y w' H4 Q else Q (.bl false) H3)
theorem pe_chain {op op' : CmpOp} {r r' : R2} (ho : OpR X (compareOp op) r) (ho' : OpR X (compareOp op') r') (ha : PE X a ta) (hb : PE X b tb) (hc : PE X c tc)
    (hm : lastMarks [op, op'] [b, c] = false := by with_unfolding_all rfl) : PE X (.Compare a [op, op'] [b, c] pos) (tChain r r' ta tb tc) := by
  intro pins s σ H Q I h
  refine Compare_chain (thn (ha pins s σ H _ I h) fun v s1 ⟨x, H1, I1, r1, q1⟩ => chain_link (thn (hb pins s1 σ H1 _ I1 q1) fun u s2 ⟨y, H2, I2, r2, q2⟩ =>
    thn (ho pins s2 σ H2 x y v u _ I2 r1 r2 q2) fun d s3 ⟨z, H3, I3, r3, k, e, q3⟩ => ?_)) hm
  subst e
  cases r3
  refine wpAny_truthy_bool ?_
  cases k with
  | false => exact ite_ff ⟨.bl false, H3, I3, rfl, q3⟩
  | true => exact ite_tt (chain_last (thn (hc pins s3 σ H3 _ I3 q3) fun w' s4 ⟨z', H4, I4, r4, q4⟩ => ho' pins s4 σ H4 y z' u w' Q I4 r2 r4 q4))
theorem pt_chain {op op' : CmpOp} {r r' : R2} (ho : OpR X (compareOp op) r) (ho' : OpR X (compareOp op') r') (ha : PE X a ta) (hb : PE X b tb) (hc : PE X c tc)
    (hm : lastMarks [op, op'] [b, c] = false := by with_unfolding_all rfl) : PT X (.Compare a [op, op'] [b, c] pos) (tTest (tChain r r' ta tb tc)) := by
  intro pins s σ H Q I h
  refine isTrue_chain (thn (ha pins s σ H _ I h) fun v s1 ⟨x, H1, I1, r1, q1⟩ => test_link (thn (hb pins s1 σ H1 _ I1 q1) fun u s2 ⟨y, H2, I2, r2, q2⟩ =>
    thn (ho pins s2 σ H2 x y v u _ I2 r1 r2 q2) fun d s3 ⟨z, H3, I3, r3, k, e, q3⟩ => ?_)) hm
  subst e
  cases r3
  refine wpAny_truthy_bool ?_
  cases k with
  | false =>
    obtain ⟨k', e', q'⟩ := q3
    cases e'
    exact ite_ff ⟨H3, I3, q'⟩
  | true =>
    refine ite_tt (test_last (thn (hc pins s3 σ H3 _ I3 q3) fun w' s4 ⟨z', H4, I4, r4, q4⟩ => thn (ho' pins s4 σ H4 y z' u w' _ I4 r2 r4 q4) fun d' s5 ⟨z2, H5, I5, r5, k2, e2, q5⟩ => ?_))
    subst e2
    cases r5
    exact wpAny_truthy_bool ⟨H5, I5, q5⟩

/-! ### truth -/
/-- a value's truth by the abstract heap -/
def TruV (K : PySem.W.Frag) (x : V) (H : Hp) (k : Bool) : Prop :=
  match x with
  | .non => k = false
  | .bl b => k = b
  | .int i => k = (i != 0)
  | .str y => y.length ≤ sizeLine ∧ k = ((y.length : Int) != 0)
  | .byt y => y.size ≤ sizeLine ∧ k = ((y.size : Int) != 0)
  | .ref p => (∃ xs, SqL K H p xs ∧ k = !xs.isEmpty) ∨ (∃ xs, SqT K H p xs ∧ k = !xs.isEmpty) ∨ ∃ kvs, H p = some (.dK kvs) ∧ k = !kvs.isEmpty
  | _ => False
theorem line63 : (sizeLine : Nat) < 2 ^ 63 := by rw [sizeLine_eq]; decide

/-! ### strs and bytes -/
theorem op_add_str : OpR X (binaryOp .Add) (fun x y H Q => ∃ i j, x = .str i ∧ y = .str j ∧ i.length + j.length ≤ sizeLine ∧ Q (.str (i ++ j)) H) := by
  intro pins s σ H x y v u Q I rx ry h
  obtain ⟨i, j, rfl, rfl, hz, q⟩ := h
  obtain ⟨t, rfl⟩ := rx
  obtain ⟨t', rfl⟩ := ry
  exact add_str (fun t' tk => ⟨.str (i ++ j), H, I.tok _, ⟨_, rfl⟩, q⟩) hz

def PlainIxT (b : Expr) : Prop := ∀ o i, subscripted b false o i = operate [o, i] (getItem o i)

/-! ### scalar builtins, by CallR -/
theorem vals1 {x : V} {us : List Value} (r : Vals [x] us) : ∃ u, us = [u] ∧ RelV x u := by
  cases r with
  | cons r1 r2 => cases r2; exact ⟨_, rfl, r1⟩
theorem vals2 {x y : V} {us : List Value} (r : Vals [x, y] us) : ∃ u w', us = [u, w'] ∧ RelV x u ∧ RelV y w' := by
  cases r with
  | cons r1 r2 =>
    cases r2 with
    | cons r3 r4 => cases r4; exact ⟨_, _, rfl, r1, r3⟩
theorem call_abs : CallR X (.builtin "abs") (fun xs H Q => ∃ i, xs = [.int i] ∧ Q (.int (if i < 0 then -i else i)) H) := by
  intro pins s σ H xs us Q I r h
  obtain ⟨i, rfl, q⟩ := h
  obtain ⟨u, rfl, t, rfl⟩ := vals1 r
  exact call_abs_int fun u tk => ⟨.int (if i < 0 then -i else i), H, I.tok _, ⟨_, rfl⟩, q⟩
theorem call_max2 (hc : X.calm = true) : CallR X (.builtin "max") (fun xs H Q => ∃ i j, xs = [.int i, .int j] ∧ Q (.int (if j > i then j else i)) H) := by
  intro pins s σ H xs us Q I r h
  obtain ⟨i, j, rfl, q⟩ := h
  obtain ⟨u, w', rfl, ⟨t, rfl⟩, ⟨t', rfl⟩⟩ := vals2 r
  refine max_two_ints (I.ok.hd hc) fun h' tk k => ⟨_, H, I.kept k, ?_, q⟩
  by_cases hj : j > i
  · rw [if_pos hj, if_pos hj]; exact ⟨_, rfl⟩
  · rw [if_neg hj, if_neg hj]; exact ⟨_, rfl⟩
theorem call_str_int : CallR X (.type "str") (fun xs H Q => ∃ i, xs = [.int i] ∧ i.natAbs.log2 < 1920 ∧ Q (.str (toString i)) H) := by
  intro pins s σ H xs us Q I r h
  obtain ⟨i, rfl, hz, q⟩ := h
  obtain ⟨u, rfl, t, rfl⟩ := vals1 r
  exact PySem.P.str_of_int hz ⟨.str _, H, I.tok _, ⟨_, rfl⟩, q⟩
/-- len of a str, a bytes, a list, a tuple -/
def LenV (K : PySem.W.Frag) (x : V) (H : Hp) (n : Nat) : Prop :=
  match x with
  | .str y => y.length ≤ sizeLine ∧ n = y.length
  | .byt y => y.size ≤ sizeLine ∧ n = y.size
  | .ref p => (∃ xs, SqL K H p xs ∧ n = xs.length) ∨ ∃ xs, SqT K H p xs ∧ n = xs.length
  | _ => False
end
end L2

namespace L2
open PySem PySem.Spec PyProof.Rows

/-! ### an instance, its attributes a map -/
structure ObjM (h : Heap) (x dx C : Addr) (mA : Str → Option Value) : Prop where
  obj : h.get? x = some (PySem.W.instObj C dx)
  ns : h.Ns1 dx mA
  ne : dx ≠ x



section
variable {prog : Program} {w : World} {A : Around} {E : Value → Shared → Prop} {s : Shared} {K : PySem.W.Frag} {x dx C f : Addr} {mA : Str → Option Value} {name : Str} {v : Value}





end

/-! ### the attributes as a list of pairs -/
def putF (f : Str) (v : V) : List (Str × V) → List (Str × V)
  | [] => [(f, v)]
  | (g, x) :: r => if g = f then (g, v) :: r else (g, x) :: putF f v r

theorem RelO.some_of {v : V} {o : Option Value} (r : RelO (some v) o) : ∃ u, o = some u ∧ RelV v u := by
  cases o with
  | none => exact (show False from r).elim
  | some u => exact ⟨u, rfl, r⟩

section
variable {P : Program} {w : World} {H H' : Hp} {h h' : Heap} {a C dx : Addr} {fs fs' : List (Str × V)}
end

/-! ### what of the text a class must have -/
structure Cls (K : PySem.W.Frag) (C : Addr) : Prop where
  pg : PySem.W.plainGet K C Str.empty = true
  hd : PySem.W.hasDictIn K C = true
  po : PySem.W.plainOver K C = true
  sa : PySem.W.findIn K (.ref C) "__setattr__" = some (some (.builtin "object.__setattr__"))
theorem Cls.get {K : PySem.W.Frag} {C : Addr} (c : Cls K C) (f : Str) : PySem.W.plainGet K C f = true := c.pg
/-- no class of it has the name -/
def NoAttr (K : PySem.W.Frag) (C : Addr) (f : Str) : Prop := PySem.W.findIn K (.ref C) f = some none
/-- a constant of the class -/
structure Con (K : PySem.W.Frag) (C : Addr) (f : Str) (v : V) (u : Value) : Prop where
  at_ : PySem.W.findIn K (.ref C) f = some (some u)
  rel : RelV v u
  get : PySem.W.specialIn K u "__get__" = some none
  cp : PySem.W.copiedNames.contains f = false
/-- a method: a plain def of the class or of one above it -/
structure Meth (K : PySem.W.Frag) (C : Addr) (m : Str) (f : Addr) : Prop where
  at_ : PySem.W.findIn K (.ref C) m = some (some (.ref f))
  fn : PySem.W.isFn K (.ref f) = true
  kp : PySem.W.keepIn K (.ref f) = true

section
variable {X : Cx} {pins : List (Addr × Obj)} {σ : St} {H : Hp} {s : Shared} {a C dx : Addr} {fs : List (Str × V)} {f : Str} {v : V} {A : Around} {E : Value → Shared → Prop}






end

/-! ### readings and rules -/
/-- e.f, an attribute of the instance -/
def tFld (K : PySem.W.Frag) (ta : TE) (f : Str) : TE := fun σ H Q => ta σ H fun x H1 => ∃ a C dx fs v, x = .ref a ∧ H1 a = some (.ins C dx fs) ∧ Cls K C ∧ NoAttr K C f ∧ fs.lookup f = some v ∧ Q v H1
/-- e.f, a constant of the class -/
def tCon (K : PySem.W.Frag) (ta : TE) (f : Str) : TE := fun σ H Q => ta σ H fun x H1 => ∃ a C dx fs v u, x = .ref a ∧ H1 a = some (.ins C dx fs) ∧ Cls K C ∧ Con K C f v u ∧ fs.lookup f = none ∧ Q v H1
/-- e.f = value -/
def sFld (K : PySem.W.Frag) (ta tv : TE) (f : Str) : TS := fun D σ H => tv σ H fun y H1 => ta σ H1 fun x H2 => ∃ a C dx fs, x = .ref a ∧ H2 a = some (.ins C dx fs) ∧ Cls K C ∧ NoAttr K C f ∧ fs.length < 1000 ∧
  D.nx σ (upd H2 a (.ins C dx (putF f y fs)))
/-- an augmented operator on two values -/
def InOp (X : Cx) (op : Operator) (rd : V → V → Hp → VK → Prop) : Prop :=
  ∀ (pins : List (Addr × Obj)) (s : Shared) (σ : St) (H : Hp) (x y : V) (u v : Value) (Q : VK), Inv X pins σ H s → RelV x u → RelV y v → rd x y H Q → wpAny (model X.prog X.w) X.A (inplaceOp op u v) (EP X pins σ Q) X.xe s
/-- e.f op= value -/
def sFldAug (K : PySem.W.Frag) (ta tv : TE) (rd : V → V → Hp → VK → Prop) (f : Str) : TS := fun D σ H => ta σ H fun x H1 => ∃ a C dx fs v, x = .ref a ∧ H1 a = some (.ins C dx fs) ∧ Cls K C ∧ NoAttr K C f ∧ fs.lookup f = some v ∧
  tv σ H1 fun y H2 => rd v y H2 fun z H3 => ∃ dx' fs', H3 a = some (.ins C dx' fs') ∧ fs'.length < 1000 ∧ D.nx σ (upd H3 a (.ins C dx' (putF f z fs')))

section
variable {X : Cx} {o e value : Expr} {f : Str} {pos pos' tpos : Pos} {ta tv : TE}
def rAdd : V → V → Hp → VK → Prop := fun x y H Q => ∃ i j, x = .int i ∧ y = .int j ∧ Q (.int (i + j)) H
def rSub : V → V → Hp → VK → Prop := fun x y H Q => ∃ i j, x = .int i ∧ y = .int j ∧ Q (.int (i - j)) H

end

/-! ### isinstance -/
section
variable {X : Cx} {pins : List (Addr × Obj)} {σ : St} {H : Hp} {s : Shared} {A : Around} {E : Value → Shared → Prop} {Q : Value → Shared → Prop} {c : Value} {b : Bool}
/-- the type of a value, as the fragment's deciders take it; for an instance its class -/
inductive TyOf (K : PySem.W.Frag) (H : Hp) : V → Value → Prop where
  | non : TyOf K H .non (.type "NoneType")
  | bl (x : Bool) : TyOf K H (.bl x) (.type "bool")
  | int (i : Int) : TyOf K H (.int i) (.type "int")
  | str (x : Str) : TyOf K H (.str x) (.type "str")
  | flt (x : UInt64) : TyOf K H (.flt x) (.type "float")
  | lst {a : Addr} {xs : List V} (e : H a = some (.lst xs)) : TyOf K H (.ref a) (.type "list")
  | frz {a : Addr} {o : Obj} {xs : List V} (e : H a = some (.frz o (.lst xs))) : TyOf K H (.ref a) (.type "list")
  | tup {a : Addr} {xs : List V} (e : H a = some (.tup xs)) : TyOf K H (.ref a) (.type "tuple")
  | dK {a : Addr} {kvs : List (Key × V)} (e : H a = some (.dK kvs)) : TyOf K H (.ref a) (.type "dict")
  | dT {a : Addr} {kvs : List (List Key × V)} (e : H a = some (.dT kvs)) : TyOf K H (.ref a) (.type "dict")
  | ins {a C dx : Addr} {fs : List (Str × V)} (e : H a = some (.ins C dx fs)) (cl : Cls K C) (ha : PySem.W.findIn K (.ref C) "__class__" = some (some (.builtin "object.__class__")))
      (hn : PySem.W.specialIn K (.builtin "object.__class__") "__get__" = some (some (.builtin "getset_descriptor.__get__"))) (htk : PySem.W.takesIn K (.builtin "object.__class__") = some true)
      (hm : PySem.W.mroIn K C (.type "object") = some true) : TyOf K H (.ref a) (.ref C)
end
end L2

namespace L2
open PySem PySem.Spec PyProof.Rows

/-! ### room -/
structure Room (k : Nat) (A : Around) : Prop where
  hd : A.handled = none
  dp : A.depth + 3 * k + 5 < recursionLimit
  un : A.units + 16 * k + 200 < cLine
  gd : A.guards = some []
theorem Room.mono {j k : Nat} {A : Around} (r : Room k A) (h : j ≤ k) : Room j A := ⟨r.hd, by have := r.dp; omega, by have := r.un; omega, r.gd⟩
theorem Room.deeper {k : Nat} {A : Around} (r : Room (k + 1) A) (env : Env) : Room k (A.deeper env) :=
  ⟨r.hd, by have := r.dp; show A.depth + 1 + 3 * k + 5 < _; omega, by have := r.un; show A.units + 3 + 16 * k + 200 < _; omega, r.gd⟩
theorem Room.depth {k : Nat} {A : Around} (r : Room k A) : A.depth < recursionLimit := by have := r.dp; omega
theorem Room.units {k : Nat} {A : Around} (r : Room k A) : A.units + 64 < cLine := by have := r.un; omega

/-! ### argument lists and displays -/
def tNil : TA := fun _ H Q => Q [] H
def tCons (ta : TE) (tr : TA) : TA := fun σ H Q => ta σ H fun x H1 => tr σ H1 fun xs H2 => Q (x :: xs) H2
section
variable {X : Cx} {e : Expr} {es : List Expr} {te : TE} {t : TA} {pos : Pos}
theorem pa_nil : PA X [] tNil := fun _ _ _ _ H Q I h => Calls.spliced_nil ⟨[], H, I, .nil, h⟩
theorem pa_cons (ha : PE X e te) (hr : PA X es t) (hs : starEach (e :: es) X.env = (false, eval e X.env) :: starEach es X.env := by rfl) : PA X (e :: es) (tCons te t) := by
  intro pos pins s σ H Q I h
  rw [hs]
  show wpAny _ _ (spliced ((false, eval e X.env) :: backTo pos (starEach es X.env))) _ _ s
  refine Calls.spliced_cons (thn (ha pins s σ H _ I h) fun u s1 ⟨x, H1, I1, r1, q1⟩ => ?_)
  exact thn (hr pos pins s1 σ H1 _ I1 q1) fun us s2 ⟨xs, H2, I2, r2, q2⟩ => ⟨x :: xs, H2, I2, .cons r1 r2, q2⟩

/-- a tuple, a list of written items -/
def tTup (t : TA) : TE := fun σ H Q => t σ H fun xs H1 => xs.length ≤ sizeLine ∧ ∀ p, H1 p = none → Q (.ref p) (upd H1 p (.tup xs))
def tLst (t : TA) : TE := fun σ H Q => t σ H fun xs H1 => xs.length ≤ sizeLine ∧ ∀ p, H1 p = none → Q (.ref p) (upd H1 p (.lst xs))
theorem pe_tup {x1} (h : PA X es t) : PE X (.Tuple es x1 pos) (tTup t) := by
  intro pins s σ H Q I hq
  refine wpAny_Tuple_spliced (thn (h pos pins s σ H _ I hq) fun us s1 ⟨xs, H1, I1, r, z, q⟩ => ⟨by rw [← r.length]; exact z, ?_⟩)
  have hf : H1 s1.heap.objs.size = none := I1.hok.fresh (Nat.le_refl _)
  refine ⟨.ref s1.heap.objs.size, upd H1 s1.heap.objs.size (.tup xs), I1.laid (t' := s1.toks) (fun b u e => Heap.get?_push_of_some _ e) (Nat.le_refl _) ?_, rfl, q _ hf⟩
  exact ⟨z, us, r, ⟨_, Heap.get?_push_size _ rfl, rfl, _, rfl⟩⟩
theorem pe_lst (h : PA X es t) : PE X (.List es pos) (tLst t) := by
  intro pins s σ H Q I hq
  refine wpAny_List_spliced (thn (h pos pins s σ H _ I hq) fun us s1 ⟨xs, H1, I1, r, z, q⟩ => ⟨by rw [← r.length]; exact z, ?_⟩)
  have hf : H1 s1.heap.objs.size = none := I1.hok.fresh (Nat.le_refl _)
  refine ⟨.ref s1.heap.objs.size, upd H1 s1.heap.objs.size (.lst xs), I1.laid (t' := s1.toks) (fun b u e => Heap.get?_push_of_some _ e) (Nat.le_refl _) ?_, rfl, q _ hf⟩
  exact ⟨z, us, 0, r, Heap.get?_push_size _ rfl⟩
end

/-! ### what a def promises -/
/-- a def's promise: the bound arguments in the parameters' order, the heap, the wanted end, the wanted exception -/
abbrev Sp := List V → Hp → VK → XK → Prop
/-- how an exception lies behind a call (file 08 gives it): the callers' frames, abstract heap and state ahead of the call, the wish, the exception, the state -/
abbrev CXT := List Env → Hp → Shared → XK → Value → Shared → Prop

/-- the state at a call -/
structure Env0 (P : Program) (w : World) (K : PySem.W.Frag) (mg : Str → Option Value) (base : Heap) (A : Around) (outer : List Env) (s : Shared) (H : Hp) : Prop where
  frames : A.frames = some outer
  mod : Mod K mg base
  bs : ∀ b o, base.get? b = some o → s.heap.get? b = some o ∧ H b = none
  bsz : base.objs.size ≤ s.heap.objs.size
  funs : s.heap.FunFrames base outer
  frf : ∀ b ∈ frs outer, H b = none
  hok : HOk P w H s.heap
  bare : AllBare s.gens
/-- a call's end -/
def CE (outer : List Env) (P : Program) (w : World) (H : Hp) (s : Shared) (Q : VK) (u : Value) (s' : Shared) : Prop :=
  ∃ v H', s'.os = s.os ∧ AllBare s'.gens ∧ Un (frs outer) [] H H' s.heap s'.heap ∧ HOk P w H' s'.heap ∧ RelV v u ∧ Q v H'
def CR (CX : CXT) (outer : List Env) (P : Program) (w : World) (H : Hp) (s : Shared) (Q : VK) (E : XK) (r : Result) (s' : Shared) : Prop :=
  match r with
  | .ok (.ret u) => CE outer P w H s Q u s'
  | .ok _ => False
  | .error e => CX outer H s E e s'
structure FnOk (P : Program) (w : World) (K : PySem.W.Frag) (mg : Str → Option Value) (base : Heap) (CX : CXT) (k : Nat) (f : Addr) (fd : FuncData) (ps : List Str) (sp : Sp) : Prop where
  len : ∀ vs H Q E, sp vs H Q E → vs.length = ps.length
  run : ∀ (A : Around) (outer : List Env) (s : Shared) (H : Hp) (args : Args) (us : List Value) (vs : List V) (Q : VK) (E : XK), Room k A → Env0 P w K mg base A outer s H → BindsTo s fd args (ps.zip us) → Vals vs us → sp vs H Q E →
    codeAny (model P w) A (.call (.ref f) args) (CR CX outer P w H s Q E) s


section
variable {X : Cx} {pins : List (Addr × Obj)} {σ : St} {H : Hp} {s s' : Shared}
/-- from a body: what a callee wants -/
theorem Inv.env0 (I : Inv X pins σ H s) : Env0 X.prog X.w X.K X.mg X.base X.A X.stack s H :=
  ⟨I.ok.frames, I.ok.mod, I.bs, Nat.le_trans I.ok.bsz I.sz, I.stack, I.stkFree, I.hok, I.bare⟩
/-- behind a call -/
theorem Inv.after {Q : VK} {u : Value} (I : Inv X pins σ H s) (h : CE X.stack X.prog X.w H s Q u s') : EP X pins σ Q u s' := by
  obtain ⟨v, H', os, bare, un, hok, r, q⟩ := h
  obtain ⟨hh, g, d, t, os'⟩ := s'
  obtain rfl : os' = s.os := os
  exact ⟨v, H', I.call (h' := hh) (g' := g) (d' := d) (t' := t) (ch := []) un hok bare (fun b z => absurd z (by simp)), r, q⟩
end

/-! ### calls -/
/-- f(..): the written arguments, then the defaults dvs; E: what is wanted of an exception -/
def tCall (sp : Sp) (dvs : List V) (E : XK) (t : TA) : TE := fun σ H Q => t σ H fun vs H1 => sp (vs ++ dvs) H1 Q E
/-- o.m(..) of an instance of the class at C -/
def tMeth (C : Addr) (m : Str) (sp : Sp) (dvs : List V) (E : XK) (ta : TE) (t : TA) : TE := fun σ H Q => ta σ H fun x H1 => ∃ a dx fs, x = .ref a ∧ H1 a = some (.ins C dx fs) ∧ fs.lookup m = none ∧
  t σ H1 fun vs H2 => sp (x :: (vs ++ dvs)) H2 Q E
/-- C(..): a new instance and its dict, then __init__ -/
def tMake (C : Addr) (sp : Sp) (dvs : List V) (E : XK) (t : TA) : TE := fun σ H Q => t σ H fun vs H1 => ∀ x dx, H1 x = none → H1 dx = none → dx ≠ x →
  sp (.ref x :: (vs ++ dvs)) (upd (upd H1 dx (.own x)) x (.ins C dx [])) (fun v H2 => v = .non ∧ Q (.ref x) H2) E

/-- how the parameters are bound: us the positional arguments, kw the keywords' values by name, ds the defaults that fill up -/
def Binds (K : PySem.W.Frag) (fd : FuncData) (ps : List Str) (ds : List Value) : Prop :=
  ∀ (s : Shared) (us : List Value), K.In s.heap → (us ++ ds).length = ps.length → BindsTo s fd ⟨us, []⟩ (ps.zip (us ++ ds))
/-- every parameter is given -/
theorem Binds.all {K : PySem.W.Frag} {fd : FuncData} {ps : List Str} (h : ∀ us : List Value, us.length = ps.length → bindArgs fd ⟨us, []⟩ = pure (ps.zip us)) : Binds K fd ps [] := fun s us _ hl => by
  rw [List.append_nil] at hl ⊢
  exact .of_eq (h us hl)

/-- an exception of a callee reaches what this body wants of exceptions -/
def Passes (CX : CXT) (X : Cx) (E : XK) : Prop := ∀ (pins : List (Addr × Obj)) (σ : St) (H : Hp) (s : Shared) (e : Value) (s' : Shared), Inv X pins σ H s → CX X.stack H s E e s' → X.xe e s'

section
variable {X : Cx} {CX : CXT} {k : Nat} {f C : Addr} {fd : FuncData} {ps : List Str} {sp : Sp} {dvs : List V} {ds : List Value} {E : XK} {x m : Str} {p pos apos : Pos} {e o : Expr} {es : List Expr} {ta : TE} {t : TA}

/-- the callee runs -/
theorem run_fn {pins : List (Addr × Obj)} {σ : St} {H : Hp} {s : Shared} {Q : VK} {us : List Value} {vs : List V} (F : FnOk X.prog X.w X.K X.mg X.base CX k f fd ps sp) (hr : Room k X.A) (hb : Binds X.K fd ps ds) (hd : Vals dvs ds) (hx : Passes CX X E)
    (I : Inv X pins σ H s) (r : Vals vs us) (h : sp (vs ++ dvs) H Q E) : wpAny (model X.prog X.w) X.A (call (.ref f) us) (EP X pins σ Q) X.xe s := by
  have r2 : Vals (vs ++ dvs) (us ++ ds) := r.append hd
  have hl : (us ++ ds).length = ps.length := by rw [← r2.length]; exact F.len _ _ _ _ h
  refine wpAny_call (codeAny_mono (F.run X.A X.stack s H ⟨us, []⟩ (us ++ ds) (vs ++ dvs) Q E hr I.env0 (hb s us I.kIn hl) r2 h) fun r s' hq => ?_)
  cases r with
  | error e => exact hx pins σ H s e s' I hq
  | ok fl =>
    cases fl with
    | ret u => exact I.after hq
    | next => exact False.elim hq
    | brk => exact False.elim hq
    | cont => exact False.elim hq

theorem pe_call (F : FnOk X.prog X.w X.K X.mg X.base CX k f fd ps sp) (hr : Room k X.A) (hg : Gl X x) (hm : X.mg x = some (.ref f)) (hk : PySem.W.keepIn X.K (.ref f) = true) (hb : Binds X.K fd ps ds) (hd : Vals dvs ds) (hx : Passes CX X E)
    (ha : PA X (e :: es) t) (hdb : (x == ("__debug__" : Str)) = false := by decide) (he : starEach (e :: es) X.env = (false, eval e X.env) :: starEach es X.env := by rfl) (hpl : (backTo pos (starEach es X.env)).any (·.1) = false := by rfl) :
    PE X (.Call (.Name x p) (e :: es) [] pos) (tCall sp dvs E t) := by
  intro pins s σ H Q I h
  refine wpAny_Call_Name_kw (ld_glob I hg hm ?_ hdb)
  refine PySem.W.callWith_K (h₀ := X.base) I.ok.mod.kin hk (thn (ha pos pins s σ H _ I h) fun us s1 ⟨vs, H1, I1, r, q⟩ => ⟨I1.kIn, ?_⟩) he hpl
  exact run_fn F hr hb hd hx I1 r q


/-- what a class must have to be made -/
structure Mk (K : PySem.W.Frag) (C f : Addr) : Prop where
  makes : PySem.W.makesIn K C = true
  init : PySem.W.findIn K (.ref C) "__init__" = some (some (.ref f))
  fn : PySem.W.isFn K (.ref f) = true
  kp : PySem.W.keepIn K (.ref C) = true

end

/-! ### keywords -/
/-- the values of the keywords, from the left -/
def PK (X : Cx) (kws : List Keyword) (t : TA) : Prop :=
  ∀ (pos : Pos) (pins : List (Addr × Obj)) (s : Shared) (σ : St) (H : Hp) (Q : List V → Hp → Prop), Inv X pins σ H s → t σ H Q → wpAny (model X.prog X.w) X.A (evalAll ((backToKw pos (keywordEach kws X.env)).map (·.2))) (AP X pins σ Q) X.xe s
section
variable {X : Cx} {CX : CXT} {k : Nat} {f C : Addr} {fd : FuncData} {ps ks : List Str} {sp : Sp} {E : XK} {x m : Str} {p pos apos kpos : Pos} {e o : Expr} {es : List Expr} {kws : List Keyword} {te ta : TE} {t tk : TA} {nm : Option Str}

/-- how a call with keywords binds: g puts the positional values us and the keywords' values ws (names ks) in the parameters' order, defaults among them -/
structure KBinds (K : PySem.W.Frag) (fd : FuncData) (ps ks : List Str) (g : List Value → List Value → List Value) (gV : List V → List V → List V) : Prop where
  to : ∀ (s : Shared) (us ws : List Value), K.In s.heap → (g us ws).length = ps.length → BindsTo s fd ⟨us, ks.zip ws⟩ (ps.zip (g us ws))
  rel : ∀ {vs : List V} {us : List Value} {zs : List V} {ws : List Value}, Vals vs us → Vals zs ws → Vals (gV vs zs) (g us ws)
def tCallK (sp : Sp) (gV : List V → List V → List V) (E : XK) (t tk : TA) : TE := fun σ H Q => t σ H fun vs H1 => tk σ H1 fun zs H2 => sp (gV vs zs) H2 Q E
variable {g : List Value → List Value → List Value} {gV : List V → List V → List V}
end

/-! ### a def's body keeps its promise -/
/-- names: the parameters first -/
structure FnScope (N P : List Str) (sc : Scope) : Prop where
  kind : sc.kind = .function
  co : sc.isCoroutine = false
  gen : sc.isGenerator = false
  nd : N.Nodup
  pre : N.take P.length = P
  par : ∀ x ∈ P, sc.names.lookup x = some .local ∨ sc.names.lookup x = some .cell
  nofree : ∀ y ∈ sc.names, y.2 ≠ .free

theorem bindL_out {kindOf : Str → Option NameKind} {x : Str} : ∀ {binds : List (Str × Value)} {m : Str → Option Value}, (∀ v, (x, v) ∉ binds) → bindL kindOf binds m x = m x
  | [], _, _ => rfl
  | (n, v) :: r, m, h => by
    unfold bindL
    rw [bindL_out fun w hw => h w (List.mem_cons_of_mem _ hw)]
    split
    · have : x ≠ n := by rintro rfl; exact h v List.mem_cons_self
      simp [this]
    · rfl
theorem bindC_out {kindOf : Str → Option NameKind} {x : Str} : ∀ {binds : List (Str × Value)} {m : Str → Option Value}, (∀ v, (x, v) ∉ binds) → bindC kindOf binds m x = m x
  | [], _, _ => rfl
  | (n, v) :: r, m, h => by
    unfold bindC
    rw [bindC_out fun w hw => h w (List.mem_cons_of_mem _ hw)]
    split
    · rfl
    · have : x ≠ n := by rintro rfl; exact h v List.mem_cons_self
      simp [this]
theorem bindL_get {kindOf : Str → Option NameKind} {x : Str} {v : Value} : ∀ {P : List Str} {vs : List Value} {i : Nat} {m : Str → Option Value}, P.Nodup → P[i]? = some x → vs[i]? = some v → kindOf x = some .local →
    bindL kindOf (P.zip vs) m x = some v
  | [], _, _, _, _, h, _, _ => by simp at h
  | _ :: _, [], _, _, _, _, h, _ => by simp at h
  | p :: P, w :: vs, 0, m, nd, h1, h2, hk => by
    simp at h1 h2; subst h1; subst h2
    show bindL kindOf ((p, w) :: P.zip vs) m p = _
    unfold bindL
    rw [bindL_out fun v hv => (List.nodup_cons.mp nd).1 (List.of_mem_zip hv).1, if_pos hk]
    simp
  | p :: P, w :: vs, i + 1, m, nd, h1, h2, hk => by
    show bindL kindOf ((p, w) :: P.zip vs) m x = _
    unfold bindL
    exact bindL_get (i := i) (List.nodup_cons.mp nd).2 (by simpa using h1) (by simpa using h2) hk
theorem bindC_get {kindOf : Str → Option NameKind} {x : Str} {v : Value} : ∀ {P : List Str} {vs : List Value} {i : Nat} {m : Str → Option Value}, P.Nodup → P[i]? = some x → vs[i]? = some v → kindOf x ≠ some .local →
    bindC kindOf (P.zip vs) m x = some v
  | [], _, _, _, _, h, _, _ => by simp at h
  | _ :: _, [], _, _, _, _, h, _ => by simp at h
  | p :: P, w :: vs, 0, m, nd, h1, h2, hk => by
    simp at h1 h2; subst h1; subst h2
    show bindC kindOf ((p, w) :: P.zip vs) m p = _
    unfold bindC
    rw [bindC_out fun v hv => (List.nodup_cons.mp nd).1 (List.of_mem_zip hv).1, if_neg hk]
    simp
  | p :: P, w :: vs, i + 1, m, nd, h1, h2, hk => by
    show bindC kindOf ((p, w) :: P.zip vs) m x = _
    unfold bindC
    exact bindC_get (i := i) (List.nodup_cons.mp nd).2 (by simpa using h1) (by simpa using h2) hk

/-- the names' values at the entry -/
def start (N : List Str) (vs : List V) : St := vs.map some ++ List.replicate (N.length - vs.length) none

/-- the context of a def's body, at its entry; an exception leaves the frame, then lies as CX says -/
def cxOf (CX : CXT) (P : Program) (w : World) (K : PySem.W.Frag) (mg : Str → Option Value) (base : Heap) (N : List Str) (qual : Str) (scope : Scope) (f : Addr) (cd : Value) (A : Around) (outer : List Env) (s : Shared) (H : Hp) (E : XK) : Cx where
  prog := P
  w := w
  K := K
  mg := mg
  base := base
  A := A.deeper (envOfC qual scope s.heap.objs.size f cd)
  N := N
  s₀ := s
  H₀ := H
  env := envOfC qual scope s.heap.objs.size f cd
  outer := outer
  stack := envOfC qual scope s.heap.objs.size f cd :: outer
  ex := []
  calm := true
  fn := fun _ => true
  pn := []
  xe := fun e s' => wpAny (model P w) (A.deeper (envOfC qual scope s.heap.objs.size f cd)) (leaving (envOfC qual scope s.heap.objs.size f cd) e) (fun _ s'' => CX outer H s E e s'') (fun e' s'' => CX outer H s E e' s'') s'

theorem cell_has {sc : Scope} {n : Nat} {x : Str} (h : sc.names.lookup x = some .cell) : ∃ c, (cellsFrom n sc.names []).lookup x = some c := by
  have q := PySem.W.cellsFrom_some sc.names n [] (.inl h)
  exact Option.isSome_iff_exists.mp q

theorem inv_start {CX : CXT} {P : Program} {w : World} {K : PySem.W.Frag} {mg : Str → Option Value} {base : Heap} {N ps : List Str} {qual : Str} {scope : Scope} {f : Addr} {cd : Value} {A : Around} {outer : List Env} {s s1 : Shared} {H : Hp} {E : XK} {us : List Value} {vs : List V}
    (S : FnScope N ps scope) (hd : A.handled = none) (e0 : Env0 P w K mg base A outer s H) (hl : vs.length = ps.length) (r : Vals vs us)
    (x : InCallC s s.heap.objs.size (bindL (envOfC qual scope s.heap.objs.size f cd).kindOf (ps.zip us) fun _ => none) (cellsFrom (s.heap.objs.size + 1) scope.names []) (bindC (envOfC qual scope s.heap.objs.size f cd).kindOf (ps.zip us) fun _ => none) s1) :
    Inv (cxOf CX P w K mg base N qual scope f cd A outer s H E) [] (start N vs) H s1 := by
  have hpl : ps.length ≤ N.length := by have := congrArg List.length S.pre; rw [List.length_take] at this; omega
  obtain ⟨h1, tk, rfl, hk⟩ := x.done
  have noA : ∀ b : Addr, b ∉ (cxOf CX P w K mg base N qual scope f cd A outer s H E).ex := fun b z => absurd (show b ∈ ([] : List Addr) from z) (by simp)
  refine ⟨⟨e0.mod, S.kind, rfl, rfl, Nat.le_refl _, fun y z c h1 h2 => ?_, fun y hy => ?_, fun y c _ h => ?_, fun _ => hd, Around.frames_deeper e0.frames, .inr ⟨rfl, rfl⟩, fun b z => absurd z (noA b), e0.bs, e0.bsz, fun b _ _ => noA b, fun b z => absurd z (noA b), e0.funs, e0.frf⟩,
    rfl, e0.bare, Un.kept hk, ⟨_, x.toInCall.ns, fun i y v h1 h2 h3 => ?_⟩, fun y c h => ⟨_, x.cell y c h⟩, e0.hok.fresh (Nat.le_refl _), fun y c h => ?_, fun p hp => absurd (show p ∈ ([] : List (Addr × Obj)) from hp) (by simp), e0.hok.kept hk, ?_⟩
  · exact name_of_addr x.apart (PySem.mem_of_lookup h1) (PySem.mem_of_lookup h2)
  · have hy : scope.names.lookup y = some .cell ∨ scope.names.lookup y = some .free := hy
    rcases hy with hy | hy
    · exact cell_has hy
    · exact absurd rfl (S.nofree _ (PySem.mem_of_lookup hy))
  · exact Nat.le_of_lt (x.above y c (PySem.mem_of_lookup h))
  · have hi : i < vs.length := by
      unfold start at h2
      by_cases hi : i < vs.length
      · exact hi
      · rw [List.getElem?_append_right (by simpa using hi)] at h2
        rw [List.getElem?_replicate] at h2
        split at h2 <;> cases h2
    have ha : vs[i]? = some v := by
      unfold start at h2
      rw [List.getElem?_append_left (by simpa using hi), List.getElem?_map] at h2
      cases e : vs[i]? with
      | none => rw [e] at h2; cases h2
      | some a => rw [e] at h2; cases h2; rfl
    obtain ⟨u, hu, rv⟩ := r.get ha
    have hp : ps[i]? = some y := by
      rw [← S.pre, List.getElem?_take_of_lt (by omega)]; exact h1
    have ndP : ps.Nodup := by rw [← S.pre]; exact S.nd.sublist (List.take_sublist _ _)
    refine ⟨u, rv, ?_⟩
    rcases S.par y (List.mem_of_getElem? hp) with k | k
    · exact .inl ⟨k, bindL_get ndP hp hu k⟩
    · obtain ⟨c, e⟩ := cell_has (n := s.heap.objs.size + 1) k
      refine .inr ⟨.inl k, c, e, ?_⟩
      have q := x.cell y c e
      rw [bindC_get ndP hp hu (by show scope.names.lookup y ≠ _; rw [k]; decide)] at q
      exact q
  · exact e0.hok.fresh (Nat.le_of_lt (x.above y c (PySem.mem_of_lookup h)))
  · unfold start
    show _ = N.length
    rw [List.length_append, List.length_map, List.length_replicate]
    omega

/-- THE RULE: a def (or a method) of the text, by its body. The body's reading t is chosen for each entry; it is run at the parameters' values -/
theorem fn_of {CX : CXT} {P : Program} {w : World} {K : PySem.W.Frag} {mg : Str → Option Value} {base : Heap} {k : Nat} {f : Addr} {name qual : Str} {params : Arguments} {body : List Stmt} {scope : Scope} {dV kV doc pm cdv ct oc : Value} {an od : Option Addr}
    {osl : Array (Option Value)} {N ps : List Str} {sp : Sp} (lk : K.lookup f = some ⟨oc, od, .func (PySem.W.fnOf name qual params body scope dV kV doc pm an cdv ct), osl⟩) (hcd : PySem.W.codeIn K cdv qual = true) (S : FnScope N ps scope)
    (len : ∀ vs H Q E, sp vs H Q E → vs.length = ps.length)
    (hbody : ∀ (A : Around) (outer : List Env) (s : Shared) (H : Hp) (vs : List V) (Q : VK) (E : XK), Room k (A.deeper (envOfC qual scope s.heap.objs.size f cdv)) → sp vs H Q E →
      ∃ t, PSs (cxOf CX P w K mg base N qual scope f cdv A outer s H E) body t ∧ t { nx := fun _ H' => Q .non H', rt := Q } (start N vs) H) :
    FnOk P w K mg base CX (k + 1) f (PySem.W.fnOf name qual params body scope dV kV doc pm an cdv ct) ps sp := by
  refine ⟨len, fun A outer s H args us vs Q E hr e0 hb r hsp => ?_⟩
  have hl := len _ _ _ _ hsp
  have KX : K.In s.heap := e0.mod.kin.keeps fun b o e => (e0.bs b o e).1
  have lim : s.heap.NoLimit := e0.mod.nolimit.keeps fun b o e => (e0.bs b o e).1
  have hkind : ∀ y ∈ ps.zip us, scope.names.lookup y.1 = some .local ∨ (scope.names.lookup y.1 = some .cell ∧ ((cellsFrom (s.heap.objs.size + 1) scope.names []).lookup y.1).isSome = true) := fun ⟨n, v⟩ hy => by
    rcases S.par n (List.of_mem_zip hy).1 with q | q
    · exact .inl q
    · exact .inr ⟨q, PySem.W.cellsFrom_some _ _ _ (.inl q)⟩
  refine codeAny_call_function hr.depth (KX _ _ lk) rfl S.co S.gen rfl (PySem.W.codeRec_of KX hcd) (hb _ _ _ _ ?_)
  refine wpAny_newFunctionEnv_cells S.kind hkind fun env he s1 x => ?_
  subst he
  refine ⟨lim.keeps x.toInCall.keep, codeAny_func ?_⟩
  obtain ⟨t, ht, hq⟩ := hbody A outer s H vs Q E (hr.deeper _) hsp
  have I : Inv (cxOf CX P w K mg base N qual scope f cdv A outer s H E) [] (start N vs) H s1 := inv_start S hr.hd e0 hl r x
  refine wpAny_mono (ht [] s1 (start N vs) H _ I hq) (fun fl s' hs => ?_) fun e s' hs => hs
  have fin : ∀ {σ' : St} {H' : Hp} {v : V} {u : Value}, Inv (cxOf CX P w K mg base N qual scope f cdv A outer s H E) [] σ' H' s' → RelV v u → Q v H' → CE outer P w H s Q u s' :=
    fun {σ' H' v u} J rv q => ⟨v, H', J.os, J.bare, J.base, J.hok, rv, q⟩
  cases fl with
  | ret u =>
    obtain ⟨v, σ', H', J, rv, q⟩ := hs
    exact fin J rv q
  | next =>
    obtain ⟨σ', H', J, q⟩ := hs
    exact fin (v := V.non) (u := Value.none) J rfl q
  | brk =>
    obtain ⟨_, _, _, q⟩ := hs
    exact False.elim q
  | cont =>
    obtain ⟨_, _, _, q⟩ := hs
    exact False.elim q
end L2

namespace L2
open PySem PySem.Spec PyProof.Rows
section
variable {X : Cx} {x : Str} {p pos : Pos} {e : Expr} {es : List Expr} {t : TA} {id T : String} {r : List V → Hp → VK → Prop}

def tCB (r : List V → Hp → VK → Prop) (t : TA) : TE := fun σ H Q => t σ H fun vs H1 => r vs H1 Q
/-- f(e, ..), f a built-in function -/
theorem pe_callB (hc : CallR X (.builtin id) r) (hg : Gl X x) (hm : X.mg x = none) (hv : bootBuiltins x = some (.builtin id)) (ha : PA X (e :: es) t) (hn : x ≠ "__name__" := by decide) (hdb : (x == ("__debug__" : Str)) = false := by decide)
    (he : starEach (e :: es) X.env = (false, eval e X.env) :: starEach es X.env := by rfl) (hpl : (backTo pos (starEach es X.env)).any (·.1) = false := by rfl) : PE X (.Call (.Name x p) (e :: es) [] pos) (tCB r t) := by
  intro pins s σ H Q I h
  refine wpAny_Call_Name_kw (ld_blt I hg hm hv ?_ hn hdb)
  exact PyProof.Rows.callWith_builtin1 (thn (ha pos pins s σ H _ I h) fun us s1 ⟨vs, H1, I1, r1, q1⟩ => hc pins s1 σ H1 vs us Q I1 r1 q1) he hpl
/-- T(e, ..), T a built-in type -/
theorem pe_callTy (hc : CallR X (.type T) r) (hg : Gl X x) (hm : X.mg x = none) (hv : bootBuiltins x = some (.type T)) (ha : PA X (e :: es) t) (hn : x ≠ "__name__" := by decide) (hdb : (x == ("__debug__" : Str)) = false := by decide)
    (he : starEach (e :: es) X.env = (false, eval e X.env) :: starEach es X.env := by rfl) (hpl : (backTo pos (starEach es X.env)).any (·.1) = false := by rfl) : PE X (.Call (.Name x p) (e :: es) [] pos) (tCB r t) := by
  intro pins s σ H Q I h
  refine wpAny_Call_Name_kw (ld_blt I hg hm hv ?_ hn hdb)
  exact PyProof.Rows.callWith_type1 (thn (ha pos pins s σ H _ I h) fun us s1 ⟨vs, H1, I1, r1, q1⟩ => hc pins s1 σ H1 vs us Q I1 r1 q1) he hpl
end
end L2

namespace HT
open PySem PyProof.Rows

/-- t < u of tuples of ints -/
def lexLt : List Int → List Int → Bool
  | [], [] => false
  | [], _ :: _ => true
  | _ :: _, [] => false
  | x :: xs, y :: ys => if x = y then lexLt xs ys else decide (x < y)


section
open PySem.SeqAt
open PySem.AutoSeq1 (wpAny_loadPart')
open PySem.MeetsSeq PySem.MeetsSeq2 PySem.MeetsSeq3

end

section
variable {prog : Program} {w : World} {A : Around} {E : Value → Shared → Prop} {s : Shared}


/-- t + u, t not empty -/
theorem cat_tup {t b : Addr} {vs ws : List Value} {Q : Value → Shared → Prop} (ht : IsTup s.heap t vs.toArray) (hb : IsTup s.heap b ws.toArray) (hv : vs ≠ [])
    (h1 : ws = [] → Q (.ref t) s) (h2 : ws ≠ [] → Q (.ref s.heap.objs.size) { s with heap := s.heap.push { cls := .type "tuple", data := .seq (vs ++ ws).toArray } })
    (hsz : vs.length + ws.length ≤ sizeLine) : wpAny (model prog w) A (binaryOp .Add (.ref t) (.ref b)) Q E s := by
  obtain ⟨⟨cls, dd, data, sl⟩, ho, hc, n, hd⟩ := id ht
  obtain ⟨⟨cls2, dd2, data2, sl2⟩, ho2, hc2, n2, hd2⟩ := id hb
  simp only at hc hd hc2 hd2
  subst hc hd hc2 hd2
  have e : vs.toArray ++ ws.toArray = (vs ++ ws).toArray := by simp
  by_cases hw : ws = []
  · exact concat_meets ⟨_, ho, rfl⟩ ⟨_, ho2, rfl⟩ noFill_tuple_add seq_tuple_add PySem.F.slot_tuple_add PySem.F.entry_tuple_add (PySem.F.args_tuple_add_2 _ _)
      (tuple_addW1 t b vs.toArray ws.toArray n n2 dd dd2 sl sl2 (by simpa using hv) (by simp [hw])) ⟨ho, ho2, h1 hw⟩
  · refine concat_meets ⟨_, ho, rfl⟩ ⟨_, ho2, rfl⟩ noFill_tuple_add seq_tuple_add PySem.F.slot_tuple_add PySem.F.entry_tuple_add (PySem.F.args_tuple_add_2 _ _)
      (tuple_addW2 t b vs.toArray ws.toArray n n2 dd dd2 sl sl2 (by simpa using hv) (by simpa using hw) (by rw [List.size_toArray, List.size_toArray]; exact hsz)) ⟨ho, ho2, ?_⟩
    rw [e]
    exact h2 hw

/-! ### t[a:b], not the whole -/
/-- a slice's bound as a place among n (d where it is left out) -/
def sIx (n d : Nat) : Option Int → Nat
  | none => d
  | some v => if v < 0 then (v + (n : Int)).toNat else min v.toNat n
theorem sIx_none (n d : Nat) : sIx n d none = d := rfl
theorem sIx_nat (n d k : Nat) : sIx n d (some (k : Int)) = min k n := by
  show (if (k : Int) < 0 then ((k : Int) + (n : Int)).toNat else min (k : Int).toNat n) = min k n
  rw [if_neg (by omega), Int.toNat_natCast]
theorem sIx_le (n d : Nat) (hd : d ≤ n) (o : Option Int) : sIx n d o ≤ n := by
  cases o with
  | none => exact hd
  | some v =>
    show (if v < 0 then (v + (n : Int)).toNat else min v.toNat n) ≤ n
    by_cases hv : v < 0
    · rw [if_pos hv]; omega
    · rw [if_neg hv]; exact Nat.min_le_right _ _
theorem clip_eq (v : Int) (n d : Nat) : (if v < 0 then max (v + (n : Int)) 0 else min v (n : Int)) = ((sIx n d (some v) : Nat) : Int) := by
  show (if v < 0 then max (v + (n : Int)) 0 else min v (n : Int)) = (((if v < 0 then (v + (n : Int)).toNat else min v.toNat n) : Nat) : Int)
  by_cases hv : v < 0
  · simp only [if_pos hv]; omega
  · simp only [if_neg hv]; omega
theorem adjust_gen (lo hi : Option Int) (n : Nat) : Builtin.Slice.sliceAdjust lo hi 1 (n : Int) = (((sIx n 0 lo : Nat) : Int), ((sIx n n hi : Nat) : Int)) := by
  have h1 : ¬ ((1 : Int) < 0) := by omega
  unfold Builtin.Slice.sliceAdjust
  simp only [h1, if_false]
  refine Prod.ext ?_ ?_
  · cases lo with
    | none => rfl
    | some v => exact clip_eq v n 0
  · cases hi with
    | none => rfl
    | some v => exact clip_eq v n n
theorem places_gen (i j : Nat) : Builtin.Slice.slicePlaces (i : Int) (j : Int) 1 = j - i := by
  unfold Builtin.Slice.slicePlaces
  have h1 : (1 : Int) > 0 := by omega
  simp only [h1, if_true, Int.ediv_one]
  split <;> omega
theorem slicePart_ {v : Value} {o : Option Int} {Q : Option Int → Shared → Prop} (p : IsPart v o) (h : Q o s) : wpAny (model prog w) A (Builtin.Slice.slicePartIndex v) Q E s := by
  cases p with
  | none => exact slicePart_none h
  | int i t => exact slicePart_int h
theorem sliceApplied_gen {sl : Addr} {vl vu : Value} {lo hi : Option Int} {n : Nat} {Q : Int × Int × Nat → Shared → Prop} (hs : s.heap.IsSliceOf sl vl vu .none) (pl : IsPart vl lo) (pu : IsPart vu hi)
    (h : Q (((sIx n 0 lo : Nat) : Int), 1, sIx n n hi - sIx n 0 lo) s) : wpAny (model prog w) A (Builtin.Slice.sliceApplied (.ref sl) (pure (n : Int))) Q E s := by
  obtain ⟨os, hos, hcs, hds⟩ := id hs
  unfold Builtin.Slice.sliceApplied Builtin.Slice.sliceFields
  refine wpAny_bind (wpAny_bind (wpAny_field hos hds (x := vl) rfl (wpAny_bind (wpAny_field hos hds (x := vu) rfl (wpAny_bind (wpAny_field hos hds (x := .none) rfl (wpAny_pure ?_)))))))
  refine wpAny_bind (slicePart_none ?_)
  show wpAny _ _ (if ((1 : Int) == 0) = true then _ else _) _ _ s
  rw [if_neg (by decide)]
  refine wpAny_bind (slicePart_ pl (wpAny_bind (slicePart_ pu (wpAny_bind (wpAny_pure ?_)))))
  show wpAny _ _ (match Builtin.Slice.sliceAdjust lo hi 1 (n : Int) with | (lo, hi) => pure (lo, (1 : Int), Builtin.Slice.slicePlaces lo hi 1)) _ _ s
  rw [adjust_gen lo hi n]
  show wpAny _ _ (pure (((sIx n 0 lo : Nat) : Int), (1 : Int), Builtin.Slice.slicePlaces ((sIx n 0 lo : Nat) : Int) ((sIx n n hi : Nat) : Int) 1)) _ _ s
  rw [places_gen]
  exact wpAny_pure h
theorem pick_gen (xs : Array Value) (i k : Nat) : ((List.range k).filterMap fun (m : Nat) => xs[((i : Int) + (m : Int) * 1).toNat]?).toArray = ((xs.toList.drop i).take k).toArray := by
  have e : (fun (m : Nat) => xs[((i : Int) + (m : Int) * 1).toNat]?) = fun m => xs[i + m]? := by
    funext m
    have : ((i : Int) + (m : Int) * 1).toNat = i + m := by omega
    rw [this]
  rw [e]
  have := pick_run xs i k
  rw [List.filterMap_map] at this
  have e2 : ((fun x => xs[x]?) ∘ fun x => i + x) = fun m => xs[i + m]? := rfl
  rw [e2] at this
  rw [this]

theorem getItem_tuple_cut {t sl : Addr} {items : Array Value} {vl vu : Value} {lo hi : Option Int} {Q : Value → Shared → Prop} (ht : IsTup s.heap t items) (hs : s.heap.IsSliceOf sl vl vu .none) (pl : IsPart vl lo) (pu : IsPart vu hi)
    (hw : ¬ (sIx items.size 0 lo = 0 ∧ sIx items.size items.size hi = items.size))
    (h : Q (.ref s.heap.objs.size) { s with heap := s.heap.push { cls := .type "tuple", data := .seq ((items.toList.drop (sIx items.size 0 lo)).take (sIx items.size items.size hi - sIx items.size 0 lo)).toArray } })
    (hsz : items.size ≤ sizeLine) : wpAny (model prog w) A (getItem (.ref t) (.ref sl)) Q E s := by
  have htake : sizeOk (.seq ((items.toList.drop (sIx items.size 0 lo)).take (sIx items.size items.size hi - sIx items.size 0 lo)).toArray) := by
    show ((items.toList.drop (sIx items.size 0 lo)).take (sIx items.size items.size hi - sIx items.size 0 lo)).toArray.size ≤ sizeLine
    rw [List.size_toArray, List.length_take, List.length_drop, Array.length_toList]
    omega
  have hj : sIx items.size items.size hi ≤ items.size := sIx_le _ _ (Nat.le_refl _) hi
  obtain ⟨os, hos, hcs, hds⟩ := id hs
  have hTs : s.TypeIs (.ref sl) "slice" := ⟨os, hos, hcs⟩
  unfold getItem
  try with_reducible refine wpAny_holding ?_
  first | refine wpAny_bind (wpAny_pure ?_) | skip
  refine wpAny_bind (wpAny_sequenceKey ht.typeIs (by decide) ?_)
  refine wpAny_bind (wpAny_callSpecial?_slot (name := Str.ofString "__getitem__") ht.typeIs PyProof.Rows.slot_tuple_getitem
    (wpAny_call_entry PyProof.Rows.slot_tuple_getitem ht.typeIs entry_tuple_getitem ?_ (args_tuple_getitem _ _)))
  show wpAny _ _ (Builtin.Tuple.tupleItemsOf (.ref t) >>= _) _ _ s
  refine wpAny_bind (tupleItemsOf_ ht ?_)
  refine wpAny_bind (wpAny_typeOf hTs ?_)
  rw [if_pos (by decide)]
  refine wpAny_bind (sliceApplied_gen hs pl pu ?_)
  have hno : ¬ ((((sIx items.size 0 lo : Nat) : Int) == 0 && (1 : Int) == 1 && (sIx items.size items.size hi - sIx items.size 0 lo) == items.size) = true) := by
    intro q
    rw [Bool.and_eq_true, Bool.and_eq_true] at q
    have q1 : ((sIx items.size 0 lo : Nat) : Int) = 0 := eq_of_beq q.1.1
    have q2 : sIx items.size items.size hi - sIx items.size 0 lo = items.size := eq_of_beq q.2
    exact hw ⟨by omega, by omega⟩
  show wpAny _ _ (if (((sIx items.size 0 lo : Nat) : Int) == 0 && (1 : Int) == 1 && (sIx items.size items.size hi - sIx items.size 0 lo) == items.size) = true then _ else _) _ _ s
  rw [if_neg hno, pick_gen]
  first
    | exact wpAny_bind (m := Builtin.Tuple.tupleExact _) (wpAny_newObj_type (wpAny_pure ⟨_, rfl, wpAny_pure h⟩) htake)
    | exact wpAny_bind (m := Builtin.Tuple.tupleExact _) (wpAny_newObj_type (wpAny_bind (wpAny_pure (wpAny_pure ⟨_, rfl, wpAny_pure h⟩))) htake)
    | exact wpAny_bind (wpAny_bind (m := Builtin.Tuple.tupleExact _) (wpAny_newObj_type (wpAny_pure (wpAny_pure ⟨_, rfl, wpAny_pure h⟩)) htake))
    | exact wpAny_bind (wpAny_bind (m := Builtin.Tuple.tupleExact _) (wpAny_newObj_type (wpAny_pure ⟨_, rfl, wpAny_pure h⟩) htake))
end
end HT

namespace L2
open PySem PySem.Spec PyProof.Rows

/-! ### the parts of a slice -/
abbrev TO := St → Hp → (Option Int → Hp → Prop) → Prop
/-- a slice's part (left out, or an int) -/
def PO (X : Cx) (e : Option Expr) (t : TO) : Prop :=
  ∀ (pins : List (Addr × Obj)) (s : Shared) (σ : St) (H : Hp) (Q : Option Int → Hp → Prop), Inv X pins σ H s → t σ H Q →
    wpAny (model X.prog X.w) X.A (evalPart e X.env) (fun u s' => ∃ o H', Inv X pins σ H' s' ∧ IsPart u o ∧ Q o H') X.xe s
def tNoPart : TO := fun _ H Q => Q none H
def tPart (t : TE) : TO := fun σ H Q => t σ H fun x H1 => ∃ i, x = .int i ∧ Q (some i) H1


section
variable {X : Cx} {e : Expr} {te : TE} {lo hi : Option Expr} {tl th : TO} {pos p2 : Pos}

theorem po_none : PO X none tNoPart := by
  intro pins s σ H Q I h
  rw [evalPart_none]
  exact wpAny_pure ⟨none, H, I, .none, h⟩
theorem po_some (h : PE X e te) : PO X (some e) (tPart te) := by
  intro pins s σ H Q I hw
  rw [evalPart_some]
  refine thn (h pins s σ H _ I hw) fun u s1 ⟨x, H1, I1, r1, q1⟩ => ?_
  obtain ⟨i, rfl, q⟩ := q1
  obtain ⟨t, rfl⟩ := r1
  exact ⟨some i, H1, I1, .int i t, q⟩

/-- what a slice of a value is, by values: the slice object stands at sl -/
def SlR (X : Cx) (r : V → Option Int → Option Int → Hp → VK → Prop) : Prop :=
  ∀ (pins : List (Addr × Obj)) (s : Shared) (σ : St) (H : Hp) (x : V) (v vl vu : Value) (lo hi : Option Int) (sl : Addr) (Q : VK), Inv X pins σ H s → RelV x v → s.heap.IsSliceOf sl vl vu .none → IsPart vl lo → IsPart vu hi → r x lo hi H Q →
    ∃ T id, typeLookup (.type T) "__getitem__" = pure (some (.builtin id)) ∧ s.TypeIs v T ∧ wpAny (model X.prog X.w) X.A (getItem v (.ref sl)) (EP X pins σ Q) X.xe s
theorem SlR.or {r r' : V → Option Int → Option Int → Hp → VK → Prop} (h : SlR X r) (h' : SlR X r') : SlR X (fun x lo hi H Q => r x lo hi H Q ∨ r' x lo hi H Q) := by
  intro pins s σ H x v vl vu lo hi sl Q I rx hs pl pu q
  rcases q with q | q
  · exact h pins s σ H x v vl vu lo hi sl Q I rx hs pl pu q
  · exact h' pins s σ H x v vl vu lo hi sl Q I rx hs pl pu q
def tSl (r : V → Option Int → Option Int → Hp → VK → Prop) (te : TE) (tl th : TO) : TE := fun σ H Q => te σ H fun x H1 => tl σ H1 fun l H2 => th σ H2 fun u H3 => r x l u H3 Q
/-- a[lo:hi], any a -/
theorem pe_slice {r : V → Option Int → Option Int → Hp → VK → Prop} (hr : SlR X r) (he : PE X e te) (hl : PO X lo tl) (hu : PO X hi th) : PE X (.Subscript e (.Slice lo hi none p2) pos) (tSl r te tl th) := by
  intro pins s σ H Q I h
  refine Subscript_ (thn (he pins s σ H _ I h) fun v s1 ⟨x, H1, I1, r1, q1⟩ => ?_)
  refine wpAny_Slice (thn (hl pins s1 σ H1 _ I1 q1) fun vl s2 ⟨l, H2, I2, pl, q2⟩ => thn (hu pins s2 σ H2 _ I2 q2) fun vu s3 ⟨u, H3, I3, pu, q3⟩ => ?_)
  rw [evalPart_none]
  refine wpAny_pure ?_
  have I4 : Inv X pins σ H3 { s3 with heap := s3.heap.push { cls := .type "slice", data := .fields #[vl, vu, .none] } } := I3.kept (t' := s3.toks) fun b ob q => Heap.get?_push_of_some _ q
  obtain ⟨T, id, hT, ht, hg⟩ := hr pins { s3 with heap := s3.heap.push { cls := .type "slice", data := .fields #[vl, vu, .none] } } σ H3 x v vl vu l u s3.heap.objs.size Q I4 r1 (Heap.IsSliceOf.new ..) pl pu q3
  show wpAny (model X.prog X.w) X.A (subscriptTail e (.Slice lo hi none p2) v (.ref s3.heap.objs.size)) (EP X pins σ Q) X.xe { s3 with heap := s3.heap.push { cls := .type "slice", data := .fields #[vl, vu, .none] } }
  exact tail_any (ops := [.ref s3.heap.objs.size, v]) ht hT hg (by with_unfolding_all rfl)

/-- the items of xs[lo:hi] -/
def cutV (xs : List V) (lo hi : Option Int) : List V := (xs.drop (HT.sIx xs.length 0 lo)).take (HT.sIx xs.length xs.length hi - HT.sIx xs.length 0 lo)
theorem cutV_length (xs : List V) (lo hi : Option Int) : (cutV xs lo hi).length ≤ xs.length := by
  unfold cutV
  rw [List.length_take, List.length_drop]
  omega
/-- t[lo:hi], not the whole of it (the whole would be t itself) -/
def rSlT (K : PySem.W.Frag) : V → Option Int → Option Int → Hp → VK → Prop := fun x lo hi H Q => ∃ a xs, x = .ref a ∧ SqT K H a xs ∧
  ¬ (HT.sIx xs.length 0 lo = 0 ∧ HT.sIx xs.length xs.length hi = xs.length) ∧ ∀ p, H p = none → Q (.ref p) (upd H p (.tup (cutV xs lo hi)))
theorem sl_tup : SlR X (rSlT X.K) := by
  intro pins s σ H x v vl vu lo hi sl Q I rx hs pl pu h
  obtain ⟨a, xs, rfl, hx, hw, q⟩ := h
  cases rx
  obtain ⟨its, r, ht, hz⟩ := I.tuple hx
  have hlen : its.toArray.size = xs.length := by rw [List.size_toArray]; exact r.length.symm
  refine ⟨"tuple", _, PyProof.Rows.slot_tuple_getitem.lookup, ht.typeIs, ?_⟩
  refine HT.getItem_tuple_cut ht hs pl pu (by rw [hlen]; exact hw) ?_ (by rw [hlen]; exact hz)
  rw [hlen]
  refine ⟨.ref s.heap.objs.size, _, I.laid (t' := s.toks) (o := .tup (cutV xs lo hi)) (fun b ob q => Heap.get?_push_of_some _ q) (Nat.le_refl _) ?_, rfl, q _ (I.hok.fresh (Nat.le_refl _))⟩
  exact ⟨Nat.le_trans (cutV_length xs lo hi) hz, _, (r.drop (HT.sIx xs.length 0 lo)).take (HT.sIx xs.length xs.length hi - HT.sIx xs.length 0 lo), IsTup.new _ _⟩

/-! ### t < u, t + u -/
def rLtT (K : PySem.W.Frag) : R2 := fun x y H Q => ∃ a b ns ms, x = .ref a ∧ y = .ref b ∧ SqT K H a (ns.map V.int) ∧ SqT K H b (ms.map V.int) ∧ Q (.bl (HT.lexLt ns ms)) H
/-- t + u, t not empty: u empty gives t itself -/
def rCatT (K : PySem.W.Frag) : R2 := fun x y H Q => ∃ a b xs ys, x = .ref a ∧ y = .ref b ∧ SqT K H a xs ∧ SqT K H b ys ∧ xs ≠ [] ∧ xs.length + ys.length ≤ sizeLine ∧
  (ys = [] → Q (.ref a) H) ∧ (ys ≠ [] → ∀ p, H p = none → Q (.ref p) (upd H p (.tup (xs ++ ys))))
theorem Vals.nil_iff {xs : List V} {us : List Value} (r : Vals xs us) : us = [] ↔ xs = [] := by
  cases r with
  | nil => simp
  | cons _ _ => simp
theorem op_catT : OpR X (binaryOp .Add) (rCatT X.K) := by
  intro pins s σ H x y v u Q I rx ry h
  obtain ⟨a, b, xs, ys, rfl, rfl, ha, hb, hx, hz, q1, q2⟩ := h
  cases rx
  cases ry
  obtain ⟨its, r1, p1, _⟩ := I.tuple ha
  obtain ⟨its2, r2, p2, _⟩ := I.tuple hb
  refine HT.cat_tup p1 p2 (fun z => hx (r1.nil_iff.mp z)) (fun z => ⟨.ref a, H, I, rfl, q1 (r2.nil_iff.mp z)⟩) (fun z => ?_) (by rw [← r1.length, ← r2.length]; exact hz)
  refine ⟨.ref s.heap.objs.size, _, I.laid (t' := s.toks) (o := .tup (xs ++ ys)) (fun b ob q => Heap.get?_push_of_some _ q) (Nat.le_refl _) ?_, rfl, q2 (fun w => z (r2.nil_iff.mpr w)) _ (I.hok.fresh (Nat.le_refl _))⟩
  exact ⟨by rw [List.length_append]; exact hz, _, r1.append r2, IsTup.new _ _⟩
end
end L2

namespace L2
open PySem PySem.Spec PyProof.Rows

/-! ### places -/
/-- the place that an index of any sign means -/
def ixN (n : Nat) (i : Int) : Option Nat := if 0 ≤ i then (if i < n then some i.toNat else none) else if -(n : Int) ≤ i then some (i + n).toNat else none
def atI {α : Type} (xs : List α) (i : Int) : Option α := (ixN xs.length i).bind fun j => xs[j]?
theorem ixN_seq {n : Nat} {i : Int} {j : Nat} (h : ixN n i = some j) : seqIndex? i n = some j ∧ j < n ∧ -(n : Int) ≤ i ∧ i < n := by
  unfold ixN at h
  by_cases h0 : 0 ≤ i
  · rw [if_pos h0] at h
    by_cases h1 : i < n
    · rw [if_pos h1] at h
      have e : i.toNat = j := Option.some.inj h
      exact ⟨by rw [seqIndex_of h0 h1, e], by omega, by omega, h1⟩
    · rw [if_neg h1] at h; cases h
  · rw [if_neg h0] at h
    by_cases h1 : -(n : Int) ≤ i
    · rw [if_pos h1] at h
      have e : (i + n).toNat = j := Option.some.inj h
      exact ⟨by rw [seqIndex_neg (by omega) h1, e], by omega, h1, by omega⟩
    · rw [if_neg h1] at h; cases h
theorem atI_get {α : Type} {xs : List α} {i : Int} {v : α} (h : atI xs i = some v) : ∃ j, seqIndex? i xs.length = some j ∧ xs[j]? = some v ∧ j < xs.length ∧ -(xs.length : Int) ≤ i ∧ i < xs.length := by
  unfold atI at h
  cases e : ixN xs.length i with
  | none => rw [e] at h; cases h
  | some j =>
    rw [e] at h
    obtain ⟨h1, h2, h3, h4⟩ := ixN_seq e
    exact ⟨j, h1, h, h2, h3, h4⟩
theorem atI_nat {α : Type} {xs : List α} {j : Nat} {v : α} (h : xs[j]? = some v) : atI xs (j : Int) = some v := by
  have hj : j < xs.length := (List.getElem?_eq_some_iff.mp h).1
  have e : ixN xs.length (j : Int) = some j := by
    unfold ixN
    rw [if_pos (by omega), if_pos (by omega)]; simp
  unfold atI; rw [e]; exact h

/-! ### what may be subscripted -/
/-- what stands as an index of a plain subscript -/
def PlainIx (b : Expr) : Prop := ∀ o i, subscripted b false o i = operate [o, i] (getItem o i)
/-- a subscript by values -/
def IxR (X : Cx) (r : R2) : Prop :=
  ∀ (value slice : Expr) (pins : List (Addr × Obj)) (s : Shared) (σ : St) (H : Hp) (x y : V) (v u : Value) (Q : VK), Inv X pins σ H s → RelV x v → RelV y u → r x y H Q →
    subscripted slice false v u = operate [v, u] (getItem v u) → wpAny (model X.prog X.w) X.A (subscriptTail value slice v u) (EP X pins σ Q) X.xe s
/-- a call of a builtin's method by values: the receiver, the arguments -/
def MtR (X : Cx) (id : String) (r : V → List V → Hp → VK → Prop) : Prop :=
  ∀ (pins : List (Addr × Obj)) (s : Shared) (σ : St) (H : Hp) (x : V) (xs : List V) (v : Value) (us : List Value) (Q : VK), Inv X pins σ H s → RelV x v → Vals xs us → r x xs H Q →
    wpAny (model X.prog X.w) X.A (call (.builtin id) (v :: us)) (EP X pins σ Q) X.xe s
section
variable {X : Cx} {a b : Expr} {ta tb : TE} {pos : Pos}
theorem IxR.or {r r' : R2} (h : IxR X r) (h' : IxR X r') : IxR X (fun x y H Q => r x y H Q ∨ r' x y H Q) := by
  intro value slice pins s σ H x y v u Q I rx ry q hs
  rcases q with q | q
  · exact h value slice pins s σ H x y v u Q I rx ry q hs
  · exact h' value slice pins s σ H x y v u Q I rx ry q hs
/-- a[b] -/
theorem pe_ix {r : R2} (hr : IxR X r) (ha : PE X a ta) (hb : PE X b tb) (hs : PlainIx b) : PE X (.Subscript a b pos) (tOp r ta tb) := by
  intro pins s σ H Q I h
  exact Subscript_ (binT ha hb I h fun v u s2 x y H2 I2 rx ry q => hr a b pins s2 σ H2 x y v u Q I2 rx ry q (hs _ _))

def rIxL (K : PySem.W.Frag) : R2 := fun x y H Q => ∃ p xs i v, x = .ref p ∧ y = .int i ∧ SqL K H p xs ∧ atI xs i = some v ∧ Q v H
def rIxT (K : PySem.W.Frag) : R2 := fun x y H Q => ∃ p xs i v, x = .ref p ∧ y = .int i ∧ SqT K H p xs ∧ atI xs i = some v ∧ Q v H
def rIxS : R2 := fun x y H Q => ∃ z i c, x = .str z ∧ y = .int i ∧ z.length ≤ sizeLine ∧ atI z.cps.toList i = some c ∧ Q (.str ⟨#[c]⟩) H
theorem ix_list : IxR X (rIxL X.K) := by
  intro value slice pins s σ H x y v u Q I rx ry h hs
  obtain ⟨p, xs, i, z, rfl, rfl, hq, he, q⟩ := h
  cases rx
  obtain ⟨t, rfl⟩ := ry
  obtain ⟨its, r, pl, hz⟩ := I.list hq
  obtain ⟨j, h1, h2, h3, h4, h5⟩ := atI_get he
  obtain ⟨w, ew, rw'⟩ := r.get h2
  have hl := r.length
  have hn := line63
  have fin : EP X pins σ Q w s := ⟨z, H, I, rw', q⟩
  by_cases h0 : 0 ≤ i
  · have hj : i.toNat = j := by
      rw [seqIndex_of h0 h5] at h1
      exact Option.some.inj h1
    exact item_listR pl.isList h0 (by omega) (by rw [hj]; simpa using ew) fin hs
  · have hj : (i + (its.toArray.size : Int)).toNat = j := by
      rw [seqIndex_neg (by omega) h4] at h1
      rw [List.size_toArray, ← hl]
      exact Option.some.inj h1
    exact subscriptTail_builtinR (x := w) pl.isList.typeIs slot_list_getitem.lookup
      (wpAny_getItem_list_neg (Q := fun r s' => r = w ∧ EP X pins σ Q r s') pl.isList (by omega) (by rw [List.size_toArray] <;> omega) (by omega) (by rw [hj]; simpa using ew) ⟨rfl, fin⟩) hs
theorem ix_tup : IxR X (rIxT X.K) := by
  intro value slice pins s σ H x y v u Q I rx ry h hs
  obtain ⟨p, xs, i, z, rfl, rfl, hq, he, q⟩ := h
  cases rx
  obtain ⟨t, rfl⟩ := ry
  obtain ⟨its, r, pl, hz⟩ := I.tuple hq
  obtain ⟨j, h1, h2, h3, h4, h5⟩ := atI_get he
  obtain ⟨w, ew, rw'⟩ := r.get h2
  have hl := r.length
  have hn := line63
  have fin : EP X pins σ Q w s := ⟨z, H, I, rw', q⟩
  exact subscriptTail_builtinR (x := w) pl.typeIs slot_tuple_getitem.lookup
    (getItem_tuple (j := j) (Q := fun r s' => r = w ∧ EP X pins σ Q r s') pl (by omega) (by omega) (by rw [List.size_toArray, ← hl]; exact h1) (by simpa using ew) ⟨rfl, fin⟩) hs
theorem ix_str : IxR X rIxS := by
  intro value slice pins s σ H x y v u Q I rx ry h hs
  obtain ⟨z, i, c, rfl, rfl, hz, he, q⟩ := h
  obtain ⟨t, rfl⟩ := rx
  obtain ⟨t', rfl⟩ := ry
  obtain ⟨j, h1, h2, h3, h4, h5⟩ := atI_get he
  have hl : z.cps.toList.length = z.length := by simp [Str.length]
  rw [hl] at h1 h4 h5
  have hn := line63
  exact tail_any (typeIs_str s z t) slot_str_getitem.lookup (getItem_str (c := c) (by
    have e1 : decide (i < -(2 ^ 63 : Int)) = false := decide_eq_false (by omega)
    have e2 : decide (i ≥ 2 ^ 63) = false := decide_eq_false (by omega)
    rw [e1, e2, Bool.or_false]) (by rw [h1]; simpa using h2) ⟨.str ⟨#[c]⟩, H, I.tok _, ⟨_, rfl⟩, q⟩) hs
/-- list, tuple or str -/
def rIx (K : PySem.W.Frag) : R2 := fun x y H Q => rIxL K x y H Q ∨ rIxT K x y H Q ∨ rIxS x y H Q
theorem ix_seq : IxR X (rIx X.K) := ix_list.or (ix_tup.or ix_str)

/-! ### xs[i] = v, any sign -/
/-- the list's object behind a store -/
theorem mapSeq_set (its : List Value) (n j : Nat) (u : Value) : Obj.mapSeq (·.setIfInBounds j u) { cls := .type "list", data := .seq its.toArray n } = { cls := .type "list", data := .seq (its.set j u).toArray n } := by
  simp [Obj.mapSeq]
theorem Inv.lst {pins : List (Addr × Obj)} {σ : St} {H : Hp} {s : Shared} {p : Addr} {xs : List V} (I : Inv X pins σ H s) (h : H p = some (.lst xs)) :
    ∃ (its : List Value) (n : Nat), Vals xs its ∧ s.heap.get? p = some { cls := .type "list", data := .seq its.toArray n } ∧ xs.length ≤ sizeLine := by
  obtain ⟨z, its, n, r, e⟩ := I.hok p _ h
  exact ⟨its, n, r, e, z⟩
/-- the list at p is written by an update of its object -/
theorem Inv.lstUpd {pins : List (Addr × Obj)} {σ : St} {H : Hp} {s : Shared} {p : Addr} {xs ys : List V} {its its' : List Value} {n n' : Nat} {f : Obj → Obj} (I : Inv X pins σ H s) (h : H p = some (.lst xs))
    (ho : s.heap.get? p = some { cls := .type "list", data := .seq its.toArray n }) (hf : f { cls := .type "list", data := .seq its.toArray n } = { cls := .type "list", data := .seq its'.toArray n' }) (r : Vals ys its') (hz : ys.length ≤ sizeLine) (t : Nat) :
    Inv X pins σ (upd H p (.lst ys)) { s with heap := s.heap.update p f, toks := t } := by
  have e : (s.heap.update p f).get? p = some { cls := .type "list", data := .seq its'.toArray n' } := by
    rw [Heap.get?_update_self f ho (by rw [hf] <;> rfl), hf]
  refine I.write (x := p) (e := p) (by rw [h]; trivial) (.inl rfl) (fun b u hb q => (Heap.get?_update_other _ _ (Ne.symm hb)).trans q) ⟨_, e⟩ ?_
  exact ⟨hz, its', n', r, e⟩
def rSetL : V → V → V → Hp → (Hp → Prop) → Prop := fun o i v H Q => ∃ p xs k j, o = .ref p ∧ i = .int k ∧ H p = some (.lst xs) ∧ ixN xs.length k = some j ∧ Q (upd H p (.lst (xs.set j v)))
theorem set_list : PSet X rSetL := by
  intro pins s σ H o i v ov iv u Q I ro ri rv h
  obtain ⟨p, xs, k, j, rfl, rfl, hp, hj, q⟩ := h
  cases ro
  obtain ⟨t, rfl⟩ := ri
  obtain ⟨its, n, r, ho, hz⟩ := I.lst hp
  obtain ⟨h1, h2, h3, h4⟩ := ixN_seq hj
  have hl := r.length
  have hn := line63
  have I' : Inv X pins σ (upd H p (.lst (xs.set j v))) { s with heap := s.heap.update p (Obj.mapSeq (·.setIfInBounds j u)) } :=
    I.lstUpd hp ho (mapSeq_set its n j u) (r.set rv j) (by rw [List.length_set]; exact hz) s.toks
  by_cases h0 : 0 ≤ k
  · have hk : k.toNat = j := by
      rw [seqIndex_of h0 h4] at h1
      exact Option.some.inj h1
    exact PySem.W.ki_setAt ho h0 (by omega) (by rw [List.size_toArray, ← hl]; exact h4) (by rw [hk]; exact ⟨_, I', q⟩)
  · have hk : (k + (its.toArray.size : Int)).toNat = j := by
      rw [seqIndex_neg (by omega) h3] at h1
      rw [List.size_toArray, ← hl]
      exact Option.some.inj h1
    exact PySem.W.ki_setBack ho (by omega) (by rw [List.size_toArray, ← hl]; exact h3) (by omega) (by rw [hk]; exact ⟨_, I', q⟩)

/-! ### slices -/
/-- xs[lo:hi] of a list: a new list -/
def rSlL (K : PySem.W.Frag) : V → Option Int → Option Int → Hp → VK → Prop := fun x lo hi H Q => ∃ a xs, x = .ref a ∧ SqL K H a xs ∧ ∀ p, H p = none → Q (.ref p) (upd H p (.lst (cutV xs lo hi)))

/-! ### in, not in: flat items -/
def flatV : V → Bool
  | .non => true
  | .bl _ => true
  | .int _ => true
  | .str _ => true
  | _ => false
/-- == of flat values -/
def eqV : V → V → Bool
  | .non, .non => true
  | .bl a, .bl b => a == b
  | .bl a, .int b => (if a then 1 else 0) == b
  | .int a, .bl b => a == (if b then 1 else 0)
  | .int a, .int b => a == b
  | .str a, .str b => a == b
  | _, _ => false
/-- the items' answers, read off the values (a value's own answer does not lean on its token) -/
def eqU (x : V) (u : Value) : Bool := match u with
  | .none => eqV .non x
  | .bool b => eqV (.bl b) x
  | .int i _ => eqV (.int i) x
  | .str z _ => eqV (.str z) x
  | _ => false
def inV (x : V) (xs : List V) : Bool := xs.any fun y => eqV y x
/-- x in a list or tuple of flat items -/
def rIn (K : PySem.W.Frag) (neg : Bool) : R2 := fun x y H Q => ∃ p xs, y = .ref p ∧ (SqL K H p xs ∨ SqT K H p xs) ∧ flatV x = true ∧ xs.all flatV = true ∧ Q (.bl (if neg then !inV x xs else inV x xs)) H

/-! ### len, list(x), tuple(x) of any list or tuple that is read -/
theorem call_len_seq : CallR X (.builtin "len") (fun xs H Q => ∃ p ys, xs = [.ref p] ∧ (SqL X.K H p ys ∨ SqT X.K H p ys) ∧ Q (.int ys.length) H) := by
  intro pins s σ H xs us Q I r h
  obtain ⟨p, ys, rfl, hq, q⟩ := h
  obtain ⟨u, rfl, rx⟩ := vals1 r
  cases rx
  have hn := line63
  rcases hq with hq | hq
  · obtain ⟨its, r', pl, hz⟩ := I.list hq
    have hlen := r'.length
    exact Calls.call_len_list pl.isList (by simp only [List.size_toArray] <;> omega) ⟨.int ys.length, H, I.tok _, ⟨s.toks + 1, by rw [List.size_toArray, hlen]⟩, q⟩
  · obtain ⟨its, r', pl, hz⟩ := I.tuple hq
    have hlen := r'.length
    exact len_tuple pl (by simp only [List.size_toArray] <;> omega) ⟨.int ys.length, H, I.tok _, ⟨s.toks + 1, by rw [List.size_toArray, hlen]⟩, q⟩
theorem call_len_str : CallR X (.builtin "len") (fun xs H Q => ∃ z, xs = [.str z] ∧ z.length ≤ sizeLine ∧ Q (.int z.length) H) := by
  intro pins s σ H xs us Q I r h
  obtain ⟨z, rfl, hz, q⟩ := h
  obtain ⟨u, rfl, t, rfl⟩ := vals1 r
  have hn := line63
  exact len_str (by omega) ⟨.int z.length, H, I.tok _, ⟨_, rfl⟩, q⟩
theorem call_list_of : CallR X (.type "list") (fun xs H Q => ∃ p ys, xs = [.ref p] ∧ (SqL X.K H p ys ∨ SqT X.K H p ys) ∧ ∀ l, H l = none → Q (.ref l) (upd H l (.lst ys))) := by
  intro pins s σ H xs us Q I r h
  obtain ⟨p, ys, rfl, hq, q⟩ := h
  obtain ⟨u, rfl, rx⟩ := vals1 r
  cases rx
  have fin : ∀ (its : List Value), Vals ys its → ys.length ≤ sizeLine → ∀ (h' : Heap) (c' : Nat), (∀ b o', s.heap.get? b = some o' → h'.get? b = some o') →
      h'.get? s.heap.objs.size = some { cls := .type "list", dict := none, data := .seq its.toArray c', slots := #[] } → EP X pins σ Q (.ref s.heap.objs.size) { s with heap := h' } := fun its r' hz h' c' kp e =>
    ⟨.ref s.heap.objs.size, _, I.laid (t' := s.toks) kp (Nat.le_refl _) (show ObjOk X.prog X.w _ h' _ (.lst ys) from ⟨hz, its, c', r', e⟩), rfl, q _ (I.hok.fresh (Nat.le_refl _))⟩
  rcases hq with hq | hq
  · obtain ⟨its, r', pl, hz⟩ := I.list hq
    have hlen := r'.length
    obtain ⟨o, ho, hc, n, hd⟩ := pl.isList
    exact call_list_seq p (.inl rfl) ho hc hd (fun h' c' kp e => fin its r' hz h' c' kp e) (by simp only [List.size_toArray] <;> omega)
  · obtain ⟨its, r', pl, hz⟩ := I.tuple hq
    have hlen := r'.length
    obtain ⟨o, ho, hc, n, hd⟩ := pl
    exact call_list_seq p (.inr rfl) ho hc hd (fun h' c' kp e => fin its r' hz h' c' kp e) (by simp only [List.size_toArray] <;> omega)
theorem call_tuple_of : CallR X (.type "tuple") (fun xs H Q => ∃ p ys, xs = [.ref p] ∧ ((SqL X.K H p ys ∧ ∀ l, H l = none → Q (.ref l) (upd H l (.tup ys))) ∨ (SqT X.K H p ys ∧ Q (.ref p) H))) := by
  intro pins s σ H xs us Q I r h
  obtain ⟨p, ys, rfl, h⟩ := h
  obtain ⟨u, rfl, rx⟩ := vals1 r
  cases rx
  rcases h with ⟨hq, q⟩ | ⟨hq, q⟩
  · obtain ⟨its, r', pl, hz⟩ := I.list hq
    have hlen := r'.length
    refine call_tuple_list pl.isList (fun h' kp => ?_) (by simp only [List.size_toArray] <;> omega)
    have I1 : Inv X pins σ H { s with heap := h' } := I.kept (t' := s.toks) kp
    have I2 : Inv X pins σ (upd H h'.objs.size (.tup ys)) { s with heap := h'.push { cls := .type "tuple", data := .seq its.toArray } } :=
      I1.laid (t' := s.toks) (fun b o e => Heap.get?_push_of_some _ e) (Nat.le_refl _) (show ObjOk X.prog X.w _ _ _ (.tup ys) from ⟨hz, its, r', IsTup.new _ _⟩)
    exact ⟨.ref h'.objs.size, _, I2, rfl, q _ (I1.hok.fresh (Nat.le_refl _))⟩
  · obtain ⟨its, r', pl, hz⟩ := I.tuple hq
    exact call_tuple_same pl ⟨.ref p, H, I, rfl, q⟩

/-! ### the call of a builtin's method: o.m(..) -/
/-- the value is of that builtin type -/
def tyV (K : PySem.W.Frag) (T : String) (x : V) (H : Hp) : Prop := match x with
  | .str _ => T = "str"
  | .int _ => T = "int"
  | .ref p => (T = "list" ∧ ∃ xs, SqL K H p xs) ∨ (T = "tuple" ∧ ∃ o, K.lookup p = some o ∧ o.cls = .type "tuple" ∧ o.dict = none) ∨
      (T = "dict" ∧ ((∃ kvs, H p = some (.dK kvs)) ∨ ∃ kvs, H p = some (.dT kvs))) ∨ (T = "set" ∧ ∃ S n, H p = some (.set S n))
  | _ => False
theorem tyV_is {pins : List (Addr × Obj)} {σ : St} {H : Hp} {s : Shared} {T : String} {x : V} {v : Value} (I : Inv X pins σ H s) (r : RelV x v) (ty : tyV X.K T x H) :
    s.TypeIs v T ∧ ∀ a, v = .ref a → ∃ ob, s.heap.get? a = some ob ∧ ob.dict = none := by
  cases x with
  | str z =>
    obtain ⟨t, rfl⟩ := r
    cases (show T = "str" from ty)
    exact ⟨typeIs_str s z t, fun _ e => nomatch e⟩
  | int i =>
    obtain ⟨t, rfl⟩ := r
    cases (show T = "int" from ty)
    exact ⟨typeIs_int s i t, fun _ e => nomatch e⟩
  | ref p =>
    cases r
    rcases ty with ⟨rfl, xs, hq⟩ | ⟨rfl, o, hk, hc, hd⟩ | ⟨rfl, hk⟩ | ⟨rfl, S, n, hk⟩
    · obtain ⟨its, _, pl, _⟩ := I.list hq
      refine ⟨pl.isList.typeIs, fun a e => ?_⟩
      cases e
      obtain ⟨o, n, e, c, hd, _⟩ := pl
      exact ⟨o, e, hd⟩
    · refine ⟨⟨o, I.kIn p o hk, hc⟩, fun a e => ?_⟩
      cases e
      exact ⟨o, I.kIn _ o hk, hd⟩
    · have z : ∃ o, s.heap.get? p = some o ∧ o.ExactDict := by
        rcases hk with ⟨kvs, hk⟩ | ⟨kvs, hk⟩
        · obtain ⟨_, _, _, _, o, _, _, e, ex, _⟩ := I.hok p _ hk
          exact ⟨o, e, ex⟩
        · obtain ⟨_, _, _, _, o, _, _, e, ex, _⟩ := I.hok p _ hk
          exact ⟨o, e, ex⟩
      obtain ⟨o, e, ex⟩ := z
      refine ⟨⟨o, e, ex.1⟩, fun a e2 => ?_⟩
      cases e2
      exact ⟨o, e, ex.2.1⟩
    · obtain ⟨o, _, _, _, e, ex, _⟩ := I.hok p _ hk
      refine ⟨⟨o, e, ex.1⟩, fun a e2 => ?_⟩
      cases e2
      exact ⟨o, e, ex.2.1⟩
  | _ => exact False.elim ty
def tBM0 (K : PySem.W.Frag) (T : String) (r : V → List V → Hp → VK → Prop) (to : TE) : TE := fun σ H Q => to σ H fun x H1 => tyV K T x H1 ∧ r x [] H1 Q
def tBM (K : PySem.W.Frag) (T : String) (r : V → List V → Hp → VK → Prop) (to : TE) (t : TA) : TE := fun σ H Q => to σ H fun x H1 => tyV K T x H1 ∧ t σ H1 fun xs H2 => r x xs H2 Q
variable {o e : Expr} {es : List Expr} {to : TE} {t : TA} {name : Str} {apos cpos : Pos} {T id : String} {r : V → List V → Hp → VK → Prop}
theorem pe_bm0 (pa : PlainAttrs T) (slot : Slot T name id) (hty : typeOf (.builtin id) = pure (.type "method_descriptor")) (hm : MtR X id r) (ho : PE X o to)
    (hbase : attributeBase o name X.env (eval o X.env) = eval o X.env := by rfl) (hline : (apos.endLine == cpos.line) = true := by rfl) : PE X (.Call (.Attribute o name apos) [] [] cpos) (tBM0 X.K T r to) := by
  intro pins s σ H Q I h
  refine wpAny_Call_method0_late hbase hline (thn (ho pins s σ H _ I h) fun v s1 ⟨x, H1, I1, r1, ty, q1⟩ => ?_)
  obtain ⟨h1, h2⟩ := tyV_is I1 r1 ty
  exact ⟨T, id, pa, slot, hty, h1, h2, Calls.callWith_builtin rfl (PySem.evalArgs_none (hm pins s1 σ H1 x [] v [] Q I1 r1 .nil q1))⟩
theorem pe_bm (pa : PlainAttrs T) (slot : Slot T name id) (hty : typeOf (.builtin id) = pure (.type "method_descriptor")) (hm : MtR X id r) (ho : PE X o to) (ha : PA X (e :: es) t)
    (hbase : attributeBase o name X.env (eval o X.env) = eval o X.env := by rfl)
    (hfew : ((backTo cpos (starEach (e :: es) X.env)).all (fun x => !x.1) && (backToKw cpos (keywordEach [] X.env)).all (fun x => x.1.isSome)
      && decide ((e :: es).length + ([] : List Keyword).length + (if ([] : List Keyword).isEmpty then 0 else 1) < 30)) = true := by rfl)
    (hline : (apos.endLine == cpos.line) = true := by rfl) (hs : starEach (e :: es) X.env = (false, eval e X.env) :: starEach es X.env := by rfl) (hplain : (backTo cpos (starEach es X.env)).any (·.1) = false := by rfl) :
    PE X (.Call (.Attribute o name apos) (e :: es) [] cpos) (tBM X.K T r to t) := by
  intro pins s σ H Q I h
  refine wpAny_Call_method_late hbase hfew hline rfl (thn (ho pins s σ H _ I h) fun v s1 ⟨x, H1, I1, r1, ty, q1⟩ => ?_)
  obtain ⟨h1, h2⟩ := tyV_is I1 r1 ty
  refine ⟨T, id, pa, slot, hty, h1, h2, ?_⟩
  have hA := ha cpos pins s1 σ H1 _ I1 q1
  rw [hs] at hA ⊢
  refine Calls.callWith_builtin (by show (false || (backTo cpos (starEach es X.env)).any (·.1)) = false; rw [hplain] <;> rfl) (Calls.evalArgs_plain ?_)
  exact thn hA fun us s2 ⟨vs, H2, I2, r2, q2⟩ => hm pins s2 σ H2 x vs v us Q I2 r1 r2 q2
/- xs.append(e), list.index on a module's tuple .. are MtR facts of 06m -/
end
end L2

namespace L2
open PySem PySem.Spec PyProof.Rows

def MtM (X : Cx) (id : String) (r : V → List V → Hp → VK → Prop) : Prop :=
  ∀ (pins : List (Addr × Obj)) (s : Shared) (σ : St) (H : Hp) (x : V) (xs : List V) (v : Value) (us : List Value) (Q : VK), Inv X pins σ H s → RelV x v → Vals xs us → r x xs H Q →
    wpAny (model X.prog X.w) X.A (call (.builtin id) (v :: us)) (EP X pins σ Q) X.xe s

/-! ### lists of values -/
theorem Vals.one : ∀ {x : V} {us : List Value}, Vals [x] us → ∃ u, us = [u] ∧ RelV x u
  | _, _, .cons r .nil => ⟨_, rfl, r⟩
theorem Vals.two : ∀ {x y : V} {us : List Value}, Vals [x, y] us → ∃ u v, us = [u, v] ∧ RelV x u ∧ RelV y v
  | _, _, _, .cons r (.cons q .nil) => ⟨_, _, rfl, r, q⟩
theorem Vals.zero : ∀ {us : List Value}, Vals [] us → us = []
  | _, .nil => rfl
theorem Vals.dropLast {xs : List V} {us : List Value} (h : Vals xs us) : Vals xs.dropLast us.dropLast := by
  induction h with
  | nil => exact .nil
  | cons r t ih =>
    cases t with
    | nil => exact .nil
    | cons q t' => exact .cons r ih
theorem Vals.rep {xs : List V} {us : List Value} (h : Vals xs us) : ∀ k : Nat, Vals (List.replicate k xs).flatten (List.replicate k us).flatten
  | 0 => .nil
  | k + 1 => by
    rw [List.replicate_succ, List.replicate_succ, List.flatten_cons, List.flatten_cons]
    exact Vals.append h (Vals.rep h k)
theorem erase_last {α : Type} (l : List α) : l.eraseIdx (l.length - 1) = l.dropLast := by
  induction l with
  | nil => rfl
  | cons a r ih =>
    cases r with
    | nil => rfl
    | cons b r =>
      have e : (a :: b :: r).length - 1 = ((b :: r).length - 1) + 1 := by
        have h1 : (a :: b :: r).length = r.length + 2 := rfl
        have h2 : (b :: r).length = r.length + 1 := rfl
        omega
      rw [e, List.eraseIdx_cons_succ, ih]
      all_goals rfl
theorem foldl_rep (its : List Value) : ∀ (k : Nat) (acc : List Value),
    List.foldl (fun x1 x2 => x1 ++ x2) acc.toArray (List.replicate k its.toArray) = (acc ++ (List.replicate k its).flatten).toArray
  | 0, acc => by simp
  | k + 1, acc => by
    have e : acc.toArray ++ its.toArray = (acc ++ its).toArray := by simp
    have e2 : (acc ++ its) ++ (List.replicate k its).flatten = acc ++ (List.replicate (k + 1) its).flatten := by
      rw [List.replicate_succ, List.flatten_cons, List.append_assoc]
    rw [← e2, ← foldl_rep its k (acc ++ its), ← e, List.replicate_succ, List.foldl_cons]

section
variable {X : Cx} {pins : List (Addr × Obj)} {σ : St} {H : Hp} {s : Shared} {l b : Addr} {xs ys zs : List V}

/-! ### the two steps: a tracked list is rewritten, a new list is laid -/
theorem Inv.lset {its its' : List Value} {n : Nat} {f : Array Value → Array Value} {t' : Nat} (I : Inv X pins σ H s) (hH : H l = some (.lst xs))
    (e : s.heap.get? l = some { cls := .type "list", data := .seq its.toArray n }) (hf : f its.toArray = its'.toArray) (hv : Vals ys its') (hz : ys.length ≤ sizeLine) :
    Inv X pins σ (upd H l (.lst ys)) { s with heap := s.heap.update l (Obj.mapSeq f), toks := t' } := by
  have q := PySem.IsL.update e f
  rw [hf] at q
  refine I.write (x := l) (e := l) (by rw [hH]; exact trivial) (.inl rfl) (fun b' u hb hu => (Heap.get?_update_other s.heap (Obj.mapSeq f) (Ne.symm hb)).trans hu) ⟨_, q⟩ ?_
  exact ⟨hz, its', _, hv, q⟩
theorem Inv.lnew {its : List Value} {t' : Nat} (I : Inv X pins σ H s) (hv : Vals ys its) (hz : ys.length ≤ sizeLine) :
    Inv X pins σ (upd H s.heap.objs.size (.lst ys)) { s with heap := s.heap.push { cls := .type "list", data := .seq its.toArray }, toks := t' } :=
  I.laid (fun _ _ q => Heap.get?_push_of_some _ q) (Nat.le_refl _) ⟨hz, its, 0, hv, Heap.get?_push_size _ rfl⟩
theorem Inv.fresh (I : Inv X pins σ H s) : H s.heap.objs.size = none := I.hok.fresh (Nat.le_refl _)
theorem Inv.lstM (I : Inv X pins σ H s) (hH : H l = some (.lst xs)) : xs.length ≤ sizeLine ∧ ∃ (its : List Value) (n : Nat), Vals xs its ∧ xs.length = its.length ∧ s.heap.get? l = some { cls := .type "list", data := .seq its.toArray n } := by
  obtain ⟨z, its, n, r, e⟩ := I.hok l _ hH
  exact ⟨z, its, n, r, r.length, e⟩

theorem notLongL {n : Nat} (h : n ≤ sizeLine) : Builtin.List.listTooLong n = false := by
  unfold Builtin.List.listTooLong
  exact decide_eq_false (by omega)
end

section
variable {X : Cx}

/-! ### methods -/
def rAppend : V → List V → Hp → VK → Prop := fun x vs H Q => ∃ l xs y, x = .ref l ∧ vs = [y] ∧ H l = some (.lst xs) ∧ xs.length < sizeLine ∧ Q .non (upd H l (.lst (xs ++ [y])))
theorem mt_append : MtM X "list.append" rAppend := by
  intro pins s σ H x vs v us Q I rx rv h
  obtain ⟨l, xs, y, rfl, rfl, hH, hz, q⟩ := h
  cases rx
  obtain ⟨u, rfl, ru⟩ := rv.one
  obtain ⟨z, its, n, r, hl, e⟩ := I.lstM hH
  refine call_meets F.slot_list_append ⟨_, e, rfl⟩ F.entry_list_append (F.args_list_append_2 _ _) (PySem.list_append l its.toArray n u (by rw [List.size_toArray]; omega)) ⟨e, ?_⟩
  refine ⟨.non, _, I.lset (its' := its ++ [u]) hH e (by simp) (r.append (.cons ru .nil)) ?_, rfl, q⟩
  rw [List.length_append, List.length_singleton]
  omega

def rExtend : V → List V → Hp → VK → Prop := fun x vs H Q => ∃ l b xs zs, x = .ref l ∧ vs = [.ref b] ∧ H l = some (.lst xs) ∧ H b = some (.lst zs) ∧ xs.length + zs.length ≤ sizeLine ∧ Q .non (upd H l (.lst (xs ++ zs)))

def rPop : V → List V → Hp → VK → Prop := fun x vs H Q => ∃ l xs y, x = .ref l ∧ vs = [] ∧ H l = some (.lst xs) ∧ xs[xs.length - 1]? = some y ∧ Q y (upd H l (.lst xs.dropLast))
theorem mt_pop : MtM X "list.pop" rPop := by
  intro pins s σ H x vs v us Q I rx rv h
  obtain ⟨l, xs, y, rfl, rfl, hH, hy, q⟩ := h
  cases rx
  have hus := rv.zero
  subst hus
  obtain ⟨z, its, n, r, hl, e⟩ := I.lstM hH
  obtain ⟨u, hu, ru⟩ := r.get hy
  have hy' : its.toArray[its.toArray.size - 1]? = some u := by
    show its.toArray[its.length - 1]? = some u
    rw [← Array.getElem?_toList, ← hl]
    exact hu
  refine call_meets F.slot_list_pop ⟨_, e, rfl⟩ F.entry_list_pop (F.args_list_pop_1 _) (MeetsSeq.list_pop_last l its.toArray n u hy' (by rw [List.size_toArray]; omega)) ⟨e, ?_⟩
  refine ⟨y, _, I.lset (its' := its.dropLast) hH e ?_ r.dropLast ?_, ru, q⟩
  · show its.toArray.eraseIdxIfInBounds (its.toArray.size - 1) = its.dropLast.toArray
    rw [List.size_toArray, List.eraseIdxIfInBounds_toArray, erase_last]
  · rw [List.length_dropLast]
    omega

def rPopAt : V → List V → Hp → VK → Prop := fun x vs H Q => ∃ l xs i k y, x = .ref l ∧ vs = [.int i] ∧ H l = some (.lst xs) ∧ -(2 ^ 63) ≤ i ∧ i < 2 ^ 63 ∧ seqIndex? i xs.length = some k ∧ xs[k]? = some y ∧ Q y (upd H l (.lst (xs.eraseIdx k)))

def rReverse : V → List V → Hp → VK → Prop := fun x vs H Q => ∃ l xs, x = .ref l ∧ vs = [] ∧ H l = some (.lst xs) ∧ Q .non (upd H l (.lst xs.reverse))

def rClear : V → List V → Hp → VK → Prop := fun x vs H Q => ∃ l xs, x = .ref l ∧ vs = [] ∧ H l = some (.lst xs) ∧ Q .non (upd H l (.lst []))

/-! ### list + list, list += list, list * int -/
def rCat : R2 := fun x y H Q => ∃ l b xs zs, x = .ref l ∧ y = .ref b ∧ H l = some (.lst xs) ∧ H b = some (.lst zs) ∧ xs.length + zs.length ≤ sizeLine ∧ ∀ p, H p = none → Q (.ref p) (upd H p (.lst (xs ++ zs)))
/-- a list times an int (a negative one is nothing) -/
def rRep : R2 := fun x y H Q => ∃ l k xs, x = .ref l ∧ y = .int k ∧ H l = some (.lst xs) ∧ -(2 ^ 63) ≤ k ∧ k < 2 ^ 63 ∧ xs.length * k.toNat ≤ sizeLine ∧
  ∀ p, H p = none → Q (.ref p) (upd H p (.lst (List.replicate k.toNat xs).flatten))
theorem len_rep {α : Type} (xs : List α) (k : Nat) : (List.replicate k xs).flatten.length = k * xs.length := by
  induction k with
  | zero => simp
  | succ k ih => rw [List.replicate_succ, List.flatten_cons, List.length_append, ih, Nat.succ_mul, Nat.add_comm]
theorem op_rep : OpR X (binaryOp .Mult) rRep := by
  intro pins s σ H x y v u Q I rx ry h
  obtain ⟨l, k, xs, rfl, rfl, hH, h1, h2, hz, q⟩ := h
  cases rx
  obtain ⟨t, rfl⟩ := ry
  obtain ⟨z, its, n, r, hl, e⟩ := I.lstM hH
  have hlen : its.toArray.size * k.toNat ≤ sizeLine := by rw [List.size_toArray, ← hl]; exact hz
  have hcap : ¬ its.toArray.size * k.toNat > (2 ^ 63 - 1) / 8 := by
    have : (sizeLine : Nat) ≤ (2 ^ 63 - 1) / 8 := by decide
    omega
  have hfit : ¬ (!Builtin.List.listFitsIndex k) = true := by
    rw [fitsIndex_both h1 h2]
    exact Bool.false_ne_true
  have hlong : ¬ Builtin.List.listTooLong (its.toArray.size * k.toNat) = true := by
    rw [notLongL hlen]
    exact Bool.false_ne_true
  have hnew : List.foldl (fun x1 x2 => x1 ++ x2) #[] (List.replicate (if its.toArray.isEmpty = true then 0 else k.toNat) its.toArray) = (List.replicate k.toNat its).flatten.toArray := by
    have f0 : ∀ m : Nat, List.foldl (fun x1 x2 => x1 ++ x2) #[] (List.replicate m its.toArray) = (List.replicate m its).flatten.toArray := fun m => by
      have := foldl_rep its m []
      rw [List.nil_append] at this
      exact this
    rw [f0]
    cases its with
    | nil => simp
    | cons a r' => rw [if_neg (by simp)]
  refine wpAny_binaryOp_repeat_ref (T := "list") (U := "int") (by decide) ⟨_, e, rfl⟩ (fun s' => typeIs_int s' k t) noFill_list_mul F.fills_int_mul F.slot_int_rmul repeat_list F.slot_int_index.lookup
    (call_meets F.slot_int_rmul (typeIs_int s k t) F.entry_int_rmul (F.args_int_rmul_2 _ _) (int___rmul___int_list k t l its.toArray n)
      ⟨e, rfl, ⟨_, e, rfl⟩, call_meets F.slot_list_mul ⟨_, e, rfl⟩ F.entry_list_mul (F.args_list_mul_2 _ _) (AutoListH.list___mul___list_int_3 l its.toArray n k t hfit hcap hlong) ⟨e, ?_⟩⟩)
  rw [hnew]
  exact ⟨.ref _, _, I.lnew (t' := s.toks) (r.rep k.toNat) (by rw [len_rep, Nat.mul_comm]; exact hz), rfl, q _ I.fresh⟩

/-! ### del xs[i] -/
end

/-! ### xs[a:b] = ys -/
section
variable {prog : Program} {w : World} {A : Around} {E : Value → Shared → Prop} {s : Shared}
set_option maxRecDepth 100000 in
end

section
variable {X : Cx}
end
end L2

namespace L2
open PySem PySem.Spec PyProof.Rows

/-! ### lists of pairs as tables -/
section
variable {κ : Type} [DecidableEq κ]
def valV (kvs : List (κ × V)) (k : κ) : Option V := (kvs.find? fun kv => decide (kv.1 = k)).map (·.2)
/-- in its place, or at the end -/
def putK (kvs : List (κ × V)) (k : κ) (v : V) : List (κ × V) :=
  if (kvs.any fun kv => decide (kv.1 = k)) = true then kvs.map (fun kv => if kv.1 = k then (kv.1, v) else kv) else kvs ++ [(k, v)]
def dropK (kvs : List (κ × V)) (k : κ) : List (κ × V) := kvs.filter fun kv => decide (kv.1 ≠ k)

theorem valV_pos {p : κ × V} {r : List (κ × V)} {k : κ} (e : p.1 = k) : valV (p :: r) k = some p.2 := by simp [valV, List.find?_cons, e]
theorem valV_neg {p : κ × V} {r : List (κ × V)} {k : κ} (e : ¬ p.1 = k) : valV (p :: r) k = valV r k := by simp [valV, List.find?_cons, e]
theorem valV_any (k : κ) : ∀ kvs : List (κ × V), (kvs.any fun kv => decide (kv.1 = k)) = (valV kvs k).isSome
  | [] => rfl
  | p :: r => by
    rw [List.any_cons]
    by_cases e : p.1 = k
    · simp only [valV_pos e, decide_eq_true e, Bool.true_or, Option.isSome_some]
    · rw [valV_neg e, decide_eq_false e, Bool.false_or]; exact valV_any k r
theorem length_putK (kvs : List (κ × V)) (k : κ) (v : V) : (putK kvs k v).length ≤ kvs.length + 1 := by
  unfold putK
  split
  · rw [List.length_map]; omega
  · rw [List.length_append, List.length_cons, List.length_nil]; omega

theorem RelO.isSome_eq {o : Option V} {u : Option Value} (r : RelO o u) : o.isSome = u.isSome := by
  cases o with
  | none => cases u with
    | none => rfl
    | some _ => exact (show False from r).elim
  | some _ => cases u with
    | none => exact (show False from r).elim
    | some _ => rfl
theorem RelO.getD {o : Option V} {u : Option Value} {d : V} {d' : Value} (r : RelO o u) (rd : RelV d d') : RelV (o.getD d) (u.getD d') := by
  cases o with
  | none => cases u with
    | none => exact rd
    | some _ => exact (show False from r).elim
  | some _ => cases u with
    | none => exact (show False from r).elim
    | some _ => exact r

/-- raw tables of the same keys -/
theorem KV.val {kvs : List (κ × V)} {vs : List (κ × Value)} (r : KV kvs vs) (k : κ) : RelO (valV kvs k) (valueAt vs k) := by
  unfold KV at r
  induction r with
  | nil => exact True.intro
  | @cons p q ps qs h t ih =>
    obtain ⟨h1, h2⟩ := h
    by_cases e : p.1 = k
    · have e' : q.1 = k := h1.symm.trans e
      have b : valueAt (q :: qs) k = some q.2 := by simp [valueAt, List.find?_cons, e']
      rw [valV_pos e, b]; exact h2
    · have e' : ¬ q.1 = k := fun z => e (h1.trans z)
      have b : valueAt (q :: qs) k = valueAt qs k := by simp [valueAt, List.find?_cons, e']
      rw [valV_neg e, b]; exact ih
theorem KV.any {kvs : List (κ × V)} {vs : List (κ × Value)} (r : KV kvs vs) (k : κ) : (kvs.any fun kv => decide (kv.1 = k)) = vs.any fun kv => decide (kv.1 = k) := by
  unfold KV at r
  induction r with
  | nil => rfl
  | cons h t ih => rw [List.any_cons, List.any_cons, ih, h.1]
theorem KV.repl {kvs : List (κ × V)} {vs : List (κ × Value)} (r : KV kvs vs) (k : κ) {y : V} {u : Value} (ry : RelV y u) :
    KV (kvs.map fun kv => if kv.1 = k then (kv.1, y) else kv) (vs.map fun kv => if kv.1 = k then (kv.1, u) else kv) := by
  unfold KV at r ⊢
  induction r with
  | nil => exact .nil
  | @cons p q ps qs h t ih =>
    rw [List.map_cons, List.map_cons]
    refine .cons ?_ ih
    obtain ⟨h1, h2⟩ := h
    by_cases e : p.1 = k
    · rw [if_pos e, if_pos (h1.symm.trans e)]; exact ⟨h1, ry⟩
    · rw [if_neg e, if_neg (fun z => e (h1.trans z))]; exact ⟨h1, h2⟩
theorem KV.put {kvs : List (κ × V)} {vs : List (κ × Value)} (r : KV kvs vs) (k : κ) {y : V} {u : Value} (ry : RelV y u) : KV (putK kvs k y) (stored vs k u) := by
  unfold putK stored
  rw [r.any k]
  by_cases e : (vs.any fun kv => decide (kv.1 = k)) = true
  · rw [if_pos e, if_pos e]; exact r.repl k ry
  · rw [if_neg e, if_neg e]; exact Paired.snoc r ⟨rfl, ry⟩
theorem KV.drop {kvs : List (κ × V)} {vs : List (κ × Value)} (r : KV kvs vs) (k : κ) : KV (dropK kvs k) (without vs k) := by
  unfold KV at r ⊢
  unfold dropK without
  induction r with
  | nil => exact .nil
  | @cons p q ps qs h t ih =>
    obtain ⟨h1, h2⟩ := h
    rw [List.filter_cons, List.filter_cons]
    by_cases e : p.1 = k
    · have a : ¬ decide (p.1 ≠ k) = true := by simp [e]
      have b : ¬ decide (q.1 ≠ k) = true := by simp [h1.symm.trans e]
      rw [if_neg a, if_neg b]; exact ih
    · have e' : ¬ q.1 = k := fun z => e (h1.trans z)
      have a : decide (p.1 ≠ k) = true := by simp [e]
      have b : decide (q.1 ≠ k) = true := by simp [e']
      rw [if_pos a, if_pos b]; exact .cons ⟨h1, h2⟩ ih
theorem KV.length {kvs : List (κ × V)} {vs : List (κ × Value)} (r : KV kvs vs) : kvs.length = vs.length := Paired.length r
end


/-! ### a tracked dict, its keys ints and texts or tuples of these -/
theorem kV_is {P : Program} {w : World} {k : Key} {u : Value} (r : RelV (kV k) u) : (mixKind P w).is k u = true := by
  cases k with
  | inl i => obtain ⟨t, e⟩ := (show ∃ t, u = Value.int i t from r); subst e; exact mixKind_int P w i t
  | inr x => obtain ⟨t, e⟩ := (show ∃ t, u = Value.str x t from r); subst e; exact mixKind_str P w x t
theorem items_are {P : Program} {w : World} : ∀ {ks : List Key} {us : List Value}, Vals (ks.map kV) us → ItemsAre (mixKind P w) ks us
  | [], _, r => by rw [List.map_nil] at r; cases r; exact .nil
  | k :: ks, _, r => by
    rw [List.map_cons] at r
    cases r with
    | cons h t => exact .cons (kV_is h) (items_are t)

/-- raw entries of a dict with tuple keys -/
abbrev KT (H : Hp) : List (List Key × V) → List (List Key × Addr × Value) → Prop := Paired fun p q => p.1 = q.1 ∧ H q.2.1 = some (.tup (p.1.map kV)) ∧ RelV p.2 q.2.2
theorem KT.val {H : Hp} {kvs : List (List Key × V)} {xs : List (List Key × Addr × Value)} (r : KT H kvs xs) (k : List Key) : RelO (valV kvs k) ((atKey xs k).map (·.2)) := by
  induction r with
  | nil => exact True.intro
  | @cons p q ps qs h t ih =>
    obtain ⟨h1, _, h2⟩ := h
    by_cases e : p.1 = k
    · have e' : q.1 = k := h1.symm.trans e
      have b : atKey (q :: qs) k = some q.2 := by simp [atKey, List.find?_cons, e']
      rw [valV_pos e, b]; exact h2
    · have e' : ¬ q.1 = k := fun z => e (h1.trans z)
      have b : atKey (q :: qs) k = atKey qs k := by simp [atKey, List.find?_cons, e']
      rw [valV_neg e, b]; exact ih
theorem KT.repl {H : Hp} {kvs : List (List Key × V)} {xs : List (List Key × Addr × Value)} (r : KT H kvs xs) (k : List Key) {y : V} {u : Value} (ry : RelV y u) :
    KT H (kvs.map fun kv => if kv.1 = k then (kv.1, y) else kv) (xs.map (putAt k u)) := by
  induction r with
  | nil => exact .nil
  | @cons p q ps qs h t ih =>
    rw [List.map_cons, List.map_cons]
    refine .cons ?_ ih
    obtain ⟨h1, h2, h3⟩ := h
    unfold putAt
    by_cases e : p.1 = k
    · rw [if_pos e, if_pos (h1.symm.trans e)]; exact ⟨h1, h2, ry⟩
    · rw [if_neg e, if_neg (fun z => e (h1.trans z))]; exact ⟨h1, h2, h3⟩
theorem KT.put {H : Hp} {kvs : List (List Key × V)} {xs : List (List Key × Addr × Value)} (r : KT H kvs xs) (k : List Key) {b : Addr} {y : V} {u : Value} (hb : H b = some (.tup (k.map kV))) (ry : RelV y u) :
    KT H (putK kvs k y) (storedH xs k b u) := by
  have e : (kvs.any fun kv => decide (kv.1 = k)) = (atKey xs k).isSome := by
    rw [valV_any, (r.val k).isSome_eq, Option.isSome_map]
  unfold putK storedH
  rw [e]
  by_cases q : (atKey xs k).isSome = true
  · rw [if_pos q, if_pos q]; exact r.repl k ry
  · rw [if_neg q, if_neg q]; exact Paired.snoc r ⟨rfl, hb, ry⟩
theorem KT.keeps {H H' : Hp} {kvs : List (List Key × V)} {xs : List (List Key × Addr × Value)} (r : KT H kvs xs) (ht : ∀ b ys, H b = some (.tup ys) → H' b = some (.tup ys)) : KT H' kvs xs :=
  Paired.mapP r fun _ _ z => ⟨z.1, ht _ _ z.2.1, z.2.2⟩

section
variable {P : Program} {w : World} {H : Hp} {h : Heap} {a : Addr}
theorem rd_of {u : HO} (ok : HOk P w H h) (e : Rd H a u) : ObjOk P w H h a u := e.ok ok
theorem dk_rd {kvs : List (Key × V)} (ok : HOk P w H h) (e : Rd H a (.dK kvs)) : kvs.length ≤ sizeLine ∧ (a == sysModules) = false ∧ ∃ vs, KV kvs vs ∧ h.DictOf (mixKind P w) a vs :=
  show ObjOk P w H h a (.dK kvs) from rd_of ok e
theorem dk_of {kvs : List (Key × V)} (ok : HOk P w H h) (e : H a = some (.dK kvs)) : kvs.length ≤ sizeLine ∧ (a == sysModules) = false ∧ ∃ vs, KV kvs vs ∧ h.DictOf (mixKind P w) a vs := dk_rd ok (.inl e)
/-- a tracked tuple of ints and texts is a key -/
theorem key_of {ks : List Key} (ok : HOk P w H h) (e : H a = some (.tup (ks.map kV))) : (tupleKind (mixKind P w)).is h ks a := by
  obtain ⟨_, its, r, o, h1, h2, n, h3⟩ := (show ObjOk P w H h a (.tup (ks.map kV)) from ok a _ e)
  exact ⟨o, its.toArray, n, h1, h2, h3, by simpa using items_are r⟩
theorem dt_rd {kvs : List (List Key × V)} (ok : HOk P w H h) (e : Rd H a (.dT kvs)) : kvs.length ≤ sizeLine ∧ (a == sysModules) = false ∧
    ∃ xs, KT H kvs xs ∧ h.DictOfH (tupleKind (mixKind P w)) a xs := by
  obtain ⟨z, y, xs, r, o, es, ep, h1, h2, h3, h4, h5⟩ := (show ObjOk P w H h a (.dT kvs) from rd_of ok e)
  refine ⟨z, y, xs, r, o, es, ep, h1, h2, h3, h4, fun x hx => ?_, h5⟩
  have all : ∀ {l : List (List Key × V)} {m : List (List Key × Addr × Value)}, KT H l m → ∀ x ∈ m, (tupleKind (mixKind P w)).is h x.1 x.2.1 := by
    intro l m q
    induction q with
    | nil => intro x hx; exact nomatch hx
    | @cons p q ps qs hq t ih =>
      intro x hx
      rcases List.mem_cons.mp hx with e | hx
      · subst e
        exact key_of ok (by rw [← hq.1]; exact hq.2.1)
      · exact ih x hx
  exact all r x hx
theorem dt_of {kvs : List (List Key × V)} (ok : HOk P w H h) (e : H a = some (.dT kvs)) : kvs.length ≤ sizeLine ∧ (a == sysModules) = false ∧
    ∃ xs, KT H kvs xs ∧ h.DictOfH (tupleKind (mixKind P w)) a xs := dt_rd ok (.inl e)
end

/-- what the dict at a holds at the key y -/
def DGet (H : Hp) (a : Addr) (y : V) (r : Option V) : Prop :=
  (∃ kvs k, Rd H a (.dK kvs) ∧ y = kV k ∧ r = valV kvs k) ∨ ∃ kvs k b, Rd H a (.dT kvs) ∧ y = .ref b ∧ H b = some (.tup (k.map kV)) ∧ r = valV kvs k
/-- the heap behind a[y] = v -/
def DPut (H : Hp) (a : Addr) (y v : V) (H' : Hp) : Prop :=
  (∃ kvs k, H a = some (.dK kvs) ∧ y = kV k ∧ kvs.length < sizeLine ∧ H' = upd H a (.dK (putK kvs k v))) ∨
  ∃ kvs k b, H a = some (.dT kvs) ∧ y = .ref b ∧ H b = some (.tup (k.map kV)) ∧ kvs.length < sizeLine ∧ H' = upd H a (.dT (putK kvs k v))
theorem DGet.k {H : Hp} {a : Addr} {kvs : List (Key × V)} {k : Key} (e : H a = some (.dK kvs)) : DGet H a (kV k) (valV kvs k) := .inl ⟨kvs, k, .inl e, rfl, rfl⟩
theorem DGet.t {H : Hp} {a b : Addr} {kvs : List (List Key × V)} {k : List Key} (e : H a = some (.dT kvs)) (eb : H b = some (.tup (k.map kV))) : DGet H a (.ref b) (valV kvs k) := .inr ⟨kvs, k, b, .inl e, rfl, eb, rfl⟩
theorem DPut.k {H : Hp} {a : Addr} {kvs : List (Key × V)} {k : Key} {v : V} (e : H a = some (.dK kvs)) (hl : kvs.length < sizeLine) : DPut H a (kV k) v (upd H a (.dK (putK kvs k v))) := .inl ⟨kvs, k, e, rfl, hl, rfl⟩
theorem DPut.t {H : Hp} {a b : Addr} {kvs : List (List Key × V)} {k : List Key} {v : V} (e : H a = some (.dT kvs)) (eb : H b = some (.tup (k.map kV))) (hl : kvs.length < sizeLine) :
    DPut H a (.ref b) v (upd H a (.dT (putK kvs k v))) := .inr ⟨kvs, k, b, e, rfl, eb, hl, rfl⟩


section
variable {X : Cx} {pins : List (Addr × Obj)} {σ : St} {H : Hp} {s : Shared} {a : Addr} {y v : V} {u r : Value} {o : Option V} {A : Around} {E : Value → Shared → Prop}

theorem Inv.big (I : Inv X pins σ H s) : sysModules < s.heap.objs.size := by
  have h : mainGlobals < s.heap.objs.size := (I.mod.glob.keeps I.bk).lt
  exact Nat.lt_trans (by decide) h

/-- d[y], there -/
theorem d_getItem {Q : Value → Shared → Prop} (hu : A.units + 1 < cLine) (I : Inv X pins σ H s) (g : DGet H a y (some v)) (ry : RelV y u) (h : ∀ w' s', Inv X pins σ H s' → RelV v w' → Q w' s') :
    wpAny (model X.prog X.w) A (getItem (.ref a) u) Q E s := by
  rcases g with ⟨kvs, k, e, ey, l⟩ | ⟨kvs, k, b, e, ey, eb, l⟩
  · subst ey
    obtain ⟨z, hd, vs, rel, dd⟩ := dk_rd I.hok e
    obtain ⟨w', hw, rw'⟩ := RelO.some_of (v := v) (o := valueAt vs k) (by rw [l]; exact rel.val k)
    exact wpAny_getItem_of (kV_is ry) dd.mapOf hw (h w' _ (I.tok _) rw')
  · subst ey
    cases (show u = Value.ref b from ry)
    obtain ⟨z, hd, xs, rel, dd⟩ := dt_rd I.hok e
    obtain ⟨w', hw, rw'⟩ := RelO.some_of (v := v) (o := (atKey xs k).map (·.2)) (by rw [l]; exact rel.val k)
    obtain ⟨p, hp, hp2⟩ := Option.map_eq_some_iff.mp hw
    refine wpAny_getItem_heap (tupleKind_room_in1 hu) (key_of I.hok eb) dd hp ?_
    rw [hp2]
    exact h w' _ (I.tok _) rw'
/-- y in d -/
theorem d_in {Q : Value → Shared → Prop} (hu : A.units + 1 < cLine) (I : Inv X pins σ H s) (g : DGet H a y o) (ry : RelV y u) (h : ∀ s', Inv X pins σ H s' → Q (.bool o.isSome) s') :
    wpAny (model X.prog X.w) A (compareOp .In u (.ref a)) Q E s := by
  rcases g with ⟨kvs, k, e, ey, l⟩ | ⟨kvs, k, b, e, ey, eb, l⟩
  · subst ey
    obtain ⟨z, hd, vs, rel, dd⟩ := dk_rd I.hok e
    refine wpAny_in_of (kV_is ry) hd dd.mapOf ?_
    rw [← (rel.val k).isSome_eq, ← l]
    exact h _ (I.tok _)
  · subst ey
    cases (show u = Value.ref b from ry)
    obtain ⟨z, hd, xs, rel, dd⟩ := dt_rd I.hok e
    refine wpAny_in_heap (tupleKind_room_in1 hu) (key_of I.hok eb) hd dd ?_
    have q := (rel.val k).isSome_eq
    rw [Option.isSome_map] at q
    rw [← q, ← l]
    exact h _ (I.tok _)
/-- a dict's object is replaced -/
theorem d_write {h' : Heap} {t' : Nat} {ob : HO} (I : Inv X pins σ H s) (mu : Mut (H a)) (hs : Heap.SameBut a s.heap h') (he : ∃ q, h'.get? a = some q) (new : ObjOk X.prog X.w (upd H a ob) h' a ob) :
    Inv X pins σ (upd H a ob) { s with heap := h', toks := t' } :=
  I.write (x := a) (e := a) mu (.inl rfl) (fun b q hb z => (hs.2 b hb).trans z) he new
theorem dk_new {P : Program} {w : World} {H' : Hp} {h' : Heap} {kvs : List (Key × V)} {vs : List (Key × Value)} (z : kvs.length ≤ sizeLine) (hd : (a == sysModules) = false) (rel : KV kvs vs) (dd : h'.DictOf (mixKind P w) a vs) :
    ObjOk P w H' h' a (.dK kvs) := ⟨z, hd, vs, rel, dd⟩
/-- d[y] = v -/
theorem d_setItem {H' : Hp} {Q : Unit → Shared → Prop} (hu : A.units + 1 < cLine) (I : Inv X pins σ H s) (g : DPut H a y v H') (ry : RelV y u) (rv : RelV v r) (h : ∀ s', Inv X pins σ H' s' → Q () s') :
    wpAny (model X.prog X.w) A (setItem (.ref a) u r) Q E s := by
  rcases g with ⟨kvs, k, e, ey, l, eH⟩ | ⟨kvs, k, b, e, ey, eb, l, eH⟩
  · subst ey eH
    obtain ⟨z, hd, vs, rel, dd⟩ := dk_of I.hok e
    have hz : vs.length ≤ sizeLine := by rw [← rel.length]; exact z
    have hl : (putK kvs k v).length ≤ sizeLine := by have := length_putK kvs k v; omega
    refine wpAny_setItem_pairs (hsz := hz) (kV_is ry) dd fun h' dd' hs => h _ ?_
    have he : ∃ q, h'.get? a = some q := let ⟨q, _, _, hq, _⟩ := dd'; ⟨q, hq⟩
    exact d_write I (by rw [e]; exact True.intro) hs he (dk_new hl hd (rel.put k rv) dd')
  · subst ey eH
    cases (show u = Value.ref b from ry)
    obtain ⟨z, hd, xs, rel, dd⟩ := dt_of I.hok e
    have hz : xs.length ≤ sizeLine := by rw [← Paired.length rel]; exact z
    have hl : (putK kvs k v).length ≤ sizeLine := by have := length_putK kvs k v; omega
    refine wpAny_setItem_heap (hsz := hz) (tupleKind_room_in1 hu) (key_of I.hok eb) dd fun h' dd' hs => h _ ?_
    obtain ⟨q, es, ep, hq, h2, h3, h4, _, h5⟩ := dd'
    refine d_write I (by rw [e]; exact True.intro) hs ⟨q, hq⟩ ⟨hl, hd, _, (rel.put k eb rv).keeps fun c ys ec => ?_, q, es, ep, hq, h2, h3, h4, h5⟩
    rw [upd_ne (ne_of ec e (fun z => nomatch z))]
    exact ec
end

section
variable {X : Cx} {pins : List (Addr × Obj)} {σ : St} {H : Hp} {s : Shared} {a : Addr} {kvs : List (Key × V)} {k : Key} {u : Value} {A : Around} {E : Value → Shared → Prop}
end


/-! ### readings and rules -/
/-- the element of a subscription, not a slice -/
def NoSl (i : Expr) : Prop := ∀ ov iv, subscripted i false ov iv = operate [ov, iv] (getItem ov iv)
theorem subD_of {prog : Program} {w : World} {A : Around} {E : Value → Shared → Prop} {s : Shared} {env : Env} {value slice : Expr} {pos : Pos} {T id : String} {Q : Value → Shared → Prop}
    (hl : typeLookup (.type T) "__getitem__" = pure (some (.builtin id))) (hs : NoSl slice)
    (h : wpAny (model prog w) A (eval value env) (fun o s₁ => wpAny (model prog w) A (eval slice env) (fun i s₂ => s₂.TypeIs o T ∧ wpAny (model prog w) A (getItem o i) Q E s₂) E s₁) E s) :
    wpAny (model prog w) A (eval (.Subscript value slice pos) env) Q E s := by
  refine Subscript_ (wpAny_mono h (fun o s₁ h₁ => wpAny_mono h₁ (fun i s₂ h₂ => ?_) fun _ _ x => x) fun _ _ x => x)
  obtain ⟨hT, h₂⟩ := h₂
  unfold subscriptTail
  refine wpAny_bind ?_
  rw [getitemInPython_of_ne hT.not_modules]
  refine wpAny_bind (wpAny_specialOf hT hl ?_)
  have fin : wpAny (model prog w) A (subscripted slice false o i) (fun r s₃ => wpAny (model prog w) A (letTemporaryGo value o r >>= fun _ => pure r) Q E s₃) E s₂ := by
    rw [hs o i]
    exact wpAny_operating (wpAny_mono h₂ (fun r s₃ h₃ => wpAny_bind (wpAny_letTemporaryGo (wpAny_pure h₃))) fun _ _ x => x)
  first
    | exact wpAny_pure (wpAny_bind fin)
    | exact wpAny_bind (wpAny_pure (wpAny_bind fin))
    | exact wpAny_bind fin

theorem dict_typeIs {X : Cx} {pins : List (Addr × Obj)} {σ : St} {H : Hp} {s : Shared} {a : Addr} {y : V} {o : Option V} (I : Inv X pins σ H s) (g : DGet H a y o) : s.TypeIs (.ref a) "dict" := by
  rcases g with ⟨kvs, k, e, _, _⟩ | ⟨kvs, k, b, e, _, _, _⟩
  · obtain ⟨_, _, vs, _, dd⟩ := dk_rd I.hok e
    exact dd.typeIs
  · obtain ⟨_, _, xs, _, dd⟩ := dt_rd I.hok e
    exact dd.typeIs

/-- d[y] -/
def tDGet (td ty : TE) : TE := fun σ H Q => td σ H fun x H1 => ty σ H1 fun y H2 => ∃ a v, x = .ref a ∧ DGet H2 a y (some v) ∧ Q v H2
/-- y in d, y not in d -/
def tDIn (ty td : TE) : TE := fun σ H Q => ty σ H fun y H1 => td σ H1 fun x H2 => ∃ a o, x = .ref a ∧ DGet H2 a y o ∧ Q (.bl o.isSome) H2
def tDNotIn (ty td : TE) : TE := fun σ H Q => ty σ H fun y H1 => td σ H1 fun x H2 => ∃ a o, x = .ref a ∧ DGet H2 a y o ∧ Q (.bl (!o.isSome)) H2
/-- d[y] = v -/
def sDPut (td ty tv : TE) : TS := fun D σ H => tv σ H fun v H1 => td σ H1 fun x H2 => ty σ H2 fun y H3 => ∃ a H4, x = .ref a ∧ DPut H3 a y v H4 ∧ D.nx σ H4
/-- d[y] op= v -/
def sDAug (td ty tv : TE) (rd : V → V → Hp → VK → Prop) : TS := fun D σ H => td σ H fun x H1 => ty σ H1 fun y H2 => ∃ a v, x = .ref a ∧ DGet H2 a y (some v) ∧
  tv σ H2 fun y2 H3 => rd v y2 H3 fun z H4 => ∃ H5, DPut H4 a y z H5 ∧ D.nx σ H5
/-- del d[y] -/
def sDDel (td ty : TE) : TS := fun D σ H => td σ H fun x H1 => ty σ H1 fun y H2 => ∃ a kvs k, x = .ref a ∧ H2 a = some (.dK kvs) ∧ y = kV k ∧ (valV kvs k).isSome = true ∧ D.nx σ (upd H2 a (.dK (dropK kvs k)))

section
variable {X : Cx} {o i e value : Expr} {pos pos' tpos : Pos} {td ty tv : TE}
theorem pe_dget (hu : X.A.units + 1 < cLine) (ho : PE X o td) (hi : PE X i ty) (hs : NoSl i) : PE X (.Subscript o i pos) (tDGet td ty) := by
  intro pins s σ H Q I h
  refine subD_of PySem.F.slot_dict_getitem.lookup hs (thn (ho pins s σ H _ I h) fun u s1 ⟨x, H1, I1, rx, q1⟩ => thn (hi pins s1 σ H1 _ I1 q1) fun iv s2 ⟨y, H2, I2, ry, a, v, ex, g, q2⟩ => ?_)
  subst ex
  obtain rfl : u = Value.ref a := rx
  exact ⟨dict_typeIs I2 g, d_getItem hu I2 g ry fun w' s3 I3 rw' => ⟨v, H2, I3, rw', q2⟩⟩
theorem ps_dput (hu : X.A.units + 1 < cLine) (ho : PE X o td) (hi : PE X i ty) (hv : PE X value tv) (hs : swapsWith value (some (.Subscript o i pos')) pos.line X.env = pure false) :
    PS X (.Assign [.Subscript o i pos'] value pos) (sDPut td ty tv) := by
  intro pins s σ H D I h
  refine wpAny_Assign_Subscript (thn (hv pins s σ H _ I h) fun r s1 ⟨v, H1, I1, rv, q1⟩ => thn (ho pins s1 σ H1 _ I1 q1) fun u s2 ⟨x, H2, I2, rx, q2⟩ => thn (hi pins s2 σ H2 _ I2 q2) fun iv s3 ⟨y, H3, I3, ry, a, H4, ex, g, q3⟩ => ?_) hs
  subst ex
  obtain rfl : u = Value.ref a := rx
  exact d_setItem hu I3 g ry rv fun s4 I4 => ⟨σ, H4, I4, q3⟩
end


/-! ### displays -/
theorem dk_empty {P : Program} {w : World} {H : Hp} (h : Heap) (hb : sysModules < h.objs.size) : ObjOk P w H (h.push { cls := .type "dict", data := .dict #[] }) h.objs.size (.dK []) :=
  ⟨Nat.zero_le _, beq_eq_false_iff_ne.mpr (Ne.symm (Nat.ne_of_lt hb)), [], .nil, Heap.DictOf.new h⟩
/-- {}, to be a dict of the kind that is wanted -/
def tDNewK : TE := fun _ H Q => ∀ p, H p = none → Q (.ref p) (upd H p (.dK []))
def tDNewT : TE := fun _ H Q => ∀ p, H p = none → Q (.ref p) (upd H p (.dT []))
section
variable {X : Cx} {pos : Pos}
theorem pe_dnewK : PE X (.Dict [] [] pos) tDNewK := fun pins s σ H Q I h =>
  wpAny_Dict_empty ⟨.ref s.heap.objs.size, _, I.laid (a := s.heap.objs.size) (o := .dK []) (t' := s.toks) (fun _ _ q => Heap.get?_push_of_some _ q) (Nat.le_refl _) (dk_empty s.heap I.big), rfl, h _ (I.hok.fresh (Nat.le_refl _))⟩
end

/-- the pairs of a display, from the left -/
def tPairs : List (TE × TE) → St → Hp → (List (V × V) → Hp → Prop) → Prop
  | [], _, H, Q => Q [] H
  | (tk, tv) :: r, σ, H, Q => tk σ H fun x H1 => tv σ H1 fun y H2 => tPairs r σ H2 fun ps H3 => Q ((x, y) :: ps) H3
abbrev VV : List (V × V) → List (Value × Value) → Prop := Paired fun p q => RelV p.1 q.1 ∧ RelV p.2 q.2
def PPs (X : Cx) (pos : Pos) (keys : List (Option Expr)) (values : List Expr) (trs : List (TE × TE)) : Prop :=
  ∀ (pins : List (Addr × Obj)) (s : Shared) (σ : St) (H : Hp) (Q : List (V × V) → Hp → Prop), Inv X pins σ H s → tPairs trs σ H Q →
    wpAny (model X.prog X.w) X.A (evalPairs (pairTrees keys values X.env pos)) (fun vs s' => ∃ ps H', Inv X pins σ H' s' ∧ VV ps vs ∧ Q ps H') X.xe s
theorem pps_nil {X : Cx} {pos : Pos} : PPs X pos [] [] [] := fun pins s σ H Q I h => pairTrees_nil_walk ⟨[], H, I, .nil, h⟩
theorem pps_cons {X : Cx} {pos : Pos} {k v : Expr} {ks : List (Option Expr)} {vs : List Expr} {tk tv : TE} {trs : List (TE × TE)} (hk : PE X k tk) (hv : PE X v tv) (hr : PPs X pos ks vs trs) :
    PPs X pos (some k :: ks) (v :: vs) ((tk, tv) :: trs) := fun pins s σ H Q I h =>
  pairTrees_cons_walk (thn (hk pins s σ H _ I h) fun u s1 ⟨x, H1, I1, rx, q1⟩ => thn (hv pins s1 σ H1 _ I1 q1) fun w2 s2 ⟨y, H2, I2, ry, q2⟩ =>
    thn (hr pins s2 σ H2 _ I2 q2) fun ws s3 ⟨ps, H3, I3, rel, q3⟩ => ⟨(x, y) :: ps, H3, I3, .cons ⟨rx, ry⟩ rel, q3⟩)

def mergeK (kvs more : List (Key × V)) : List (Key × V) := more.foldl (fun acc kv => putK acc kv.1 kv.2) kvs
theorem KV.merge : ∀ {more : List (Key × V)} {rs : List (Key × Value)} {kvs : List (Key × V)} {vs : List (Key × Value)}, KV more rs → KV kvs vs → KV (mergeK kvs more) (merged vs rs) := by
  intro more rs kvs vs r
  unfold KV at r
  induction r generalizing kvs vs with
  | nil => intro q; exact q
  | @cons p q ps qs h t ih =>
    intro r0
    have e : KV (putK kvs p.1 p.2) (stored vs q.1 q.2) := by
      have := r0.put p.1 h.2
      rw [← h.1]; exact this
    exact ih e
theorem length_mergeK : ∀ (more kvs : List (Key × V)), (mergeK kvs more).length ≤ kvs.length + more.length
  | [], kvs => by show kvs.length ≤ kvs.length + 0; omega
  | p :: r, kvs => by
    have h1 := length_mergeK r (putK kvs p.1 p.2)
    have h2 := length_putK kvs p.1 p.2
    show (mergeK (putK kvs p.1 p.2) r).length ≤ _
    rw [List.length_cons]; omega
theorem carries_of {P : Program} {w : World} : ∀ {kvs : List (Key × V)} {ws : List (Value × Value)}, VV (kvs.map fun kv => (kV kv.1, kv.2)) ws → ∃ rs, Carries (mixKind P w) ws rs ∧ KV kvs rs
  | [], _, r => by rw [List.map_nil] at r; cases r; exact ⟨[], True.intro, .nil⟩
  | p :: kvs, _, r => by
    rw [List.map_cons] at r
    cases r with
    | @cons a b as bs h t =>
      obtain ⟨rs, c, q⟩ := carries_of (P := P) (w := w) t
      obtain ⟨b1, b2⟩ := b
      exact ⟨(p.1, b2) :: rs, ⟨kV_is h.1, rfl, c⟩, .cons ⟨rfl, h.2⟩ q⟩
/-- {k: v, ..} with keys ints and texts; the new dict stands empty while the pairs are made -/
def tDisp (trs : List (TE × TE)) : TE := fun σ H Q => ∀ p, H p = none → tPairs trs σ (upd H p (.dK [])) fun ps H2 => H2 p = some (.dK []) ∧ ∃ kvs : List (Key × V), ps = kvs.map (fun kv => (kV kv.1, kv.2)) ∧ kvs.length ≤ 15 ∧ Q (.ref p) (upd H2 p (.dK (mergeK [] kvs)))
theorem pe_disp {X : Cx} {pos : Pos} {keys : List (Option Expr)} {values : List Expr} {trs : List (TE × TE)} (h : PPs X pos keys values trs) (hall : keys.all (·.isSome) = true) (hl : keys.length = values.length) (h0 : keys ≠ [])
    (h15 : keys.length ≤ 15) : PE X (.Dict keys values pos) (tDisp trs) := by
  intro pins s σ H Q I q
  have hn := I.hok.fresh (Nat.le_refl s.heap.objs.size)
  have I1 := I.laid (a := s.heap.objs.size) (o := .dK []) (h' := s.heap.push { cls := .type "dict", data := .dict #[] }) (t' := s.toks) (fun _ _ q => Heap.get?_push_of_some _ q) (Nat.le_refl _) (dk_empty s.heap I.big)
  refine wpAny_Dict_walk (knd := mixKind X.prog X.w) hall hl h0 h15 (thn (h pins _ σ _ _ I1 (q _ hn)) fun ws s2 ⟨ps, H2, I2, rel, e, kvs, ep, lk, q2⟩ => ?_)
  subst ep
  obtain ⟨rs, c, rk⟩ := carries_of (P := X.prog) (w := X.w) rel
  obtain ⟨z, hd, vs0, r0, dd⟩ := dk_of I2.hok e
  cases r0
  refine ⟨rs, c, dd, fun h' dd' hs => ⟨.ref s.heap.objs.size, _, ?_, rfl, q2⟩⟩
  have hz : (mergeK [] kvs).length ≤ sizeLine := by
    have h1 := length_mergeK kvs []
    rw [List.length_nil] at h1
    rw [sizeLine_eq]; omega
  have he : ∃ q, h'.get? s.heap.objs.size = some q := let ⟨q, _, _, hq, _⟩ := dd'; ⟨q, hq⟩
  exact d_write I2 (by rw [e]; exact True.intro) hs he (dk_new hz hd (rk.merge .nil) dd')


/-! ### methods -/
/-- a method call o.m(e) of a built-in, with one argument: what must be seen of the text -/
structure M1 (X : Cx) (o : Expr) (m : Str) (apos : Pos) (e : Expr) (cpos : Pos) : Prop where
  base : attributeBase o m X.env (eval o X.env) = eval o X.env
  few : ((backTo cpos (starEach [e] X.env)).all (fun x => !x.1) && (backToKw cpos (keywordEach [] X.env)).all (fun x => x.1.isSome)
    && decide (([e] : List Expr).length + ([] : List Keyword).length + (if ([] : List Keyword).isEmpty then 0 else 1) < 30)) = true
  line : (apos.endLine == cpos.line) = true
  trees : backTo cpos (starEach [e] X.env) = [(false, eval e X.env)]
structure M2 (X : Cx) (o : Expr) (m : Str) (apos : Pos) (e f : Expr) (cpos : Pos) : Prop where
  base : attributeBase o m X.env (eval o X.env) = eval o X.env
  few : ((backTo cpos (starEach [e, f] X.env)).all (fun x => !x.1) && (backToKw cpos (keywordEach [] X.env)).all (fun x => x.1.isSome)
    && decide (([e, f] : List Expr).length + ([] : List Keyword).length + (if ([] : List Keyword).isEmpty then 0 else 1) < 30)) = true
  line : (apos.endLine == cpos.line) = true
  trees : backTo cpos (starEach [e, f] X.env) = [(false, eval e X.env), (false, eval f X.env)]

/-- a is a dict, whatever its keys -/
def IsD (H : Hp) (a : Addr) : Prop := (∃ kvs, Rd H a (.dK kvs)) ∨ ∃ kvs, Rd H a (.dT kvs)
theorem isD_at {X : Cx} {pins : List (Addr × Obj)} {σ : St} {H : Hp} {s : Shared} {a : Addr} (I : Inv X pins σ H s) (d : IsD H a) :
    s.TypeIs (.ref a) "dict" ∧ (∀ b, Value.ref a = .ref b → ∃ ob, s.heap.get? b = some ob ∧ ob.dict = none) ∧ (a == sysModules) = false := by
  rcases d with ⟨kvs, e⟩ | ⟨kvs, e⟩
  · obtain ⟨_, hd, vs, _, dd⟩ := dk_rd I.hok e
    refine ⟨dd.typeIs, fun b q => ?_, hd⟩
    cases q
    obtain ⟨ob, _, _, h1, h2, _⟩ := dd
    exact ⟨ob, h1, h2.2.1⟩
  · obtain ⟨_, hd, xs, _, dd⟩ := dt_rd I.hok e
    refine ⟨dd.typeIs, fun b q => ?_, hd⟩
    cases q
    obtain ⟨ob, _, _, h1, h2, _⟩ := dd
    exact ⟨ob, h1, h2.2.1⟩

section
variable {X : Cx} {pins : List (Addr × Obj)} {σ : St} {H : Hp} {s : Shared} {a : Addr} {y d : V} {u r : Value} {o : Option V} {A : Around} {E : Value → Shared → Prop}
/-- d.get(y, x) -/
theorem d_get2 {Q : Value → Shared → Prop} (hu : A.units + 1 < cLine) (I : Inv X pins σ H s) (g : DGet H a y o) (ry : RelV y u) (rd : RelV d r) (h : ∀ w' s', Inv X pins σ H s' → RelV (o.getD d) w' → Q w' s') :
    wpAny (model X.prog X.w) A (call (.builtin "dict.get") [.ref a, u, r]) Q E s := by
  rcases g with ⟨kvs, k, e, ey, l⟩ | ⟨kvs, k, b, e, ey, eb, l⟩
  · subst ey
    obtain ⟨z, hd, vs, rel, dd⟩ := dk_rd I.hok e
    refine call_meetsIn PySem.F.slot_dict_get dd.typeIs PySem.F.entry_dict_get (PySem.F.args_dict_get_3 _ _ _) (meets_dict_get_default (mixKind X.prog X.w) a (kV_is ry) hd r) ⟨_, dd.mapOf, h _ _ (I.tok _) ?_⟩
    rw [l]
    exact (rel.val k).getD rd
  · subst ey
    cases (show u = Value.ref b from ry)
    obtain ⟨z, hd, xs, rel, dd⟩ := dt_rd I.hok e
    refine call_meetsIn PySem.F.slot_dict_get dd.typeIs PySem.F.entry_dict_get (PySem.F.args_dict_get_3 _ _ _) (meetsH_dict_get_default (tupleKind (mixKind X.prog X.w)) a b hd r) ⟨tupleKind_room_in1 hu, k, xs, key_of I.hok eb, dd, h _ _ (I.tok _) ?_⟩
    rw [l]
    exact (rel.val k).getD rd
end

def tDGet1 (td ty : TE) : TE := fun σ H Q => td σ H fun x H1 => ∃ a, x = .ref a ∧ IsD H1 a ∧ ty σ H1 fun y H2 => ∃ o, DGet H2 a y o ∧ Q (o.getD .non) H2
def tDGet2 (td ty tx : TE) : TE := fun σ H Q => td σ H fun x H1 => ∃ a, x = .ref a ∧ IsD H1 a ∧ ty σ H1 fun y H2 => tx σ H2 fun z H3 => ∃ o, DGet H3 a y o ∧ Q (o.getD z) H3
/-- d.pop(k): there; d.pop(k, x): there or not -/
def tDPop1 (td ty : TE) : TE := fun σ H Q => td σ H fun x H1 => ∃ a, x = .ref a ∧ IsD H1 a ∧ ty σ H1 fun y H2 => ∃ kvs k v, H2 a = some (.dK kvs) ∧ y = kV k ∧ valV kvs k = some v ∧ Q v (upd H2 a (.dK (dropK kvs k)))
def tDPop2 (td ty tx : TE) : TE := fun σ H Q => td σ H fun x H1 => ∃ a, x = .ref a ∧ IsD H1 a ∧ ty σ H1 fun y H2 => tx σ H2 fun z H3 => ∃ kvs k, H3 a = some (.dK kvs) ∧ y = kV k ∧
  (∀ v, valV kvs k = some v → Q v (upd H3 a (.dK (dropK kvs k)))) ∧ (valV kvs k = none → Q z H3)
section
variable {X : Cx} {o e f : Expr} {apos cpos : Pos} {td ty tx : TE}
theorem pe_dget2 (hu : X.A.units + 1 < cLine) (ho : PE X o td) (he : PE X e ty) (hf : PE X f tx) (m : M2 X o "get" apos e f cpos) : PE X (.Call (.Attribute o "get" apos) [e, f] [] cpos) (tDGet2 td ty tx) := by
  intro pins s σ H Q I h
  refine wpAny_Call_method m.base m.few m.line PySem.F.plainAttrs_dict PySem.F.slot_dict_get PySem.F.type_dict_get (thn (ho pins s σ H _ I h) fun u s1 ⟨x, H1, I1, rx, a, ex, d, q1⟩ => ?_)
  subst ex
  obtain rfl : u = Value.ref a := rx
  obtain ⟨t1, t2, _⟩ := isD_at I1 d
  refine ⟨t1, t2, ?_⟩
  rw [m.trees]
  refine Calls.callWith_builtin rfl (Calls.evalArgs_plain (Calls.spliced_cons (thn (he pins s1 σ H1 _ I1 q1) fun iv s2 ⟨y, H2, I2, ry, q2⟩ =>
    Calls.spliced_cons (thn (hf pins s2 σ H2 _ I2 q2) fun fv s3 ⟨z, H3, I3, rz, ov, g, q3⟩ => Calls.spliced_nil ?_))))
  exact d_get2 hu I3 g ry rz fun w' s4 I4 rw' => ⟨_, H3, I4, rw', q3⟩
end

/-! ### dict(d): a copy -/
section
variable {X : Cx} {pins : List (Addr × Obj)} {σ : St} {H : Hp} {s : Shared} {a : Addr} {kvs : List (Key × V)} {A : Around} {E : Value → Shared → Prop}
end


section
variable {X : Cx} {pins : List (Addr × Obj)} {σ : St} {H : Hp} {s : Shared} {a : Addr} {y : V} {u : Value} {A : Around} {E : Value → Shared → Prop}
end
end L2

namespace Att
open PySem PySem.W PySem.Calls PyProof.Rows

/-! ### the script -/
theorem ints_of_wellAll {P : Params} {h : Heap} : ∀ (ns : List Int) (vs : List Value), WellAll P h vs (ns.map WData.int) → IntsAre vs ns := by
  intro ns
  induction ns with
  | nil =>
    intro vs w
    rw [List.map_nil] at w
    cases w
    exact .nil
  | cons n ns ih =>
    intro vs w
    rw [List.map_cons] at w
    cases w with
    | cons a b =>
      cases a
      exact .cons _ _ (ih _ b)

theorem script_of {l : OpenLaw} {n : Nat} (hn : l.most = some n) {P : Params} {h : Heap} {args : List WData} {vals : List Value}
    (hpre : l.row.toRowW.claim.pre args = true) (hwl : WellAll P h vals args) :
    ∃ a vs ns, vals = [Value.ref a] ∧ args = [WData.list (ns.map WData.int)] ∧ h.get? a = some { cls := .type "list", data := .seq vs.toArray } ∧ IntsAre vs ns ∧ ns.length ≤ n := by
  have hsh : WShape.hasAll [] args [.list .int] = true := (pre_splitW hpre).1
  have hc : l.pre.holds [] { args := args } = true := (pre_splitW hpre).2
  obtain ⟨d, r, rfl, h1, h2⟩ := hasAllW_cons hsh
  obtain rfl := hasAllW_nil h2
  obtain ⟨xs, rfl, h3⟩ := hasW_list h1
  obtain ⟨ns, rfl⟩ := items_int h3
  have hlen : ns.length ≤ n := by
    unfold OpenLaw.pre at hc
    have h4 : (WTm.not (.lt (.lit (.int (n : Int))) (.len (.arg 0)))).holds [] { args := [.list (ns.map .int)] } = true := by
      have h4 := (holds_andW hc).1
      rw [hn] at h4
      exact h4
    have h5 := condW_of h4 (w_not (w_lt w_lit (w_len_list (w_arg rfl))))
    rw [List.length_map] at h5
    refine Nat.le_of_not_lt fun q => ?_
    have q' : (n : Int) < ((ns.length : Nat) : Int) := by omega
    first
      | (rw [decide_eq_true q'] at h5; exact absurd h5 (by decide))
      | (simp at h5; omega)
  cases hwl with
  | cons w1 w2 =>
    cases w2
    cases w1 with
    | list ho hall => exact ⟨_, _, ns, rfl, rfl, ho, ints_of_wellAll ns _ hall, hlen⟩

theorem post_true (l : OpenLaw) (args : List WData) : l.row.toRowW.claim.post args (.bool true) args = true :=
  postW_of (r := l.row.toRowW) (X := (true == true))
    (show WShape.has [] (.bool true) .bool = true by first | rfl | decide | simp [WShape.has, WShape.arms, WShape.armsAll])
    (show (WTm.eq .res (.lit (.bool true))).value [] { args := args, res := some (.bool true), after := args } = some (.bool (true == true)) from w_eq_bool (w_res rfl) w_lit) rfl

/-! ### the attachment: holds_open's last premise (the goal 'hc' behind k_head) from a wpAny of the law's body -/

/-- the same from a codeAny of the CALL (for a layer whose function contracts speak of calls) -/
theorem attach_call {l : OpenLaw} {n : Nat} {q : Program} {loose : List Str} {XP : (Str → Option Value) → Heap → Prop} {YP : World → Heap → Prop} {d : DefRec}
    (hn : l.most = some n) (hdf : d.params.defaults = [])
    (call : ∀ (w : World) (s₀ s₁ : Shared) (mg mb : Str → Option Value) (fa : Addr) (o : Obj) (pm cd doc : Value) (a : Addr) (vs : List Value) (ns : List Int),
      Ground q loose [] XP w s₀ mg mb s₁.heap → YP w s₁.heap →
      s₁.heap.get? fa = some o → o.data = .func (docDef d.name d.params d.body d.scope pm cd doc) → s₁.heap.CodeRec cd d.name → mg d.name = some (.ref fa) →
      s₁.heap.get? a = some { cls := .type "list", data := .seq vs.toArray } → IntsAre vs ns → ns.length ≤ n → s₁.gens = #[] →
      codeAny (model l.prog w) callerA (.call (.ref fa) ⟨[.ref a], []⟩) (fun r s' => r = .ok (.ret (.bool true)) ∧ OldK s₁.heap s'.heap ∧ s'.os = s₁.os ∧ AllBare s'.gens) s₁) :
    WalkO q loose XP YP l.row.toRowW d [] (fun f vs => PySem.call f vs) := by
  intro w s₀ s₁ mg mb G Y fa o pm cd doc dV kV ho hd hcd hD hmg hg args vals as hpre hlay hrd hwl hlo
  obtain rfl : dV = .none := Dflts.none hD hdf
  obtain rfl : kV = .none := Dflts.noKw hD
  obtain ⟨a, vs, ns, rfl, rfl, hobj, hints, hlen⟩ := script_of hn hpre hwl
  refine enter_call (codeAny_mono (call w s₀ s₁ mg mb fa o pm cd doc a vs ns G Y ho (fd_plain hd) hcd hmg hobj hints hlen hg) fun r s' hq => ?_)
  obtain ⟨rfl, h2, h3, h4⟩ := hq
  exact ⟨.inl ⟨.bool true, .bool true, [], rfl, fun _ => rfl, .bool true, post_true l _, fun _ => ⟨List.Pairwise.nil, fun _ hm => (nomatch hm)⟩⟩, h2, h3, h4⟩


/-! ### rules over ANY heap (no ledger) from facts about the written part K: the library's own take a ledger (News) for what they write -/
section
variable {prog : Program} {w : World} {A : Around} {E : Value → Shared → Prop} {s : Shared} {K : Frag}





/-! the whole heap as the ledger: makes every rule that writes through a ledger a rule over any heap -/
def noObjs (h : Heap) : Heap := { h with objs := #[] }
def ledger (h : Heap) (L d : Addr) : List (Addr × Obj) := (List.range h.objs.size).filterMap fun a => if a = L ∨ a = d then none else (h.get? a).map fun o => (a, o)

end
end Att

namespace L2
open PySem PySem.Spec PyProof.Rows

theorem vals_ints : ∀ {vs : List Value} {ns : List Int}, IntsAre vs ns → Vals (ns.map V.int) vs
  | _, _, .nil => .nil
  | _, _, .cons n t h => .cons ⟨t, rfl⟩ (vals_ints h)

/-- nothing is tracked but the script, known to the object (or it is an object of the module) -/
def Only (H : Hp) : Prop := ∀ b, H b = none ∨ ∃ o xs, H b = some (.frz o (.lst xs))

/-- THE HEAD: the law's promise, at the heap behind the top. F, the promise of the law's def, may use that base is part of the heap (so K.In base, base.Ns mainGlobals mg stand in Mod) -/
theorem law_call {P : Program} {w : World} {K : PySem.W.Frag} {mg mb : Str → Option Value} {CX : CXT} {k : Nat} {fa a : Addr} {fd : FuncData} {x : Str} {sp : Sp} {s₁ : Shared} {vs : List Value} {ns : List Int}
    (KX : K.In s₁.heap) (hns : s₁.heap.Ns mainGlobals mg) (hb : s₁.heap.Ns builtinsNs mb) (hbb : ∀ x : Str, x ≠ "__name__" → mb x = bootBuiltins x) (hlim : s₁.heap.NoLimit) (hg : s₁.gens = #[])
    (ha : s₁.heap.get? a = some { cls := .type "list", data := .seq vs.toArray }) (hi : IntsAre vs ns) (hl : ns.length ≤ sizeLine) (hr : Room k callerA)
    (F : ∀ base : Heap, K.In base → base.Ns mainGlobals mg → FnOk P w K mg base CX k fa fd [x] sp) (hbind : ∀ (s : Shared) (u : Value), BindsTo s fd ⟨[u], []⟩ [(x, u)])
    (hsp : ∀ H : Hp, Only H → SqL K H a (ns.map V.int) → sp [.ref a] H (fun v _ => v = .bl true) fun _ _ _ => False)
    (hCX : ∀ H e s', CX [] H s₁ (fun _ _ _ => False) e s' → False) :
    codeAny (model P w) callerA (.call (.ref fa) ⟨[.ref a], []⟩) (fun r s' => r = .ok (.ret (.bool true)) ∧ OldK s₁.heap s'.heap ∧ s'.os = s₁.os ∧ AllBare s'.gens) s₁ := by
  have rv := vals_ints hi
  have lenV := hi.length
  -- from an abstract heap in which nothing but the script may be tracked
  have core : ∀ H : Hp, Only H → SqL K H a (ns.map V.int) → HOk P w H s₁.heap → (∀ b, H b ≠ none → b = a) → (H a ≠ none → K.lookup a = none) →
      codeAny (model P w) callerA (.call (.ref fa) ⟨[.ref a], []⟩) (fun r s' => r = .ok (.ret (.bool true)) ∧ OldK s₁.heap s'.heap ∧ s'.os = s₁.os ∧ AllBare s'.gens) s₁ := by
    intro H hO hS hok hA hK
    have base_of : ∀ {b : Addr} {o : Obj}, s₁.heap.get? b = some o → H b = none → (hidT s₁.heap H).get? b = some o := fun e n => hidT_get e n
    have noA : ∀ {b : Addr} {o : Obj} {es : Array DictEntry} {ep : Nat}, s₁.heap.get? b = some o → o.data = .dict es ep → H b = none := fun {b o es ep} e d => by
      cases q : H b with
      | none => rfl
      | some u =>
        have e' : b = a := hA b (by rw [q]; simp)
        subst e'
        rw [ha] at e; cases e
        have d' : Data.seq vs.toArray _ = Data.dict es ep := d
        cases d'
    have nsK : ∀ {b : Addr} {m : Str → Option Value}, s₁.heap.Ns b m → (hidT s₁.heap H).Ns b m := fun {b m} ⟨o, es, ep, e, d, r⟩ => ⟨o, es, ep, base_of e (noA e d), d, r⟩
    have hKb : K.In (hidT s₁.heap H) := fun b o e => base_of (KX b o e) (by
      cases q : H b with
      | none => rfl
      | some u =>
        have e' : b = a := hA b (by rw [q]; simp)
        subst e'
        rw [hK (by rw [q]; simp)] at e; cases e)
    have hM : Mod K mg (hidT s₁.heap H) := ⟨hKb, nsK hns, ⟨mb, nsK hb, hbb⟩, let ⟨mc, h1, h2⟩ := hlim; ⟨mc, nsK h1, h2⟩⟩
    have e0 : Env0 P w K mg (hidT s₁.heap H) callerA [] s₁ H := ⟨rfl, hM, fun b o e => of_hidT e, Nat.le_of_eq (hidT_size _ _), trivial, fun b hb => absurd (show b ∈ ([] : List Addr) from hb) (by simp), hok, .of_eq hg⟩
    refine codeAny_mono ((F _ hKb (nsK hns)).run callerA [] s₁ H ⟨[.ref a], []⟩ [.ref a] [.ref a] _ _ hr e0 (hbind s₁ (.ref a)) (.cons rfl .nil) (hsp H hO hS)) fun r s' h => ?_
    cases r with
    | error e => exact (hCX H e s' h).elim
    | ok fl =>
      cases fl with
      | next => exact False.elim h
      | brk => exact False.elim h
      | cont => exact False.elim h
      | ret u =>
        obtain ⟨v, H', os, bare, un, hok', r', q⟩ := h
        have q' : v = .bl true := q
        subst q'
        obtain rfl : u = Value.bool true := r'
        refine ⟨rfl, OldK.of_keep fun b o e => ?_, os, bare⟩
        cases q : H b with
        | none => exact un.keep b o e q (by intro z; exact absurd (show b ∈ ([] : List Addr) from z) (by simp)) (by simp)
        | some u =>
          rcases hO b with z | ⟨ob, xs, z⟩
          · rw [q] at z; cases z
          · have z2 := un.frzs b ob _ z
            obtain ⟨e1, _⟩ := hok b _ z
            obtain ⟨e2, _⟩ := hok' b _ z2
            rw [e] at e1; cases e1
            exact e2
  cases hk : K.lookup a with
  | some o =>
    -- the script is one of the module's own objects
    have e := KX a o hk
    rw [ha] at e
    cases e
    refine core (fun _ => none) (fun _ => .inl rfl) (.inr ⟨_, vs.toArray, _, hk, rfl, rfl, rfl, by rw [List.size_toArray, lenV]; exact hl, by simpa using rv⟩) (fun b u z => by have z' : (none : Option HO) = some u := z; cases z') (fun b z => absurd rfl z) fun z => absurd rfl z
  | none =>
    refine core (fun b => if b = a then some (.frz { cls := .type "list", data := .seq vs.toArray } (.lst (ns.map V.int))) else none) (fun b => ?_) (.inl (.inr ⟨{ cls := .type "list", data := .seq vs.toArray }, if_pos rfl⟩)) (fun b u z => ?_) (fun b z => ?_) fun _ => hk
    · by_cases hb : b = a
      · exact .inr ⟨_, _, if_pos hb⟩
      · exact .inl (if_neg hb)
    · by_cases hb : b = a
      · have z' := (if_pos hb).symm.trans z
        cases z'
        subst hb
        exact ⟨ha, by rw [List.length_map]; exact hl, vs, _, rv, ha⟩
      · have z' := (if_neg hb).symm.trans z
        cases z'
    · by_cases hb : b = a
      · exact hb
      · exact absurd (if_neg hb) z
end L2

namespace L2
open PySem PySem.Spec PyProof.Rows

abbrev KOf {K : PySem.W.Frag} {h : Heap} (_ : K.In h) : PySem.W.Frag := K

/-- the goal that k_head leaves (case hc), from the law's promise. F gives the function object fd (K's own) once, then the promise over every base -/
theorem walk_of {l : PySem.W.OpenLaw} {n k : Nat} {q : Program} {loose : List Str} {XP : (Str → Option Value) → Heap → Prop} {YP : World → Heap → Prop} {d : DefRec} {K : Params → PySem.W.Frag} {CX : World → CXT} {sp : World → Sp} {x : Str}
    (hn : l.most = some n) (hn2 : n ≤ sizeLine) (hdf : d.params.defaults = []) (hr : Room k callerA)
    (hY : ∀ (w : World) (h : Heap), YP w h → (K w.params).In h)
    (F : ∀ (w : World) (mg : Str → Option Value) (fa : Addr) (h : Heap), (K w.params).In h → h.Ns mainGlobals mg → mg d.name = some (.ref fa) →
      ∃ fd : FuncData, (∀ (s : Shared) (u : Value), BindsTo s fd ⟨[u], []⟩ [(x, u)]) ∧
        ∀ base : Heap, (K w.params).In base → base.Ns mainGlobals mg → FnOk l.prog w (K w.params) mg base (CX w) k fa fd [x] (sp w))
    (hsp : ∀ (w : World) (H : Hp) (a : Addr) (ns : List Int), ns.length ≤ n → Only H → SqL (K w.params) H a (ns.map V.int) → sp w [.ref a] H (fun v _ => v = .bl true) fun _ _ _ => False)
    (hCX : ∀ (w : World) (H : Hp) (s : Shared) (e : Value) (s' : Shared), CX w [] H s (fun _ _ _ => False) e s' → False) :
    PySem.W.WalkO q loose XP YP l.row.toRowW d [] (fun f vs => PySem.call f vs) := by
  refine Att.attach_call hn hdf fun w s₀ s₁ mg mb fa o pm cd doc a vs ns G Y ho hd hcd hmg hobj hints hlen hg => ?_
  have KX := hY w _ Y
  obtain ⟨fd, hb, hF⟩ := F w mg fa _ KX G.T.g hmg
  exact law_call KX G.T.g G.T.b G.T.builtins G.T.nolimit hg hobj hints (Nat.le_trans hlen hn2) hr hF hb (fun H hO hS => hsp w H a ns hlen hO hS) fun H e s' => hCX w H s₁ e s'
end L2


/-! SHORT WORDS over the layer: a def of the text, its body, what a loop and a test want. -/
namespace L2
open PySem PySem.Spec PyProof.Rows

/-! ### the text by places -/
/-- the j-th statement of a class's body -/
def inClass (s : Stmt) (j : Nat) : Stmt := match s with
  | .ClassDef _ _ _ body _ _ _ _ _ _ _ => body.getD j (.Pass ⟨0, 0, 0, 0⟩)
  | _ => .Pass ⟨0, 0, 0, 0⟩
def defArgs (s : Stmt) : Arguments := match s with
  | .FunctionDef _ a _ _ _ _ _ _ _ _ => a
  | _ => { posonlyargs := [], args := [], vararg := none, kwonlyargs := [], kw_defaults := [], kwarg := none, defaults := [] }
def defBody (s : Stmt) : List Stmt := match s with
  | .FunctionDef _ _ b _ _ _ _ _ _ _ => b
  | _ => []
def defScope (s : Stmt) : Scope := match s with
  | .FunctionDef _ _ _ _ _ _ sc _ _ _ => sc
  | _ => { kind := .function, names := [], isGenerator := false, isCoroutine := false }

/-! ### no exception leaves a def -/
abbrev CX0 : CXT := fun _ _ _ _ _ _ => False
abbrev E0 : XK := fun _ _ _ => False
theorem pass0 {X : Cx} : Passes CX0 X E0 := fun _ _ _ _ _ _ _ h => h.elim

/-! ### a def (or method) of the text as it stands behind the top -/
structure Fun (K : PySem.W.Frag) (x qual : Str) (st : Stmt) (f : Addr) (fd : FuncData) : Prop where
  ex : ∃ (oc : Value) (od : Option Addr) (kV doc pm : Value) (an : Option Addr) (cdv ct : Value) (osl : Array (Option Value)),
    fd = PySem.W.fnOf x qual (defArgs st) (defBody st) (defScope st) .none kV doc pm an cdv ct ∧ K.lookup f = some ⟨oc, od, .func fd, osl⟩ ∧ PySem.W.codeIn K cdv qual = true
  kp : PySem.W.keepIn K (.ref f) = true
section
variable {P : Program} {w : World} {K : PySem.W.Frag} {mg : Str → Option Value} {base : Heap}
/-- THE RULE for a def: its body as a term of rules, and the reading of that term -/
theorem Fun.ok {x qual : Str} {st : Stmt} {f : Addr} {fd : FuncData} {N ps : List Str} {k : Nat} {sp : Sp} (F : Fun K x qual st f fd) (S : FnScope N ps (defScope st)) (len : ∀ vs H Q E, sp vs H Q E → vs.length = ps.length)
    (hbody : ∀ (cdv : Value) (A : Around) (outer : List Env) (s : Shared) (H : Hp) (vs : List V) (Q : VK) (E : XK), Room k (A.deeper (envOfC qual (defScope st) s.heap.objs.size f cdv)) → sp vs H Q E →
      ∃ t, PSs (cxOf CX0 P w K mg base N qual (defScope st) f cdv A outer s H E).nox (defBody st) t ∧ t { nx := fun _ H' => Q .non H', rt := Q } (start N vs) H) : FnOk P w K mg base CX0 (k + 1) f fd ps sp := by
  obtain ⟨oc, od, kV, doc, pm, an, cdv, ct, osl, rfl, lk, hcd⟩ := F.ex
  refine fn_of lk hcd S len fun A outer s H vs Q E hr hsp => ?_
  obtain ⟨t, h, q⟩ := hbody cdv A outer s H vs Q E hr hsp
  exact ⟨t, h.nox, q⟩
/-- how its arguments bind (no defaults): h is «fun _ _ _ _ _ _ us hl => match us, hl with | [_, _], _ => rfl», one _ a parameter -/
theorem Fun.binds {x qual : Str} {st : Stmt} {f : Addr} {fd : FuncData} {ps : List Str} (F : Fun K x qual st f fd)
    (h : ∀ (kV doc pm : Value) (an : Option Addr) (cdv ct : Value) (us : List Value), us.length = ps.length → bindArgs (PySem.W.fnOf x qual (defArgs st) (defBody st) (defScope st) .none kV doc pm an cdv ct) ⟨us, []⟩ = pure (ps.zip us)) : Binds K fd ps [] := by
  obtain ⟨oc, od, kV, doc, pm, an, cdv, ct, osl, rfl, lk, hcd⟩ := F.ex
  exact .all (h kV doc pm an cdv ct)
theorem fun_mk {x qual : Str} {st : Stmt} {f : Addr} {oc : Value} {od an : Option Addr} {osl : Array (Option Value)} {kV doc pm cdv ct : Value} (l : K.lookup f = some ⟨oc, od, .func (PySem.W.fnOf x qual (defArgs st) (defBody st) (defScope st) .none kV doc pm an cdv ct), osl⟩)
    (c : PySem.W.codeIn K cdv qual = true) (k : PySem.W.keepIn K (.ref f) = true) : Fun K x qual st f (PySem.W.fnOf x qual (defArgs st) (defBody st) (defScope st) .none kV doc pm an cdv ct) := ⟨⟨oc, od, kV, doc, pm, an, cdv, ct, osl, rfl, l, c⟩, k⟩
end

/-! ### expressions in short: the name that stands in the i-th slot -/
section
variable {X : Cx}
end

/-! ### tests -/

/-! ### heaps -/
/-- all that was tracked is as it was -/
def Same (H H' : Hp) : Prop := ∀ b o, H b = some o → H' b = some o
theorem Same.refl (H : Hp) : Same H H := fun _ _ h => h
theorem Same.trans {H H1 H2 : Hp} (a : Same H H1) (b : Same H1 H2) : Same H H2 := fun c o h => b c o (a c o h)
theorem Same.free {H H' : Hp} (e : Same H H') {l : Addr} (h : H' l = Option.none) : H l = Option.none := by
  cases q : H l with
  | none => rfl
  | some o =>
    rw [e l o q] at h
    cases h

end L2

namespace DL
open PySem PySem.Spec PyProof.Rows L2

/-! ### the data layer: values as data, lists that are under way as owned objects -/
/-- an owned object -/
inductive OO where
  | lst (ds : List PyData)
  /-- a dict whose keys are tuples: its keys -/
  | dct (ks : List (List Key))
  /-- a dict whose keys are tuples, with its values -/
  | dtv (kvs : List (List Key × PyData))
  /-- a dict whose keys are ints and texts, with its values -/
  | dkv (kvs : List (Key × PyData))
  /-- an object of which a fact of the heap is known -/
  | ext (φ : Heap → Prop)
abbrev Mp := Addr → Option OO
def mset (M : Mp) (a : Addr) (o : OO) : Mp := fun b => if b = a then some o else M b
def mdel (M : Mp) (a : Addr) : Mp := fun b => if b = a then none else M b
theorem mset_same {M : Mp} {a : Addr} {o : OO} : mset M a o a = some o := by unfold mset; rw [if_pos rfl]
theorem mset_ne {M : Mp} {a b : Addr} {o : OO} (h : b ≠ a) : mset M a o b = M b := by unfold mset; rw [if_neg h]
theorem mset_mset {M : Mp} {a : Addr} {o u : OO} : mset (mset M a o) a u = mset M a u := by
  funext b; unfold mset; split <;> rfl
theorem mdel_same {M : Mp} {a : Addr} : mdel M a a = none := by unfold mdel; rw [if_pos rfl]
theorem mdel_ne {M : Mp} {a b : Addr} (h : b ≠ a) : mdel M a b = M b := by unfold mdel; rw [if_neg h]

def kD : Key → PyData
  | .inl i => .int i
  | .inr x => .str x

def KTu (K : PySem.W.Frag) (a : Addr) (xs : List V) : Prop :=
  ∃ (o : Obj) (its : Array Value) (n : Nat), K.lookup a = some o ∧ o.cls = .type "tuple" ∧ o.data = .seq its n ∧ its.size ≤ sizeLine ∧ Vals xs its.toList
def KLs (K : PySem.W.Frag) (a : Addr) (xs : List V) : Prop :=
  ∃ (o : Obj) (its : Array Value) (n : Nat), K.lookup a = some o ∧ o.cls = .type "list" ∧ o.dict = none ∧ o.data = .seq its n ∧ its.size ≤ sizeLine ∧ Vals xs its.toList
def TupAt (K : PySem.W.Frag) (M : Mp) (H : Hp) (a : Addr) (xs : List V) : Prop := (M a = none ∧ Rd H a (.tup xs)) ∨ KTu K a xs
def LstAt (K : PySem.W.Frag) (M : Mp) (H : Hp) (a : Addr) (xs : List V) : Prop := (M a = none ∧ Rd H a (.lst xs)) ∨ KLs K a xs
theorem TupAt.sq {K : PySem.W.Frag} {M : Mp} {H : Hp} {a : Addr} {xs : List V} (h : TupAt K M H a xs) : SqT K H a xs := by
  rcases h with ⟨_, h⟩ | h
  · exact .inl h
  · exact .inr h
theorem LstAt.sq {K : PySem.W.Frag} {M : Mp} {H : Hp} {a : Addr} {xs : List V} (h : LstAt K M H a xs) : SqL K H a xs := by
  rcases h with ⟨_, h⟩ | h
  · exact .inl h
  · exact .inr h

mutual
inductive Dt (K : PySem.W.Frag) (M : Mp) (H : Hp) : V → PyData → Prop
  | non : Dt K M H .non .none
  | bl (b : Bool) : Dt K M H (.bl b) (.bool b)
  | int (i : Int) : Dt K M H (.int i) (.int i)
  | str (x : Str) : Dt K M H (.str x) (.str x)
  | tup {a : Addr} {xs : List V} {ds : List PyData} : TupAt K M H a xs → Dts K M H xs ds → Dt K M H (.ref a) (.tuple ds)
  | lst {a : Addr} {xs : List V} {ds : List PyData} : LstAt K M H a xs → Dts K M H xs ds → Dt K M H (.ref a) (.list ds)
  | dK {a : Addr} {kvs : List (Key × V)} {ds : List PyData} : M a = none → H a = some (.dK kvs) → Dts K M H (kvs.map (·.2)) ds → Dt K M H (.ref a) (.dict ((kvs.map fun kv => kD kv.1).zip ds))
  | dT {a : Addr} {kvs : List (List Key × V)} {ds : List PyData} : M a = none → H a = some (.dT kvs) → Dts K M H (kvs.map (·.2)) ds → Dt K M H (.ref a) (.dict ((kvs.map fun kv => PyData.tuple (kv.1.map kD)).zip ds))
  | dX {a b : Addr} {φ : Heap → Prop} {v : V} {dk d : PyData} : M a = none → H a = some (.ext φ) → (a == sysModules) = false →
      (∀ h, φ h → ∃ o es n u, h.get? a = some o ∧ o.cls = .type "dict" ∧ o.data = .dict es n ∧ es.toList.map (·.key) = [.ref b] ∧ es.toList.map (·.val) = [u] ∧ RelV v u) → Dt K M H (.ref b) dk → Dt K M H v d → Dt K M H (.ref a) (.dict [(dk, d)])
inductive Dts (K : PySem.W.Frag) (M : Mp) (H : Hp) : List V → List PyData → Prop
  | nil : Dts K M H [] []
  | cons {x : V} {xs : List V} {d : PyData} {ds : List PyData} : Dt K M H x d → Dts K M H xs ds → Dts K M H (x :: xs) (d :: ds)
end

/-- what is not owned stays, and is not owned later -/
structure Step (M : Mp) (H : Hp) (M' : Mp) (H' : Hp) : Prop where
  keep : ∀ b o, M b = none → H b = some o → H' b = some o
  free : ∀ b o, M b = none → H b = some o → M' b = none
theorem Step.refl {M : Mp} {H : Hp} : Step M H M H := ⟨fun _ _ _ h => h, fun _ _ h _ => h⟩
theorem Step.trans {M M1 M2 : Mp} {H H1 H2 : Hp} (a : Step M H M1 H1) (b : Step M1 H1 M2 H2) : Step M H M2 H2 :=
  ⟨fun c o h1 h2 => b.keep c o (a.free c o h1 h2) (a.keep c o h1 h2), fun c o h1 h2 => b.free c o (a.free c o h1 h2) (a.keep c o h1 h2)⟩
section
variable {K : PySem.W.Frag} {M M' : Mp} {H H' : Hp}
theorem rd_step {a : Addr} {u : HO} (st : Step M H M' H') (hm : M a = none) (h : Rd H a u) : M' a = none ∧ Rd H' a u := by
  rcases h with h | ⟨o, h⟩
  · exact ⟨st.free _ _ hm h, .inl (st.keep _ _ hm h)⟩
  · exact ⟨st.free _ _ hm h, .inr ⟨o, st.keep _ _ hm h⟩⟩
theorem TupAt.step {a : Addr} {xs : List V} (h : TupAt K M H a xs) (st : Step M H M' H') : TupAt K M' H' a xs := by
  rcases h with ⟨h1, h2⟩ | h
  · exact .inl (rd_step st h1 h2)
  · exact .inr h
theorem LstAt.step {a : Addr} {xs : List V} (h : LstAt K M H a xs) (st : Step M H M' H') : LstAt K M' H' a xs := by
  rcases h with ⟨h1, h2⟩ | h
  · exact .inl (rd_step st h1 h2)
  · exact .inr h
mutual
theorem Dt.step (st : Step M H M' H') : ∀ {v : V} {d : PyData}, Dt K M H v d → Dt K M' H' v d
  | _, _, .non => .non
  | _, _, .bl b => .bl b
  | _, _, .int i => .int i
  | _, _, .str x => .str x
  | _, _, .tup h1 h2 => .tup (h1.step st) (Dts.step st h2)
  | _, _, .lst h1 h2 => .lst (h1.step st) (Dts.step st h2)
  | _, _, .dK h0 h1 h2 => .dK (st.free _ _ h0 h1) (st.keep _ _ h0 h1) (Dts.step st h2)
  | _, _, .dT h0 h1 h2 => .dT (st.free _ _ h0 h1) (st.keep _ _ h0 h1) (Dts.step st h2)
  | _, _, .dX h0 h1 h2 h3 h4 h5 => .dX (st.free _ _ h0 h1) (st.keep _ _ h0 h1) h2 h3 (Dt.step st h4) (Dt.step st h5)
theorem Dts.step (st : Step M H M' H') : ∀ {vs : List V} {ds : List PyData}, Dts K M H vs ds → Dts K M' H' vs ds
  | _, _, .nil => .nil
  | _, _, .cons h1 h2 => .cons (Dt.step st h1) (Dts.step st h2)
end
theorem Dts.length : ∀ {vs : List V} {ds : List PyData}, Dts K M H vs ds → vs.length = ds.length
  | _, _, .nil => rfl
  | _, _, .cons _ h => by rw [List.length_cons, List.length_cons, Dts.length h]
theorem Dts.get : ∀ {vs : List V} {ds : List PyData} {i : Nat} {d : PyData}, Dts K M H vs ds → ds[i]? = some d → ∃ v, vs[i]? = some v ∧ Dt K M H v d
  | _, _, _, _, .nil, e => by simp at e
  | _, _, 0, _, .cons h _, e => by simp at e; subst e; exact ⟨_, rfl, h⟩
  | _, _, i + 1, d, .cons _ h, e => by
    obtain ⟨v, h1, h2⟩ := Dts.get (i := i) (d := d) h (by simpa using e)
    exact ⟨v, by simpa using h1, h2⟩
theorem Dts.getV : ∀ {vs : List V} {ds : List PyData} {i : Nat} {v : V}, Dts K M H vs ds → vs[i]? = some v → ∃ d, ds[i]? = some d ∧ Dt K M H v d
  | _, _, _, _, .nil, e => by simp at e
  | _, _, 0, _, .cons h _, e => by simp at e; subst e; exact ⟨_, rfl, h⟩
  | _, _, i + 1, v, .cons _ h, e => by
    obtain ⟨d, h1, h2⟩ := Dts.getV (i := i) (v := v) h (by simpa using e)
    exact ⟨d, by simpa using h1, h2⟩
theorem Dts.append : ∀ {vs ws : List V} {ds es : List PyData}, Dts K M H vs ds → Dts K M H ws es → Dts K M H (vs ++ ws) (ds ++ es)
  | _, _, _, _, .nil, h => h
  | _, _, _, _, .cons h1 h2, h => .cons h1 (Dts.append h2 h)
theorem Dts.take : ∀ {vs : List V} {ds : List PyData} (n : Nat), Dts K M H vs ds → Dts K M H (vs.take n) (ds.take n)
  | _, _, 0, _ => .nil
  | _, _, _ + 1, .nil => .nil
  | _, _, n + 1, .cons h1 h2 => .cons h1 (Dts.take n h2)
theorem Dts.drop : ∀ {vs : List V} {ds : List PyData} (n : Nat), Dts K M H vs ds → Dts K M H (vs.drop n) (ds.drop n)
  | _, _, 0, h => h
  | _, _, _ + 1, .nil => .nil
  | _, _, n + 1, .cons _ h2 => Dts.drop n h2
theorem Dts.set {v : V} {d : PyData} (h : Dt K M H v d) : ∀ {vs : List V} {ds : List PyData} (i : Nat), Dts K M H vs ds → Dts K M H (vs.set i v) (ds.set i d)
  | _, _, _, .nil => .nil
  | _, _, 0, .cons _ t => .cons h t
  | _, _, i + 1, .cons q t => .cons q (Dts.set h i t)
theorem Dts.ints : ∀ (ns : List Int), Dts K M H (ns.map V.int) (ns.map PyData.int)
  | [] => .nil
  | n :: ns => .cons (.int n) (Dts.ints ns)
/-- an owned object is held -/
def OOk (K : PySem.W.Frag) (M : Mp) (H : Hp) (a : Addr) : OO → Prop
  | .lst ds => ∃ vs, H a = some (.lst vs) ∧ Dts K M H vs ds
  | .dct ks => ∃ kvs, H a = some (.dT kvs) ∧ kvs.map (·.1) = ks
  | .dtv ps => ∃ kvs, H a = some (.dT kvs) ∧ kvs.map (·.1) = ps.map (·.1) ∧ Dts K M H (kvs.map (·.2)) (ps.map (·.2))
  | .dkv ps => ∃ kvs, H a = some (.dK kvs) ∧ kvs.map (·.1) = ps.map (·.1) ∧ Dts K M H (kvs.map (·.2)) (ps.map (·.2))
  | .ext φ => H a = some (.ext φ)
theorem OOk.step {a : Addr} {o : OO} (h : OOk K M H a o) (st : Step M H M' H') (e : ∀ u, H a = some u → H' a = some u) : OOk K M' H' a o := by
  cases o with
  | lst ds => obtain ⟨vs, e1, e2⟩ := h; exact ⟨vs, e _ e1, e2.step st⟩
  | dct ks => obtain ⟨vs, e1, e2⟩ := h; exact ⟨vs, e _ e1, e2⟩
  | dtv ps => obtain ⟨vs, e1, e2, e3⟩ := h; exact ⟨vs, e _ e1, e2, e3.step st⟩
  | dkv ps => obtain ⟨vs, e1, e2, e3⟩ := h; exact ⟨vs, e _ e1, e2, e3.step st⟩
  | ext φ => exact e _ h
theorem OOk.some {a : Addr} {o : OO} (h : OOk K M H a o) : ∃ u, H a = some u := by
  cases o with
  | lst ds => obtain ⟨vs, e1, _⟩ := h; exact ⟨_, e1⟩
  | dct ks => obtain ⟨vs, e1, _⟩ := h; exact ⟨_, e1⟩
  | dtv ps => obtain ⟨vs, e1, _⟩ := h; exact ⟨_, e1⟩
  | dkv ps => obtain ⟨vs, e1, _⟩ := h; exact ⟨_, e1⟩
  | ext φ => exact ⟨_, h⟩
/-- the owned objects are held -/
structure DRel (K : PySem.W.Frag) (M : Mp) (H : Hp) : Prop where
  ok : ∀ a o, M a = some o → OOk K M H a o
theorem DRel.ls (r : DRel K M H) (a : Addr) (ds : List PyData) (h : M a = some (.lst ds)) : ∃ vs, H a = some (.lst vs) ∧ Dts K M H vs ds := r.ok a _ h
theorem DRel.tracked (r : DRel K M H) {a : Addr} (h : H a = none) : M a = none := by
  cases q : M a with
  | none => rfl
  | some o =>
    obtain ⟨u, e⟩ := (r.ok a o q).some
    rw [h] at e
    cases e
theorem Step.new {p : Addr} {o : HO} (h : H p = none) : Step M H M (upd H p o) :=
  ⟨fun b u _ e => by rw [upd_ne (ne_of_none e h)]; exact e, fun _ _ h _ => h⟩
theorem DRel.step_same (r : DRel K M H) (st : Step M H M H') (hk : ∀ a u, M a ≠ none → H a = some u → H' a = some u) : DRel K M H' :=
  ⟨fun a o e => (r.ok a o e).step st fun u hu => hk a u (by rw [e]; simp) hu⟩
theorem DRel.new (r : DRel K M H) {p : Addr} {o : HO} (h : H p = none) : DRel K M (upd H p o) :=
  r.step_same (Step.new h) fun a vs _ e => by rw [upd_ne (ne_of_none e h)]; exact e
theorem Step.ownNew {p : Addr} {o : HO} {q : OO} (h : H p = none) : Step M H (mset M p q) (upd H p o) :=
  ⟨fun b u _ e => by rw [upd_ne (ne_of_none e h)]; exact e, fun b u hm e => by rw [mset_ne (ne_of_none e h)]; exact hm⟩
theorem Step.ownPut {p : Addr} {o : HO} {q q' : OO} (h : M p = some q) : Step M H (mset M p q') (upd H p o) := by
  have ne : ∀ b, M b = none → b ≠ p := fun b hb e => by rw [e, h] at hb; cases hb
  exact ⟨fun b u hb e => by rw [upd_ne (ne b hb)]; exact e, fun b u hb e => by rw [mset_ne (ne b hb)]; exact hb⟩
theorem DRel.ownAny (r : DRel K M H) {p : Addr} {u : HO} {o : OO} (st : Step M H (mset M p o) (upd H p u)) (h : OOk K (mset M p o) (upd H p u) p o) : DRel K (mset M p o) (upd H p u) := by
  refine ⟨fun a q e => ?_⟩
  by_cases ha : a = p
  · subst ha
    rw [mset_same] at e
    cases e
    exact h
  · rw [mset_ne ha] at e
    exact (r.ok a q e).step st fun v hv => by rw [upd_ne ha]; exact hv
theorem DRel.ownSet (r : DRel K M H) {p : Addr} {vs : List V} {ds : List PyData} (st : Step M H (mset M p (.lst ds)) (upd H p (.lst vs))) (hv : Dts K M H vs ds) :
    DRel K (mset M p (.lst ds)) (upd H p (.lst vs)) := r.ownAny st ⟨vs, upd_same, hv.step st⟩
theorem Step.frz {p : Addr} : Step M H (mdel M p) H :=
  ⟨fun _ _ _ h => h, fun b o hb _ => by unfold mdel; split <;> first | rfl | exact hb⟩
theorem DRel.frz (r : DRel K M H) {p : Addr} : DRel K (mdel M p) H := by
  refine ⟨fun a o e => ?_⟩
  have hne : a ≠ p := fun z => by rw [z, mdel_same] at e; cases e
  rw [mdel_ne hne] at e
  exact (r.ok a o e).step Step.frz fun _ h => h

/-- a value of the data layer: data; the address of an owned object; a built-in type -/
inductive DV where
  | dat (d : PyData)
  | own (a : Addr)
  | ty (n : String)
def VRel (K : PySem.W.Frag) (M : Mp) (H : Hp) (v : V) : DV → Prop
  | .dat d => Dt K M H v d
  | .own a => v = .ref a
  | .ty n => v = .ty n
theorem VRel.step {v : V} {x : DV} (h : VRel K M H v x) (st : Step M H M' H') : VRel K M' H' v x := by
  cases x with
  | dat d => exact Dt.step st h
  | own a => exact h
  | ty n => exact h
abbrev VRels (K : PySem.W.Frag) (M : Mp) (H : Hp) : List V → List DV → Prop := Paired (VRel K M H)
theorem VRels.step {vs : List V} {xs : List DV} (h : VRels K M H vs xs) (st : Step M H M' H') : VRels K M' H' vs xs := Paired.mapP h fun _ _ q => VRel.step q st
theorem VRels.dats : ∀ {vs : List V} {ds : List PyData}, VRels K M H vs (ds.map DV.dat) → Dts K M H vs ds
  | vs, [], h => by rw [List.map_nil] at h; cases h; exact .nil
  | vs, d :: ds, h => by
    rw [List.map_cons] at h
    cases h with
    | cons h1 h2 => exact .cons h1 (VRels.dats h2)
/-! ### cases of values -/
def onV (o : Option (Option DV)) (P : DV → Prop) : Prop := match o with | some (some x) => P x | _ => False
theorem onV_ex {o : Option (Option DV)} {P : DV → Prop} (h : onV o P) : ∃ x, o = some (some x) ∧ P x := by
  unfold onV at h
  split at h
  · exact ⟨_, rfl, h⟩
  · exact h.elim
def onI (x : DV) (P : Int → Prop) : Prop := match x with | .dat (.int i) => P i | _ => False
theorem onI_ex {x : DV} {P : Int → Prop} (h : onI x P) : ∃ i, x = .dat (.int i) ∧ P i := by
  unfold onI at h
  split at h
  · exact ⟨_, rfl, h⟩
  · exact h.elim
def onB (x : DV) (P : Bool → Prop) : Prop := match x with | .dat (.bool i) => P i | _ => False
theorem onB_ex {x : DV} {P : Bool → Prop} (h : onB x P) : ∃ i, x = .dat (.bool i) ∧ P i := by
  unfold onB at h
  split at h
  · exact ⟨_, rfl, h⟩
  · exact h.elim
def onS (x : DV) (P : Str → Prop) : Prop := match x with | .dat (.str i) => P i | _ => False
theorem onS_ex {x : DV} {P : Str → Prop} (h : onS x P) : ∃ i, x = .dat (.str i) ∧ P i := by
  unfold onS at h
  split at h
  · exact ⟨_, rfl, h⟩
  · exact h.elim
def onT (x : DV) (P : List PyData → Prop) : Prop := match x with | .dat (.tuple i) => P i | _ => False
theorem onT_ex {x : DV} {P : List PyData → Prop} (h : onT x P) : ∃ i, x = .dat (.tuple i) ∧ P i := by
  unfold onT at h
  split at h
  · exact ⟨_, rfl, h⟩
  · exact h.elim
def onL (x : DV) (P : List PyData → Prop) : Prop := match x with | .dat (.list i) => P i | _ => False
theorem onL_ex {x : DV} {P : List PyData → Prop} (h : onL x P) : ∃ i, x = .dat (.list i) ∧ P i := by
  unfold onL at h
  split at h
  · exact ⟨_, rfl, h⟩
  · exact h.elim
def onD (x : DV) (P : PyData → Prop) : Prop := match x with | .dat i => P i | _ => False
theorem onD_ex {x : DV} {P : PyData → Prop} (h : onD x P) : ∃ i, x = .dat i ∧ P i := by
  unfold onD at h
  split at h
  · exact ⟨_, rfl, h⟩
  · exact h.elim
def onO (x : DV) (P : Addr → Prop) : Prop := match x with | .own i => P i | _ => False
theorem onO_ex {x : DV} {P : Addr → Prop} (h : onO x P) : ∃ i, x = .own i ∧ P i := by
  unfold onO at h
  split at h
  · exact ⟨_, rfl, h⟩
  · exact h.elim
/-- an owned list's items -/
def onOL (o : Option OO) (P : List PyData → Prop) : Prop := match o with | some (.lst ds) => P ds | _ => False
theorem onOL_ex {o : Option OO} {P : List PyData → Prop} (h : onOL o P) : ∃ ds, o = some (.lst ds) ∧ P ds := by
  unfold onOL at h
  split at h
  · exact ⟨_, rfl, h⟩
  · exact h.elim
def onOC (o : Option OO) (P : List (List Key) → Prop) : Prop := match o with | some (.dct ks) => P ks | _ => False
/-- a tuple, a list, an owned list -/
def onQ (x : DV) (M : Mp) (P : List PyData → Prop) : Prop := match x with | .dat (.tuple ds) => P ds | .dat (.list ds) => P ds | .own l => onOL (M l) P | _ => False
theorem onQ_ex {x : DV} {M : Mp} {P : List PyData → Prop} (h : onQ x M P) : ∃ ds, (x = .dat (.tuple ds) ∨ x = .dat (.list ds) ∨ ∃ l, x = .own l ∧ M l = some (.lst ds)) ∧ P ds := by
  unfold onQ at h
  split at h
  · exact ⟨_, .inl rfl, h⟩
  · exact ⟨_, .inr (.inl rfl), h⟩
  · replace h := onOL_ex h
    obtain ⟨ds, e, h⟩ := h
    exact ⟨ds, .inr (.inr ⟨_, rfl, e⟩), h⟩
  · exact h.elim
/-- a list, an owned list -/
def onK (x : DV) (M : Mp) (P : List PyData → Prop) : Prop := match x with | .dat (.list ds) => P ds | .own l => onOL (M l) P | _ => False
theorem onK_ex {x : DV} {M : Mp} {P : List PyData → Prop} (h : onK x M P) : ∃ ds, (x = .dat (.list ds) ∨ ∃ l, x = .own l ∧ M l = some (.lst ds)) ∧ P ds := by
  unfold onK at h
  split at h
  · exact ⟨_, .inl rfl, h⟩
  · replace h := onOL_ex h
    obtain ⟨ds, e, h⟩ := h
    exact ⟨ds, .inr ⟨_, rfl, e⟩, h⟩
  · exact h.elim
/-- argument lists -/
def on1 (xs : List DV) (P : DV → Prop) : Prop := match xs with | [x] => P x | _ => False
theorem on1_ex {xs : List DV} {P : DV → Prop} (h : on1 xs P) : ∃ x, xs = [x] ∧ P x := by
  unfold on1 at h
  split at h
  · exact ⟨_, rfl, h⟩
  · exact h.elim
def on2 (xs : List DV) (P : DV → DV → Prop) : Prop := match xs with | [x, y] => P x y | _ => False
theorem on2_ex {xs : List DV} {P : DV → DV → Prop} (h : on2 xs P) : ∃ x y, xs = [x, y] ∧ P x y := by
  unfold on2 at h
  split at h
  · exact ⟨_, _, rfl, h⟩
  · exact h.elim
def on3 (xs : List DV) (P : DV → DV → DV → Prop) : Prop := match xs with | [x, y, z] => P x y z | _ => False
theorem on3_ex {xs : List DV} {P : DV → DV → DV → Prop} (h : on3 xs P) : ∃ x y z, xs = [x, y, z] ∧ P x y z := by
  unfold on3 at h
  split at h
  · exact ⟨_, _, _, rfl, h⟩
  · exact h.elim
def on4 (xs : List DV) (P : DV → DV → DV → DV → Prop) : Prop := match xs with | [x0, x1, x2, x3] => P x0 x1 x2 x3 | _ => False
def on5 (xs : List DV) (P : DV → DV → DV → DV → DV → Prop) : Prop := match xs with | [x0, x1, x2, x3, x4] => P x0 x1 x2 x3 x4 | _ => False
def on6 (xs : List DV) (P : DV → DV → DV → DV → DV → DV → Prop) : Prop := match xs with | [x0, x1, x2, x3, x4, x5] => P x0 x1 x2 x3 x4 x5 | _ => False
/-- data alone, a few of them -/
def datsD : List DV → Option (List PyData)
  | [] => some []
  | .dat d :: r => match datsD r with | some ds => some (d :: ds) | none => none
  | _ :: _ => none
theorem datsD_ex : ∀ {xs : List DV} {ds : List PyData}, datsD xs = some ds → xs = ds.map DV.dat
  | [], _, h => by cases h; rfl
  | .dat d :: r, ds, h => by
    rw [datsD] at h
    split at h
    · rename_i es e
      cases h
      rw [List.map_cons, ← datsD_ex e]
    · cases h
  | .own _ :: _, _, h => by cases h
  | .ty _ :: _, _, h => by cases h
def onDs (xs : List DV) (P : List PyData → Prop) : Prop := match Nat.ble xs.length 100 with
  | true => (match datsD xs with | some ds => P ds | none => False)
  | false => False
theorem onDs_ex {xs : List DV} {P : List PyData → Prop} (h : onDs xs P) : ∃ ds, xs = ds.map DV.dat ∧ ds.length ≤ 100 ∧ P ds := by
  unfold onDs at h
  split at h
  · rename_i e
    split at h
    · rename_i ds e2
      have e3 := datsD_ex e2
      refine ⟨ds, e3, ?_, h⟩
      have e4 := Nat.le_of_ble_eq_true e
      rwa [e3, List.length_map] at e4
    · exact h.elim
  · exact h.elim
abbrev DSt := List (Option DV)
structure ERel (K : PySem.W.Frag) (M : Mp) (H : Hp) (σ : L2.St) (Δ : DSt) : Prop where
  len : σ.length = Δ.length
  at' : ∀ (i : Nat) (x : DV), Δ[i]? = some (some x) → ∃ v, σ[i]? = some (some v) ∧ VRel K M H v x
theorem ERel.step {σ : L2.St} {Δ : DSt} (h : ERel K M H σ Δ) (st : Step M H M' H') : ERel K M' H' σ Δ :=
  ⟨h.len, fun i x e => let ⟨v, e1, e2⟩ := h.at' i x e; ⟨v, e1, e2.step st⟩⟩
theorem ERel.set {σ : L2.St} {Δ : DSt} {i : Nat} {v : V} {x : DV} (h : ERel K M H σ Δ) (r : VRel K M H v x) : ERel K M H (σ.set i (some v)) (Δ.set i (some x)) := by
  refine ⟨by rw [List.length_set, List.length_set, h.len], fun j y e => ?_⟩
  by_cases hj : i = j
  · subst hj
    by_cases hl : i < Δ.length
    · rw [List.getElem?_set_self hl] at e
      cases e
      exact ⟨v, List.getElem?_set_self (by rw [h.len]; exact hl), r⟩
    · rw [List.getElem?_eq_none (by rw [List.length_set]; omega)] at e
      cases e
  · rw [List.getElem?_set_ne hj] at e
    rw [List.getElem?_set_ne hj]
    exact h.at' j y e
def startD (N : List Str) (xs : List DV) : DSt := xs.map some ++ List.replicate (N.length - xs.length) none
theorem Paired.getR {α β : Type} {F : α → β → Prop} : ∀ {l : List α} {m : List β} {i : Nat} {b : β}, Paired F l m → m[i]? = some b → ∃ a, l[i]? = some a ∧ F a b
  | _, _, _, _, .nil, e => by simp at e
  | _, _, 0, _, .cons h _, e => by simp at e; subst e; exact ⟨_, rfl, h⟩
  | _, _, i + 1, b, .cons _ h, e => by
    obtain ⟨a, h1, h2⟩ := Paired.getR (i := i) (b := b) h (by simpa using e)
    exact ⟨a, by simpa using h1, h2⟩
theorem ERel.start {N : List Str} {vs : List V} {xs : List DV} (h : VRels K M H vs xs) : ERel K M H (start N vs) (startD N xs) := by
  have hl : vs.length = xs.length := Paired.length h
  refine ⟨by unfold L2.start startD; simp [hl], fun i x e => ?_⟩
  unfold startD at e
  unfold L2.start
  by_cases hi : i < xs.length
  · rw [List.getElem?_append_left (by simpa using hi), List.getElem?_map] at e
    cases q : xs[i]? with
    | none => rw [q] at e; cases e
    | some y =>
      rw [q] at e
      cases e
      obtain ⟨v, h1, h2⟩ := Paired.getR h q
      exact ⟨v, by rw [List.getElem?_append_left (by simpa [hl] using hi), List.getElem?_map, h1]; rfl, h2⟩
  · rw [List.getElem?_append_right (by simpa using hi), List.getElem?_replicate] at e
    split at e <;> cases e
end

/-! ### judgements -/
abbrev DK := DV → Mp → Prop
abbrev DTE := DSt → Mp → DK → Prop
abbrev DTT := DSt → Mp → (Bool → Mp → Prop) → Prop
abbrev DTA := DSt → Mp → (List DV → Mp → Prop) → Prop
structure DEnds where
  nx : DSt → Mp → Prop
  rt : DK
  bk : DSt → Mp → Prop := fun _ _ => False
  ct : DSt → Mp → Prop := fun _ _ => False
abbrev DTS := DEnds → DSt → Mp → Prop

/-- what is reached from M, H by an expression -/
def Rch (K : PySem.W.Frag) (M : Mp) (H : Hp) (Φ : DK) (Q : VK) : Prop := ∀ v H' x M', DRel K M' H' → Step M H M' H' → VRel K M' H' v x → Φ x M' → Q v H'
theorem Rch.step {K : PySem.W.Frag} {M M' : Mp} {H H' : Hp} {Φ : DK} {Q : VK} (h : Rch K M H Φ Q) (st : Step M H M' H') : Rch K M' H' Φ Q := fun v H2 x M2 r s2 q f => h v H2 x M2 r (st.trans s2) q f
theorem Rch.dat {K : PySem.W.Frag} {M M' : Mp} {H H' : Hp} {Φ : DK} {Q : VK} {v : V} {d : PyData} (h : Rch K M H Φ Q) (r : DRel K M' H') (st : Step M H M' H') (hd : Dt K M' H' v d) (f : Φ (.dat d) M') : Q v H' := h v H' (.dat d) M' r st hd f
def DE (X : Cx) (e : Expr) (τ : DTE) : Prop := ∃ t, PE X e t ∧ ∀ σ H Δ M Φ Q, DRel X.K M H → ERel X.K M H σ Δ → τ Δ M Φ → Rch X.K M H Φ Q → t σ H Q
def DT (X : Cx) (e : Expr) (τ : DTT) : Prop := ∃ t, PT X e t ∧ ∀ σ H Δ M Φ (Q : Bool → Hp → Prop), DRel X.K M H → ERel X.K M H σ Δ → τ Δ M Φ →
  (∀ b H' M', DRel X.K M' H' → Step M H M' H' → Φ b M' → Q b H') → t σ H Q
def DW (X : Cx) (e : Expr) (τ : DTT) : Prop := ∃ t, PW X e t ∧ ∀ σ H Δ M Φ (Q : Bool → Hp → Prop), DRel X.K M H → ERel X.K M H σ Δ → τ Δ M Φ →
  (∀ b H' M', DRel X.K M' H' → Step M H M' H' → Φ b M' → Q b H') → t σ H Q
def DA (X : Cx) (es : List Expr) (τ : DTA) : Prop := ∃ t, PA X es t ∧ ∀ σ H Δ M Φ (Q : List V → Hp → Prop), DRel X.K M H → ERel X.K M H σ Δ → τ Δ M Φ →
  (∀ vs H' xs M', DRel X.K M' H' → Step M H M' H' → VRels X.K M' H' vs xs → Φ xs M' → Q vs H') → t σ H Q
structure EndRel (K : PySem.W.Frag) (M : Mp) (H : Hp) (D : DEnds) (E : Ends) : Prop where
  nx : ∀ σ' H' Δ' M', DRel K M' H' → Step M H M' H' → ERel K M' H' σ' Δ' → D.nx Δ' M' → E.nx σ' H'
  rt : Rch K M H D.rt E.rt
  bk : ∀ σ' H' Δ' M', DRel K M' H' → Step M H M' H' → ERel K M' H' σ' Δ' → D.bk Δ' M' → E.bk σ' H'
  ct : ∀ σ' H' Δ' M', DRel K M' H' → Step M H M' H' → ERel K M' H' σ' Δ' → D.ct Δ' M' → E.ct σ' H'
theorem EndRel.step {K : PySem.W.Frag} {M M' : Mp} {H H' : Hp} {D : DEnds} {E : Ends} (h : EndRel K M H D E) (st : Step M H M' H') : EndRel K M' H' D E :=
  ⟨fun a b c d r s => h.nx a b c d r (st.trans s), h.rt.step st, fun a b c d r s => h.bk a b c d r (st.trans s), fun a b c d r s => h.ct a b c d r (st.trans s)⟩
def DS (X : Cx) (st : Stmt) (τ : DTS) : Prop := ∃ t, PS X st t ∧ ∀ σ H Δ M D E, DRel X.K M H → ERel X.K M H σ Δ → τ D Δ M → EndRel X.K M H D E → t E σ H
def DSs (X : Cx) (st : List Stmt) (τ : DTS) : Prop := ∃ t, PSs X st t ∧ ∀ σ H Δ M D E, DRel X.K M H → ERel X.K M H σ Δ → τ D Δ M → EndRel X.K M H D E → t E σ H

section
variable {X : Cx} {a b c : Expr} {ta tb tc : DTE} {pos : Pos}
/-! ### names, constants -/
def dVar (i : Nat) : DTE := fun Δ M Φ => onV Δ[i]? fun x => Φ x M
def dC (d : PyData) : DTE := fun _ M Φ => Φ (.dat d) M
theorem de_var (i : Nat) {x : Str} {pos : Pos} (hN : X.N[i]? = some x := by rfl) (hv : Vis X.env.scope x := by first | exact Or.inl rfl | exact Or.inr (Or.inl rfl) | exact Or.inr (Or.inr rfl)) (hd : (x == ("__debug__" : Str)) = false := by decide)
    (hcd : (x == ("__classdict__" : Str)) = false := by decide) : DE X (.Name x pos) (dVar i) := by
  refine ⟨_, pe_var hN hv hd hcd, fun σ H Δ M Φ Q r e h k => ?_⟩
  replace h := onV_ex h
  obtain ⟨x, e1, h⟩ := h
  obtain ⟨v, e2, q⟩ := e.at' i x e1
  exact ⟨v, e2, k v H x M r Step.refl q h⟩
theorem de_const {e : Expr} {v : V} {d : PyData} (h : PE X e (tC v)) (q : ∀ M H, Dt X.K M H v d) : DE X e (dC d) :=
  ⟨_, h, fun _ H _ M _ _ r _ h k => k v H (.dat d) M r Step.refl (q M H) h⟩
theorem de_int {i j pos} : DE X (.Constant (.int i) j pos) (dC (.int i)) := de_const pe_int fun _ _ => .int i
theorem de_bl {b j pos} : DE X (.Constant (.bool b) j pos) (dC (.bool b)) := de_const pe_bl fun _ _ => .bl b
theorem de_non {j pos} : DE X (.Constant .none j pos) (dC .none) := de_const pe_non fun _ _ => .non
theorem de_str {x j pos} : DE X (.Constant (.str x) j pos) (dC (.str x)) := de_const pe_str fun _ _ => .str x
theorem de_globI {x : Str} {i : Int} {t : Tok} {pos : Pos} (hg : Gl X x) (hm : X.mg x = some (.int i t)) (hd : (x == ("__debug__" : Str)) = false := by decide) : DE X (.Name x pos) (dC (.int i)) :=
  de_const (pe_glob (v := .int i) hg hm ⟨t, rfl⟩ hd) fun _ _ => .int i
def dTy (n : String) : DTE := fun _ M Φ => Φ (.ty n) M
theorem de_ty {x : Str} {n : String} {pos : Pos} (hg : Gl X x) (hm : X.mg x = none) (hv : bootBuiltins x = some (.type n)) (hn : x ≠ "__name__" := by decide) (hdb : (x == ("__debug__" : Str)) = false := by decide) : DE X (.Name x pos) (dTy n) :=
  ⟨_, pe_bltn (v := .ty n) hg hm hv rfl hn hdb, fun _ H _ M _ _ r _ h k => k (.ty n) H (.ty n) M r Step.refl rfl h⟩
end
end DL

namespace DL
open PySem PySem.Spec PyProof.Rows L2
section
variable {K : PySem.W.Frag} {M M' : Mp} {H H' : Hp} {v : V}
theorem VRel.bool {b : Bool} (h : VRel K M H v (.dat (.bool b))) : v = .bl b := by cases (show Dt K M H v (.bool b) from h); rfl
theorem VRel.int {i : Int} (h : VRel K M H v (.dat (.int i))) : v = .int i := by cases (show Dt K M H v (.int i) from h); rfl
theorem VRel.str {x : Str} (h : VRel K M H v (.dat (.str x))) : v = .str x := by cases (show Dt K M H v (.str x) from h); rfl
theorem VRel.tup {ds : List PyData} (h : VRel K M H v (.dat (.tuple ds))) : ∃ a xs, v = .ref a ∧ TupAt K M H a xs ∧ Dts K M H xs ds := by
  cases (show Dt K M H v (.tuple ds) from h) with
  | tup h1 h2 => exact ⟨_, _, rfl, h1, h2⟩
theorem VRel.lst {ds : List PyData} (h : VRel K M H v (.dat (.list ds))) : ∃ a xs, v = .ref a ∧ LstAt K M H a xs ∧ Dts K M H xs ds := by
  cases (show Dt K M H v (.list ds) from h) with
  | lst h1 h2 => exact ⟨_, _, rfl, h1, h2⟩
/-- a new tuple, a new list that is data at once -/
theorem Dt.newTup {p : Addr} {xs : List V} {ds : List PyData} (r : DRel K M H) (hp : H p = none) (h : Dts K M H xs ds) : Dt K M (upd H p (.tup xs)) (.ref p) (.tuple ds) :=
  .tup (.inl ⟨r.tracked hp, .inl upd_same⟩) (h.step (Step.new hp))
theorem Dt.newLst {p : Addr} {xs : List V} {ds : List PyData} (r : DRel K M H) (hp : H p = none) (h : Dts K M H xs ds) : Dt K M (upd H p (.lst xs)) (.ref p) (.list ds) :=
  .lst (.inl ⟨r.tracked hp, .inl upd_same⟩) (h.step (Step.new hp))
end
def Snd (K : PySem.W.Frag) (t : TE) (τ : DTE) : Prop := ∀ σ H Δ M Φ Q, DRel K M H → ERel K M H σ Δ → τ Δ M Φ → Rch K M H Φ Q → t σ H Q
theorem Snd.bin {K : PySem.W.Frag} {ta tb : TE} {τa τb : DTE} (qa : Snd K ta τa) (qb : Snd K tb τb) {M : Mp} {H : Hp} {σ : L2.St} {Δ : DSt} {S : DV → DV → Mp → Prop} {R : V → V → Hp → Prop} (r : DRel K M H) (e : ERel K M H σ Δ)
    (h : τa Δ M fun x M1 => τb Δ M1 fun y M2 => S x y M2)
    (k : ∀ v u H2 x y M2, DRel K M2 H2 → Step M H M2 H2 → VRel K M2 H2 v x → VRel K M2 H2 u y → S x y M2 → R v u H2) : ta σ H fun v H1 => tb σ H1 fun u H2 => R v u H2 :=
  qa σ H Δ M _ _ r e h fun v H1 x M1 r1 st rv hx => qb σ H1 Δ M1 _ _ r1 (e.step st) hx fun u H2 y M2 r2 st2 ru hy => k v u H2 x y M2 r2 (st.trans st2) (rv.step st2) ru hy

/-! ### operations by data -/
abbrev D2 := DV → DV → Mp → DK → Prop
def OpD (X : Cx) (f : Value → Value → Sem Value) (δ : D2) : Prop := ∃ r : R2, OpR X f r ∧ ∀ v u H x y M Φ Q, DRel X.K M H → VRel X.K M H v x → VRel X.K M H u y → δ x y M Φ → Rch X.K M H Φ Q → r v u H Q
def dOp (δ : D2) (ta tb : DTE) : DTE := fun Δ M Φ => ta Δ M fun x M1 => tb Δ M1 fun y M2 => δ x y M2 Φ
section
variable {X : Cx} {a b c : Expr} {ta tb tc : DTE} {pos : Pos} {op op' : CmpOp} {δ δ' : D2}
theorem Snd.opn {ta' tb' : TE} {r : R2} (ha : Snd X.K ta' ta) (hb : Snd X.K tb' tb) (q : ∀ v u H x y M Φ Q, DRel X.K M H → VRel X.K M H v x → VRel X.K M H u y → δ x y M Φ → Rch X.K M H Φ Q → r v u H Q) : Snd X.K (tOp r ta' tb') (dOp δ ta tb) :=
  fun _ _ _ _ _ _ dr e h k => Snd.bin ha hb dr e h fun v u H2 x y M2 r2 st rv ru hs => q v u H2 x y M2 _ _ r2 rv ru hs (k.step st)
theorem de_op {bop : Operator} (ho : OpD X (binaryOp bop) δ) (ha : DE X a ta) (hb : DE X b tb) : DE X (.BinOp a bop b pos) (dOp δ ta tb) := by
  obtain ⟨ta', pa, qa⟩ := ha
  obtain ⟨tb', pb, qb⟩ := hb
  obtain ⟨r, hr, q⟩ := ho
  exact ⟨_, pe_op hr pa pb, Snd.opn qa qb q⟩
theorem de_cmp (ho : OpD X (compareOp op) δ) (ha : DE X a ta) (hb : DE X b tb) (hm : behindInMarks op b = false := by first | exact nomark _ | rfl) : DE X (.Compare a [op] [b] pos) (dOp δ ta tb) := by
  obtain ⟨ta', pa, qa⟩ := ha
  obtain ⟨tb', pb, qb⟩ := hb
  obtain ⟨r, hr, q⟩ := ho
  exact ⟨_, pe_cmpR hr pa pb hm, Snd.opn qa qb q⟩
def dB (t : DTE) : DTT := fun Δ M Φ => t Δ M fun x M1 => onB x fun c => Φ c M1
theorem Snd.test {t : TE} {τ : DTE} (h : Snd X.K t τ) {σ : L2.St} {H : Hp} {Δ : DSt} {M : Mp} {Φ : Bool → Mp → Prop} {Q : Bool → Hp → Prop} (r : DRel X.K M H) (e : ERel X.K M H σ Δ) (hw : dB τ Δ M Φ)
    (k : ∀ b H' M', DRel X.K M' H' → Step M H M' H' → Φ b M' → Q b H') : t σ H fun x H1 => ∃ c, x = .bl c ∧ Q c H1 := by
  refine h σ H Δ M _ _ r e hw fun v H1 x M1 r1 st rv hx => ?_
  replace hx := onB_ex hx
  obtain ⟨c, rfl, hx⟩ := hx
  exact ⟨c, rv.bool, k c H1 M1 r1 st hx⟩
theorem dt_cmp (ho : OpD X (compareOp op) δ) (ha : DE X a ta) (hb : DE X b tb) (hm : behindInMarks op b = false := by first | exact nomark _ | rfl) : DT X (.Compare a [op] [b] pos) (dB (dOp δ ta tb)) := by
  obtain ⟨ta', pa, qa⟩ := ha
  obtain ⟨tb', pb, qb⟩ := hb
  obtain ⟨r, hr, q⟩ := ho
  exact ⟨_, pt_cmpR hr pa pb hm, fun _ _ _ _ _ _ dr e h k => Snd.test (Snd.opn qa qb q) dr e h k⟩
theorem dt_val {e : Expr} {τ : DTE} (h : DE X e τ) (he : ∀ whole, isTrue e X.env whole = (do let v ← whole; standAt e.pos; holding [v] (truthy v)) := by intro _; rfl) : DT X e (dB τ) := by
  obtain ⟨t, p, q⟩ := h
  exact ⟨_, pt_val p he, fun _ _ _ _ _ _ dr e h k => Snd.test q dr e h k⟩
/-- a op1 b op2 c -/
def dChain (δ δ' : D2) (ta tb tc : DTE) : DTE := fun Δ M Φ => ta Δ M fun x M1 => tb Δ M1 fun y M2 => δ x y M2 fun z M3 => onB z fun k => (if k = true then tc Δ M3 fun w' M4 => δ' y w' M4 Φ else Φ (.dat (.bool false)) M3)
theorem Snd.chain {ta' tb' tc' : TE} {r r' : R2} (ha : Snd X.K ta' ta) (hb : Snd X.K tb' tb) (hc : Snd X.K tc' tc) (q : ∀ v u H x y M Φ Q, DRel X.K M H → VRel X.K M H v x → VRel X.K M H u y → δ x y M Φ → Rch X.K M H Φ Q → r v u H Q)
    (q' : ∀ v u H x y M Φ Q, DRel X.K M H → VRel X.K M H v x → VRel X.K M H u y → δ' x y M Φ → Rch X.K M H Φ Q → r' v u H Q) : Snd X.K (tChain r r' ta' tb' tc') (dChain δ δ' ta tb tc) := by
  intro σ H Δ M Φ Q dr e h k
  refine Snd.bin ha hb dr e h fun v u H2 x y M2 r2 st rv ru hs => ?_
  refine q v u H2 x y M2 _ _ r2 rv ru hs fun z H3 zd M3 r3 st3 rz hz => ?_
  replace hz := onB_ex hz
  obtain ⟨kb, rfl, hz⟩ := hz
  refine ⟨kb, rz.bool, ?_⟩
  cases kb with
  | true =>
    have hz' : tc Δ M3 fun w' M4 => δ' y w' M4 Φ := by simpa using hz
    rw [if_pos rfl]
    refine hc σ H3 Δ M3 _ _ r3 (e.step (st.trans st3)) hz' fun w' H4 wd M4 r4 st4 rw4 hw4 => ?_
    exact q' u w' H4 y wd M4 _ _ r4 (ru.step (st3.trans st4)) rw4 hw4 (k.step (st.trans (st3.trans st4)))
  | false =>
    have hz' : Φ (.dat (.bool false)) M3 := by simpa using hz
    rw [if_neg Bool.false_ne_true]
    exact k.dat r3 (st.trans st3) (Dt.bl false) hz'
theorem de_chain (ho : OpD X (compareOp op) δ) (ho' : OpD X (compareOp op') δ') (ha : DE X a ta) (hb : DE X b tb) (hc : DE X c tc) (hm : lastMarks [op, op'] [b, c] = false := by with_unfolding_all rfl) :
    DE X (.Compare a [op, op'] [b, c] pos) (dChain δ δ' ta tb tc) := by
  obtain ⟨ta', pa, qa⟩ := ha
  obtain ⟨tb', pb, qb⟩ := hb
  obtain ⟨tc', pc, qc⟩ := hc
  obtain ⟨r, hr, q⟩ := ho
  obtain ⟨r', hr', q'⟩ := ho'
  exact ⟨_, pe_chain hr hr' pa pb pc hm, Snd.chain qa qb qc q q'⟩
theorem dt_chain (ho : OpD X (compareOp op) δ) (ho' : OpD X (compareOp op') δ') (ha : DE X a ta) (hb : DE X b tb) (hc : DE X c tc) (hm : lastMarks [op, op'] [b, c] = false := by with_unfolding_all rfl) :
    DT X (.Compare a [op, op'] [b, c] pos) (dB (dChain δ δ' ta tb tc)) := by
  obtain ⟨ta', pa, qa⟩ := ha
  obtain ⟨tb', pb, qb⟩ := hb
  obtain ⟨tc', pc, qc⟩ := hc
  obtain ⟨r, hr, q⟩ := ho
  obtain ⟨r', hr', q'⟩ := ho'
  exact ⟨_, pt_chain hr hr' pa pb pc hm, fun _ _ _ _ _ _ dr e h k => Snd.test (Snd.chain qa qb qc q q') dr e h k⟩
/-! ### and, or, not -/
variable {tA tB' : DTT} {rest : List Expr}
def dAnd (t u : DTT) : DTT := fun Δ M Φ => t Δ M fun c M1 => if c = true then u Δ M1 Φ else Φ false M1
def dOr (t u : DTT) : DTT := fun Δ M Φ => t Δ M fun c M1 => if c = true then Φ true M1 else u Δ M1 Φ
def dNot (t : DTT) : DTT := fun Δ M Φ => t Δ M fun c M1 => Φ (!c) M1
theorem DW.dt {e : Expr} {τ : DTT} (h : DW X e τ) : DT X e τ := by
  obtain ⟨t, p, q⟩ := h
  exact ⟨t, p.pt, q⟩
theorem dw_and1 (ha : DT X a tA) : DW X (.BoolOp .And [a] pos) tA := by
  obtain ⟨t, p, q⟩ := ha
  exact ⟨t, pw_and1 p, q⟩
theorem dw_or1 (ha : DT X a tA) : DW X (.BoolOp .Or [a] pos) tA := by
  obtain ⟨t, p, q⟩ := ha
  exact ⟨t, pw_or1 p, q⟩
theorem dw_and (ha : DT X a tA) (hb : DW X (.BoolOp .And (b :: rest) pos) tB') : DW X (.BoolOp .And (a :: b :: rest) pos) (dAnd tA tB') := by
  obtain ⟨t, p, q⟩ := ha
  obtain ⟨u, p2, q2⟩ := hb
  refine ⟨_, pw_and p p2, fun σ H Δ M Φ Q r e h k => ?_⟩
  refine q σ H Δ M _ _ r e h fun c H1 M1 r1 st hc => ?_
  cases c with
  | true => rw [if_pos rfl]; exact q2 σ H1 Δ M1 Φ Q r1 (e.step st) (by simpa using hc) fun b H2 M2 r2 st2 hb => k b H2 M2 r2 (st.trans st2) hb
  | false => rw [if_neg Bool.false_ne_true]; exact k false H1 M1 r1 st (by simpa using hc)
theorem dw_or (ha : DT X a tA) (hb : DW X (.BoolOp .Or (b :: rest) pos) tB') : DW X (.BoolOp .Or (a :: b :: rest) pos) (dOr tA tB') := by
  obtain ⟨t, p, q⟩ := ha
  obtain ⟨u, p2, q2⟩ := hb
  refine ⟨_, pw_or p p2, fun σ H Δ M Φ Q r e h k => ?_⟩
  refine q σ H Δ M _ _ r e h fun c H1 M1 r1 st hc => ?_
  cases c with
  | false => rw [if_neg Bool.false_ne_true]; exact q2 σ H1 Δ M1 Φ Q r1 (e.step st) (by simpa using hc) fun b H2 M2 r2 st2 hb => k b H2 M2 r2 (st.trans st2) hb
  | true => rw [if_pos rfl]; exact k true H1 M1 r1 st (by simpa using hc)
theorem dt_not (ha : DT X a tA) : DT X (.UnaryOp .Not a pos) (dNot tA) := by
  obtain ⟨t, p, q⟩ := ha
  exact ⟨_, pt_not p, fun σ H Δ M Φ Q r e h k => q σ H Δ M _ _ r e h fun c H1 M1 r1 st hc => k _ H1 M1 r1 st hc⟩
def dAndV (ta tb : DTE) : DTE := fun Δ M Φ => ta Δ M fun x M1 => onB x fun c => if c = true then tb Δ M1 Φ else Φ (.dat (.bool false)) M1
def dOrV (ta tb : DTE) : DTE := fun Δ M Φ => ta Δ M fun x M1 => onB x fun c => if c = true then Φ (.dat (.bool true)) M1 else tb Δ M1 Φ
def dNotV (ta : DTE) : DTE := fun Δ M Φ => ta Δ M fun x M1 => onB x fun c => Φ (.dat (.bool (!c))) M1
theorem de_one {bop} (h : DE X a ta) : DE X (.BoolOp bop [a] pos) ta := by
  obtain ⟨t, p, q⟩ := h
  exact ⟨t, pe_one p, q⟩
theorem de_and (ha : DE X a ta) (hb : DE X (.BoolOp .And (b :: rest) pos) tb) : DE X (.BoolOp .And (a :: b :: rest) pos) (dAndV ta tb) := by
  obtain ⟨t, p, q⟩ := ha
  obtain ⟨u, p2, q2⟩ := hb
  refine ⟨_, pe_and p p2, fun σ H Δ M Φ Q r e h k => ?_⟩
  refine q σ H Δ M _ _ r e h fun v H1 x M1 r1 st rv hx => ?_
  replace hx := onB_ex hx
  obtain ⟨c, rfl, hx⟩ := hx
  refine ⟨c, rv.bool, ?_⟩
  cases c with
  | true => rw [if_pos rfl]; exact q2 σ H1 Δ M1 Φ Q r1 (e.step st) (by simpa using hx) (k.step st)
  | false => rw [if_neg Bool.false_ne_true]; exact k.dat r1 st (Dt.bl false) (by simpa using hx)
theorem de_or (ha : DE X a ta) (hb : DE X (.BoolOp .Or (b :: rest) pos) tb) : DE X (.BoolOp .Or (a :: b :: rest) pos) (dOrV ta tb) := by
  obtain ⟨t, p, q⟩ := ha
  obtain ⟨u, p2, q2⟩ := hb
  refine ⟨_, pe_or p p2, fun σ H Δ M Φ Q r e h k => ?_⟩
  refine q σ H Δ M _ _ r e h fun v H1 x M1 r1 st rv hx => ?_
  replace hx := onB_ex hx
  obtain ⟨c, rfl, hx⟩ := hx
  refine ⟨c, rv.bool, ?_⟩
  cases c with
  | false => rw [if_neg Bool.false_ne_true]; exact q2 σ H1 Δ M1 Φ Q r1 (e.step st) (by simpa using hx) (k.step st)
  | true => rw [if_pos rfl]; exact k.dat r1 st (Dt.bl true) (by simpa using hx)
theorem de_not (ha : DE X a ta) : DE X (.UnaryOp .Not a pos) (dNotV ta) := by
  obtain ⟨t, p, q⟩ := ha
  refine ⟨_, pe_not p, fun σ H Δ M Φ Q r e h k => ?_⟩
  refine q σ H Δ M _ _ r e h fun v H1 x M1 r1 st rv hx => ?_
  replace hx := onB_ex hx
  obtain ⟨c, rfl, hx⟩ := hx
  exact ⟨c, rv.bool, k.dat r1 st (Dt.bl (!c)) hx⟩
def dIf (t : DTT) (ta tb : DTE) : DTE := fun Δ M Φ => t Δ M fun c M1 => if c = true then ta Δ M1 Φ else tb Δ M1 Φ
/-! ### minus -/
def dUnI (g : Int → Int) (ta : DTE) : DTE := fun Δ M Φ => ta Δ M fun x M1 => onI x fun i => Φ (.dat (.int (g i))) M1
theorem de_neg (ha : DE X a ta) : DE X (.UnaryOp .USub a pos) (dUnI (fun i => -i) ta) := by
  obtain ⟨t, p, q⟩ := ha
  refine ⟨_, pe_un un_neg p, fun σ H Δ M Φ Q r e h k => ?_⟩
  refine q σ H Δ M _ _ r e h fun v H1 x M1 r1 st rv hx => ?_
  replace hx := onI_ex hx
  obtain ⟨i, rfl, hx⟩ := hx
  exact ⟨i, rv.int, k.dat r1 st (Dt.int (-i)) hx⟩
/-! ### ints -/
def δI (C : Int → Int → Prop) (g : Int → Int → PyData) : D2 := fun x y M Φ => onI x fun i => onI y fun j => C i j ∧ Φ (.dat (g i j)) M
def δI0 (g : Int → Int → PyData) : D2 := fun x y M Φ => onI x fun i => onI y fun j => Φ (.dat (g i j)) M
theorem od_I {f : Value → Value → Sem Value} {C : Int → Int → Prop} {g : Int → Int → Int} (h : OpR X f (rI C fun i j => .int (g i j))) : OpD X f (δI C fun i j => .int (g i j)) :=
  ⟨_, h, fun v u H x y M Φ Q r rv ru h k => by
    replace h := onI_ex h
    obtain ⟨i, e1, h⟩ := h
    replace h := onI_ex h
    obtain ⟨j, e2, hc, q⟩ := h
    subst e1 e2
    exact ⟨i, j, rv.int, ru.int, hc, k.dat r Step.refl (Dt.int _) q⟩⟩
theorem od_I0 {f : Value → Value → Sem Value} {g : Int → Int → Int} (h : OpR X f (rI0 fun i j => .int (g i j))) : OpD X f (δI0 fun i j => .int (g i j)) :=
  ⟨_, h, fun v u H x y M Φ Q r rv ru h k => by
    replace h := onI_ex h
    obtain ⟨i, e1, h⟩ := h
    replace h := onI_ex h
    obtain ⟨j, e2, q⟩ := h
    subst e1 e2
    exact ⟨i, j, rv.int, ru.int, k.dat r Step.refl (Dt.int _) q⟩⟩
theorem od_B0 {f : Value → Value → Sem Value} {g : Int → Int → Bool} (h : OpR X f (rI0 fun i j => .bl (g i j))) : OpD X f (δI0 fun i j => .bool (g i j)) :=
  ⟨_, h, fun v u H x y M Φ Q r rv ru h k => by
    replace h := onI_ex h
    obtain ⟨i, e1, h⟩ := h
    replace h := onI_ex h
    obtain ⟨j, e2, q⟩ := h
    subst e1 e2
    exact ⟨i, j, rv.int, ru.int, k.dat r Step.refl (Dt.bl _) q⟩⟩
theorem od_add : OpD X (binaryOp .Add) (δI0 fun i j => .int (i + j)) := od_I0 op_add
theorem od_sub : OpD X (binaryOp .Sub) (δI0 fun i j => .int (i - j)) := od_I0 op_sub
theorem od_mul : OpD X (binaryOp .Mult) (δI CMul fun i j => .int (i * j)) := od_I op_mul
theorem od_fdiv : OpD X (binaryOp .FloorDiv) (δI CDiv fun i j => .int (i / j)) := od_I op_fdiv
theorem od_mod : OpD X (binaryOp .Mod) (δI (fun _ j => 0 < j) fun i j => .int (i % j)) := od_I op_mod
theorem od_pow : OpD X (binaryOp .Pow) (δI CPow fun i j => .int (i ^ j.toNat)) := od_I op_pow
theorem od_lt : OpD X (compareOp .Lt) (δI0 fun i j => .bool (decide (i < j))) := od_B0 op_lt
theorem od_le : OpD X (compareOp .LtE) (δI0 fun i j => .bool (decide (i ≤ j))) := od_B0 op_le
theorem od_gt : OpD X (compareOp .Gt) (δI0 fun i j => .bool (decide (j < i))) := od_B0 op_gt
theorem od_ge : OpD X (compareOp .GtE) (δI0 fun i j => .bool (decide (j ≤ i))) := od_B0 op_ge
/-! ### is, is not, of truths -/
def δB (g : Bool → Bool → Bool) : D2 := fun x y M Φ => onB x fun c => onB y fun d => Φ (.dat (.bool (g c d))) M
theorem od_isnotB : OpD X (compareOp .IsNot) (δB fun c d => c != d) :=
  ⟨fun x y H Q => ∃ c d, x = .bl c ∧ y = .bl d ∧ Q (.bl (c != d)) H, fun pins s σ H x y v u Q I rx ry ⟨c, d, e1, e2, q⟩ => by
    subst e1 e2
    cases rx
    cases ry
    exact isnot_bool ⟨.bl _, H, I, rfl, q⟩, fun v u H x y M Φ Q r rv ru h k => by
    replace h := onB_ex h
    obtain ⟨c, e1, h⟩ := h
    replace h := onB_ex h
    obtain ⟨d, e2, q⟩ := h
    subst e1 e2
    exact ⟨c, d, rv.bool, ru.bool, k.dat r Step.refl (Dt.bl _) q⟩⟩
/-! ### lists and tuples put together -/
def δCatT : D2 := fun x y M Φ => onT x fun ds => onT y fun es => ds ≠ [] ∧ ds.length + es.length ≤ sizeLine ∧ Φ (.dat (.tuple (ds ++ es))) M
theorem op_catSq : OpR X (binaryOp .Add) (fun x y H Q => ∃ l b xs zs, x = .ref l ∧ y = .ref b ∧ SqL X.K H l xs ∧ SqL X.K H b zs ∧ xs.length + zs.length ≤ sizeLine ∧ ∀ p, H p = none → Q (.ref p) (upd H p (.lst (xs ++ zs)))) := by
  intro pins s σ H x y v u Q I rx ry h
  obtain ⟨l, b, xs, zs, rfl, rfl, hl, hb, hz, q⟩ := h
  cases rx
  cases ry
  obtain ⟨its, r1, p1, _⟩ := I.list hl
  obtain ⟨its2, r2, p2, _⟩ := I.list hb
  obtain ⟨⟨cls, dd, data, sl⟩, ho, hc, n, hd⟩ := p1.isList
  obtain ⟨⟨cls2, dd2, data2, sl2⟩, ho2, hc2, n2, hd2⟩ := p2.isList
  simp only at hc hd hc2 hd2
  subst hc hd hc2 hd2
  have e : its.toArray ++ its2.toArray = (its ++ its2).toArray := by simp
  have hsz : its.toArray.size + its2.toArray.size ≤ sizeLine := by rw [List.size_toArray, List.size_toArray, ← r1.length, ← r2.length]; exact hz
  refine concat_meets ⟨_, ho, rfl⟩ ⟨_, ho2, rfl⟩ noFill_list_add seq_list_add PySem.F.slot_list_add PySem.F.entry_list_add (PySem.F.args_list_add_2 _ _) (list_addW l b its.toArray its2.toArray n n2 dd dd2 sl sl2 hsz) ⟨ho, ho2, ?_⟩
  rw [e]
  exact ⟨.ref _, _, I.lnew (t' := s.toks) (r1.append r2) (by rw [List.length_append]; exact hz), rfl, q _ I.fresh⟩
/-- a list of two: data; or owned -/
def δCatL : D2 := fun x y M Φ => onL x fun ds => onL y fun es => ds.length + es.length ≤ sizeLine ∧ Φ (.dat (.list (ds ++ es))) M
def δCatLO : D2 := fun x y M Φ => onL x fun ds => onL y fun es => ds.length + es.length ≤ sizeLine ∧ ∀ p, M p = none → Φ (.own p) (mset M p (.lst (ds ++ es)))
end

/-! ### argument lists, displays -/
def dNil : DTA := fun _ M Φ => Φ [] M
def dCons (ta : DTE) (tr : DTA) : DTA := fun Δ M Φ => ta Δ M fun x M1 => tr Δ M1 fun xs M2 => Φ (x :: xs) M2
section
variable {X : Cx} {e : Expr} {es : List Expr} {te : DTE} {t : DTA} {pos : Pos}
theorem da_nil : DA X [] dNil := ⟨_, pa_nil, fun _ H _ M _ _ r _ h k => k [] H [] M r Step.refl .nil h⟩
theorem da_cons (ha : DE X e te) (hr : DA X es t) (hs : starEach (e :: es) X.env = (false, eval e X.env) :: starEach es X.env := by rfl) : DA X (e :: es) (dCons te t) := by
  obtain ⟨u, p, q⟩ := ha
  obtain ⟨w, p2, q2⟩ := hr
  refine ⟨_, pa_cons p p2 hs, fun σ H Δ M Φ Q r e h k => ?_⟩
  refine q σ H Δ M _ _ r e h fun v H1 x M1 r1 st rv hx => ?_
  exact q2 σ H1 Δ M1 _ _ r1 (e.step st) hx fun vs H2 xs M2 r2 st2 rvs hxs => k (v :: vs) H2 (x :: xs) M2 r2 (st.trans st2) (.cons (rv.step st2) rvs) hxs
def dTup (t : DTA) : DTE := fun Δ M Φ => t Δ M fun xs M1 => onDs xs fun ds => Φ (.dat (.tuple ds)) M1
def dLst (t : DTA) : DTE := fun Δ M Φ => t Δ M fun xs M1 => onDs xs fun ds => Φ (.dat (.list ds)) M1
def dLstO (t : DTA) : DTE := fun Δ M Φ => t Δ M fun xs M1 => onDs xs fun ds => ∀ p, M1 p = none → Φ (.own p) (mset M1 p (.lst ds))
theorem de_tup {x1} (h : DA X es t) : DE X (.Tuple es x1 pos) (dTup t) := by
  obtain ⟨u, p, q⟩ := h
  refine ⟨_, pe_tup p, fun σ H Δ M Φ Q r e h k => ?_⟩
  refine q σ H Δ M _ _ r e h fun vs H1 xs M1 r1 st rv hx => ?_
  replace hx := onDs_ex hx
  obtain ⟨ds, rfl, hz', hx⟩ := hx
  have hz : ds.length ≤ sizeLine := by rw [sizeLine_eq]; omega
  have hd := rv.dats
  refine ⟨by rw [hd.length]; exact hz, fun p hp => ?_⟩
  exact k.dat (r1.new hp) (st.trans (Step.new hp)) (Dt.newTup r1 hp hd) hx
theorem de_lst (h : DA X es t) : DE X (.List es pos) (dLst t) := by
  obtain ⟨u, p, q⟩ := h
  refine ⟨_, pe_lst p, fun σ H Δ M Φ Q r e h k => ?_⟩
  refine q σ H Δ M _ _ r e h fun vs H1 xs M1 r1 st rv hx => ?_
  replace hx := onDs_ex hx
  obtain ⟨ds, rfl, hz', hx⟩ := hx
  have hz : ds.length ≤ sizeLine := by rw [sizeLine_eq]; omega
  have hd := rv.dats
  refine ⟨by rw [hd.length]; exact hz, fun p hp => ?_⟩
  exact k.dat (r1.new hp) (st.trans (Step.new hp)) (Dt.newLst r1 hp hd) hx
theorem de_lstO (h : DA X es t) : DE X (.List es pos) (dLstO t) := by
  obtain ⟨u, p, q⟩ := h
  refine ⟨_, pe_lst p, fun σ H Δ M Φ Q r e h k => ?_⟩
  refine q σ H Δ M _ _ r e h fun vs H1 xs M1 r1 st rv hx => ?_
  replace hx := onDs_ex hx
  obtain ⟨ds, rfl, hz', hx⟩ := hx
  have hz : ds.length ≤ sizeLine := by rw [sizeLine_eq]; omega
  have hd := rv.dats
  refine ⟨by rw [hd.length]; exact hz, fun p hp => ?_⟩
  exact k _ _ (.own p) _ (r1.ownSet (Step.ownNew hp) hd) (st.trans (Step.ownNew hp)) rfl (hx p (r1.tracked hp))
/-- an owned list becomes data -/
def dFrz (t : DTE) : DTE := fun Δ M Φ => t Δ M fun x M1 => onO x fun l => onOL (M1 l) fun ds => Φ (.dat (.list ds)) (mdel M1 l)
theorem de_frz (h : DE X e te) : DE X e (dFrz te) := by
  obtain ⟨u, p, q⟩ := h
  refine ⟨u, p, fun σ H Δ M Φ Q r e h k => ?_⟩
  refine q σ H Δ M _ _ r e h fun v H1 x M1 r1 st rv hx => ?_
  replace hx := onO_ex hx
  obtain ⟨l, rfl, hx⟩ := hx
  replace hx := onOL_ex hx
  obtain ⟨ds, hm, hx⟩ := hx
  obtain ⟨vs, e1, e2⟩ := r1.ls l ds hm
  cases (show v = .ref l from rv)
  exact k.dat r1.frz (st.trans Step.frz) (Dt.lst (.inl ⟨mdel_same, .inl e1⟩) (e2.step Step.frz)) hx
/-! ### items -/
/-- the item at i -/
def onNth : List PyData → Nat → (PyData → Prop) → Prop
  | [], _, _ => False
  | d :: _, 0, P => P d
  | _ :: r, n + 1, P => onNth r n P
def onAt (ds : List PyData) (i : Int) (P : PyData → Prop) : Prop := match i with
  | Int.ofNat n => onNth ds n P
  | Int.negSucc n => onNth ds.reverse n P
theorem onNth_ex : ∀ {ds : List PyData} {n : Nat} {P : PyData → Prop}, onNth ds n P → ∃ d, ds[n]? = some d ∧ P d
  | [], _, _, h => h.elim
  | d :: _, 0, _, h => ⟨d, rfl, h⟩
  | _ :: r, n + 1, _, h => by
    obtain ⟨d, e, hp⟩ := onNth_ex (ds := r) (n := n) h
    exact ⟨d, by rw [List.getElem?_cons_succ]; exact e, hp⟩
theorem onNth_of : ∀ {ds : List PyData} {n : Nat} {P : PyData → Prop} {d : PyData}, ds[n]? = some d → P d → onNth ds n P
  | [], _, _, _, e, _ => by simp at e
  | d :: _, 0, _, _, e, h => by simp at e; subst e; exact h
  | _ :: r, n + 1, _, _, e, h => onNth_of (ds := r) (n := n) (by rw [List.getElem?_cons_succ] at e; exact e) h
theorem onAt_ex {ds : List PyData} {i : Int} {P : PyData → Prop} (h : onAt ds i P) : ∃ d, atI ds i = some d ∧ P d := by
  unfold onAt at h
  split at h
  · rename_i n
    replace h := onNth_ex h
    obtain ⟨d, e, hp⟩ := h
    exact ⟨d, atI_nat e, hp⟩
  · rename_i n
    replace h := onNth_ex h
    obtain ⟨d, e, hp⟩ := h
    refine ⟨d, ?_, hp⟩
    have hl := (List.getElem?_eq_some_iff.mp e).1
    rw [List.length_reverse] at hl
    rw [List.getElem?_reverse hl] at e
    unfold L2.atI ixN
    have e1 : ¬ (0 ≤ Int.negSucc n) := by omega
    rw [if_neg e1]
    have e2 : -(ds.length : Int) ≤ Int.negSucc n := by omega
    rw [if_pos e2]
    have e3 : (Int.negSucc n + (ds.length : Int)).toNat = ds.length - 1 - n := by omega
    simp only [e3]
    exact e
theorem onAt_of {ds : List PyData} {i : Int} {P : PyData → Prop} {d : PyData} (e : atI ds i = some d) (h : P d) : onAt ds i P := by
  unfold L2.atI at e
  cases i with
  | ofNat n =>
    have hh : ixN ds.length (Int.ofNat n) = if n < ds.length then some n else none := by
      unfold ixN
      rw [if_pos (show (0 : Int) ≤ Int.ofNat n from Int.natCast_nonneg n)]
      by_cases hn : n < ds.length
      · rw [if_pos hn, if_pos (show Int.ofNat n < _ by show ((n : Nat) : Int) < _; omega)]
        rfl
      · rw [if_neg hn, if_neg (show ¬ Int.ofNat n < _ by show ¬ ((n : Nat) : Int) < _; omega)]
    rw [hh] at e
    split at e
    · exact onNth_of (by exact e) h
    · cases e
  | negSucc n =>
    unfold ixN at e
    rw [if_neg (by omega)] at e
    by_cases hn : -(ds.length : Int) ≤ Int.negSucc n
    · rw [if_pos hn] at e
      have e3 : (Int.negSucc n + (ds.length : Int)).toNat = ds.length - 1 - n := by omega
      simp only [e3] at e
      refine onNth_of (d := d) ?_ h
      rw [List.getElem?_reverse (by omega)]
      exact e
    · rw [if_neg hn] at e
      cases e
theorem onAt_last (l : List PyData) (a : PyData) (P : PyData → Prop) : onAt (l ++ [a]) (-1) P = P a := by
  show onNth (l ++ [a]).reverse 0 P = P a
  rw [List.reverse_append]
  rfl
def δIx : D2 := fun x y M Φ => onQ x M fun ds => onI y fun i => onAt ds i fun d => Φ (.dat d) M
theorem Dts.atI {K : PySem.W.Frag} {M : Mp} {H : Hp} {vs : List V} {ds : List PyData} {i : Int} {d : PyData} (h : Dts K M H vs ds) (e : L2.atI ds i = some d) : ∃ v, L2.atI vs i = some v ∧ Dt K M H v d := by
  unfold L2.atI at e ⊢
  rw [h.length]
  cases q : ixN ds.length i with
  | none => rw [q] at e; cases e
  | some j =>
    rw [q] at e
    exact h.get e
theorem de_ix {a b : Expr} {ta tb : DTE} (ha : DE X a ta) (hb : DE X b tb) (hs : PlainIx b := by intro _ _; rfl) : DE X (.Subscript a b pos) (dOp δIx ta tb) := by
  obtain ⟨ta', pa, qa⟩ := ha
  obtain ⟨tb', pb, qb⟩ := hb
  refine ⟨_, pe_ix ix_seq pa pb hs, Snd.opn qa qb fun v u H x y M Φ Q r rv ru h k => ?_⟩
  replace h := onQ_ex h
  obtain ⟨ds, hx, h⟩ := h
  replace h := onI_ex h
  obtain ⟨i, rfl, h⟩ := h
  replace h := onAt_ex h
  obtain ⟨d, hd, q⟩ := h
  cases ru.int
  rcases hx with rfl | rfl | ⟨l, rfl, hm⟩
  · obtain ⟨p, xs, rfl, h1, h2⟩ := rv.tup
    obtain ⟨w', e1, e2⟩ := h2.atI hd
    exact .inr (.inl ⟨p, xs, i, w', rfl, rfl, h1.sq, e1, k.dat r Step.refl e2 q⟩)
  · obtain ⟨p, xs, rfl, h1, h2⟩ := rv.lst
    obtain ⟨w', e1, e2⟩ := h2.atI hd
    exact .inl ⟨p, xs, i, w', rfl, rfl, h1.sq, e1, k.dat r Step.refl e2 q⟩
  · cases (show v = .ref l from rv)
    obtain ⟨vs, g1, g2⟩ := r.ls l ds hm
    obtain ⟨w', e1, e2⟩ := g2.atI hd
    exact .inl ⟨l, vs, i, w', rfl, rfl, SqL.of g1, e1, k.dat r Step.refl e2 q⟩
end

/-! ### calls of built-ins -/
abbrev D1 := List DV → Mp → DK → Prop
def CallD (X : Cx) (f : Value) (δ : D1) : Prop := ∃ r, CallR X f r ∧ ∀ vs H xs M Φ Q, DRel X.K M H → VRels X.K M H vs xs → δ xs M Φ → Rch X.K M H Φ Q → r vs H Q
def dCB (δ : D1) (t : DTA) : DTE := fun Δ M Φ => t Δ M fun xs M1 => δ xs M1 Φ
section
variable {X : Cx} {e : Expr} {es : List Expr} {t : DTA} {pos p : Pos} {x : Str} {id : String} {δ : D1}
theorem de_callB (hc : CallD X (.builtin id) δ) (hg : Gl X x) (hm : X.mg x = none) (hv : bootBuiltins x = some (.builtin id)) (ha : DA X (e :: es) t) (hn : x ≠ "__name__" := by decide) (hdb : (x == ("__debug__" : Str)) = false := by decide)
    (he : starEach (e :: es) X.env = (false, eval e X.env) :: starEach es X.env := by rfl) (hpl : (backTo pos (starEach es X.env)).any (·.1) = false := by rfl) : DE X (.Call (.Name x p) (e :: es) [] pos) (dCB δ t) := by
  obtain ⟨u, p, q⟩ := ha
  obtain ⟨r, hr, qr⟩ := hc
  refine ⟨_, pe_callB hr hg hm hv p hn hdb he hpl, fun σ H Δ M Φ Q r e h k => ?_⟩
  exact q σ H Δ M _ _ r e h fun vs H1 xs M1 r1 st rv hx => qr vs H1 xs M1 _ _ r1 rv hx (k.step st)
theorem de_callTy (hc : CallD X (.type id) δ) (hg : Gl X x) (hm : X.mg x = none) (hv : bootBuiltins x = some (.type id)) (ha : DA X (e :: es) t) (hn : x ≠ "__name__" := by decide) (hdb : (x == ("__debug__" : Str)) = false := by decide)
    (he : starEach (e :: es) X.env = (false, eval e X.env) :: starEach es X.env := by rfl) (hpl : (backTo pos (starEach es X.env)).any (·.1) = false := by rfl) : DE X (.Call (.Name x p) (e :: es) [] pos) (dCB δ t) := by
  obtain ⟨u, p, q⟩ := ha
  obtain ⟨r, hr, qr⟩ := hc
  refine ⟨_, pe_callTy hr hg hm hv p hn hdb he hpl, fun σ H Δ M Φ Q r e h k => ?_⟩
  exact q σ H Δ M _ _ r e h fun vs H1 xs M1 r1 st rv hx => qr vs H1 xs M1 _ _ r1 rv hx (k.step st)
theorem Paired.one {α β : Type} {F : α → β → Prop} {l : List α} {b : β} (h : Paired F l [b]) : ∃ a, l = [a] ∧ F a b := by
  cases h with
  | cons h1 h2 => cases h2; exact ⟨_, rfl, h1⟩
theorem Paired.two {α β : Type} {F : α → β → Prop} {l : List α} {b c : β} (h : Paired F l [b, c]) : ∃ a a', l = [a, a'] ∧ F a b ∧ F a' c := by
  cases h with
  | cons h1 h2 =>
    obtain ⟨a, rfl, h3⟩ := Paired.one h2
    exact ⟨_, a, rfl, h1, h3⟩
def δLen : D1 := fun xs M Φ => on1 xs fun x => onQ x M fun ds => Φ (.dat (.int ds.length)) M
theorem cd_len : CallD X (.builtin "len") δLen := by
  refine ⟨_, call_len_seq, fun vs H xs M Φ Q r rv h k => ?_⟩
  replace h := on1_ex h
  obtain ⟨x, rfl, h⟩ := h
  replace h := onQ_ex h
  obtain ⟨ds, hx, q⟩ := h
  have fin : Q (.int ds.length) H := k.dat r Step.refl (Dt.int _) q
  rcases hx with rfl | rfl | ⟨l, rfl, hm⟩
  · obtain ⟨v, rfl, h1⟩ := Paired.one rv
    obtain ⟨p, ys, rfl, g1, g2⟩ := VRel.tup h1
    exact ⟨p, ys, rfl, .inr g1.sq, by rw [g2.length]; exact fin⟩
  · obtain ⟨v, rfl, h1⟩ := Paired.one rv
    obtain ⟨p, ys, rfl, g1, g2⟩ := VRel.lst h1
    exact ⟨p, ys, rfl, .inl g1.sq, by rw [g2.length]; exact fin⟩
  · obtain ⟨v, rfl, h1⟩ := Paired.one rv
    cases (show v = .ref l from h1)
    obtain ⟨ws, g1, g2⟩ := r.ls l ds hm
    exact ⟨l, ws, rfl, .inl (SqL.of g1), by rw [g2.length]; exact fin⟩
def δLenS : D1 := fun xs M Φ => on1 xs fun x => onS x fun z => z.length ≤ sizeLine ∧ Φ (.dat (.int z.length)) M
theorem cd_lenS : CallD X (.builtin "len") δLenS := by
  refine ⟨_, call_len_str, fun vs H xs M Φ Q r rv h k => ?_⟩
  replace h := on1_ex h
  obtain ⟨x, rfl, h⟩ := h
  replace h := onS_ex h
  obtain ⟨z, rfl, hz, q⟩ := h
  obtain ⟨v, rfl, h1⟩ := Paired.one rv
  exact ⟨z, by rw [VRel.str h1], hz, k.dat r Step.refl (Dt.int _) q⟩
def δStrI : D1 := fun xs M Φ => on1 xs fun x => onI x fun i => i.natAbs.log2 < 1920 ∧ Φ (.dat (.str (toString i))) M
theorem cd_strI : CallD X (.type "str") δStrI := by
  refine ⟨_, call_str_int, fun vs H xs M Φ Q r rv h k => ?_⟩
  replace h := on1_ex h
  obtain ⟨x, rfl, h⟩ := h
  replace h := onI_ex h
  obtain ⟨i, rfl, hz, q⟩ := h
  obtain ⟨v, rfl, h1⟩ := Paired.one rv
  exact ⟨i, by rw [VRel.int h1], hz, k.dat r Step.refl (Dt.str _) q⟩
def δAbs : D1 := fun xs M Φ => on1 xs fun x => onI x fun i => Φ (.dat (.int (if i < 0 then -i else i))) M
theorem cd_abs : CallD X (.builtin "abs") δAbs := by
  refine ⟨_, call_abs, fun vs H xs M Φ Q r rv h k => ?_⟩
  replace h := on1_ex h
  obtain ⟨x, rfl, h⟩ := h
  replace h := onI_ex h
  obtain ⟨i, rfl, q⟩ := h
  obtain ⟨v, rfl, h1⟩ := Paired.one rv
  exact ⟨i, by rw [VRel.int h1], k.dat r Step.refl (Dt.int _) q⟩
def δ2I (g : Int → Int → Int) : D1 := fun xs M Φ => on2 xs fun x y => onI x fun i => onI y fun j => Φ (.dat (.int (g i j))) M
theorem cd_max2 (hc : X.calm = true) : CallD X (.builtin "max") (δ2I fun i j => max i j) := by
  refine ⟨_, call_max2 hc, fun vs H xs M Φ Q r rv h k => ?_⟩
  replace h := on2_ex h
  obtain ⟨x, y, rfl, h⟩ := h
  replace h := onI_ex h
  obtain ⟨i, rfl, h⟩ := h
  replace h := onI_ex h
  obtain ⟨j, rfl, q⟩ := h
  obtain ⟨v, u, rfl, h1, h2⟩ := Paired.two rv
  have e : (if j > i then j else i) = max i j := by rw [Int.max_def]; split <;> split <;> omega
  exact ⟨i, j, by rw [VRel.int h1, VRel.int h2], by rw [e]; exact k.dat r Step.refl (Dt.int _) q⟩
/-- list(t): data -/
def δListOf : D1 := fun xs M Φ => on1 xs fun x => onQ x M fun ds => Φ (.dat (.list ds)) M
theorem cd_listOf : CallD X (.type "list") δListOf := by
  refine ⟨_, call_list_of, fun vs H xs M Φ Q r rv h k => ?_⟩
  replace h := on1_ex h
  obtain ⟨x, rfl, h⟩ := h
  replace h := onQ_ex h
  obtain ⟨ds, hx, q⟩ := h
  rcases hx with rfl | rfl | ⟨l0, rfl, hm⟩
  · obtain ⟨v, rfl, h1⟩ := Paired.one rv
    obtain ⟨p, ys, rfl, g1, g2⟩ := VRel.tup h1
    exact ⟨p, ys, rfl, .inr g1.sq, fun l hl => k.dat (r.new hl) (Step.new hl) (Dt.newLst r hl g2) q⟩
  · obtain ⟨v, rfl, h1⟩ := Paired.one rv
    obtain ⟨p, ys, rfl, g1, g2⟩ := VRel.lst h1
    exact ⟨p, ys, rfl, .inl g1.sq, fun l hl => k.dat (r.new hl) (Step.new hl) (Dt.newLst r hl g2) q⟩
  · obtain ⟨v, rfl, h1⟩ := Paired.one rv
    cases (show v = .ref l0 from h1)
    obtain ⟨ws, g1, g2⟩ := r.ls l0 ds hm
    exact ⟨l0, ws, rfl, .inl (SqL.of g1), fun l hl => k.dat (r.new hl) (Step.new hl) (Dt.newLst r hl g2) q⟩
end
end DL

namespace DL
open PySem PySem.Spec PyProof.Rows L2
/-! ### data is read -/
mutual
def hasLst : PyData → Bool
  | .none | .bool _ | .int _ | .str _ => false
  | .list _ => true
  | .tuple xs => hasLstAll xs
  | .dict kvs => hasLstKv kvs
def hasLstAll : List PyData → Bool
  | [] => false
  | x :: xs => hasLst x || hasLstAll xs
def hasLstKv : List (PyData × PyData) → Bool
  | [] => false
  | (k, v) :: r => hasLst k || hasLst v || hasLstKv r
end
theorem hasLstKv_zip : ∀ (ks ds : List PyData), ks.length = ds.length → hasLstKv (ks.zip ds) = false → hasLstAll ds = false
  | [], [], _, _ => by simp [hasLstAll]
  | k :: ks, d :: ds, h, e => by
    rw [List.zip_cons_cons, hasLstKv] at e
    have e' : (hasLst k = false ∧ hasLst d = false) ∧ hasLstKv (ks.zip ds) = false := by simpa using e
    rw [hasLstAll, e'.1.2, hasLstKv_zip ks ds (by simpa using h) e'.2]; rfl
  | [], _ :: _, h, _ => by simp at h
  | _ :: _, [], h, _ => by simp at h
section
variable {X : Cx} {pins : List (Addr × Obj)} {σ : L2.St} {H : Hp} {s : Shared} {M : Mp}
theorem keys_read {h : Heap} {P : Program} {w : World} : ∀ {es : List DictEntry} {kvs : List (Key × Value)}, Pairs (mixKind P w) es kvs → ReadsAll h (es.map (·.key)) (kvs.map fun kv => kD kv.1) []
  | _, _, .nil => .nil
  | _, _, .cons (e := e) (kv := kv) h1 _ h3 => by
    rw [List.map_cons, List.map_cons]
    have hk : Reads h e.key (kD kv.1) [] := by
      rcases keyIs_shape (k := kv.1) (v := e.key) h1 with ⟨i, t, e1, e2⟩ | ⟨x, t, e1, e2⟩
      · rw [e1, e2]; exact .int i t
      · rw [e1, e2]; exact .str x t
    exact .cons (as := []) (bs := []) hk (keys_read h3)
theorem pairs_vals {P : Program} {w : World} : ∀ {es : List DictEntry} {kvs : List (Key × Value)}, Pairs (mixKind P w) es kvs → es.map (·.val) = kvs.map (·.2)
  | _, _, .nil => rfl
  | _, _, .cons h1 h2 h3 => by rw [List.map_cons, List.map_cons, h2, pairs_vals h3]
theorem KV.vals {kvs : List (Key × V)} {vs : List (Key × Value)} (r : KV kvs vs) : Vals (kvs.map (·.2)) (vs.map (·.2)) ∧ (kvs.map fun kv => kD kv.1) = vs.map fun kv => kD kv.1 := by
  unfold KV at r
  induction r with
  | nil => exact ⟨.nil, rfl⟩
  | cons h _ ih => exact ⟨.cons h.2 ih.1, by rw [List.map_cons, List.map_cons, h.1, ih.2]⟩
theorem kV_read {h : Heap} : ∀ {ks : List Key} {us : List Value}, Vals (ks.map kV) us → ReadsAll h us (ks.map kD) []
  | [], _, r => by rw [List.map_nil] at r; cases r; exact .nil
  | k :: ks, _, r => by
    rw [List.map_cons] at r
    cases r with
    | cons r1 r2 =>
      rw [List.map_cons]
      refine .cons (as := []) (bs := []) ?_ (kV_read r2)
      cases k with
      | inl i => obtain ⟨t, rfl⟩ := r1; exact .int i t
      | inr x => obtain ⟨t, rfl⟩ := r1; exact .str x t
theorem KT.read (I : Inv X pins σ H s) {kvs : List (List Key × V)} {xs : List (List Key × Addr × Value)} (r : KT H kvs xs) :
    ReadsAll s.heap (xs.map fun x => Value.ref x.2.1) (kvs.map fun kv => PyData.tuple (kv.1.map kD)) [] ∧ Vals (kvs.map (·.2)) (xs.map fun x => x.2.2) := by
  induction r with
  | nil => exact ⟨.nil, .nil⟩
  | @cons p q ps qs h _ ih =>
    obtain ⟨its, r, ⟨o, ho, hc, n, hd⟩, _⟩ := I.tuple (SqT.of (K := X.K) h.2.1)
    rw [List.map_cons, List.map_cons, List.map_cons, List.map_cons]
    exact ⟨.cons (as := []) (bs := []) (.tuple ho hc hd (by simpa using kV_read r)) ih.1, .cons h.2.2 ih.2⟩
mutual
theorem Dt.reads (I : Inv X pins σ H s) : ∀ {v : V} {d : PyData}, Dt X.K M H v d → ∀ {u : Value}, RelV v u → ∃ as, Reads s.heap u d as ∧ (hasLst d = false → sysModules ∉ as)
  | _, _, .non, _, r => by cases r; exact ⟨[], .none, fun _ h => nomatch h⟩
  | _, _, .bl b, _, r => by cases r; exact ⟨[], .bool b, fun _ h => nomatch h⟩
  | _, _, .int i, _, r => by obtain ⟨t, rfl⟩ := r; exact ⟨[], .int i t, fun _ h => nomatch h⟩
  | _, _, .str x, _, r => by obtain ⟨t, rfl⟩ := r; exact ⟨[], .str x t, fun _ h => nomatch h⟩
  | _, _, .tup h1 h2, _, r => by
    cases r
    obtain ⟨its, rv, ⟨o, ho, hc, n, hd⟩, _⟩ := I.tuple h1.sq
    obtain ⟨as, ra, hs⟩ := Dts.reads I h2 rv
    exact ⟨as, .tuple ho hc hd (by simpa using ra), fun h => hs (by simpa [hasLst] using h)⟩
  | _, _, .lst h1 h2, _, r => by
    cases r
    obtain ⟨its, rv, ⟨o, n, ho, hc, _, hd⟩, _⟩ := I.list h1.sq
    obtain ⟨as, ra, hs⟩ := Dts.reads I h2 rv
    exact ⟨_, .list ho hc hd (by simpa using ra), fun h => by simp [hasLst] at h⟩
  | _, _, .dK (a := a) (kvs := kvs) (ds := ds) h0 h1 h2, _, r => by
    cases r
    obtain ⟨_, hsys, vs, rel, o, es, ep, ho, hc, hd, _, hp, _⟩ := (show ObjOk X.prog X.w H s.heap a (.dK kvs) from I.hok a _ h1)
    obtain ⟨rv, hk⟩ := KV.vals rel
    obtain ⟨bs, rb, hs⟩ := Dts.reads I h2 rv
    have hl : (kvs.map fun kv => kD kv.1).length = ds.length := by rw [List.length_map, ← h2.length, List.length_map]
    refine ⟨a :: [] ++ bs, .dict (as := []) ho hc.1 hd ?_ ?_, fun h => ?_⟩
    · rw [List.map_fst_zip (Nat.le_of_eq hl), hk]
      exact keys_read hp
    · rw [List.map_snd_zip (Nat.le_of_eq hl.symm), pairs_vals hp]
      exact rb
    · have h' : hasLstAll ds = false := hasLstKv_zip _ _ hl (by rw [hasLst] at h; exact h)
      intro hm
      rcases List.mem_cons.mp hm with e | hm
      · rw [← e] at hsys
        simp at hsys
      · exact hs h' hm
  | _, _, .dT (a := a) (kvs := kvs) (ds := ds) h0 h1 h2, _, r => by
    cases r
    obtain ⟨_, hsys, xs, rel, o, es, ep, ho, hc, hd, he, _⟩ := (show ObjOk X.prog X.w H s.heap a (.dT kvs) from I.hok a _ h1)
    obtain ⟨rk, rv⟩ := KT.read I rel
    obtain ⟨bs, rb, hs⟩ := Dts.reads I h2 rv
    have hl : (kvs.map fun kv => PyData.tuple (kv.1.map kD)).length = ds.length := by rw [List.length_map, ← h2.length, List.length_map]
    refine ⟨a :: [] ++ bs, .dict (as := []) ho hc.1 hd ?_ ?_, fun h => ?_⟩
    · rw [List.map_fst_zip (Nat.le_of_eq hl), he, List.map_map]
      exact rk
    · rw [List.map_snd_zip (Nat.le_of_eq hl.symm), he, List.map_map]
      exact rb
    · have h' : hasLstAll ds = false := hasLstKv_zip _ _ hl (by rw [hasLst] at h; exact h)
      intro hm
      rcases List.mem_cons.mp hm with e | hm
      · rw [← e] at hsys
        simp at hsys
      · exact hs h' hm
  | _, _, .dX (a := a) (dk := dk) (d := d) h0 h1 hsys h3 h4 h5, _, r => by
    cases r
    obtain ⟨hφ, _⟩ := (show ObjOk X.prog X.w H s.heap a (.ext _) from I.hok a _ h1)
    obtain ⟨o, es, n, u, ho, hc, hd, ek, ev, ru⟩ := h3 s.heap hφ
    obtain ⟨as, ra, ha⟩ := Dt.reads I h4 (u := .ref _) rfl
    obtain ⟨bs, rb, hb⟩ := Dt.reads I h5 ru
    refine ⟨a :: (as ++ []) ++ (bs ++ []), .dict ho hc hd ?_ ?_, fun h => ?_⟩
    · rw [ek]; exact .cons ra .nil
    · rw [ev]; exact .cons rb .nil
    · have h' : hasLst dk = false ∧ hasLst d = false := by simpa [hasLst, hasLstKv] using h
      intro hm
      rw [List.append_nil, List.append_nil, List.cons_append] at hm
      rcases List.mem_cons.mp hm with e | hm
      · rw [← e] at hsys
        simp at hsys
      · rcases List.mem_append.mp hm with hm | hm
        · exact ha h'.1 hm
        · exact hb h'.2 hm
theorem Dts.reads (I : Inv X pins σ H s) : ∀ {vs : List V} {ds : List PyData}, Dts X.K M H vs ds → ∀ {us : List Value}, Vals vs us → ∃ as, ReadsAll s.heap us ds as ∧ (hasLstAll ds = false → sysModules ∉ as)
  | _, _, .nil, _, r => by cases r; exact ⟨[], .nil, fun _ h => nomatch h⟩
  | _, _, .cons (d := d) (ds := ds) h1 h2, _, r => by
    cases r with
    | cons r1 r2 =>
      obtain ⟨as, ra, ha⟩ := Dt.reads I h1 r1
      obtain ⟨bs, rb, hb⟩ := Dts.reads I h2 r2
      refine ⟨as ++ bs, .cons ra rb, fun h hm => ?_⟩
      have h' : hasLst d = false ∧ hasLstAll ds = false := by simpa [hasLstAll] using h
      rcases List.mem_append.mp hm with hm | hm
      · exact ha h'.1 hm
      · exact hb h'.2 hm
end
end
section
variable {X : Cx}
/-! ### repr -/
theorem call_reprD (hg : X.A.guards = some []) (hu : X.A.units + 100 < cLine) : CallR X (.builtin "repr") (fun xs H Q => ∃ v d M, xs = [v] ∧ Dt X.K M H v d ∧ d.showable = true ∧ (d.hasDict && hasLst d) = false ∧ d.depth ≤ 64 ∧
    d.shown.length ≤ sizeLine ∧ Q (.str d.shown) H) := by
  intro pins s σ H xs us Q I r h
  obtain ⟨v, d, M, rfl, hd, hs, hm, hdp, hz, q⟩ := h
  obtain ⟨u, rfl, ru⟩ := vals1 r
  have ref : ∀ a, u = .ref a → wpAny (model X.prog X.w) X.A (call (.builtin "repr") [u]) (EP X pins σ Q) X.xe s := fun a e => by
    obtain ⟨as, ra, hsm⟩ := hd.reads I ru
    subst e
    refine repr_of_reads' ra hs (fun hx => hsm ?_) hg (by omega) (fun _ _ e => e) (fun h' u tk k => ⟨.str d.shown, H, I.kept k, ⟨_, rfl⟩, q⟩) hz
    rw [hx, Bool.true_and] at hm
    exact hm
  cases hd with
  | non => cases ru; simp only [PyData.shown] at q; exact PySem.P.repr_of_none ⟨.str _, H, I.tok _, ⟨_, rfl⟩, q⟩
  | bl b => cases ru; simp only [PyData.shown] at q; exact PySem.P.repr_of_bool ⟨.str _, H, I.tok _, ⟨_, rfl⟩, q⟩
  | int i => obtain ⟨t, rfl⟩ := ru; simp only [PyData.shown] at q; exact PySem.P.repr_of_int (by simpa [PyData.showable] using hs) ⟨.str _, H, I.tok _, ⟨_, rfl⟩, q⟩
  | str x => obtain ⟨t, rfl⟩ := ru; simp only [PyData.shown] at q hz; exact PySem.P.repr_of_str ⟨.str _, H, I.tok _, ⟨_, rfl⟩, q⟩ hz
  | tup _ _ => exact ref _ ru
  | lst _ _ => exact ref _ ru
  | dK _ _ _ => exact ref _ ru
  | dT _ _ _ => exact ref _ ru
  | dX _ _ _ _ _ _ => exact ref _ ru
/-- data whose text can be shown -/
structure Shw (d : PyData) : Prop where
  s : d.showable = true
  m : (d.hasDict && hasLst d) = false
  dp : d.depth ≤ 64
  z : d.shown.length ≤ sizeLine
def δRepr : D1 := fun xs M Φ => on1 xs fun x => onD x fun d => Shw d ∧ Φ (.dat (.str d.shown)) M
theorem cd_repr {k : Nat} (hr : Room k X.A) : CallD X (.builtin "repr") δRepr := by
  refine ⟨_, call_reprD hr.gd (by have := hr.un; omega), fun vs H xs M Φ Q r rv h k => ?_⟩
  replace h := on1_ex h
  obtain ⟨x, rfl, h⟩ := h
  replace h := onD_ex h
  obtain ⟨d, rfl, hs, q⟩ := h
  obtain ⟨v, rfl, h1⟩ := Paired.one rv
  exact ⟨v, d, M, rfl, h1, hs.s, hs.m, hs.dp, hs.z, k.dat r Step.refl (Dt.str _) q⟩
/-! ### isinstance -/
def tyN : PyData → String
  | .none => "NoneType"
  | .bool _ => "bool"
  | .int _ => "int"
  | .str _ => "str"
  | .list _ => "list"
  | .tuple _ => "tuple"
  | .dict _ => "dict"
theorem call_isiD : CallR X (.builtin "isinstance") (fun xs H Q => ∃ v d M T b, xs = [v, .ty T] ∧ Dt X.K M H v d ∧ PySem.W.kitOne X.K (.type (tyN d)) (.type T) = some b ∧ Q (.bl b) H) := by
  intro pins s σ H xs us Q I r h
  obtain ⟨v, d, M, T, b, rfl, hd, e, q⟩ := h
  obtain ⟨u, w', rfl, ru, rt⟩ := vals2 r
  cases (show w' = Value.type T from rt)
  have fin : ∀ tk, EP X pins σ Q (.bool b) { s with toks := tk } := fun tk => ⟨.bl b, H, I.tok tk, rfl, q⟩
  cases hd with
  | non => cases ru; exact PySem.W.kia_one PySem.W.kitx_none I.kIn True.intro e (fun z => nomatch z) fin
  | bl y => cases ru; exact PySem.W.kia_one PySem.W.kitx_bool I.kIn True.intro e (fun z => nomatch z) fin
  | int i => obtain ⟨t, rfl⟩ := ru; exact PySem.W.kia_one PySem.W.kitx_int I.kIn True.intro e (fun z => nomatch z) fin
  | str y => obtain ⟨t, rfl⟩ := ru; exact PySem.W.kia_one PySem.W.kitx_str I.kIn True.intro e (fun z => nomatch z) fin
  | tup h1 _ =>
    cases ru
    obtain ⟨_, _, ⟨o, ho, hc, _⟩, _⟩ := I.tuple h1.sq
    exact PySem.W.kia_one PySem.W.kitx_tuple I.kIn ⟨o, ho, hc⟩ e (fun z => nomatch z) fin
  | lst h1 _ =>
    cases ru
    obtain ⟨_, _, ⟨o, n, ho, hc, _⟩, _⟩ := I.list h1.sq
    exact PySem.W.kia_one PySem.W.kitx_list I.kIn ⟨o, ho, hc⟩ e (fun z => nomatch z) fin
  | dK _ h1 _ =>
    cases ru
    obtain ⟨_, _, vs, _, p⟩ := (show ObjOk X.prog X.w H s.heap _ (.dK _) from I.hok _ _ h1)
    obtain ⟨o, es, ep, g1, g2, _⟩ := p
    exact PySem.W.kia_one PySem.W.kitx_dict I.kIn ⟨o, g1, g2.1⟩ e (fun z => nomatch z) fin
  | dT _ h1 _ =>
    cases ru
    obtain ⟨_, _, xs, _, o, es, ep, g1, g2, _⟩ := (show ObjOk X.prog X.w H s.heap _ (.dT _) from I.hok _ _ h1)
    exact PySem.W.kia_one PySem.W.kitx_dict I.kIn ⟨o, g1, g2.1⟩ e (fun z => nomatch z) fin
  | dX _ h1 _ h3 _ _ =>
    cases ru
    obtain ⟨hφ, _⟩ := (show ObjOk X.prog X.w H s.heap _ (.ext _) from I.hok _ _ h1)
    obtain ⟨o, es, n, u, ho, hc, _⟩ := h3 s.heap hφ
    exact PySem.W.kia_one PySem.W.kitx_dict I.kIn ⟨o, ho, hc⟩ e (fun z => nomatch z) fin
def isTyp (T : String) (d : PyData) : Bool := tyN d == T || (T == "int" && tyN d == "bool")
theorem kit_int (K : PySem.W.Frag) (d : PyData) : PySem.W.kitOne K (.type (tyN d)) (.type "int") = some (isTyp "int" d) := by cases d <;> rfl
theorem kit_bool (K : PySem.W.Frag) (d : PyData) : PySem.W.kitOne K (.type (tyN d)) (.type "bool") = some (isTyp "bool" d) := by cases d <;> rfl
theorem kit_tuple (K : PySem.W.Frag) (d : PyData) : PySem.W.kitOne K (.type (tyN d)) (.type "tuple") = some (isTyp "tuple" d) := by cases d <;> rfl
theorem kit_str (K : PySem.W.Frag) (d : PyData) : PySem.W.kitOne K (.type (tyN d)) (.type "str") = some (isTyp "str" d) := by cases d <;> rfl
def δIsi (T : String) : D1 := fun xs M Φ => match xs with | [.dat d, .ty t] => t = T ∧ Φ (.dat (.bool (isTyp T d))) M | _ => False
theorem cd_isi {T : String} (ht : ∀ d, PySem.W.kitOne X.K (.type (tyN d)) (.type T) = some (isTyp T d)) : CallD X (.builtin "isinstance") (δIsi T) := by
  refine ⟨_, call_isiD, fun vs H xs M Φ Q r rv h k => ?_⟩
  replace h : ∃ d, xs = [.dat d, .ty T] ∧ Φ (.dat (.bool (isTyp T d))) M := by
    unfold δIsi at h
    split at h
    · exact ⟨_, by rw [h.1], h.2⟩
    · exact h.elim
  obtain ⟨d, rfl, q⟩ := h
  obtain ⟨v, u, rfl, h1, h2⟩ := Paired.two rv
  cases (show u = .ty T from h2)
  exact ⟨v, d, M, T, _, rfl, h1, ht d, k.dat r Step.refl (Dt.bl _) q⟩
/-! ### ==, != -/
theorem op_eqD (hu : X.A.units + 64 < cLine) : OpR X (compareOp .Eq) (fun x y H Q => ∃ M d e, Dt X.K M H x d ∧ Dt X.K M H y e ∧ d.canLay0 = true ∧ e.canLay0 = true ∧ min d.depth e.depth ≤ 64 ∧ Q (.bl (PyData.eqv d e)) H) := by
  intro pins s σ H x y v u Q I rx ry h
  obtain ⟨M, d, e, h1, h2, c1, c2, hdp, q⟩ := h
  obtain ⟨as, ra, _⟩ := h1.reads I rx
  obtain ⟨bs, rb, _⟩ := h2.reads I ry
  exact PySem.SeqAt.compareEq_reads ra rb c1 c2 (by omega) ⟨.bl _, H, I, rfl, q⟩
theorem op_neD (hu : X.A.units + 64 < cLine) : OpR X (compareOp .NotEq) (fun x y H Q => ∃ M d e, Dt X.K M H x d ∧ Dt X.K M H y e ∧ d.canLay0 = true ∧ e.canLay0 = true ∧ min d.depth e.depth ≤ 64 ∧ Q (.bl (!PyData.eqv d e)) H) := by
  intro pins s σ H x y v u Q I rx ry h
  obtain ⟨M, d, e, h1, h2, c1, c2, hdp, q⟩ := h
  obtain ⟨as, ra, _⟩ := h1.reads I rx
  obtain ⟨bs, rb, _⟩ := h2.reads I ry
  exact PySem.SeqAt.compareNe_reads ra rb c1 c2 (by omega) ⟨.bl _, H, I, rfl, q⟩
/-- may be compared -/
def okEq (d e : PyData) : Bool := d.canLay0 && e.canLay0 && Nat.ble (min d.depth e.depth) 64
def eqD : PyData → PyData → (Bool → Prop) → Prop
  | .int i, .int j, P => P (decide (i = j))
  | .str s, .str t, P => P (decide (s = t))
  | .bool a, .bool b, P => P (a == b)
  | d, e, P => okEq d e = true ∧ P (PyData.eqv d e)
theorem eqD_ex {d e : PyData} {P : Bool → Prop} (h : eqD d e P) : (d.canLay0 = true ∧ e.canLay0 = true ∧ min d.depth e.depth ≤ 64 ∧ P (PyData.eqv d e)) ∨ ∃ s t, d = .str s ∧ e = .str t ∧ P (decide (s = t)) := by
  unfold eqD at h
  split at h
  · refine .inl ⟨by simp [PyData.canLay0], by simp [PyData.canLay0], by simp [PyData.depth], ?_⟩
    simp only [PyData.eqv]
    rw [Bool.beq_eq_decide_eq]
    exact h
  · exact .inr ⟨_, _, rfl, rfl, h⟩
  · refine .inl ⟨by simp [PyData.canLay0], by simp [PyData.canLay0], by simp [PyData.depth], ?_⟩
    simp only [PyData.eqv]
    exact h
  · have h1 := h.1
    unfold okEq at h1
    simp only [Bool.and_eq_true] at h1
    exact .inl ⟨h1.1.1, h1.1.2, Nat.le_of_ble_eq_true h1.2, h.2⟩
theorem op_or {f : Value → Value → Sem Value} {r1 r2 : R2} (h1 : OpR X f r1) (h2 : OpR X f r2) : OpR X f (fun x y H Q => r1 x y H Q ∨ r2 x y H Q) :=
  fun pins s σ H x y v u Q I rx ry h => h.elim (h1 pins s σ H x y v u Q I rx ry) (h2 pins s σ H x y v u Q I rx ry)
def δEq : D2 := fun x y M Φ => onD x fun d => onD y fun e => eqD d e fun b => Φ (.dat (.bool b)) M
def δNe : D2 := fun x y M Φ => onD x fun d => onD y fun e => eqD d e fun b => Φ (.dat (.bool (!b))) M
theorem od_eq {k : Nat} (hr : Room k X.A) : OpD X (compareOp .Eq) δEq :=
  ⟨_, op_or (op_eqD hr.units) op_eq, fun v u H x y M Φ Q r rv ru h k => by
    obtain ⟨d, e1, h⟩ := onD_ex h
    obtain ⟨e, e2, h⟩ := onD_ex h
    subst e1 e2
    rcases eqD_ex h with ⟨c1, c2, hdp, q⟩ | ⟨s, t, rfl, rfl, q⟩
    · exact .inl ⟨M, d, e, rv, ru, c1, c2, hdp, k.dat r Step.refl (Dt.bl _) q⟩
    · have q' : Q (.bl (decide (s = t))) H := k.dat r Step.refl (Dt.bl _) q
      refine .inr ⟨by rw [rv.str, ru.str]; rfl, ?_⟩
      rw [rv.str, ru.str, dec_str, Bool.beq_eq_decide_eq]
      exact q'⟩
theorem od_ne {k : Nat} (hr : Room k X.A) : OpD X (compareOp .NotEq) δNe :=
  ⟨_, op_or (op_neD hr.units) op_ne, fun v u H x y M Φ Q r rv ru h k => by
    obtain ⟨d, e1, h⟩ := onD_ex h
    obtain ⟨e, e2, h⟩ := onD_ex h
    subst e1 e2
    rcases eqD_ex h with ⟨c1, c2, hdp, q⟩ | ⟨s, t, rfl, rfl, q⟩
    · exact .inl ⟨M, d, e, rv, ru, c1, c2, hdp, k.dat r Step.refl (Dt.bl _) q⟩
    · have q' : Q (.bl (!decide (s = t))) H := k.dat r Step.refl (Dt.bl _) q
      refine .inr ⟨by rw [rv.str, ru.str]; rfl, ?_⟩
      rw [rv.str, ru.str, dec_str, Bool.beq_eq_decide_eq]
      exact q'⟩
/-! != of texts (any size) -/
def δNeS : D2 := fun x y M Φ => onS x fun s => onS y fun t => Φ (.dat (.bool (!decide (s = t)))) M
theorem od_neS : OpD X (compareOp .NotEq) δNeS :=
  ⟨_, op_ne, fun v u H x y M Φ Q r rv ru h k => by
    obtain ⟨s, e1, h⟩ := onS_ex h
    obtain ⟨t, e2, q⟩ := onS_ex h
    subst e1 e2
    have q' : Q (.bl (!decide (s = t))) H := k.dat r Step.refl (Dt.bl _) q
    refine ⟨by rw [rv.str, ru.str]; rfl, ?_⟩
    rw [rv.str, ru.str, dec_str, Bool.beq_eq_decide_eq]
    exact q'⟩
def δEqS : D2 := fun x y M Φ => onS x fun s => onS y fun t => Φ (.dat (.bool (decide (s = t)))) M
/-! ### slices of tuples -/
abbrev DTO := DSt → Mp → (Option Int → Mp → Prop) → Prop
def DO (X : Cx) (e : Option Expr) (τ : DTO) : Prop := ∃ t, PO X e t ∧ ∀ σ H Δ M Φ (Q : Option Int → Hp → Prop), DRel X.K M H → ERel X.K M H σ Δ → τ Δ M Φ → (∀ o H' M', DRel X.K M' H' → Step M H M' H' → Φ o M' → Q o H') → t σ H Q
def dNoPart : DTO := fun _ M Φ => Φ none M
def dPart (t : DTE) : DTO := fun Δ M Φ => t Δ M fun x M1 => onI x fun i => Φ (some i) M1
theorem do_none : DO X none dNoPart := ⟨_, po_none, fun _ H _ M _ _ r _ h k => k none H M r Step.refl h⟩
theorem do_some {e : Expr} {te : DTE} (h : DE X e te) : DO X (some e) (dPart te) := by
  obtain ⟨t, p, q⟩ := h
  refine ⟨_, po_some p, fun σ H Δ M Φ Q r e h k => ?_⟩
  refine q σ H Δ M _ _ r e h fun v H1 x M1 r1 st rv hx => ?_
  replace hx := onI_ex hx
  obtain ⟨i, rfl, hx⟩ := hx
  exact ⟨i, rv.int, k _ H1 M1 r1 st hx⟩
def cutD (xs : List PyData) (lo hi : Option Int) : List PyData := (xs.drop (HT.sIx xs.length 0 lo)).take (HT.sIx xs.length xs.length hi - HT.sIx xs.length 0 lo)
theorem Dts.cut {K : PySem.W.Frag} {M : Mp} {H : Hp} {vs : List V} {ds : List PyData} (h : Dts K M H vs ds) (lo hi : Option Int) : Dts K M H (cutV vs lo hi) (cutD ds lo hi) := by
  unfold cutV cutD
  rw [h.length]
  exact (h.drop _).take _
def dSlT (te : DTE) (tl th : DTO) : DTE := fun Δ M Φ => te Δ M fun x M1 => tl Δ M1 fun l M2 => th Δ M2 fun u M3 => onT x fun ds => ¬ (HT.sIx ds.length 0 l = 0 ∧ HT.sIx ds.length ds.length u = ds.length) ∧ Φ (.dat (.tuple (cutD ds l u))) M3
end
end DL

namespace DL
open PySem PySem.Spec PyProof.Rows L2
/-! ### statements -/
def dNext : DTS := fun D Δ M => D.nx Δ M
def dSeq (t u : DTS) : DTS := fun D Δ M => t { D with nx := u D } Δ M
section
variable {X : Cx} {st : Stmt} {rest : List Stmt} {t u : DTS} {e : Expr} {te : DTE} {pos : Pos}
theorem dss_nil : DSs X [] dNext := ⟨_, pss_nil, fun σ H Δ M D E r e h k => k.nx σ H Δ M r Step.refl e h⟩
theorem dss_cons (h1 : DS X st t) (h2 : DSs X rest u) : DSs X (st :: rest) (dSeq t u) := by
  obtain ⟨t1, p1, q1⟩ := h1
  obtain ⟨t2, p2, q2⟩ := h2
  refine ⟨_, pss_cons p1 p2, fun σ H Δ M D E r e h k => ?_⟩
  refine q1 σ H Δ M { D with nx := u D } { E with nx := t2 E } r e h ⟨fun σ' H' Δ' M' r' st' e' hn => ?_, k.rt, k.bk, k.ct⟩
  exact q2 σ' H' Δ' M' D E r' e' hn (k.step st')
theorem dss_one (h1 : DS X st t) : DSs X [st] t := by
  obtain ⟨t1, p1, q1⟩ := h1
  exact ⟨_, pss_one p1, q1⟩
def dBreak : DTS := fun D Δ M => D.bk Δ M
def dCont : DTS := fun D Δ M => D.ct Δ M
def dDrop (te : DTE) : DTS := fun D Δ M => te Δ M fun _ M1 => D.nx Δ M1
theorem ds_expr (he : DE X e te) (hs : swapsWith e none pos.line X.env = pure false := by rfl) : DS X (.Expr e pos) (dDrop te) := by
  obtain ⟨t, p, q⟩ := he
  refine ⟨_, ps_expr p hs, fun σ H Δ M D E r e h k => ?_⟩
  exact q σ H Δ M _ _ r e h fun v H1 x M1 r1 st rv hx => k.nx σ H1 Δ M1 r1 st (e.step st) hx
def dRet (te : DTE) : DTS := fun D Δ M => te Δ M D.rt
theorem ds_ret (he : DE X e te) : DS X (.Return (some e) pos) (dRet te) := by
  obtain ⟨t, p, q⟩ := he
  exact ⟨_, ps_ret p, fun σ H Δ M D E r e h k => q σ H Δ M _ _ r e h k.rt⟩
def dRetN : DTS := fun D _ M => D.rt (.dat .none) M
def dIfS (c : DTT) (t u : DTS) : DTS := fun D Δ M => c Δ M fun b M1 => if b = true then t D Δ M1 else u D Δ M1
theorem ds_if {c : Expr} {a b : List Stmt} {tc : DTT} (hc : DT X c tc) (ha : DSs X a t) (hb : DSs X b u) : DS X (.If c a b pos) (dIfS tc t u) := by
  obtain ⟨t0, p0, q0⟩ := hc
  obtain ⟨t1, p1, q1⟩ := ha
  obtain ⟨t2, p2, q2⟩ := hb
  refine ⟨_, ps_if p0 p1 p2, fun σ H Δ M D E r e h k => ?_⟩
  refine q0 σ H Δ M _ _ r e h fun c H1 M1 r1 st hc => ?_
  cases c with
  | true => rw [if_pos rfl]; exact q1 σ H1 Δ M1 D E r1 (e.step st) (by simpa using hc) (k.step st)
  | false => rw [if_neg Bool.false_ne_true]; exact q2 σ H1 Δ M1 D E r1 (e.step st) (by simpa using hc) (k.step st)
/-! ### targets -/
abbrev DTG := DV → DSt → Mp → (DSt → Mp → Prop) → Prop
abbrev DTGs := List DV → DSt → Mp → (DSt → Mp → Prop) → Prop
def DG (X : Cx) (tg : Expr) (τ : DTG) : Prop := ∃ t, PG X tg t ∧ ∀ v σ H x Δ M Φ (Q : L2.St → Hp → Prop), DRel X.K M H → ERel X.K M H σ Δ → VRel X.K M H v x → τ x Δ M Φ →
  (∀ σ' H' Δ' M', DRel X.K M' H' → Step M H M' H' → ERel X.K M' H' σ' Δ' → Φ Δ' M' → Q σ' H') → t v σ H Q
def DGs (X : Cx) (ts : List Expr) (τ : DTGs) : Prop := ∃ t, PGs X ts t ∧ ∀ vs σ H xs Δ M Φ (Q : L2.St → Hp → Prop), DRel X.K M H → ERel X.K M H σ Δ → VRels X.K M H vs xs → τ xs Δ M Φ →
  (∀ σ' H' Δ' M', DRel X.K M' H' → Step M H M' H' → ERel X.K M' H' σ' Δ' → Φ Δ' M' → Q σ' H') → t vs σ H Q
def dgName (i : Nat) : DTG := fun x Δ M Φ => Φ (Δ.set i (some x)) M
theorem dg_name (i : Nat) {x : Str} (hN : X.N.Nodup) (hi : X.N[i]? = some x := by rfl) (hx : Loc X.env.scope x := by first | exact Or.inl rfl | exact Or.inr rfl) (hf : X.fn x = true ∨ X.env.scope.names.lookup x = some .local := by first | exact .inl rfl | exact .inr rfl | assumption) :
    DG X (.Name x pos) (dgName i) :=
  ⟨_, pg_name hN hi hx hf, fun v σ H x Δ M Φ Q r e rv h k => k _ H _ M r Step.refl (e.set rv) h⟩
def dgNil : DTGs := fun xs Δ M Φ => match xs with | [] => Φ Δ M | _ => False
def dgCons (t : DTG) (u : DTGs) : DTGs := fun xs Δ M Φ => match xs with | x :: r => t x Δ M fun Δ' M' => u r Δ' M' Φ | [] => False
theorem dgs_nil : DGs X [] dgNil := ⟨_, pgs_nil, fun vs σ H xs Δ M Φ Q r e rv h k => by
  cases xs with
  | cons x r => exact h.elim
  | nil =>
  have h2 : Φ Δ M := h
  cases rv
  exact ⟨rfl, k σ H Δ M r Step.refl e h2⟩⟩
theorem dgs_cons {es : List Expr} {t : DTG} {u : DTGs} (h1 : DG X e t) (h2 : DGs X es u)
    (hs : (assignEach (e :: es) X.env).map (·.2) = assign e X.env :: (assignEach es X.env).map (·.2) := by rfl) : DGs X (e :: es) (dgCons t u) := by
  obtain ⟨t1, p1, q1⟩ := h1
  obtain ⟨t2, p2, q2⟩ := h2
  refine ⟨_, pgs_cons p1 p2 hs, fun vs σ H xs Δ M Φ Q r e rv h k => ?_⟩
  obtain ⟨x, xr, e1, h⟩ : ∃ x xr, xs = x :: xr ∧ t x Δ M fun Δ' M' => u xr Δ' M' Φ := by
    cases xs with
    | nil => exact h.elim
    | cons x xr => exact ⟨x, xr, rfl, h⟩
  subst e1
  cases rv with
  | cons ra rr =>
    refine ⟨_, _, rfl, q1 _ σ H x Δ M _ _ r e ra h fun σ' H' Δ' M' r' st e' h' => ?_⟩
    exact q2 _ σ' H' xr Δ' M' Φ Q r' e' (VRels.step rr st) h' fun σ2 H2 Δ2 M2 r2 st2 e2 hΦ => k σ2 H2 Δ2 M2 r2 (st.trans st2) e2 hΦ
/-- just n of them -/
def onNs : Nat → List PyData → (List DV → Prop) → Prop
  | 0, [], P => P []
  | n + 1, d :: r, P => onNs n r fun xs => P (.dat d :: xs)
  | 0, _ :: _, _ => False
  | _ + 1, [], _ => False
theorem onNs_ex : ∀ {n : Nat} {ds : List PyData} {P : List DV → Prop}, onNs n ds P → ds.length = n ∧ P (ds.map DV.dat)
  | 0, [], _, h => ⟨rfl, h⟩
  | n + 1, d :: r, P, h => by
    obtain ⟨a, b⟩ := onNs_ex (n := n) (ds := r) h
    exact ⟨by rw [List.length_cons, a], b⟩
  | 0, _ :: _, _, h => h.elim
  | _ + 1, [], _, h => h.elim
def dgTup (n : Nat) (t : DTGs) : DTG := fun x Δ M Φ => onT x fun ds => onNs n ds fun xs => t xs Δ M Φ
theorem Dts.vrels {K : PySem.W.Frag} {M : Mp} {H : Hp} : ∀ {vs : List V} {ds : List PyData}, Dts K M H vs ds → VRels K M H vs (ds.map DV.dat)
  | _, _, .nil => .nil
  | _, _, .cons h1 h2 => .cons h1 (Dts.vrels h2)
theorem dg_tup {es : List Expr} {k : Nat} {t : DTGs} {n : Nat} (hc : X.calm = true) (h : DGs X es t) (hn : (assignEach es X.env).length = n := by rfl) (hst : (assignEach es X.env).findIdx? (·.1) = none := by rfl) : DG X (.Tuple es k pos) (dgTup n t) := by
  obtain ⟨t1, p1, q1⟩ := h
  refine ⟨_, pg_tup hc p1 hn hst, fun v σ H x Δ M Φ Q r e rv h k => ?_⟩
  replace h := onT_ex h
  obtain ⟨ds, rfl, h⟩ := h
  replace h := onNs_ex h
  obtain ⟨hl, h⟩ := h
  obtain ⟨a, xs, rfl, h1, h2⟩ := rv.tup
  exact ⟨a, xs, rfl, h1.sq, by rw [h2.length]; exact hl, q1 xs σ H _ Δ M Φ Q r e h2.vrels h k⟩
/-- l[i] = v of an owned list -/
def dgSub (to ti : DTE) : DTG := fun x Δ M Φ => to Δ M fun o M1 => ti Δ M1 fun i M2 => onO o fun l => onI i fun k => onD x fun d => onOL (M2 l) fun ds => ∃ j, ixN ds.length k = some j ∧ Φ Δ (mset M2 l (.lst (ds.set j d)))
theorem dg_sub {o i : Expr} {to ti : DTE} (ho : DE X o to) (hi : DE X i ti)
    (ha : ∀ v, assign (.Subscript o i pos) X.env v = (do
      let ov ← holding [v] (eval o X.env)
      let iv ← holding [v, ov] (eval i X.env)
      standAt pos
      holding [v, ov, iv] (setItem ov iv v)
      release [v, ov, iv] []) := by intro _; rfl) : DG X (.Subscript o i pos) (dgSub to ti) := by
  obtain ⟨t1, p1, q1⟩ := ho
  obtain ⟨t2, p2, q2⟩ := hi
  refine ⟨_, pg_sub p1 p2 set_list ha, fun v σ H x Δ M Φ Q r e rv h k => ?_⟩
  refine Snd.bin q1 q2 r e h fun w1 w2 H2 o' i' M2 r2 st ro ri hs => ?_
  replace hs := onO_ex hs
  obtain ⟨l, rfl, hs⟩ := hs
  replace hs := onI_ex hs
  obtain ⟨kk, rfl, hs⟩ := hs
  replace hs := onD_ex hs
  obtain ⟨d, rfl, hs⟩ := hs
  replace hs := onOL_ex hs
  obtain ⟨ds, hm, j, hj, hΦ⟩ := hs
  obtain ⟨vs, g1, g2⟩ := r2.ls l ds hm
  cases (show w1 = .ref l from ro)
  have rv2 : Dt X.K M2 H2 v d := Dt.step st rv
  have st2 : Step M2 H2 (mset M2 l (.lst (ds.set j d))) (upd H2 l (.lst (vs.set j v))) := Step.ownPut hm
  refine ⟨l, vs, kk, j, rfl, ri.int, g1, by rw [g2.length]; exact hj, ?_⟩
  exact k σ _ Δ _ (r2.ownSet st2 (g2.set rv2 j)) (st.trans st2) (e.step (st.trans st2)) hΦ
def dAsg (te : DTE) (g : DTG) : DTS := fun D Δ M => te Δ M fun x M1 => g x Δ M1 D.nx
theorem ds_asg {tg : Expr} {g : DTG} (he : DE X e te) (hg : DG X tg g) (hs : swapsWithSole [tg] e pos.line X.env = pure false := by rfl) (hw : swappedStores [tg] e X.env = pure none := by rfl)
    (h1 : (assignEach [tg] X.env).map (·.2) = [assign tg X.env] := by rfl) : DS X (.Assign [tg] e pos) (dAsg te g) := by
  obtain ⟨t1, p1, q1⟩ := he
  obtain ⟨t2, p2, q2⟩ := hg
  refine ⟨_, ps_asg p1 p2 hs hw h1, fun σ H Δ M D E r e h k => ?_⟩
  refine q1 σ H Δ M _ _ r e h fun v H1 x M1 r1 st rv hx => ?_
  exact q2 v σ H1 x Δ M1 _ _ r1 (e.step st) rv hx fun σ' H' Δ' M' r' st' e' hn => k.nx σ' H' Δ' M' r' (st.trans st') e' hn
theorem ds_set (i : Nat) {x : Str} {pos' : Pos} (hN : X.N.Nodup) (he : DE X e te) (hi : X.N[i]? = some x := by rfl) (hx : Loc X.env.scope x := by first | exact Or.inl rfl | exact Or.inr rfl) (hs : swapsWith e (some (.Name x pos')) pos.line X.env = pure false := by rfl)
    (hf : X.fn x = true ∨ X.env.scope.names.lookup x = some .local := by first | exact .inl rfl | exact .inr rfl | assumption) : DS X (.Assign [.Name x pos'] e pos) (dAsg te (dgName i)) := by
  obtain ⟨t1, p1, q1⟩ := he
  refine ⟨_, ps_set hN hi hx p1 hs hf, fun σ H Δ M D E r e h k => ?_⟩
  refine q1 σ H Δ M _ _ r e h fun v H1 x M1 r1 st rv hx => ?_
  exact k.nx _ H1 _ M1 r1 st ((e.step st).set rv) hx
/-- l.append(e) of an owned list -/
def dAppend (to te : DTE) : DTE := fun Δ M Φ => to Δ M fun x M1 => onO x fun l => onOL (M1 l) fun _ => te Δ M1 fun y M2 => onD y fun d => onOL (M2 l) fun ds => ds.length < sizeLine ∧ Φ (.dat .none) (mset M2 l (.lst (ds ++ [d])))
theorem de_append {o : Expr} {to : DTE} {apos cpos : Pos} (ho : DE X o to) (he : DE X e te) (hbase : attributeBase o "append" X.env (eval o X.env) = eval o X.env := by rfl)
    (hfew : ((backTo cpos (starEach [e] X.env)).all (fun x => !x.1) && (backToKw cpos (keywordEach [] X.env)).all (fun x => x.1.isSome)
      && decide ([e].length + ([] : List Keyword).length + (if ([] : List Keyword).isEmpty then 0 else 1) < 30)) = true := by rfl)
    (hline : (apos.endLine == cpos.line) = true := by rfl) (hs : starEach [e] X.env = (false, eval e X.env) :: starEach [] X.env := by rfl) (hplain : (backTo cpos (starEach [] X.env)).any (·.1) = false := by rfl) :
    DE X (.Call (.Attribute o "append" apos) [e] [] cpos) (dAppend to te) := by
  obtain ⟨t1, p1, q1⟩ := ho
  obtain ⟨t2, p2, q2⟩ := he
  refine ⟨_, pe_bm PySem.F.plainAttrs_list PySem.F.slot_list_append PySem.F.type_list_append mt_append p1 (pa_cons p2 pa_nil hs) hbase hfew hline hs hplain, fun σ H Δ M Φ Q r e h k => ?_⟩
  refine q1 σ H Δ M _ _ r e h fun v H1 x M1 r1 st rv hx => ?_
  replace hx := onO_ex hx
  obtain ⟨l, rfl, hx⟩ := hx
  replace hx := onOL_ex hx
  obtain ⟨oo, ho, hx⟩ := hx
  cases (show v = .ref l from rv)
  have ty : tyV X.K "list" (.ref l) H1 := by
    obtain ⟨vs, g1, _⟩ := r1.ls l oo ho
    exact .inl ⟨rfl, vs, SqL.of g1⟩
  refine ⟨ty, q2 σ H1 Δ M1 _ _ r1 (e.step st) hx fun w H2 y M2 r2 st2 rw2 hy => ?_⟩
  replace hy := onD_ex hy
  obtain ⟨d, rfl, hy⟩ := hy
  replace hy := onOL_ex hy
  obtain ⟨ds, hm, hz, hy⟩ := hy
  obtain ⟨vs, g1, g2⟩ := r2.ls l ds hm
  have st3 : Step M2 H2 (mset M2 l (.lst (ds ++ [d]))) (upd H2 l (.lst (vs ++ [w]))) := Step.ownPut hm
  refine ⟨l, vs, w, rfl, rfl, g1, by rw [g2.length]; exact hz, ?_⟩
  exact k.dat (r2.ownSet st3 (g2.append (.cons rw2 .nil))) (st.trans (st2.trans st3)) Dt.non hy
end
/-! ### for -/
section
variable {X : Cx} {tg iter : Expr} {body : List Stmt} {g : DTG} {tb : DTS} {pos : Pos}
/-- the turns over the items ds, by what holds between two turns -/
def Turns (g : DTG) (tb : DTS) (D : DEnds) (ds : List PyData) (Δ : DSt) (M : Mp) : Prop :=
  ∃ J : Nat → DSt → Mp → Prop, J 0 Δ M ∧ (∀ i d Δ M, ds[i]? = some d → J i Δ M → g (.dat d) Δ M fun Δ2 M2 => tb { D with nx := J (i + 1), ct := J (i + 1), bk := D.nx } Δ2 M2) ∧ ∀ Δ M, J ds.length Δ M → D.nx Δ M
def dForL (te : DTE) (g : DTG) (tb : DTS) : DTS := fun D Δ M => te Δ M fun x M1 => onL x fun ds => Turns g tb D ds Δ M1
def dForT (te : DTE) (g : DTG) (tb : DTS) : DTS := fun D Δ M => te Δ M fun x M1 => onT x fun ds => Turns g tb D ds Δ M1
theorem ds_forL {te : DTE} (he : DE X iter te) (hg : DG X tg g) (hb : DSs X body tb) (hp : PassesOwn (model X.prog X.w) X.A X.env X.xe) (hc : X.calm = true) (hs : ∀ x, foldedSetIterable iter X.env x = pure x := by intro _; rfl) :
    DS X (.For tg iter body [] pos) (dForL te g tb) := by
  obtain ⟨t1, p1, q1⟩ := he
  obtain ⟨t2, p2, q2⟩ := hg
  obtain ⟨t3, p3, q3⟩ := hb
  refine ⟨_, ps_for hp hc (pi_list p1) p2 p3 hs, fun σ H Δ M D E r e h k => ?_⟩
  refine q1 σ H Δ M _ _ r e h fun v H1 x M1 r1 st rv hx => ?_
  replace hx := onL_ex hx
  obtain ⟨ds, rfl, J, j0, jt, jd⟩ := hx
  obtain ⟨a, xs, rfl, h1, h2⟩ := rv.lst
  refine ⟨a, rfl, ⟨xs, h1.sq⟩, for_list (xs := xs) (fun i σ H => ∃ Δ M, DRel X.K M H ∧ Step M1 H1 M H ∧ ERel X.K M H σ Δ ∧ J i Δ M) ⟨Δ, M1, r1, Step.refl, e.step st, j0⟩
    (fun i σ H _ ⟨Δ, M, _, st', _, _⟩ => (h1.step st').sq) (fun i y σ H hi ⟨Δ, M, r', st', e', j⟩ => ?_) (fun σ H ⟨Δ, M, r', st', e', j⟩ => ?_)⟩
  · obtain ⟨d, hd, hy⟩ := h2.getV hi
    refine q2 y σ H (.dat d) Δ M _ _ r' e' (Dt.step st' hy) (jt i d Δ M hd j) fun σ2 H2 Δ2 M2 r2 st2 e2 hb2 => ?_
    refine q3 σ2 H2 Δ2 M2 _ _ r2 e2 hb2 ?_
    have s12 : Step M1 H1 M2 H2 := st'.trans st2
    exact ⟨fun σ' H' Δ' M' a b c d => ⟨Δ', M', a, s12.trans b, c, d⟩, k.rt.step (st.trans s12), fun σ' H' Δ' M' a b c d => k.nx σ' H' Δ' M' a ((st.trans s12).trans b) c d,
      fun σ' H' Δ' M' a b c d => ⟨Δ', M', a, s12.trans b, c, d⟩⟩
  · rw [h2.length] at j
    exact k.nx σ H Δ M r' (st.trans st') e' (jd Δ M j)
/-- for x in range(n): the turns' ints are lo + i, i below n -/
def TurnsR (g : DTG) (tb : DTS) (D : DEnds) (lo : Int) (n : Nat) (Δ : DSt) (M : Mp) : Prop :=
  ∃ J : Nat → DSt → Mp → Prop, J 0 Δ M ∧ (∀ i Δ M, i < n → J i Δ M → g (.dat (.int (lo + i))) Δ M fun Δ2 M2 => tb { D with nx := J (i + 1), ct := J (i + 1), bk := D.nx } Δ2 M2) ∧ ∀ Δ M, J n Δ M → D.nx Δ M
theorem turnsR {g' : TG} {tb' : TS} {lo : Int} {n : Nat} (q2 : ∀ v σ H x Δ M Φ (Q : L2.St → Hp → Prop), DRel X.K M H → ERel X.K M H σ Δ → VRel X.K M H v x → g x Δ M Φ →
    (∀ σ' H' Δ' M', DRel X.K M' H' → Step M H M' H' → ERel X.K M' H' σ' Δ' → Φ Δ' M' → Q σ' H') → g' v σ H Q)
    (q3 : ∀ σ H Δ M D E, DRel X.K M H → ERel X.K M H σ Δ → tb D Δ M → EndRel X.K M H D E → tb' E σ H) {D : DEnds} {E : Ends} {σ : L2.St} {H : Hp} {Δ : DSt} {M : Mp} (r : DRel X.K M H) (e : ERel X.K M H σ Δ) (h : TurnsR g tb D lo n Δ M) (k : EndRel X.K M H D E) :
    ∃ W : Nat → Nat → L2.St → Hp → Prop, (∃ m, W 0 m σ H) ∧ ∀ i m σ H, W i m σ H →
      ((Itr lo n).stop i H ∧ E.nx σ H) ∨ ((Itr lo n).go i H ∧ ∃ N : L2.St → Hp → Prop, (∀ σ' H', N σ' H' → ∃ m', m' < m ∧ W (i + 1) m' σ' H') ∧ ∀ x H', (Itr lo n).yld i H x H' → g' x σ H' fun σ2 H2 => tb' { E with nx := N, ct := N, bk := E.nx } σ2 H2) := by
  obtain ⟨J, j0, jt, jd⟩ := h
  refine for_range (fun i σ' H' => ∃ Δ' M', DRel X.K M' H' ∧ Step M H M' H' ∧ ERel X.K M' H' σ' Δ' ∧ J i Δ' M') ⟨Δ, M, r, Step.refl, e, j0⟩ (fun i σ1 H1 hi ⟨Δ1, M1, r', st', e', j⟩ => ?_) (fun σ1 H1 ⟨Δ1, M1, r', st', e', j⟩ => ?_)
  · refine q2 _ σ1 H1 (.dat (.int (lo + i))) Δ1 M1 _ _ r' e' (Dt.int _) (jt i Δ1 M1 hi j) fun σ2 H2 Δ2 M2 r2 st2 e2 hb2 => ?_
    refine q3 σ2 H2 Δ2 M2 _ _ r2 e2 hb2 ?_
    have s12 : Step M H M2 H2 := st'.trans st2
    exact ⟨fun σ' H' Δ' M' a b c d => ⟨Δ', M', a, s12.trans b, c, d⟩, k.rt.step s12, fun σ' H' Δ' M' a b c d => k.nx σ' H' Δ' M' a (s12.trans b) c d,
      fun σ' H' Δ' M' a b c d => ⟨Δ', M', a, s12.trans b, c, d⟩⟩
  · exact k.nx σ1 H1 Δ1 M1 r' st' e' (jd Δ1 M1 j)
/-- a number that range takes -/
def InR (j : Int) : Prop := -(2 ^ 62) ≤ j ∧ j < 2 ^ 62
def dForR1 (ta : DTA) (g : DTG) (tb : DTS) : DTS := fun D Δ M => ta Δ M fun xs M1 => on1 xs fun x => onI x fun j => InR j ∧ TurnsR g tb D 0 j.toNat Δ M1
theorem ds_forR1 {a : Expr} {ta : DTA} {p p2 : Pos} (hg0 : Gl X "range") (hm : X.mg "range" = none) (ha : DA X [a] ta) (hg : DG X tg g) (hb : DSs X body tb) (hp : PassesOwn (model X.prog X.w) X.A X.env X.xe) (hc : X.calm = true)
    (hs : starEach [a] X.env = [(false, eval a X.env)] := by rfl) (hs2 : ∀ x, foldedSetIterable (.Call (.Name "range" p) [a] [] p2) X.env x = pure x := by intro _; rfl) : DS X (.For tg (.Call (.Name "range" p) [a] [] p2) body [] pos) (dForR1 ta g tb) := by
  obtain ⟨t1, p1, q1⟩ := ha
  obtain ⟨t2, p2, q2⟩ := hg
  obtain ⟨t3, p3, q3⟩ := hb
  refine ⟨_, ps_for hp hc (pi_range1 hg0 hm p1 hs) p2 p3 hs2, fun σ H Δ M D E r e h k => ?_⟩
  refine q1 σ H Δ M _ _ r e h fun vs H1 xs M1 r1 st rv hx => ?_
  replace hx := on1_ex hx
  obtain ⟨x, rfl, hx⟩ := hx
  replace hx := onI_ex hx
  obtain ⟨j, rfl, ⟨h1, h2⟩, hx⟩ := hx
  obtain ⟨v, rfl, hv⟩ := Paired.one rv
  exact ⟨j, by rw [VRel.int hv], h1, h2, turnsR q2 q3 r1 (e.step st) hx (k.step st)⟩
def dForR2 (ta : DTA) (g : DTG) (tb : DTS) : DTS := fun D Δ M => ta Δ M fun xs M1 => on2 xs fun x y => onI x fun i => onI y fun j => (InR i ∧ InR j) ∧ TurnsR g tb D i (j - i).toNat Δ M1
end
/-! ### own defs -/
abbrev DSp := List DV → Mp → DK → Prop
def lift (K : PySem.W.Frag) (S : DSp) : Sp := fun vs H Q _ => ∃ xs M Φ, DRel K M H ∧ VRels K M H vs xs ∧ S xs M Φ ∧ Rch K M H Φ Q
def dCall (S : DSp) (t : DTA) : DTE := fun Δ M Φ => t Δ M fun xs M1 => S xs M1 Φ
section
variable {X : Cx} {CX : CXT} {k : Nat} {f : Addr} {fd : FuncData} {ps : List Str} {S : DSp} {E : XK} {x : Str} {p pos : Pos} {e : Expr} {es : List Expr} {t : DTA}
theorem de_call (F : FnOk X.prog X.w X.K X.mg X.base CX k f fd ps (lift X.K S)) (hr : Room k X.A) (hg : Gl X x) (hm : X.mg x = some (.ref f)) (hk : PySem.W.keepIn X.K (.ref f) = true) (hb : Binds X.K fd ps []) (hx : Passes CX X E)
    (ha : DA X (e :: es) t) (hdb : (x == ("__debug__" : Str)) = false := by decide) (he : starEach (e :: es) X.env = (false, eval e X.env) :: starEach es X.env := by rfl) (hpl : (backTo pos (starEach es X.env)).any (·.1) = false := by rfl) :
    DE X (.Call (.Name x p) (e :: es) [] pos) (dCall S t) := by
  obtain ⟨t1, p1, q1⟩ := ha
  refine ⟨_, pe_call F hr hg hm hk hb .nil hx p1 hdb he hpl, fun σ H Δ M Φ Q r e h k => ?_⟩
  refine q1 σ H Δ M _ _ r e h fun vs H1 xs M1 r1 st rv hx => ?_
  show lift X.K S (vs ++ []) H1 Q E
  rw [List.append_nil]
  exact ⟨xs, M1, Φ, r1, rv, hx, k.step st⟩
end
section
variable {P : Program} {w : World} {K : PySem.W.Frag} {mg : Str → Option Value} {base : Heap}
/-- THE RULE for a def by data -/
theorem okD {x qual : Str} {st : Stmt} {f : Addr} {fd : FuncData} {N ps : List Str} {k : Nat} {S : DSp} (F : Fun K x qual st f fd) (Sc : FnScope N ps (defScope st)) (len : ∀ xs M Φ, S xs M Φ → xs.length = ps.length)
    (hbody : ∀ (cdv : Value) (A : Around) (outer : List Env) (s : Shared) (H : Hp) (E : XK), Room k (A.deeper (envOfC qual (defScope st) s.heap.objs.size f cdv)) →
      ∃ τ, DSs (cxOf CX0 P w K mg base N qual (defScope st) f cdv A outer s H E).nox (defBody st) τ ∧ ∀ xs M Φ, S xs M Φ → τ { nx := fun _ M' => Φ (.dat .none) M', rt := Φ } (startD N xs) M) : FnOk P w K mg base CX0 (k + 1) f fd ps (lift K S) := by
  refine F.ok Sc (fun vs H Q E h => ?_) fun cdv A outer s H vs Q E hr h => ?_
  · obtain ⟨xs, M, Φ, _, rv, hs, _⟩ := h
    rw [Paired.length rv]
    exact len xs M Φ hs
  · obtain ⟨xs, M, Φ, r, rv, hs, kk⟩ := h
    obtain ⟨τ, ⟨t, p, q⟩, hτ⟩ := hbody cdv A outer s H E hr
    refine ⟨t, p, q (start N vs) H (startD N xs) M _ _ r (ERel.start rv) (hτ xs M Φ hs) ⟨fun σ' H' Δ' M' r' st' e' hn => ?_, kk, fun _ _ _ _ _ _ _ h => h.elim, fun _ _ _ _ _ _ _ h => h.elim⟩⟩
    exact kk.dat r' st' Dt.non hn
end
end DL

namespace DL
open PySem PySem.Spec PyProof.Rows L2
/-! ### dict displays of names and constants -/
section
variable {X : Cx} {k v : Expr} {pos : Pos}
/-- an expression that neither reads nor changes the heap -/
def At (X : Cx) (e : Expr) (τ : DTE) : Prop := ∃ t, PE X e t ∧ ∀ σ H Δ M Φ, ERel X.K M H σ Δ → τ Δ M Φ → ∃ v x, VRel X.K M H v x ∧ Φ x M ∧ ∀ (H' : Hp) (Q : VK), Q v H' → t σ H' Q
theorem at_var (i : Nat) {x : Str} {pos : Pos} (hN : X.N[i]? = some x := by rfl) (hv : Vis X.env.scope x := by first | exact Or.inl rfl | exact Or.inr (Or.inl rfl) | exact Or.inr (Or.inr rfl)) (hd : (x == ("__debug__" : Str)) = false := by decide)
    (hcd : (x == ("__classdict__" : Str)) = false := by decide) : At X (.Name x pos) (dVar i) := by
  refine ⟨_, pe_var hN hv hd hcd, fun σ H Δ M Φ e h => ?_⟩
  replace h := onV_ex h
  obtain ⟨x, e1, h⟩ := h
  obtain ⟨v, e2, q⟩ := e.at' i x e1
  exact ⟨v, x, q, h, fun H' Q hq => ⟨v, e2, hq⟩⟩
theorem at_str {x j pos} : At X (.Constant (.str x) j pos) (dC (.str x)) := ⟨_, pe_str, fun _ H _ M Φ _ h => ⟨.str x, .dat (.str x), Dt.str x, h, fun _ _ hq => hq⟩⟩
def dDict0 : DTE := fun _ M Φ => Φ (.dat (.dict [])) M
theorem de_dict0 : DE X (.Dict [] [] pos) dDict0 := by
  refine ⟨_, pe_dnewK, fun σ H Δ M Φ Q r e h k p hp => ?_⟩
  exact k _ _ (.dat (.dict [])) M (r.new hp) (Step.new hp) (Dt.dK (kvs := []) (ds := []) (r.tracked hp) upd_same .nil) h
theorem kD_V {K : PySem.W.Frag} {M : Mp} {H : Hp} {v : V} {k : Key} (h : Dt K M H v (kD k)) : v = kV k := by
  cases k with
  | inl i => cases (show Dt K M H v (.int i) from h); rfl
  | inr x => cases (show Dt K M H v (.str x) from h); rfl
/-- an int or a text -/
def onKey (x : DV) (P : Key → Prop) : Prop := match x with | .dat (.int i) => P (.inl i) | .dat (.str s) => P (.inr s) | _ => False
theorem onKey_ex {x : DV} {P : Key → Prop} (h : onKey x P) : ∃ k, x = .dat (kD k) ∧ P k := by
  unfold onKey at h
  split at h
  · exact ⟨_, rfl, h⟩
  · exact ⟨_, rfl, h⟩
  · exact h.elim
/-- a tuple of ints and texts -/
def keysD : List PyData → Option (List Key)
  | [] => some []
  | .int i :: r => (keysD r).map (.inl i :: ·)
  | .str s :: r => (keysD r).map (.inr s :: ·)
  | _ :: _ => none
def onKs (ds : List PyData) (P : List Key → Prop) : Prop := match keysD ds with | some ks => P ks | none => False
def dDict1 (tk tv : DTE) : DTE := fun Δ M Φ => tk Δ M fun x M1 => tv Δ M1 fun y M2 => onKey x fun k => onD y fun d => Φ (.dat (.dict [(kD k, d)])) M2
def dDict2 (tk tv tk' tv' : DTE) : DTE := fun Δ M Φ => tk Δ M fun x M1 => tv Δ M1 fun y M2 => tk' Δ M2 fun x' M3 => tv' Δ M3 fun y' M4 => onKey x fun k => onD y fun d => onKey x' fun k' => onD y' fun d' => k ≠ k' ∧ Φ (.dat (.dict [(kD k, d), (kD k', d')])) M4
/-- what is true of the one object at a: a dict with one pair -/
def OneD (a b : Addr) (v : V) (h : Heap) : Prop := ∃ o es n u, h.get? a = some o ∧ o.cls = .type "dict" ∧ o.data = .dict es n ∧ es.toList.map (·.key) = [.ref b] ∧ es.toList.map (·.val) = [u] ∧ RelV v u
def dDict1T (tk tv : DTE) : DTE := fun Δ M Φ => tk Δ M fun x M1 => tv Δ M1 fun y M2 => onT x fun ds => onKs ds fun ks => onD y fun d => Φ (.dat (.dict [(.tuple (ks.map kD), d)])) M2
theorem SqT.new {K : PySem.W.Frag} {H : Hp} {a p : Addr} {xs : List V} {o : HO} (h : SqT K H a xs) (hp : H p = none) : SqT K (upd H p o) a xs := by
  rcases h with (h | ⟨ob, h⟩) | h
  · exact .inl (.inl (by rw [upd_ne (ne_of_none h hp)]; exact h))
  · exact .inl (.inr ⟨ob, by rw [upd_ne (ne_of_none h hp)]; exact h⟩)
  · exact .inr h
end
end DL

namespace DL
open PySem PySem.Spec PyProof.Rows L2
/-! ### how long a shown text is -/
mutual
def cost : PyData → Nat
  | .none => 4
  | .bool _ => 5
  | .int _ => 1921
  | .str x => (reprText x).length
  | .list xs => costAll xs + 2
  | .tuple xs => costAll xs + 3
  | .dict kvs => costKv kvs + 2
def costAll : List PyData → Nat
  | [] => 0
  | x :: xs => cost x + 2 + costAll xs
def costKv : List (PyData × PyData) → Nat
  | [] => 0
  | (k, v) :: r => cost k + 2 + cost v + 2 + costKv r
end
theorem textFrom_up : ∀ (ts : List Str) (k : Nat) (acc : Str), (textFrom k acc ts).length ≤ acc.length + piled ts
  | [], k, acc => Nat.le_add_right _ _
  | t :: r, k, acc => by
    have h := textFrom_up r (k + 1) (acc ++ (if k > 0 then ", " else "" : String) ++ t)
    have e : (acc ++ (if k > 0 then ", " else "" : String) ++ t).length = acc.length + (if k > 0 then 2 else 0) + t.length := by
      rw [strLen_append, strLen_append]
      split <;> rfl
    have d1 : (if k > 0 then 2 else 0 : Nat) ≤ 2 := by split <;> omega
    rw [e] at h
    rw [piled_cons]
    show (textFrom (k + 1) _ r).length ≤ _
    omega
theorem join_up (ts : List Str) : (Str.join ", " ts).length ≤ piled ts := by
  by_cases h : ts = []
  · subst h; exact Nat.le_of_eq rfl
  · have := join_length_add ts h
    omega
mutual
theorem shown_cost : ∀ d : PyData, d.showable = true → d.shown.length ≤ cost d
  | .none, _ => by simp only [PyData.shown, cost]; exact Nat.le_of_eq rfl
  | .bool b, _ => by
    simp only [PyData.shown, cost]
    cases b
    · exact Nat.le_of_eq rfl
    · exact (by decide : 4 ≤ 5)
  | .int i, h => by
    simp only [PyData.shown, cost]
    exact int_text_len_1921 (by simpa [PyData.showable] using h)
  | .str x, _ => by simp only [PyData.shown, cost]; exact Nat.le_refl _
  | .list xs, h => by
    have h1 := shownAll_cost xs (by simpa [PyData.showable] using h)
    have h2 := textFrom_up (PyData.shownAll xs) 0 "["
    have e1 : ((("[" : String) : Str)).length = 1 := rfl
    have e2 : ((("]" : String) : Str)).length = 1 := rfl
    simp only [PyData.shown, cost]
    unfold listText
    rw [strLen_append, e2]
    rw [e1] at h2
    omega
  | .tuple xs, h => by
    have h1 := shownAll_cost xs (by simpa [PyData.showable] using h)
    have h2 := join_up (PyData.shownAll xs)
    have e1 : ((("(" : String) : Str)).length = 1 := rfl
    have e3 : (((if (PyData.shownAll xs).length == 1 then ",)" else ")" : String) : Str)).length ≤ 2 := by split <;> decide
    simp only [PyData.shown, cost]
    unfold tupleText
    rw [strLen_append, strLen_append, e1]
    omega
  | .dict kvs, h => by
    have h1 := shownKv_cost kvs (by simpa [PyData.showable] using h)
    have h2 := join_up (PyData.shownKv kvs)
    have e : (dictText (PyData.shownKv kvs)).length = 1 + (Str.join ", " (PyData.shownKv kvs)).length + 1 := by
      unfold dictText
      rw [strLen_append, strLen_append]; rfl
    simp only [PyData.shown, cost]
    omega
theorem shownAll_cost : ∀ xs : List PyData, PyData.showableAll xs = true → piled (PyData.shownAll xs) ≤ costAll xs
  | [], _ => by simp only [PyData.shownAll, costAll]; exact Nat.le_of_eq rfl
  | x :: xs, h => by
    have h' : x.showable = true ∧ PyData.showableAll xs = true := by simpa [PyData.showableAll] using h
    have h1 := shown_cost x h'.1
    have h2 := shownAll_cost xs h'.2
    simp only [PyData.shownAll, costAll]
    rw [piled_cons]
    omega
theorem shownKv_cost : ∀ kvs : List (PyData × PyData), PyData.showableKv kvs = true → piled (PyData.shownKv kvs) ≤ costKv kvs
  | [], _ => by simp only [PyData.shownKv, costKv]; exact Nat.le_of_eq rfl
  | (k, v) :: r, h => by
    have h' : (k.showable = true ∧ v.showable = true) ∧ PyData.showableKv r = true := by simpa [PyData.showableKv] using h
    have h1 := shown_cost k h'.1.1
    have h2 := shown_cost v h'.1.2
    have h3 := shownKv_cost r h'.2
    have e : ((k.shown ++ ": " ++ v.shown : Str)).length = k.shown.length + 2 + v.shown.length := by rw [strLen_append, strLen_append]; rfl
    simp only [PyData.shownKv, costKv]
    rw [piled_cons, e]
    omega
end
theorem Shw.of {d : PyData} (s : d.showable = true) (m : (d.hasDict && hasLst d) = false) (dp : d.depth ≤ 64) (z : cost d ≤ 1000000) : Shw d :=
  ⟨s, m, dp, Nat.le_trans (shown_cost d s) (Nat.le_trans z (by rw [sizeLine_eq]; decide))⟩
/-! ### the law's own start; what the top holds of a def -/
structure Own (K : PySem.W.Frag) (mg : Str → Option Value) (x : Str) (st : Stmt) (ps : List Str) (f : Addr) (fd : FuncData) : Prop where
  F : Fun K x x st f fd
  m : mg x = some (.ref f)
  b : Binds K fd ps []
def spLaw : DSp := fun xs M Φ => ∃ ns : List Int, xs = [.dat (.list (ns.map PyData.int))] ∧ ns.length ≤ 63 ∧ ∀ M', Φ (.dat (.bool true)) M'
theorem law_start {K : PySem.W.Frag} {H : Hp} {a : Addr} {ns : List Int} (hl : ns.length ≤ 63) (_ : Only H) (hS : SqL K H a (ns.map V.int)) : lift K spLaw [.ref a] H (fun v _ => v = .bl true) fun _ _ _ => False := by
  refine ⟨[.dat (.list (ns.map PyData.int))], fun _ => none, fun x _ => x = .dat (.bool true), (show DRel K (fun _ => none) H from ⟨fun b o e => (by cases e)⟩), Paired.cons (Dt.lst ?_ (Dts.ints ns)) Paired.nil, ⟨ns, rfl, hl, fun _ => rfl⟩, fun v H' x M' _ _ rv hx => ?_⟩
  · rcases hS with h | h
    · exact .inl ⟨rfl, h⟩
    · exact .inr h
  · subst hx
    exact rv.bool
end DL

namespace DL
open PySem PySem.Spec PyProof.Rows L2
/-! ### for the readings -/
theorem atI_mem {α : Type} {l : List α} {i : Int} (h0 : 0 ≤ i) (h1 : i < l.length) : ∃ d, atI l i = some d ∧ d ∈ l := by
  have hl : i.toNat < l.length := by omega
  refine ⟨l[i.toNat], ?_, List.getElem_mem hl⟩
  have q : atI l ((i.toNat : Nat) : Int) = some l[i.toNat] := atI_nat (by simp [hl])
  rw [show ((i.toNat : Nat) : Int) = i by omega] at q
  exact q
theorem ixN_30 : ixN 3 0 = some 0 := rfl
theorem ixN_31 : ixN 3 1 = some 1 := rfl
theorem ixN_32 : ixN 3 2 = some 2 := rfl
theorem at_ints {ns : List Int} {j : Int} (h0 : 0 ≤ j) (h1 : j < ns.length) : ∃ c : Int, atI (ns.map PyData.int) j = some (.int c) := by
  obtain ⟨d, e, hm⟩ := atI_mem (l := ns.map PyData.int) h0 (by rw [List.length_map]; exact h1)
  obtain ⟨c, _, rfl⟩ := List.mem_map.mp hm
  exact ⟨c, e⟩
theorem mod_b (x : Int) {m : Int} (h : 0 < m) : 0 ≤ x % m ∧ x % m < m := ⟨Int.emod_nonneg _ (by omega), Int.emod_lt_of_pos _ h⟩
def sp1 (f : PyData → Bool) : DSp := fun xs M Φ => ∃ d, xs = [.dat d] ∧ Φ (.dat (.bool (f d))) M
theorem cp10 (k : Int) (h : 0 ≤ k ∧ k ≤ 1000000) : CPow 10 k := ⟨h.1, h.2, by decide⟩
theorem mdel_mset {M : Mp} {a : Addr} {o : OO} (h : M a = none) : mdel (mset M a o) a = M := by
  funext b
  unfold mdel mset
  split
  · rename_i e; rw [e, h]
  · rfl
theorem cases_true {p : Prop} [Decidable p] {A B : Prop} (h1 : p → A) (h2 : ¬ p → B) : if decide p = true then A else B := by
  by_cases h : p
  · rw [decide_eq_true h, if_pos rfl]; exact h1 h
  · rw [decide_eq_false h, if_neg Bool.false_ne_true]; exact h2 h
end DL

namespace DL
open PySem PySem.Spec PyProof.Rows L2
/-! ### comprehensions: the closure -/
def clos (env : Env) : List (Str × NameKind) → List (Str × Addr) → List (Str × Addr)
  | [], cs => cs
  | (n, k) :: r, cs => clos env r (if (k == NameKind.free) = true then (n, (env.cells.lookup n).getD 0) :: cs else cs)
theorem forIn_clos {env : Env} (f : Str × NameKind → List (Str × Addr) → Sem (ForInStep (List (Str × Addr)))) : ∀ (l : List (Str × NameKind)) (cs : List (Str × Addr)),
    (∀ y ∈ l, ∀ cs, f y cs = pure (.yield (if (y.2 == NameKind.free) = true then (y.1, (env.cells.lookup y.1).getD 0) :: cs else cs))) → forIn l cs f = pure (clos env l cs)
  | [], cs, _ => by rw [List.forIn_nil]; rfl
  | (n, k) :: r, cs, h => by
    rw [List.forIn_cons, h _ List.mem_cons_self, pure_bind]
    exact forIn_clos f r _ fun y hy => h y (List.mem_cons_of_mem _ hy)
theorem closureFor_clos {scope : Scope} {env : Env} (h : ∀ y ∈ scope.names, y.2 = .free → ∃ c, env.cells.lookup y.1 = some c) : closureFor scope env = pure (clos env scope.names []) := by
  simp only [closureFor]
  rw [forIn_clos (env := env) _ scope.names [] (fun y hy cs => by
    obtain ⟨n, k⟩ := y
    by_cases hk : k = .free
    · subst hk
      obtain ⟨c, e⟩ := h _ hy rfl
      have e' : env.cells.lookup n = some c := e
      simp only [beq_self_eq_true, if_true, cellOf, e', Option.getD_some, pure_bind]
    · have : (k == NameKind.free) = false := by simpa using hk
      simp only [this, Bool.false_eq_true, if_false])]
  rfl
theorem clos_mem {env : Env} : ∀ {l : List (Str × NameKind)} {cs : List (Str × Addr)} {x : Str} {c : Addr}, (x, c) ∈ clos env l cs → (x, c) ∈ cs ∨ ((x, NameKind.free) ∈ l ∧ c = (env.cells.lookup x).getD 0)
  | [], _, _, _, h => .inl h
  | (n, k) :: r, cs, x, c, h => by
    rcases clos_mem (l := r) h with h | ⟨h1, h2⟩
    · by_cases hk : k = .free
      · subst hk
        rw [if_pos (by simp)] at h
        rcases List.mem_cons.mp h with h | h
        · cases h
          exact .inr ⟨List.mem_cons_self, rfl⟩
        · exact .inl h
      · have : (k == NameKind.free) = false := by simpa using hk
        rw [if_neg (by rw [this]; exact Bool.false_ne_true)] at h
        exact .inl h
    · exact .inr ⟨List.mem_cons_of_mem _ h1, h2⟩
theorem clos_key {env : Env} : ∀ {l : List (Str × NameKind)} {cs : List (Str × Addr)} {x : Str}, ((x, NameKind.free) ∈ l ∨ ∃ c, (x, c) ∈ cs) → ∃ c, (x, c) ∈ clos env l cs
  | [], _, _, h => h.elim (fun z => nomatch z) id
  | (n, k) :: r, cs, x, h => by
    refine clos_key (l := r) ?_
    rcases h with h | ⟨c, h⟩
    · rcases List.mem_cons.mp h with h | h
      · cases h
        exact .inr ⟨_, by rw [if_pos (by simp)]; exact List.mem_cons_self⟩
      · exact .inl h
    · refine .inr ⟨c, ?_⟩
      split
      · exact List.mem_cons_of_mem _ h
      · exact h
theorem look_of_mem {β : Type} : ∀ {l : List (Str × β)} {x : Str} {c : β}, (x, c) ∈ l → ∃ c', l.lookup x = some c'
  | [], _, _, h => nomatch h
  | (n, d) :: r, x, c, h => by
    rw [List.lookup_cons]
    cases e : x == n with
    | true => exact ⟨d, rfl⟩
    | false =>
      rcases List.mem_cons.mp h with h | h
      · cases h
        simp at e
      · exact look_of_mem h
theorem clos_lookup {env : Env} {names : List (Str × NameKind)} (hf : ∀ y ∈ names, y.2 = .free → ∃ c, env.cells.lookup y.1 = some c) {x : Str} {c : Addr} (h : (clos env names []).lookup x = some c) :
    env.cells.lookup x = some c ∧ (x, NameKind.free) ∈ names := by
  rcases clos_mem (PySem.mem_of_lookup h) with h | ⟨h1, h2⟩
  · exact nomatch h
  · obtain ⟨c', e⟩ := hf _ h1 rfl
    have e' : env.cells.lookup x = some c' := e
    rw [e', Option.getD_some] at h2
    subst h2
    exact ⟨e', h1⟩
theorem clos_has {env : Env} {names : List (Str × NameKind)} (hf : ∀ y ∈ names, y.2 = .free → ∃ c, env.cells.lookup y.1 = some c) {x : Str} (h : (x, NameKind.free) ∈ names) : ∃ c, (clos env names []).lookup x = some c ∧ env.cells.lookup x = some c := by
  obtain ⟨c, hm⟩ := clos_key (env := env) (cs := []) (.inl h)
  obtain ⟨c', e⟩ := look_of_mem hm
  exact ⟨c', e, (clos_lookup hf e).1⟩
/-! ### the block's context -/
def compCx (X : Cx) (scope : Scope) (C : Addr) (N : List Str) (ex : List Addr) (s : Shared) (H : Hp) : Cx :=
  { X with N := N, s₀ := s, H₀ := H, env := compEnvC scope (clos X.env scope.names []) C X.env, outer := X.stack, ex := ex, fn := fun _ => false, pn := [], xe := fun _ _ => False }
def capSt (ix : List (Option Nat)) (σ : L2.St) : L2.St := ix.map fun o => o.bind fun i => (σ[i]?).join
def capD (ix : List (Option Nat)) (Δ : DSt) : DSt := ix.map fun o => o.bind fun i => (Δ[i]?).join
structure CompOk (X : Cx) (scope : Scope) (N : List Str) (ix : List (Option Nat)) : Prop where
  kind : scope.kind = .function
  cellF : ∀ y ∈ scope.names, y.2 ≠ .cell
  names : ∀ y ∈ scope.names, y.2 = .local → scope.names.lookup y.1 = some .local
  free : ∀ y ∈ scope.names, y.2 = .free → X.env.kindOf y.1 = some .cell
  len : N.length = ix.length
  cap : ∀ (j : Nat) (x : Str) (i : Nat), N[j]? = some x → ix[j]? = some (some i) → X.N[i]? = some x ∧ (x, NameKind.free) ∈ scope.names ∧ (relabel scope X.env).names.lookup x = some .cell
theorem capSt_get {ix : List (Option Nat)} {σ : L2.St} {j : Nat} {v : V} (h : (capSt ix σ)[j]? = some (some v)) : ∃ i, ix[j]? = some (some i) ∧ σ[i]? = some (some v) := by
  unfold capSt at h
  rw [List.getElem?_map] at h
  cases e : ix[j]? with
  | none => rw [e] at h; cases h
  | some o =>
    rw [e] at h
    cases o with
    | none => simp at h
    | some i =>
      refine ⟨i, rfl, ?_⟩
      have h' : (σ[i]?).join = some v := by simpa using h
      cases q : σ[i]? with
      | none => rw [q] at h'; cases h'
      | some o' => rw [q] at h'; exact congrArg some h'
theorem ERel.cap {K : PySem.W.Frag} {M : Mp} {H : Hp} {σ : L2.St} {Δ : DSt} (h : ERel K M H σ Δ) (ix : List (Option Nat)) : ERel K M H (capSt ix σ) (capD ix Δ) := by
  refine ⟨by unfold capSt capD; rw [List.length_map, List.length_map], fun j x e => ?_⟩
  unfold capD at e
  rw [List.getElem?_map] at e
  cases q : ix[j]? with
  | none => rw [q] at e; cases e
  | some o =>
    rw [q] at e
    cases o with
    | none => simp at e
    | some i =>
      have e' : (Δ[i]?).join = some x := by simpa using e
      have e2 : Δ[i]? = some (some x) := by
        cases q2 : Δ[i]? with
        | none => rw [q2] at e'; cases e'
        | some o' => rw [q2] at e'; exact congrArg some e'
      obtain ⟨v, hv, rv⟩ := h.at' i x e2
      refine ⟨v, ?_, rv⟩
      unfold capSt
      rw [List.getElem?_map, q]
      simp [hv]
section
variable {X : Cx} {pins : List (Addr × Obj)} {σ : L2.St} {H2 : Hp} {s2 : Shared} {scope : Scope} {N : List Str} {ix : List (Option Nat)} {C : Addr} {fp : List Addr}
theorem hfOf (ok : CompOk X scope N ix) (I2 : Inv X pins σ H2 s2) : ∀ y ∈ scope.names, y.2 = .free → ∃ c, X.env.cells.lookup y.1 = some c := fun y hy hk => I2.ok.has y.1 (.inl (ok.free y hy hk))
theorem comp_cx_ok (ok : CompOk X scope N ix) (I2 : Inv X pins σ H2 s2) (f2 : ∀ b ∈ fp, FpOk X pins H2 b) (ex : ∀ b ∈ fp, ∃ o, s2.heap.get? b = some o) (hC : s2.heap.objs.size ≤ C) : (compCx X scope C N fp s2 H2).Ok := by
  have hf := hfOf ok I2
  refine ⟨I2.ok.mod, ok.kind, I2.ok.glob, I2.ok.blt, hC, fun x y c h1 h2 => I2.ok.inj x y c (clos_lookup hf h1).1 (clos_lookup hf h2).1, fun x hx => ?_, fun x c h => absurd h Bool.false_ne_true, I2.ok.hd, I2.ok.frames, .inl rfl, fun b hb => ?_, fun b o e => I2.bs b o e, Nat.le_trans I2.ok.bsz I2.sz,
    fun b o e hb => ?_, fun b hb z => ?_, I2.stack, I2.stkFree⟩
  · have hx' : (relabel scope X.env).names.lookup x = some .cell ∨ (relabel scope X.env).names.lookup x = some .free := hx
    have key : (x, NameKind.free) ∈ scope.names := by
      have go : ∀ k', (relabel scope X.env).names.lookup x = some k' → (k' = .cell ∨ k' = .free) → (x, NameKind.free) ∈ scope.names := fun k' e hk => by
        have hm := PySem.mem_of_lookup e
        obtain ⟨⟨n, k⟩, hn, q⟩ := List.mem_map.mp hm
        by_cases hr : (k == NameKind.free && X.env.scope.kind == .function && X.env.kindOf n == some .cell) = true
        · have q' : (n, NameKind.cell) = (x, k') := by rw [← q]; simp [hr]
          cases q'
          have : k = .free := by simp only [Bool.and_eq_true] at hr; simpa using hr.1.1
          subst this
          exact hn
        · have q' : (n, k) = (x, k') := by rw [← q]; simp [hr]
          cases q'
          rcases hk with rfl | rfl
          · exact absurd rfl (ok.cellF _ hn)
          · exact hn
      rcases hx' with h | h
      · exact go _ h (.inl rfl)
      · exact go _ h (.inr rfl)
    obtain ⟨c, h1, _⟩ := clos_has hf key
    exact ⟨c, h1⟩
  · obtain ⟨o, e⟩ := ex b hb
    exact ⟨Nat.ne_of_lt (Nat.lt_of_lt_of_le (Heap.lt_size e) hC), fun x c h => (f2 b hb).2.2.2.2.1 x c (clos_lookup hf h).1⟩
  · rcases (f2 b hb).2.2.2.1 with z | z
    · exact I2.ok.noex b o e z
    · exact absurd (Nat.lt_of_lt_of_le (Heap.lt_size e) (Nat.le_trans I2.ok.bsz z)) (Nat.lt_irrefl _)
  · rcases List.mem_cons.mp (I2.stkSub b z) with z | z
    · exact (f2 b hb).2.1 z
    · exact (f2 b hb).2.2.1 z
/-- the captured names, as long as the cells stand -/
theorem comp_loc (ok : CompOk X scope N ix) (I2 : Inv X pins σ H2 s2) (f2 : ∀ b ∈ fp, FpOk X pins H2 b) {s : Shared} {H : Hp} {m : Str → Option Value} (u : Un (frs X.stack) fp H2 H s2.heap s.heap) :
    ∀ (i : Nat) (x : Str) (v : V), N[i]? = some x → (capSt ix σ)[i]? = some (some v) → ∃ w, RelV v w ∧ Look (compCx X scope C N fp s2 H2).env s.heap m x w := fun j x v hN hv => by
  obtain ⟨i, hi, hs⟩ := capSt_get hv
  obtain ⟨hx, hm, hr⟩ := ok.cap j x i hN hi
  have hk : X.env.kindOf x = some .cell := ok.free _ hm rfl
  obtain ⟨m0, _, hl⟩ := I2.loc
  obtain ⟨w, r, l⟩ := hl i x v hx hs (.inr (.inl hk))
  refine ⟨w, r, .inr ⟨.inl hr, ?_⟩⟩
  rcases l with ⟨z, _⟩ | ⟨_, c, e, hc⟩
  · rw [hk] at z; cases z
  · obtain ⟨c', h1, h2⟩ := clos_has (hfOf ok I2) hm
    rw [e] at h2
    cases h2
    refine ⟨c, h1, ?_⟩
    obtain ⟨o, ho, hd⟩ := hc
    obtain ⟨sl, q⟩ := u.any ho (I2.freeC x c e) fun z => (f2 c z).2.2.2.2.1 x c e rfl
    exact ⟨_, q, hd⟩
end
end DL

namespace DL
open PySem PySem.Spec PyProof.Rows L2
section
variable {prog : Program} {w : World} {A : Around} {R : Result → Shared → Prop} {s : Shared}
theorem compLoop_any {elt target iter : Expr} {ifs : List Expr} {scope : Scope} {pos : Pos} {it acc : Value} {env : Env} (I : Nat → Shared → Prop)
    (turn : ∀ n s, I n s → wpAny (model prog w) A (pyNext it) (fun r s₁ => match r with
      | none => R (.ok .next) s₁
      | some v => wpAny (model prog w) A (letOwnedTupleGo target it v) (fun _ s₁' => wpAny (model prog w) A (assign target env v) (fun _ s₂ =>
          wpAny (model prog w) A (forIn ifs true fun c r => if r = true then do let ok ← isTrue c env (eval c env); pure (ForInStep.yield ok) else pure (ForInStep.yield r)) (fun ok s₃ =>
            if ok = true then wpAny (model prog w) A (eval elt env) (fun x s₄ =>
              wpAny (model prog w) A (call (.builtin "list.append") [acc, x]) (fun _ s₅ => ∃ m, m < n ∧ I m s₅) (fun _ _ => False) s₄) (fun _ _ => False) s₃
            else ∃ m, m < n ∧ I m s₃) (fun _ _ => False) s₂) (fun _ _ => False) s₁') (fun _ _ => False) s₁) (fun _ _ => False) s)
    (n : Nat) (h : I n s) : codeAny (model prog w) A (.compLoop (.ListComp elt [⟨target, iter, ifs, 0⟩] scope pos) 0 it acc env) R s := by
  refine codeAny_loop rfl I (fun n s hI => ?_) n h
  show wpAny _ A ((compTurn (.ListComp elt [⟨target, iter, ifs, 0⟩] scope pos) 0 it acc env).onRaise (fun x => do noteFrame x env; theTreesLotGoes x)) _ _ s
  refine wpAny_noted ?_
  rw [compTurn_list]
  refine wpAny_bind (wpAny_standAt (wpAny_bind (wpAny_mono (turn n s hI) (fun r s₁ h₁ => ?_) fun _ _ h' => h'.elim)))
  cases r with
  | none => exact wpAny_pure h₁
  | some v =>
    refine wpAny_bind (wpAny_mono h₁ (fun _ s₁' h₁' => ?_) fun _ _ h' => h'.elim)
    refine wpAny_bind (wpAny_mono h₁' (fun _ s₂ h₂ => wpAny_bind (wpAny_mono h₂ (fun ok s₃ h₃ => ?_) fun _ _ h' => h'.elim)) fun _ _ h' => h'.elim)
    cases ok with
    | false => exact wpAny_pure ⟨rfl, h₃⟩
    | true =>
      exact wpAny_bind (wpAny_bind (wpAny_mono h₃ (fun x s₄ h₄ => wpAny_bind (wpAny_mono h₄ (fun _ s₅ h₅ => wpAny_pure (wpAny_pure ⟨rfl, h₅⟩)) fun _ _ h' => h'.elim)) fun _ _ h' => h'.elim))
end
/-! ### what is walked -/
def Yl (K : PySem.W.Frag) (J : It) (ds : List PyData) (M : Mp) (H : Hp) : Prop := ∀ M2 H2, Step M H M2 H2 → ∀ i,
  (i < ds.length → J.go i H2 ∧ ∀ x H', J.yld i H2 x H' → DRel K M2 H2 → DRel K M2 H' ∧ Step M2 H2 M2 H' ∧ ∃ d, ds[i]? = some d ∧ Dt K M2 H' x d) ∧ (ds.length ≤ i → J.stop i H2)
abbrev DSrc := DSt → Mp → (List PyData → Mp → Prop) → Prop
def DI (X : Cx) (tg iter : Expr) (src : DSrc) : Prop := ∃ wi, PI X tg iter wi ∧ ∀ σ H Δ M Ψ (R : It → Hp → Prop), DRel X.K M H → ERel X.K M H σ Δ → src Δ M Ψ →
  (∀ J H' M' ds, DRel X.K M' H' → Step M H M' H' → Yl X.K J ds M' H' → Ψ ds M' → R J H') → wi σ H R
section
variable {X : Cx} {tg iter : Expr}
def srcL (te : DTE) : DSrc := fun Δ M Ψ => te Δ M fun x M1 => onL x fun ds => Ψ ds M1
def srcT (te : DTE) : DSrc := fun Δ M Ψ => te Δ M fun x M1 => onT x fun ds => Ψ ds M1
theorem di_list {te : DTE} (he : DE X iter te) : DI X tg iter (srcL te) := by
  obtain ⟨t, p, q⟩ := he
  refine ⟨_, pi_list p, fun σ H Δ M Ψ R dr er h k => ?_⟩
  refine q σ H Δ M _ _ dr er h fun v H1 x M1 r1 st rv hx => ?_
  replace hx := onL_ex hx
  obtain ⟨ds, rfl, hΨ⟩ := hx
  obtain ⟨a, xs, rfl, h1, h2⟩ := rv.lst
  refine ⟨a, rfl, ⟨xs, h1.sq⟩, k _ H1 M1 ds r1 st (fun M2 H2 st2 i => ⟨fun hi => ?_, fun hi => ?_⟩) hΨ⟩
  · have hx : i < xs.length := by rw [h2.length]; exact hi
    refine ⟨⟨xs, xs[i], (h1.step st2).sq, by simp [hx]⟩, fun x H' y => ?_⟩
    obtain ⟨e, y⟩ := y
    obtain ⟨d, hd, hy⟩ := (h2.step st2).getV (y xs (h1.step st2).sq)
    subst e
    exact fun r => ⟨r, Step.refl, d, hd, hy⟩
  · exact ⟨xs, (h1.step st2).sq, by rw [h2.length]; exact hi⟩
theorem di_tup {te : DTE} (he : DE X iter te) : DI X tg iter (srcT te) := by
  obtain ⟨t, p, q⟩ := he
  refine ⟨_, pi_tup p, fun σ H Δ M Ψ R dr er h k => ?_⟩
  refine q σ H Δ M _ _ dr er h fun v H1 x M1 r1 st rv hx => ?_
  replace hx := onT_ex hx
  obtain ⟨ds, rfl, hΨ⟩ := hx
  obtain ⟨a, xs, rfl, h1, h2⟩ := rv.tup
  refine ⟨a, rfl, ⟨xs, h1.sq⟩, k _ H1 M1 ds r1 st (fun M2 H2 st2 i => ⟨fun hi => ?_, fun hi => ?_⟩) hΨ⟩
  · have hx : i < xs.length := by rw [h2.length]; exact hi
    refine ⟨⟨xs, xs[i], (h1.step st2).sq, by simp [hx]⟩, fun x H' y => ?_⟩
    obtain ⟨e, y⟩ := y
    obtain ⟨d, hd, hy⟩ := (h2.step st2).getV (y xs (h1.step st2).sq)
    subst e
    exact fun r => ⟨r, Step.refl, d, hd, hy⟩
  · exact ⟨xs, (h1.step st2).sq, by rw [h2.length]; exact hi⟩
def rngD (lo : Int) (n : Nat) : List PyData := (List.range n).map fun (i : Nat) => PyData.int (lo + (i : Int))
theorem rngD_len (lo : Int) (n : Nat) : (rngD lo n).length = n := by unfold rngD; rw [List.length_map, List.length_range]
theorem rngD_get {lo : Int} {n i : Nat} (h : i < n) : (rngD lo n)[i]? = some (.int (lo + (i : Int))) := by
  unfold rngD
  rw [List.getElem?_map, List.getElem?_range h]
  rfl
theorem yl_range {K : PySem.W.Frag} {M : Mp} {H : Hp} (lo : Int) (n : Nat) : Yl K (Itr lo n) (rngD lo n) M H := fun M2 H2 st2 i => by
  rw [rngD_len]
  refine ⟨fun hi => ⟨hi, fun x H' y => ?_⟩, fun hi => hi⟩
  obtain ⟨e, y⟩ := y
  subst y e
  exact fun r => ⟨r, Step.refl, _, rngD_get hi, Dt.int _⟩
def srcR1 (ta : DTA) : DSrc := fun Δ M Ψ => ta Δ M fun xs M1 => on1 xs fun x => onI x fun j => InR j ∧ Ψ (rngD 0 j.toNat) M1
theorem di_range1 {a : Expr} {ta : DTA} {p p2 : Pos} (hg0 : Gl X "range") (hm : X.mg "range" = none) (ha : DA X [a] ta) (hs : starEach [a] X.env = [(false, eval a X.env)] := by rfl) : DI X tg (.Call (.Name "range" p) [a] [] p2) (srcR1 ta) := by
  obtain ⟨t1, p1, q1⟩ := ha
  refine ⟨_, pi_range1 hg0 hm p1 hs, fun σ H Δ M Ψ R dr er h k => ?_⟩
  refine q1 σ H Δ M _ _ dr er h fun vs H1 xs M1 r1 st rv hx => ?_
  replace hx := on1_ex hx
  obtain ⟨x, rfl, hx⟩ := hx
  replace hx := onI_ex hx
  obtain ⟨j, rfl, ⟨h1, h2⟩, hΨ⟩ := hx
  obtain ⟨v, rfl, hv⟩ := Paired.one rv
  exact ⟨j, by rw [VRel.int hv], h1, h2, k _ H1 M1 _ r1 st (yl_range 0 j.toNat) hΨ⟩
def srcR2 (ta : DTA) : DSrc := fun Δ M Ψ => ta Δ M fun xs M1 => on2 xs fun x y => onI x fun i => onI y fun j => (InR i ∧ InR j) ∧ Ψ (rngD i (j - i).toNat) M1
theorem di_range2 {a b : Expr} {ta : DTA} {p p2 : Pos} (hg0 : Gl X "range") (hm : X.mg "range" = none) (ha : DA X [a, b] ta) (hs : starEach [a, b] X.env = [(false, eval a X.env), (false, eval b X.env)] := by rfl) (hs2 : starEach [b] X.env = [(false, eval b X.env)] := by rfl) :
    DI X tg (.Call (.Name "range" p) [a, b] [] p2) (srcR2 ta) := by
  obtain ⟨t1, p1, q1⟩ := ha
  refine ⟨_, pi_range2 hg0 hm p1 hs hs2, fun σ H Δ M Ψ R dr er h k => ?_⟩
  refine q1 σ H Δ M _ _ dr er h fun vs H1 xs M1 r1 st rv hx => ?_
  replace hx := on2_ex hx
  obtain ⟨x, y, rfl, hx⟩ := hx
  replace hx := onI_ex hx
  obtain ⟨i, rfl, hx⟩ := hx
  replace hx := onI_ex hx
  obtain ⟨j, rfl, ⟨⟨a1, a2⟩, a3, a4⟩, hΨ⟩ := hx
  have h1 : -(2 ^ 62) ≤ i ∧ i < 2 ^ 62 ∧ -(2 ^ 62) ≤ j ∧ j < 2 ^ 62 := ⟨a1, a2, a3, a4⟩
  obtain ⟨v, u, rfl, hv, hu⟩ := Paired.two rv
  exact ⟨i, j, by rw [VRel.int hv, VRel.int hu], h1, k _ H1 M1 _ r1 st (yl_range i (j - i).toNat) hΨ⟩
end
/-! ### the comprehension -/
/-- what is done of the list that comes: data, or an owned one -/
def dEnd (ow : Bool) (Φ : DK) (acc : List PyData) (M : Mp) : Prop := match ow with | true => ∀ p, M p = none → Φ (.own p) (mset M p (.lst acc)) | false => Φ (.dat (.list acc)) M
def dComp (ow : Bool) (src : DSrc) (ix : List (Option Nat)) (g : DTG) (tc : DTT) (te : DTE) : DTE := fun Δ M Φ => src Δ M fun ds M1 => ds.length ≤ sizeLine ∧ ∃ J : Nat → List PyData → Mp → Prop, J 0 [] M1 ∧
  (∀ i d acc M', ds[i]? = some d → J i acc M' → g (.dat d) (capD ix Δ) M' fun Δ2 M2 => tc Δ2 M2 fun b M3 => if b = true then te Δ2 M3 fun y M4 => onD y fun e => J (i + 1) (acc ++ [e]) M4 else J (i + 1) acc M3) ∧
  ∀ acc M', J ds.length acc M' → dEnd ow Φ acc M'
/-- the tests of a clause: none, or one -/
def DTs (X : Cx) (ifs : List Expr) (τ : DTT) : Prop := ∀ (pins : List (Addr × Obj)) (s : Shared) (σ : L2.St) (H : Hp) (Δ : DSt) (M : Mp) (Φ : Bool → Mp → Prop), L2.Inv X pins σ H s → DRel X.K M H → ERel X.K M H σ Δ → τ Δ M Φ →
  wpAny (model X.prog X.w) X.A (forIn ifs true fun c r => if r = true then do let ok ← isTrue c X.env (eval c X.env); pure (ForInStep.yield ok) else pure (ForInStep.yield r))
    (fun b s' => ∃ H' M', L2.Inv X pins σ H' s' ∧ DRel X.K M' H' ∧ Step M H M' H' ∧ Φ b M') X.xe s
def tcNo : DTT := fun _ M Φ => Φ true M
theorem dts_nil {X : Cx} : DTs X [] tcNo := fun pins s σ H Δ M Φ I dr er h => wpAny_tests_nil ⟨H, M, I, dr, Step.refl, h⟩
theorem dts_one {X : Cx} {c : Expr} {τ : DTT} (hc : DT X c τ) : DTs X [c] τ := fun pins s σ H Δ M Φ I dr er h => by
  obtain ⟨t, p, q⟩ := hc
  refine wpAny_tests_one (thn (p pins s σ H (fun b H' => ∃ M', DRel X.K M' H' ∧ Step M H M' H' ∧ Φ b M') I (q σ H Δ M Φ _ dr er h fun b H' M' a c d => ⟨M', a, c, d⟩)) fun b s' h => ?_)
  obtain ⟨H', I', M', a, c, d⟩ := h
  exact ⟨H', M', I', a, c, d⟩
end DL

namespace DL
open PySem PySem.Spec PyProof.Rows L2
section
variable {X : Cx}
/-- the ends of a comprehension: how what comes is used -/
abbrev CompSrc (ds : List PyData) (M1 : Mp) (Δ : DSt) (ix : List (Option Nat)) (g : DTG) (tc : DTT) (te : DTE) (ψ : List PyData → Mp → Prop) : Prop := ds.length ≤ sizeLine ∧ ∃ J : Nat → List PyData → Mp → Prop, J 0 [] M1 ∧
  (∀ i d acc M', ds[i]? = some d → J i acc M' → g (.dat d) (capD ix Δ) M' fun Δ2 M2 => tc Δ2 M2 fun b M3 => if b = true then te Δ2 M3 fun y M4 => onD y fun e => J (i + 1) (acc ++ [e]) M4 else J (i + 1) acc M3) ∧ ∀ acc M', J ds.length acc M' → ψ acc M'
set_option maxHeartbeats 2000000 in
theorem comp_core {elt tg iter : Expr} {ifs : List Expr} {scope : Scope} {pos ps : Pos} {src : DSrc} {N : List Str} {ix : List (Option Nat)} {g : DTG} {tc : DTT} {te : DTE} {use : Option (Value → Sem Unit)} {QQ : Value → Shared → Prop} {ψ : List PyData → Mp → Prop} (ok : CompOk X scope N ix) (hi : DI X tg iter src)
    (hg : ∀ C ex s H, DG (compCx X scope C N ex s H) tg g) (ht : ∀ C ex s H, DTs (compCx X scope C N ex s H) ifs tc) (he : ∀ C ex s H, DE (compCx X scope C N ex s H) elt te) (hc : X.calm = true)
    (hs : ∀ x, foldedSetIterable iter X.env x = pure x) {σ : L2.St} {H : Hp} {Δ : DSt} {M : Mp} {pins : List (Addr × Obj)} {s : Shared} (dr : DRel X.K M H) (er : ERel X.K M H σ Δ) (h : src Δ M fun ds M1 => CompSrc ds M1 Δ ix g tc te ψ) (I : L2.Inv X pins σ H s)
    (hfin : ∀ (s4 : Shared) (C D : Addr) (H' : Hp) (M' : Mp) (vs : List V) (acc : List PyData), L2.Inv X pins σ (upd H' D (.lst vs)) s4 → H' D = none → DRel X.K M' H' → Step M H M' H' → Dts X.K M' H' vs acc → ψ acc M' → (∃ m, s4.heap.Ns C m) → FpOk X pins (upd H' D (.lst vs)) C →
      compPost (model X.prog X.w) X.A X.xe use QQ (.ref D) C (.ok .next) s4) :
    wpAny (model X.prog X.w) X.A (comprehension (.ListComp elt [⟨tg, iter, ifs, 0⟩] scope pos) scope X.env ps (newList []) false (eval iter X.env) use) QQ X.xe s := by
  obtain ⟨wi, pi, qi⟩ := hi
  refine wpAny_comprehension_free (use := use) (cl := clos X.env scope.names []) rfl hs (closureFor_clos (hfOf ok I)) ok.kind ok.names ?_
  show wpAny _ _ (eval iter X.env) _ _ s
  refine thn (pi pins s σ H (fun J H' => ∃ M' ds, DRel X.K M' H' ∧ Step M H M' H' ∧ Yl X.K J ds M' H' ∧ ds.length ≤ sizeLine ∧ ∃ W : Nat → List PyData → Mp → Prop, W 0 [] M' ∧
      (∀ i d acc M', ds[i]? = some d → W i acc M' → g (.dat d) (capD ix Δ) M' fun Δ2 M2 => tc Δ2 M2 fun b M3 => if b = true then te Δ2 M3 fun y M4 => onD y fun e => W (i + 1) (acc ++ [e]) M4 else W (i + 1) acc M3) ∧
      ∀ acc M', W ds.length acc M' → ψ acc M') I (qi σ H Δ M _ _ dr er h fun J H' M' ds a b c d => ⟨M', ds, a, b, c, d⟩)) fun x s1 h1 => thn h1 fun itv s2 h2 => ?_
  obtain ⟨it, fp, tn, J, H2, e, I2, T, st2, f2, M1, ds, dr1, stp, yl, hz, W, w0, wt, wd⟩ := h2
  subst e
  have exo : ∀ b ∈ fp, ∃ o, s2.heap.get? b = some o := fun b hb => let ⟨o, q, _⟩ := T.obj 0 _ st2 b hb; ⟨o, q⟩
  refine wpAny_newObj_type (wpAny_newFunctionEnv ok.cellF (by intro y hy; simp at hy) (fun h₁ hns₁ hsb₁ => ?_) ok.kind)
  dsimp only at hns₁ hsb₁ ⊢
  generalize hH2 : s2.heap.push { cls := .type "list", dict := none, data := .seq ([] : List Value).toArray } = HH at hns₁ hsb₁ ⊢
  have hC : HH.objs.size = s2.heap.objs.size + 1 := by rw [← hH2, Heap.size_push]
  have hDC : s2.heap.objs.size ≠ HH.objs.size := by rw [hC]; exact Nat.ne_of_lt (Nat.lt_succ_self _)
  have hCle : s2.heap.objs.size ≤ HH.objs.size := by rw [hC]; exact Nat.le_succ _
  have below : ∀ b, b < s2.heap.objs.size → b ≠ HH.objs.size ∧ b ≠ s2.heap.objs.size := fun b hb => ⟨by rw [hC]; exact Nat.ne_of_lt (Nat.lt_succ_of_lt hb), Nat.ne_of_lt hb⟩
  have old : ∀ b o, s2.heap.get? b = some o → h₁.get? b = some o := fun b o e => hsb₁.extBut b o (below b (Heap.lt_size e)).1 (Heap.get?_push_of_some _ (hH2 ▸ Heap.get?_push_of_some _ e))
  have hacc : h₁.get? s2.heap.objs.size = some { cls := .type "list", data := .seq ([] : List Value).toArray } := hsb₁.extBut _ _ hDC (Heap.get?_push_of_some _ (hH2 ▸ Heap.get?_push_size _ rfl))
  generalize hCC : HH.objs.size = C at *
  generalize hDD : s2.heap.objs.size = D at hDC hacc below hCle
  have hDs : s2.heap.objs.size ≤ D := Nat.le_of_eq hDD
  have hCs : s2.heap.objs.size ≤ C := by rw [hDD]; exact hCle
  have fD : ∀ b ∈ fp, b ≠ D ∧ b ≠ C := fun b hb => by
    obtain ⟨o, q⟩ := exo b hb
    exact ⟨(below b (by rw [← hDD]; exact Heap.lt_size q)).2, (below b (by rw [← hDD]; exact Heap.lt_size q)).1⟩
  -- the block's context
  have okY : (compCx X scope C N fp s2 H2).Ok := comp_cx_ok ok I2 f2 exo hCs
  have fsD : ∀ b ∈ frs X.stack, b < s2.heap.objs.size := fun b hb => by
    obtain ⟨_, o, ho, _⟩ := I2.stack.mem hb
    exact Heap.lt_size ho
  have cellD : ∀ x c, (compCx X scope C N fp s2 H2).env.cells.lookup x = some c → c < s2.heap.objs.size ∧ H2 c = none := fun x c e => by
    have e' := (clos_lookup (hfOf ok I2) e).1
    obtain ⟨v, q⟩ := I2.cell x c e'
    exact ⟨q.lt, I2.freeC x c e'⟩
  have fpY : ∀ {H' : Hp} {ps : List (Addr × Obj)}, (∀ b ∈ fp, H' b = none) → (∀ p ∈ ps, p.1 = D) → ∀ b ∈ fp, FpOk (compCx X scope C N fp s2 H2) ps H' b := fun {H' ps} hn hp b hb =>
    ⟨hn b hb, (fD b hb).2, okY.exfs b hb, .inl hb, (okY.exf b hb).2, fun p hp' z => by
      have q : p ∈ ps := hp'
      rw [hp p q] at z
      exact (fD b hb).1 z.symm⟩
  have onlyD : ∀ (o : Obj), ∀ p ∈ [(D, o)], p.1 = D := fun o p hp => by
    have q : p = (D, o) := by simpa using hp
    rw [q]
  -- the frame is made anew at each turn's end
  have reloc : ∀ {ps : List (Addr × Obj)} {σ' : L2.St} {H' : Hp} {s' : Shared} {o : Obj}, L2.Inv (compCx X scope C N fp s2 H2) ps σ' H' s' → s'.heap.get? D = some o → H' D = none → (∀ v, o.data ≠ .cell v) →
      L2.Inv (compCx X scope C N fp s2 H2) [(D, o)] (capSt ix σ) H' s' := fun {ps σ' H' s' o} J' hD hn hd => by
    obtain ⟨m, hm, _⟩ := J'.loc
    refine ⟨J'.ok, J'.os, J'.bare, J'.base, ⟨m, hm, fun i x v a b _ => comp_loc ok I2 f2 J'.base i x v a b⟩, J'.cell, J'.free, J'.freeC, fun p hp => ?_, J'.hok, ?_⟩
    · have q : p = (D, o) := by
        have z : p ∈ ([] : List (Addr × Obj)) ++ [(D, o)] := hp
        simpa using z
      subst q
      exact ⟨hD, hn, hDC, fun z => absurd (fsD D z) (Nat.not_lt.mpr hDs), hd⟩
    · show (capSt ix σ).length = N.length
      unfold capSt
      rw [List.length_map, ok.len]
  have start : L2.Inv (compCx X scope C N fp s2 H2) [(D, { cls := .type "list", data := .seq ([] : List Value).toArray })] (capSt ix σ) H2 { s2 with heap := h₁, toks := s2.toks + ([] : List (Str × Value)).length } := by
    refine ⟨okY, rfl, I2.bare, Un.kept old, ⟨_, hns₁, fun i x v a b _ => comp_loc ok I2 f2 (Un.kept old) i x v a b⟩, fun x c e => ?_, I2.hok.fresh hCs, fun x c e => (cellD x c e).2, fun p hp => ?_, I2.hok.kept old, ?_⟩
    · obtain ⟨v, o, ho, hd⟩ := I2.cell x c (clos_lookup (hfOf ok I2) e).1
      exact ⟨v, o, old c o ho, hd⟩
    · have q : p = (D, { cls := .type "list", data := .seq ([] : List Value).toArray }) := by
        have z : p ∈ ([] : List (Addr × Obj)) ++ [(D, { cls := .type "list", data := .seq ([] : List Value).toArray })] := hp
        simpa using z
      subst q
      exact ⟨hacc, I2.hok.fresh hDs, hDC, fun z => absurd (fsD D z) (Nat.not_lt.mpr hDs), fun v z => nomatch z⟩
    · show (capSt ix σ).length = N.length
      unfold capSt
      rw [List.length_map, ok.len]
  have loop : ∀ s₃ : Shared, s₃ = { s2 with heap := h₁, toks := s2.toks + ([] : List (Str × Value)).length } →
      codeAny (model X.prog X.w) X.A (.compLoop (.ListComp elt [⟨tg, iter, ifs, 0⟩] scope pos) 0 (.ref it) (.ref D) (compEnvC scope (clos X.env scope.names []) C X.env)) (compPost (model X.prog X.w) X.A X.xe use QQ (.ref D) C) s₃ := by
    rintro s₃ rfl
    refine compLoop_any (fun n s' => ∃ (i : Nat) (acc : List PyData) (vs : List V) (its : List Value) (nn : Nat) (H' : Hp) (M' : Mp), L2.Inv (compCx X scope C N fp s2 H2) [(D, { cls := .type "list", data := .seq its.toArray nn })] (capSt ix σ) H' s' ∧
      tn i s'.heap ∧ (∀ b ∈ fp, H' b = none) ∧ DRel X.K M' H' ∧ Step M1 H2 M' H' ∧ Vals vs its ∧ Dts X.K M' H' vs acc ∧ W i acc M' ∧ i ≤ ds.length ∧ acc.length ≤ i ∧ n = ds.length - i) ?_ ds.length
      ⟨0, [], [], [], 0, H2, M1, start, T.keep _ _ _ st2 (fun b _ o e => old b o e), fun b hb => (f2 b hb).1, dr1, Step.refl, .nil, .nil, w0, Nat.zero_le _, Nat.le_refl _, rfl⟩
    rintro n s' ⟨i, acc, vs, its, nn, H', M', IY, ti, fr, dr', stp', rv, rd, wi', hil, hal, rfl⟩
    have pinD := IY.pin (D, { cls := .type "list", data := .seq its.toArray nn }) (by simp)
    have fok := fpY (ps := [(D, { cls := .type "list", data := .seq its.toArray nn })]) fr (onlyD _)
    obtain ⟨ygo, ystop⟩ := yl M' H' stp' i
    by_cases hlt : i < ds.length
    · obtain ⟨jgo, jyl⟩ := ygo hlt
      refine thn (T.item (compCx X scope C N fp s2 H2) rfl rfl rfl hc i _ s' (capSt ix σ) H' (fun _ _ => False) IY fok ti jgo) fun r s4 ⟨u, hr, h4⟩ => ?_
      subst hr
      refine thn h4 fun _ s5 ⟨x, H5, I5, r5, y5, st5, fr5⟩ => ?_
      obtain ⟨dr5, stp5, d, hd, hxd⟩ := jyl x H5 y5 dr'
      replace dr' := dr5
      replace stp' := stp'.trans stp5
      replace rd := rd.step stp5
      have I5' := I5.pinned (fpY (ps := [(D, { cls := .type "list", data := .seq its.toArray nn })]) fr5 (onlyD _)) (T.obj _ _ st5)
      obtain ⟨tg', pg, qg⟩ := hg C fp s2 H2
      refine thn (pg _ s5 (capSt ix σ) H5 x u (fun σ6 H6 => ∃ Δ6 M6, DRel X.K M6 H6 ∧ Step M' H5 M6 H6 ∧ ERel X.K M6 H6 σ6 Δ6 ∧ tc Δ6 M6 fun b M3 => if b = true then te Δ6 M3 fun y M4 => onD y fun e => W (i + 1) (acc ++ [e]) M4 else W (i + 1) acc M3) I5' r5
        (qg x (capSt ix σ) H5 (.dat d) (capD ix Δ) M' _ _ dr' ((er.step (stp.trans stp')).cap ix) hxd (wt i d acc M' hd wi') fun σ6 H6 Δ6 M6 a b c d => ⟨Δ6, M6, a, b, c, d⟩)) fun _ s6 ⟨σ6, H6, I6, Δ6, M6, dr6, stp6, er6, q6⟩ => ?_
      refine thn (ht C fp s2 H2 _ s6 σ6 H6 Δ6 M6 _ I6 dr6 er6 q6) fun b s7 ⟨H7, M7, I7, dr7, stp7, q7⟩ => ?_
      have keepD : ∀ {σz : L2.St} {Hz : Hp} {sz : Shared}, L2.Inv (compCx X scope C N fp s2 H2) ([(D, { cls := .type "list", data := .seq its.toArray nn })] ++ pinsAt fp s5.heap) σz Hz sz →
          sz.heap.get? D = some { cls := .type "list", data := .seq its.toArray nn } ∧ Hz D = none ∧ tn (i + 1) sz.heap ∧ ∀ b ∈ fp, Hz b = none := fun {σz Hz sz} Iz => by
        have a := Iz.pin (D, { cls := .type "list", data := .seq its.toArray nn }) (by simp)
        refine ⟨a.1, a.2.1, T.keep _ _ _ st5 fun b hb o e => (Iz.pin (b, o) (List.mem_append_right _ (List.mem_append_right _ (mem_pinsAt hb e)))).1, fun b hb => ?_⟩
        obtain ⟨o, e, _⟩ := T.obj _ _ st5 b hb
        exact (Iz.pin (b, o) (List.mem_append_right _ (List.mem_append_right _ (mem_pinsAt hb e)))).2.1
      cases b with
      | false =>
        have q7' : W (i + 1) acc M7 := by simpa using q7
        obtain ⟨a1, a2, a3, a4⟩ := keepD I7
        have st17 : Step M' H5 M7 H7 := stp6.trans stp7
        exact ⟨ds.length - (i + 1), by omega, i + 1, acc, vs, its, nn, H7, M7, reloc I7 a1 a2 (fun v z => nomatch z), a3, a4, dr7, stp'.trans st17, rv, rd.step st17, q7', hlt, by omega, rfl⟩
      | true =>
        have q7' : te Δ6 M7 fun y M4 => onD y fun e => W (i + 1) (acc ++ [e]) M4 := by simpa using q7
        obtain ⟨te', pe', qe'⟩ := he C fp s2 H2
        refine thn (pe' _ s7 σ6 H7 (fun v H8 => ∃ e M8, DRel X.K M8 H8 ∧ Step M7 H7 M8 H8 ∧ Dt X.K M8 H8 v e ∧ W (i + 1) (acc ++ [e]) M8) I7 (qe' σ6 H7 Δ6 M7 _ _ dr7 (er6.step stp7) q7' fun v H8 x8 M8 a b c d => by
          replace d := onD_ex d
          obtain ⟨e, rfl, w8⟩ := d
          exact ⟨e, M8, a, b, c, w8⟩)) fun y s8 ⟨v, H8, I8, r8, e, M8, dr8, stp8, dv8, w8⟩ => ?_
        obtain ⟨a1, a2, a3, a4⟩ := keepD I8
        have st18 : Step M' H5 M8 H8 := stp6.trans (stp7.trans stp8)
        have lv := rv.length
        have ld := rd.length
        refine call_meets PySem.F.slot_list_append ⟨_, a1, rfl⟩ PySem.F.entry_list_append (PySem.F.args_list_append_2 _ _) (PySem.list_append D its.toArray nn y (by rw [List.size_toArray]; omega)) ⟨a1, ?_⟩
        have q := PySem.IsL.update a1 (·.push y)
        have I8' : L2.Inv (compCx X scope C N fp s2 H2) [] σ6 H8 s8 := I8.pins_of fun p hp => nomatch hp
        have I9 := I8'.turned (it := D) (h' := s8.heap.update D (Obj.mapSeq (·.push y))) (t' := s8.toks) (fun b o hb hu => (Heap.get?_update_other s8.heap (Obj.mapSeq (·.push y)) (Ne.symm hb)).trans hu) a2 hDC (.inr hDs)
          (fun x c e z => absurd (z ▸ (cellD x c e).1) (Nat.not_lt.mpr hDs)) (fun p hp => by have z : p ∈ ([] : List (Addr × Obj)) ++ [] := hp; simp at z)
        have ea : (its.toArray.push y) = (its ++ [y]).toArray := by simp
        rw [ea] at q
        refine ⟨ds.length - (i + 1), by omega, i + 1, acc ++ [e], vs ++ [v], its ++ [y], _, H8, M8, reloc I9 q a2 (fun v z => nomatch z), T.keep _ _ _ a3 (fun b hb o e => (Heap.get?_update_other s8.heap (Obj.mapSeq (·.push y)) (Ne.symm (fD b hb).1)).trans e), a4, dr8, stp'.trans st18,
          rv.append (.cons r8 .nil), (rd.step st18).append (.cons dv8 .nil), w8, hlt, by rw [List.length_append, List.length_singleton]; omega, rfl⟩
    · have hie : i = ds.length := by omega
      refine thn (T.done (compCx X scope C N fp s2 H2) rfl rfl rfl hc i _ s' (capSt ix σ) H' (fun _ _ => False) IY fok ti (ystop (by omega))) fun r s4 ⟨hr, I4⟩ => ?_
      subst hr
      obtain ⟨m4, hm4, _⟩ := I4.loc
      have pD := I4.pin (D, { cls := .type "list", data := .seq its.toArray nn }) (by simp)
      have hCn : H' C = none := I4.free
      have hDn : H' D = none := pD.2.1
      -- the list that was made is tracked from here on
      have hok4 : HOk X.prog X.w (upd H' D (.lst vs)) s4.heap := fun b u e => by
        by_cases hb : b = D
        · subst hb
          rw [upd_same] at e
          cases e
          exact ⟨by have := rv.length; have := rd.length; omega, its, nn, rv, pD.1⟩
        · rw [upd_ne hb] at e
          refine (I4.hok b u e).stay (fun c v hc' q => q) (fun c q => ?_) fun c xs q => ?_
          · rw [upd_ne (ne_of_none q pD.2.1)]; exact q
          · rw [upd_ne (ne_of_none q pD.2.1)]; exact q
      have bu : Un (frs X.stack) fp H2 H' s2.heap s4.heap := I4.base
      have un4 : Un (frs X.stack) fp H2 (upd H' D (.lst vs)) s2.heap s4.heap := by
        have nD : ∀ b o, s2.heap.get? b = some o → b ≠ D ∧ b ≠ C := fun b o e => ⟨fun z => absurd (z ▸ Heap.lt_size e) (Nat.not_lt.mpr hDs), fun z => absurd (z ▸ Heap.lt_size e) (Nat.not_lt.mpr hCs)⟩
        refine ⟨fun b o e n hb hx => bu.keep b o e n hb hx, fun b o e n hb hx => bu.slot b o e n hb hx, fun b o e n hx => by rw [upd_ne (nD b o e).1]; exact bu.free b o e n hx, fun b o e hx => bu.there b o e hx, fun b xs e => ?_, fun b o xs e => ?_, fun b ps e => ?_⟩
        · have q := bu.tups b xs e
          rw [upd_ne (ne_of_none q pD.2.1)]; exact q
        · have q := bu.frzs b o xs e
          rw [upd_ne (ne_of_none q pD.2.1)]; exact q
        · obtain ⟨mo, q⟩ := bu.tbls b ps e
          exact ⟨mo, by rw [upd_ne (ne_of_none q pD.2.1)]; exact q⟩
      have os4 : s4.os = s2.os := I4.os
      have IX : L2.Inv X pins σ (upd H' D (.lst vs)) s4 := I2.call' (s' := s4) os4 un4 hok4 I4.bare fun b hb => ⟨(f2 b hb).2.2.2.1, (f2 b hb).2.1, (f2 b hb).2.2.2.2.1, (f2 b hb).2.2.2.2.2⟩
      subst hie
      exact hfin s4 C D H' M' vs acc IX hDn dr' (stp.trans stp') rd (wd acc M' wi') ⟨m4, hm4⟩ (I2.fpOk hCs (by rw [upd_ne (Ne.symm hDC)]; exact hCn))
  have hst₁ : tn 0 h₁ := T.keep _ _ _ st2 fun b _ o e => old b o e
  exact codeAny_compStart_list (loop _ rfl) (T.self _ 0 _ _ _ hst₁ (loop _ rfl))
theorem ns_pin {h h' : Heap} {C : Addr} {m : Str → Option Value} (n : h.Ns C m) (k : ∀ o, h.get? C = some o → h'.get? C = some o) : h'.Ns C m := by
  obtain ⟨o, es, ep, ho, r⟩ := n
  exact ⟨o, es, ep, k o ho, r⟩
theorem gone {pins : List (Addr × Obj)} {σ : L2.St} {H : Hp} {s : Shared} {C : Addr} {h' : Heap} (I : L2.Inv X pins σ H s) (f : FpOk X pins H C) (hsb : Heap.SameBut C s.heap h') : L2.Inv X pins σ H { s with heap := h' } :=
  I.turned (t' := s.toks) (fun b o hb e => hsb.extBut b o hb e) f.1 f.2.1 f.2.2.2.1 f.2.2.2.2.1 f.2.2.2.2.2
theorem end_of {ow : Bool} {Φ : DK} {Q : VK} {M M' : Mp} {H H' : Hp} {D : Addr} {vs : List V} {acc : List PyData} (dr' : DRel X.K M' H') (st : Step M H M' H') (rd : Dts X.K M' H' vs acc) (hDn : H' D = none) (fin : dEnd ow Φ acc M') (k : Rch X.K M H Φ Q) : Q (.ref D) (upd H' D (.lst vs)) := by
  cases ow with
  | true =>
    have fin' : ∀ p, M' p = none → Φ (.own p) (mset M' p (.lst acc)) := by simpa [dEnd] using fin
    exact k _ _ (.own D) _ (dr'.ownSet (Step.ownNew hDn) rd) (st.trans (Step.ownNew hDn)) rfl (fin' D (dr'.tracked hDn))
  | false =>
    have fin' : Φ (.dat (.list acc)) M' := by simpa [dEnd] using fin
    exact k.dat (dr'.new hDn) (st.trans (Step.new hDn)) (Dt.newLst dr' hDn rd) fin'
theorem de_comp (ow : Bool) {elt tg iter : Expr} {ifs : List Expr} {scope : Scope} {pos : Pos} {src : DSrc} {N : List Str} {ix : List (Option Nat)} {g : DTG} {tc : DTT} {te : DTE} (ok : CompOk X scope N ix) (hi : DI X tg iter src)
    (hg : ∀ C ex s H, DG (compCx X scope C N ex s H) tg g) (ht : ∀ C ex s H, DTs (compCx X scope C N ex s H) ifs tc) (he : ∀ C ex s H, DE (compCx X scope C N ex s H) elt te) (hc : X.calm = true)
    (hs : ∀ x, foldedSetIterable iter X.env x = pure x := by intro _; rfl) : DE X (.ListComp elt [⟨tg, iter, ifs, 0⟩] scope pos) (dComp ow src ix g tc te) := by
  refine ⟨fun σ H Q => ∀ pins s, L2.Inv X pins σ H s → wpAny (model X.prog X.w) X.A (eval (.ListComp elt [⟨tg, iter, ifs, 0⟩] scope pos) X.env) (EP X pins σ Q) X.xe s, fun pins s σ H Q I h => h pins s I, fun σ H Δ M Φ Q dr er h k pins s I => ?_⟩
  rw [eval_ListComp]
  refine comp_core (ψ := dEnd ow Φ) ok hi hg ht he hc hs dr er h I fun s4 C D H' M' vs acc IX hDn dr' st rd fin hm f => ?_
  obtain ⟨m, hm⟩ := hm
  exact ⟨m, hm, fun h' hsb => ⟨.ref D, _, gone IX f hsb, rfl, end_of dr' st rd hDn fin k⟩⟩
/-- name = [.. for ..]: the name is bound while the block still stands -/
theorem ds_setC (i : Nat) (ow : Bool) {x : Str} {pos' spos : Pos} (hN : X.N.Nodup) {elt tg iter : Expr} {ifs : List Expr} {scope : Scope} {pos : Pos} {src : DSrc} {N : List Str} {ix : List (Option Nat)} {g : DTG} {tc : DTT} {te : DTE} (ok : CompOk X scope N ix) (hi : DI X tg iter src)
    (hg : ∀ C ex s H, DG (compCx X scope C N ex s H) tg g) (ht : ∀ C ex s H, DTs (compCx X scope C N ex s H) ifs tc) (he : ∀ C ex s H, DE (compCx X scope C N ex s H) elt te) (hc : X.calm = true)
    (hs : ∀ x, foldedSetIterable iter X.env x = pure x := by intro _; rfl) (hin : X.N[i]? = some x := by rfl) (hx : Loc X.env.scope x := by first | exact Or.inl rfl | exact Or.inr rfl)
    (hsw : swapsWith (.ListComp elt [⟨tg, iter, ifs, 0⟩] scope pos) (some (.Name x pos')) spos.line X.env = pure true := by rfl)
    (hf : X.fn x = true ∨ X.env.scope.names.lookup x = some .local := by first | exact .inl rfl | exact .inr rfl | assumption) :
    DS X (.Assign [.Name x pos'] (.ListComp elt [⟨tg, iter, ifs, 0⟩] scope pos) spos) (dAsg (dComp ow src ix g tc te) (dgName i)) := by
  refine ⟨fun E σ H => ∀ pins s, L2.Inv X pins σ H s → wpAny (model X.prog X.w) X.A (exec (.Assign [.Name x pos'] (.ListComp elt [⟨tg, iter, ifs, 0⟩] scope pos) spos) X.env) (SP X pins E) X.xe s, fun pins s σ H E I h => h pins s I, fun σ H Δ M D E dr er h k pins s I => ?_⟩
  rw [exec_Assign_Name_used _ _ _ _ hsw]
  refine wpAny_bind (wpAny_standAt (wpAny_bind ?_))
  show wpAny _ _ (do let _ ← comprehension (.ListComp elt [⟨tg, iter, ifs, 0⟩] scope pos) scope X.env _ (newList []) false (eval iter X.env) (some (assign (.Name x pos') X.env))) _ _ s
  refine wpAny_bind (wpAny_mono (comp_core (QQ := fun _ s' => SP X pins E .next s') (use := some (assign (.Name x pos') X.env)) (ψ := dEnd ow fun y M1 => D.nx (Δ.set i (some y)) M1) ok hi hg ht he hc hs dr er h I fun s4 C DD H' M' vs acc IX hDn dr' st rd fin hm f => ?_)
    (fun _ s' hq => wpAny_pure (wpAny_pure hq)) fun _ _ e => e)
  obtain ⟨m, hm⟩ := hm
  have hm0 := hm
  obtain ⟨oC, es, ep, hoC, hr1, hr2⟩ := hm0
  have IP : L2.Inv X (pins ++ [(C, oC)]) σ (upd H' DD (.lst vs)) s4 := IX.pins_of fun p hp => by
    rcases List.mem_append.mp hp with hp | hp
    · exact IX.pin p (List.mem_append_right _ hp)
    · rw [List.mem_singleton.mp hp]
      exact ⟨hoC, f.1, f.2.1, f.2.2.1, fun v z => nomatch (hr1.symm.trans z)⟩
  have nxt : ∀ Q' : L2.St → Hp → Prop, (Q' (σ.set i (some (.ref DD))) (upd H' DD (.lst vs))) → wpAny (model X.prog X.w) X.A (assign (.Name x pos') X.env (.ref DD)) (fun _ s' => ∃ σ' H', L2.Inv X (pins ++ [(C, oC)]) σ' H' s' ∧ Q' σ' H') X.xe s4 := fun Q' hq =>
    pg_name (pos := pos') hN hin hx hf _ s4 σ _ (.ref DD) (.ref DD) Q' IP rfl hq
  have kq : E.nx (σ.set i (some (.ref DD))) (upd H' DD (.lst vs)) := by
    cases ow with
    | true =>
      have fin' : ∀ p, M' p = none → D.nx (Δ.set i (some (.own p))) (mset M' p (.lst acc)) := by simpa [dEnd] using fin
      have st2 : Step M H (mset M' DD (.lst acc)) (upd H' DD (.lst vs)) := st.trans (Step.ownNew hDn)
      exact k.nx _ _ _ _ (dr'.ownSet (Step.ownNew hDn) rd) st2 ((er.step st2).set (v := .ref DD) (x := .own DD) rfl) (fin' DD (dr'.tracked hDn))
    | false =>
      have fin' : D.nx (Δ.set i (some (.dat (.list acc)))) M' := by simpa [dEnd] using fin
      have st2 : Step M H M' (upd H' DD (.lst vs)) := st.trans (Step.new hDn)
      exact k.nx _ _ _ _ (dr'.new hDn) st2 ((er.step st2).set (v := .ref DD) (x := .dat (.list acc)) (Dt.newLst dr' hDn rd)) fin'
  show wpAny _ _ (assign (.Name x pos') X.env (.ref DD)) _ _ s4
  refine thn (nxt (fun σ' H' => σ' = σ.set i (some (.ref DD)) ∧ E.nx σ' H') ⟨rfl, kq⟩) fun _ s5 ⟨σ5, H5, I5, _, q5⟩ => ?_
  have p5 := I5.pin (C, oC) (by simp)
  refine ⟨m, ns_pin hm fun o ho => ?_, fun h' hsb => ⟨σ5, H5, ?_, q5⟩⟩
  · rw [hoC] at ho
    cases ho
    exact p5.1
  · have I6 : L2.Inv X pins σ5 H5 s5 := I5.pins_of fun p hp => I5.pin p (List.mem_append_right _ (List.mem_append_left _ hp))
    exact gone I6 ⟨p5.2.1, f.2⟩ hsb
end
end DL

namespace DL
open PySem PySem.Spec PyProof.Rows L2
section
variable {X : Cx}
/-! ### lists of ints: sorted, min, max -/
/-- a list of ints: data, or owned -/
def IntsOf (xs : List DV) (M : Mp) (ns : List Int) : Prop := xs = [.dat (.list (ns.map PyData.int))] ∨ ∃ l, xs = [.own l] ∧ M l = some (.lst (ns.map PyData.int))
def δSortI : D1 := fun xs M Φ => ∃ ns : List Int, IntsOf xs M ns ∧ ns.length < 64 ∧ ∀ ns' : List Int, ns'.Perm ns → ns'.Pairwise (· ≤ ·) → Φ (.dat (.list (ns'.map PyData.int))) M
def δMinI : D1 := fun xs M Φ => ∃ ns : List Int, IntsOf xs M ns ∧ 0 < ns.length ∧ ∀ m ∈ ns, (∀ a ∈ ns, m ≤ a) → Φ (.dat (.int m)) M
def δMaxI : D1 := fun xs M Φ => ∃ ns : List Int, IntsOf xs M ns ∧ 0 < ns.length ∧ ∀ m ∈ ns, (∀ a ∈ ns, a ≤ m) → Φ (.dat (.int m)) M
/-- max of three -/
theorem Paired.three {α β : Type} {F : α → β → Prop} {l : List α} {b c d : β} (h : Paired F l [b, c, d]) : ∃ a a' a'', l = [a, a', a''] ∧ F a b ∧ F a' c ∧ F a'' d := by
  cases h with
  | cons h1 h2 =>
    obtain ⟨a, a', rfl, h3, h4⟩ := Paired.two h2
    exact ⟨_, a, a', rfl, h1, h3, h4⟩
def δ3I (g : Int → Int → Int → Int) : D1 := fun xs M Φ => on3 xs fun x y z => onI x fun i => onI y fun j => onI z fun l => Φ (.dat (.int (g i j l))) M
theorem call_max3 (hc : X.calm = true) : CallR X (.builtin "max") (fun xs H Q => ∃ i j l, xs = [.int i, .int j, .int l] ∧ Q (.int (max i (max j l))) H) := by
  intro pins s σ H xs us Q I r h
  obtain ⟨i, j, l, rfl, q⟩ := h
  obtain ⟨u, hu⟩ : ∃ u, us = u := ⟨us, rfl⟩
  cases r with
  | cons r1 r2 =>
    obtain ⟨u2, u3, rfl, r3, r4⟩ := vals2 r2
    obtain ⟨t1, rfl⟩ := r1
    obtain ⟨t2, rfl⟩ := r3
    obtain ⟨t3, rfl⟩ := r4
    refine max_three_ints (I.ok.hd hc) fun h' tk k => ⟨.int (max i (max j l)), H, I.kept k, ?_, q⟩
    by_cases c1 : j > i
    · rw [if_pos c1]
      by_cases c2 : l > j
      · rw [if_pos c2]; exact ⟨t3, by rw [show max i (max j l) = l by omega]⟩
      · rw [if_neg c2]; exact ⟨t2, by rw [show max i (max j l) = j by omega]⟩
    · rw [if_neg c1]
      by_cases c2 : l > i
      · rw [if_pos c2]; exact ⟨t3, by rw [show max i (max j l) = l by omega]⟩
      · rw [if_neg c2]; exact ⟨t1, by rw [show max i (max j l) = i by omega]⟩
theorem cd_max3 (hc : X.calm = true) : CallD X (.builtin "max") (δ3I fun i j l => max i (max j l)) := by
  refine ⟨_, call_max3 hc, fun vs H xs M Φ Q r rv h k => ?_⟩
  replace h := on3_ex h
  obtain ⟨x, y, z, rfl, h⟩ := h
  replace h := onI_ex h
  obtain ⟨i, rfl, h⟩ := h
  replace h := onI_ex h
  obtain ⟨j, rfl, h⟩ := h
  replace h := onI_ex h
  obtain ⟨l, rfl, q⟩ := h
  obtain ⟨v, u, w', rfl, h1, h2, h3⟩ := Paired.three rv
  exact ⟨i, j, l, by rw [VRel.int h1, VRel.int h2, VRel.int h3], k.dat r Step.refl (Dt.int _) q⟩
/-! ### tuple(l) -/
def δTupOf : D1 := fun xs M Φ => on1 xs fun x => onQ x M fun ds => Φ (.dat (.tuple ds)) M
theorem cd_tupleOf : CallD X (.type "tuple") δTupOf := by
  refine ⟨_, call_tuple_of, fun vs H xs M Φ Q r rv h k => ?_⟩
  replace h := on1_ex h
  obtain ⟨x, rfl, h⟩ := h
  replace h := onQ_ex h
  obtain ⟨ds, hx, q⟩ := h
  have hx' : x = .dat (.list ds) ∨ x = .dat (.tuple ds) ∨ ∃ l, x = .own l ∧ M l = some (.lst ds) := by
    rcases hx with a | a | a
    · exact .inr (.inl a)
    · exact .inl a
    · exact .inr (.inr a)
  rcases hx' with rfl | rfl | ⟨l, rfl, hm⟩
  · obtain ⟨v, rfl, h1⟩ := Paired.one rv
    obtain ⟨p, ys, rfl, g1, g2⟩ := VRel.lst h1
    exact ⟨p, ys, rfl, .inl ⟨g1.sq, fun l hl => k.dat (r.new hl) (Step.new hl) (Dt.newTup r hl g2) q⟩⟩
  · obtain ⟨v, rfl, h1⟩ := Paired.one rv
    obtain ⟨p, ys, rfl, g1, g2⟩ := VRel.tup h1
    exact ⟨p, ys, rfl, .inr ⟨g1.sq, k.dat r Step.refl (Dt.tup g1 g2) q⟩⟩
  · obtain ⟨v, rfl, h1⟩ := Paired.one rv
    cases (show v = .ref l from h1)
    obtain ⟨ws, g1, g2⟩ := r.ls l _ hm
    exact ⟨l, ws, rfl, .inl ⟨SqL.of g1, fun l hl => k.dat (r.new hl) (Step.new hl) (Dt.newTup r hl g2) q⟩⟩
/-! ### in -/
theorem op_inD (hu : X.A.units + 66 < cLine) : OpR X (compareOp .In) (fun x y H Q => ∃ M d ds, Dt X.K M H x d ∧ (Dt X.K M H y (.list ds) ∨ Dt X.K M H y (.tuple ds)) ∧ d.canLay0 = true ∧ PyData.canLayAll0 ds = true ∧ d.depth ≤ 64 ∧ Q (.bl (ds.any fun e => PyData.eqv e d)) H) := by
  intro pins s σ H x y v u Q I rx ry h
  obtain ⟨M, d, ds, h1, h2, c1, c2, hdp, q⟩ := h
  obtain ⟨as, ra, _⟩ := h1.reads I rx
  rcases h2 with h2 | h2
  · obtain ⟨bs, rb, _⟩ := h2.reads I ry
    exact PySem.SeqAt.in_list_reads rb ra c2 c1 (by have := Nat.min_le_right (PyData.depthAll ds) d.depth; omega) ⟨.bl _, H, I, rfl, q⟩
  · obtain ⟨bs, rb, _⟩ := h2.reads I ry
    exact PySem.SeqAt.in_tuple_reads rb ra c2 c1 (by have := Nat.min_le_right (PyData.depthAll ds) d.depth; omega) ⟨.bl _, H, I, rfl, q⟩
/-- a tuple or a list, data -/
def onW (x : DV) (P : List PyData → Prop) : Prop := match x with | .dat (.tuple ds) => P ds | .dat (.list ds) => P ds | _ => False
theorem onW_ex {x : DV} {P : List PyData → Prop} (h : onW x P) : ∃ ds, (x = .dat (.list ds) ∨ x = .dat (.tuple ds)) ∧ P ds := by
  unfold onW at h
  split at h
  · exact ⟨_, .inr rfl, h⟩
  · exact ⟨_, .inl rfl, h⟩
  · exact h.elim
def okIn (d : PyData) (ds : List PyData) : Bool := d.canLay0 && PyData.canLayAll0 ds && Nat.ble d.depth 64
theorem okIn_ex {d : PyData} {ds : List PyData} (h : okIn d ds = true) : d.canLay0 = true ∧ PyData.canLayAll0 ds = true ∧ d.depth ≤ 64 := by
  unfold okIn at h
  simp only [Bool.and_eq_true] at h
  exact ⟨h.1.1, h.1.2, Nat.le_of_ble_eq_true h.2⟩
def δIn : D2 := fun x y M Φ => onD x fun d => onW y fun ds => okIn d ds = true ∧ Φ (.dat (.bool (ds.any fun e => PyData.eqv e d))) M
theorem od_in {k : Nat} (hr : Room k X.A) : OpD X (compareOp .In) δIn :=
  ⟨_, op_inD (by have := hr.un; omega), fun v u H x y M Φ Q r rv ru h k => by
    obtain ⟨d, e1, h⟩ := onD_ex h
    obtain ⟨ds, e2, ho, q⟩ := onW_ex h
    obtain ⟨c1, c2, hdp⟩ := okIn_ex ho
    subst e1
    refine ⟨M, d, ds, rv, ?_, c1, c2, hdp, k.dat r Step.refl (Dt.bl _) q⟩
    rcases e2 with rfl | rfl
    · exact .inl ru
    · exact .inr ru⟩
/-! ### l.extend(m), both owned -/
def dExtend (to te : DTE) : DTE := fun Δ M Φ => to Δ M fun x M1 => onO x fun l => onOL (M1 l) fun _ => te Δ M1 fun y M2 => onO y fun b => onOL (M2 l) fun ds => onOL (M2 b) fun es => b ≠ l ∧ ds.length + es.length ≤ sizeLine ∧ Φ (.dat .none) (mdel (mset M2 l (.lst (ds ++ es))) b)
/-! ### for x in range(a, b) -/
/-! ### slices of lists -/
def dSlL (te : DTE) (tl th : DTO) : DTE := fun Δ M Φ => te Δ M fun x M1 => tl Δ M1 fun l M2 => th Δ M2 fun u M3 => onL x fun ds => Φ (.dat (.list (cutD ds l u))) M3
/-! ### a comprehension's names, checked -/
def relabelS (scope sc : Scope) : List (Str × NameKind) := scope.names.map fun (n, k) => if (k == .free && sc.kind == .function && sc.names.lookup n == some .cell) then (n, .cell) else (n, k)
def capOk (sc : Scope) (XN : List Str) (scope : Scope) (N : List Str) (ix : List (Option Nat)) (j : Nat) : Bool :=
  match N[j]?, ix[j]? with
  | some x, some (some i) => decide (XN[i]? = some x) && (decide ((x, NameKind.free) ∈ scope.names) && decide ((relabelS scope sc).lookup x = some .cell))
  | _, _ => true
theorem compOk_of {sc : Scope} {XN : List Str} {scope : Scope} {N : List Str} {ix : List (Option Nat)} (hsc : X.env.scope = sc) (hN : X.N = XN)
    (h : scope.kind = .function ∧ (∀ y ∈ scope.names, y.2 ≠ .cell) ∧ (∀ y ∈ scope.names, y.2 = .local → scope.names.lookup y.1 = some .local) ∧ (∀ y ∈ scope.names, y.2 = .free → sc.names.lookup y.1 = some .cell) ∧ N.length = ix.length ∧
      ∀ j ∈ List.range N.length, capOk sc XN scope N ix j = true) : CompOk X scope N ix := by
  obtain ⟨h1, h2, h3, h4, h5, h6⟩ := h
  subst hsc hN
  refine ⟨h1, h2, h3, h4, h5, fun j x i hx hi => ?_⟩
  have hj : j < N.length := (List.getElem?_eq_some_iff.mp hx).1
  have q := h6 j (List.mem_range.mpr hj)
  unfold capOk at q
  rw [hx, hi] at q
  simp only [Bool.and_eq_true, decide_eq_true_eq] at q
  exact ⟨q.1, q.2.1, q.2.2⟩
end
end DL

namespace DL
open PySem PySem.Spec PyProof.Rows L2
/-! ### maps after a list was taken in; lists by turns -/
theorem take_snoc {α β : Type} {l : List α} {i : Nat} {a : α} (f : α → β) (h : l[i]? = some a) : (l.take i).map f ++ [f a] = (l.take (i + 1)).map f := by
  rw [List.take_add_one, h, List.map_append]
  rfl
theorem map_get {α β : Type} {l : List α} {f : α → β} {i : Nat} {b : β} (h : (l.map f)[i]? = some b) : ∃ a, l[i]? = some a ∧ f a = b := by
  rw [List.getElem?_map] at h
  cases q : l[i]? with
  | none => rw [q] at h; cases h
  | some a => rw [q] at h; exact ⟨a, rfl, by simpa using h⟩
/-! ### what is owned and no more used is let go -/
def gc (Φ : DK) : DK := fun x M => ∃ ps : List Addr, Φ x (ps.foldl mdel M)
theorem gc_go {K : PySem.W.Frag} {M : Mp} {H : Hp} {Φ : DK} {Q : VK} (k : Rch K M H Φ Q) {v : V} {H' : Hp} {x : DV} : ∀ (ps : List Addr) (M' : Mp), DRel K M' H' → Step M H M' H' → VRel K M' H' v x → Φ x (ps.foldl mdel M') → Q v H'
  | [], M', r, st, rv, f => k v H' x M' r st rv f
  | p :: ps, M', r, st, rv, f => gc_go k ps (mdel M' p) r.frz (st.trans Step.frz) (rv.step Step.frz) f
theorem gc_rch {K : PySem.W.Frag} {M : Mp} {H : Hp} {Φ : DK} {Q : VK} (k : Rch K M H Φ Q) : Rch K M H (gc Φ) Q := fun _ _ _ M' r st rv ⟨ps, f⟩ => gc_go k ps M' r st rv f
theorem okG {P : Program} {w : World} {K : PySem.W.Frag} {mg : Str → Option Value} {base : Heap} {x qual : Str} {st : Stmt} {f : Addr} {fd : FuncData} {N ps : List Str} {k : Nat} {S : DSp} (F : Fun K x qual st f fd) (Sc : FnScope N ps (defScope st)) (len : ∀ xs M Φ, S xs M Φ → xs.length = ps.length)
    (hbody : ∀ (cdv : Value) (A : Around) (outer : List Env) (s : Shared) (H : Hp) (E : XK), Room k (A.deeper (envOfC qual (defScope st) s.heap.objs.size f cdv)) →
      ∃ τ, DSs (cxOf CX0 P w K mg base N qual (defScope st) f cdv A outer s H E).nox (defBody st) τ ∧ ∀ xs M Φ, S xs M Φ → τ { nx := fun _ M' => gc Φ (.dat .none) M', rt := gc Φ } (startD N xs) M) : FnOk P w K mg base CX0 (k + 1) f fd ps (lift K S) := by
  refine F.ok Sc (fun vs H Q E h => ?_) fun cdv A outer s H vs Q E hr h => ?_
  · obtain ⟨xs, M, Φ, _, rv, hs, _⟩ := h
    rw [Paired.length rv]
    exact len xs M Φ hs
  · obtain ⟨xs, M, Φ, r, rv, hs, kk⟩ := h
    obtain ⟨τ, ⟨t, p, q⟩, hτ⟩ := hbody cdv A outer s H E hr
    refine ⟨t, p, q (start N vs) H (startD N xs) M _ _ r (ERel.start rv) (hτ xs M Φ hs) ⟨fun σ' H' Δ' M' r' st' e' hn => ?_, gc_rch kk, fun _ _ _ _ _ _ _ h => h.elim, fun _ _ _ _ _ _ _ h => h.elim⟩⟩
    exact (gc_rch kk).dat r' st' Dt.non hn
theorem gc_one {Φ : DK} {x : DV} {M : Mp} {p : Addr} {o : OO} (hp : M p = none) (h : Φ x M) : gc Φ x (mset M p o) := ⟨[p], by
  show Φ x (mdel (mset M p o) p)
  rw [mdel_mset hp]; exact h⟩
/-! ### plain data can be shown -/
theorem log2_lt' {n k : Nat} (h : n < 2 ^ k) (hk : 0 < k) : n.log2 < k := by
  by_cases h0 : n = 0
  · subst h0; simpa using hk
  · exact (Nat.log2_lt h0).mpr h
def Mid (i : Int) : Prop := -(10 ^ 70) ≤ i ∧ i ≤ 10 ^ 70
theorem Mid.show {i : Int} (h : Mid i) : (PyData.int i).showable = true := by
  have h1 : i.natAbs.log2 < 240 := log2_lt' (by unfold Mid at h; omega) (by decide)
  simp only [PyData.showable, decide_eq_true_eq]
  omega
end DL

namespace DL
open PySem PySem.Spec PyProof.Rows L2
section
variable {X : Cx}
/-! ### sum of an int list -/
def δSumI : D1 := fun xs M Φ => ∃ ns : List Int, IntsOf xs M ns ∧ Φ (.dat (.int ns.sum)) M
/-! ### all, any of a list of truths -/
theorem bools_get : ∀ {bs : List Bool} {us : List Value}, Vals (bs.map V.bl) us → ∀ (i : Nat) (v : Value), us[i]? = some v → ∃ b, bs[i]? = some b ∧ v = .bool b
  | [], _, r, i, v, e => by rw [List.map_nil] at r; cases r; simp at e
  | b :: bs, _, r, i, v, e => by
    rw [List.map_cons] at r
    cases r with
    | cons r1 r2 =>
      cases i with
      | zero =>
        simp at e
        subst e
        exact ⟨b, rfl, r1⟩
      | succ i => simpa using bools_get r2 i v (by simpa using e)
theorem range_all' (bs : List Bool) : ((List.range bs.length).all fun i => (bs[i]?).getD true) = bs.all id := by
  rw [Bool.eq_iff_iff, List.all_eq_true, List.all_eq_true]
  constructor
  · intro h b hb
    obtain ⟨i, hi, e⟩ := List.getElem_of_mem hb
    have q := h i (List.mem_range.mpr hi)
    rw [List.getElem?_eq_getElem hi, Option.getD_some, e] at q
    exact q
  · intro h i hi
    have hi' := List.mem_range.mp hi
    rw [List.getElem?_eq_getElem hi', Option.getD_some]
    exact h _ (List.getElem_mem hi')
theorem iter_kept {s : Shared} {h' : Heap} {o : Obj} (hk : ∀ b x, b ∉ [s.heap.objs.size] → (s.heap.push o).get? b = some x → h'.get? b = some x) : ∀ b x, s.heap.get? b = some x → h'.get? b = some x :=
  fun b x e => hk b x (fun hm => absurd (Heap.lt_size e) (by rw [List.mem_singleton.mp hm]; exact Nat.lt_irrefl _)) (Heap.get?_push_of_some _ e)
theorem call_allB (hc : X.calm = true) : CallR X (.builtin "all") (fun xs H Q => ∃ (p : Addr) (bs : List Bool), xs = [.ref p] ∧ SqL X.K H p (bs.map V.bl) ∧ Q (.bl (bs.all id)) H) := by
  intro pins s σ H xs us Q I r h
  obtain ⟨p, bs, rfl, hq, q⟩ := h
  obtain ⟨u, rfl, rx⟩ := vals1 r
  cases rx
  obtain ⟨its, rv, pl, hz⟩ := I.list hq
  have hl := pl.isList
  have hlt : p < s.heap.objs.size := by obtain ⟨_, e, _⟩ := hl; exact Heap.lt_size e
  refine call_all_walk (wpAny_pyIter_list hl ?_)
  refine ⟨s.heap.objs.size, [s.heap.objs.size, p], [s.heap.objs.size], its.toArray.size, _, _, fun i => (bs[i]?).getD true, rfl, Walks.list (A := X.A.in1) (I.ok.hd hc) _ p (Nat.ne_of_lt hlt) its.toArray,
    ⟨⟨_, Heap.get?_push_size _ rfl, rfl, rfl⟩, hl.push _⟩, fun i v s' Q' E' hP hQ => ?_, fun h' tk hk => ?_⟩
  · obtain ⟨b, e, rfl⟩ := bools_get rv i v (by simpa using hP)
    simp only [e, Option.getD_some] at hQ
    exact wpAny_truthy_bool hQ
  · have e : ((List.range its.toArray.size).all fun i => (bs[i]?).getD true) = bs.all id := by
      have hln := rv.length
      rw [List.length_map] at hln
      rw [List.size_toArray, ← hln]; exact range_all' bs
    rw [e]
    exact ⟨.bl _, H, I.kept (iter_kept hk), rfl, q⟩
theorem ofDts_bools {K : PySem.W.Frag} {M : Mp} {H : Hp} : ∀ {vs : List V} {bs : List Bool}, Dts K M H vs (bs.map PyData.bool) → vs = bs.map V.bl
  | vs, [], h => by
    rw [List.map_nil] at h
    cases h
    rfl
  | vs, n :: ns, h => by
    rw [List.map_cons] at h
    cases h with
    | cons h1 h2 =>
      cases h1
      rw [ofDts_bools h2, List.map_cons]
def δAllB : D1 := fun xs M Φ => ∃ bs : List Bool, xs = [.dat (.list (bs.map PyData.bool))] ∧ Φ (.dat (.bool (bs.all id))) M
def δAnyB : D1 := fun xs M Φ => ∃ bs : List Bool, xs = [.dat (.list (bs.map PyData.bool))] ∧ Φ (.dat (.bool (bs.any id))) M
theorem cd_all (hc : X.calm = true) : CallD X (.builtin "all") δAllB := by
  refine ⟨_, call_allB hc, fun vs H xs M Φ Q r rv h k => ?_⟩
  obtain ⟨bs, rfl, q⟩ := h
  obtain ⟨v, rfl, h1⟩ := Paired.one rv
  obtain ⟨p, ys, rfl, g1, g2⟩ := VRel.lst h1
  rw [ofDts_bools g2] at g1
  exact ⟨p, bs, rfl, g1.sq, k.dat r Step.refl (Dt.bl _) q⟩
/-! ### int of a truth -/
def δIntB : D1 := fun xs M Φ => on1 xs fun x => onB x fun b => Φ (.dat (.int (if b = true then 1 else 0))) M
/-! ### a, b = x, y -/
def dPar (i j : Nat) (ta : DTA) : DTS := fun D Δ M => ta Δ M fun xs M1 => on2 xs fun x y => D.nx ((Δ.set i (some x)).set j (some y)) M1
/-! ### lists read, data or owned -/
def LsOf (x : DV) (M : Mp) (ds : List PyData) : Prop := x = .dat (.list ds) ∨ ∃ l, x = .own l ∧ M l = some (.lst ds)
theorem LsOf.sq {x : DV} {M : Mp} {H : Hp} {v : V} {ds : List PyData} (h : LsOf x M ds) (r : DRel X.K M H) (rv : VRel X.K M H v x) : ∃ p ys, v = .ref p ∧ SqL X.K H p ys ∧ Dts X.K M H ys ds := by
  rcases h with rfl | ⟨l, rfl, hm⟩
  · obtain ⟨p, ys, rfl, g1, g2⟩ := VRel.lst rv
    exact ⟨p, ys, rfl, g1.sq, g2⟩
  · cases (show v = .ref l from rv)
    obtain ⟨ws, g1, g2⟩ := r.ls l _ hm
    exact ⟨l, ws, rfl, SqL.of g1, g2⟩
def δCatS : D2 := fun x y M Φ => onK x M fun ds => onK y M fun es => ds.length + es.length ≤ sizeLine ∧ Φ (.dat (.list (ds ++ es))) M
theorem od_catS : OpD X (binaryOp .Add) δCatS := by
  refine ⟨_, op_catSq, fun v u H x y M Φ Q r rv ru h k => ?_⟩
  replace h := onK_ex h
  obtain ⟨ds, hx, h⟩ := h
  replace h := onK_ex h
  obtain ⟨es, hy, hz, q⟩ := h
  replace hx : LsOf x M ds := hx
  replace hy : LsOf y M es := hy
  obtain ⟨a, xs, rfl, h1, h2⟩ := hx.sq r rv
  obtain ⟨b, ys, rfl, h3, h4⟩ := hy.sq r ru
  exact ⟨a, b, xs, ys, rfl, rfl, h1, h3, by rw [h2.length, h4.length]; exact hz, fun p hp => k.dat (r.new hp) (Step.new hp) (Dt.newLst r hp (h2.append h4)) q⟩
def dSlS (te : DTE) (tl th : DTO) : DTE := fun Δ M Φ => te Δ M fun x M1 => tl Δ M1 fun l M2 => th Δ M2 fun u M3 => onK x M3 fun ds => Φ (.dat (.list (cutD ds l u))) M3
/-! ### list(range(a, b)) -/
def rngV (lo : Int) (n : Nat) : List V := (List.range n).map fun (i : Nat) => V.int (lo + (i : Int))
def dListR2 (ta : DTA) : DTE := fun Δ M Φ => ta Δ M fun xs M1 => on2 xs fun x y => onI x fun i => onI y fun j => (InR i ∧ InR j) ∧ (j - i).toNat ≤ 16777216 ∧ Φ (.dat (.list (rngD i (j - i).toNat))) M1
/-! ### x += e of ints -/
def dAug (i : Nat) (te : DTE) (f : Int → Int → Int) : DTS := fun D Δ M => onV Δ[i]? fun z => onI z fun a => te Δ M fun x M1 => onI x fun b => D.nx (Δ.set i (some (.dat (.int (f a b))))) M1
end
end DL

namespace DL
open PySem PySem.Spec PyProof.Rows L2
/-! ### pairs of whole numbers: which goes first -/
def PrAt (h : Heap) (v : Value) (q : Int × Int) : Prop := ∃ a o n t u, v = .ref a ∧ h.get? a = some o ∧ o.cls = .type "tuple" ∧ o.data = .seq #[.int q.1 t, .int q.2 u] n
def ltP (p q : Int × Int) : Bool := if p.1 = q.1 then decide (p.2 < q.2) else decide (p.1 < q.1)
section
variable {prog : Program} {w : World} {A : Around} {E : Value → Shared → Prop} {s : Shared}
end
section
variable {prog : Program} {w : World} {A : Around} {R : Result → Shared → Prop} {I : Addr} {fp wr : List Addr} {n : Nat} {P : Nat → Value → Prop} {St : Nat → Heap → Prop}
/-- as CmpOf, of what an earlier heap holds -/
def CmpAt (prog : Program) (w : World) (A : Around) (h0 : Heap) (P : Nat → Value → Prop) (bt : Nat → Nat → Bool) : Prop :=
  ∀ i j x y (s : Shared) (Q : Value → Shared → Prop) (E : Value → Shared → Prop), (∀ b o, h0.get? b = some o → s.heap.get? b = some o) → P i x → P j y → Q (.bool (bt i j)) s → wpAny (model prog w) A (richCompare .Lt x y) Q E s
end
section
variable {prog : Program} {w : World} {A : Around} {E : Value → Shared → Prop} {s : Shared}
end
section
variable {X : Cx}
/-! ### // by a wider number -/
def CDivB (i j : Int) : Prop := 0 < j ∧ j.natAbs.log2 < 9000
theorem op_fdivB : OpR X (binaryOp .FloorDiv) (rI CDivB fun i j => .int (i / j)) := opI fun i j _ _ _ _ _ hc q => by
  have h1 : (0 : Int) < j := hc.1
  exact floordiv_int (by omega) (by rw [Int.fdiv_eq_ediv_of_nonneg i (by omega)]; exact q) (.inl (PyProof.noPylong_of_log2 hc.2))
theorem od_fdivB : OpD X (binaryOp .FloorDiv) (δI CDivB fun i j => .int (i / j)) := od_I op_fdivB
/-! ### min of pairs -/
def prD (q : Int × Int) : PyData := .tuple [.int q.1, .int q.2]
def δMinP : D1 := fun xs M Φ => ∃ qs : List (Int × Int), xs = [.dat (.list (qs.map prD))] ∧ 0 < qs.length ∧ ∀ q ∈ qs, (∀ r ∈ qs, ltP r q = false) → Φ (.dat (prD q)) M
end
end DL

namespace DL
open PySem PySem.Spec PyProof.Rows L2
/-! ### dicts whose keys are pairs, under way: which keys they hold -/
def memK {α : Type} [DecidableEq α] (ks : List α) (k : α) : Bool := decide (k ∈ ks)
def addK {α : Type} [DecidableEq α] (ks : List α) (k : α) : List α := if k ∈ ks then ks else ks ++ [k]
section
variable {X : Cx}
def dDict0T : DTE := fun _ M Φ => ∀ p, M p = none → Φ (.own p) (mset M p (.dct []))
def kP (i j : Int) : List Key := [.inl i, .inl j]
def dPutT (td : DTE) (ta : DTA) (tv : DTE) : DTS := fun D Δ M => tv Δ M fun x M1 => td Δ M1 fun y M2 => ta Δ M2 fun zs M3 => onD x fun _ => onO y fun l => on2 zs fun p q => onI p fun i => onI q fun j => onOC (M3 l) fun ks => ks.length < sizeLine ∧ D.nx Δ (mset M3 l (.dct (addK ks (kP i j))))
/-! ### (x, y) in d -/
/-- a pair of ints -/
def onP (x : DV) (P : Int → Int → Prop) : Prop := match x with | .dat (.tuple [.int i, .int j]) => P i j | _ => False
theorem onP_ex {x : DV} {P : Int → Int → Prop} (h : onP x P) : ∃ i j, x = .dat (.tuple [.int i, .int j]) ∧ P i j := by
  unfold onP at h
  split at h
  · exact ⟨_, _, rfl, h⟩
  · exact h.elim
def δInT : D2 := fun x y M Φ => onP x fun i j => onO y fun l => onOC (M l) fun ks => Φ (.dat (.bool (memK ks (kP i j)))) M
end
/-! ### t[::-1] -/
section
variable {prog : Program} {w : World} {A : Around} {E : Value → Shared → Prop} {s : Shared}
end
section
variable {X : Cx}
def dRevT (te ts : DTE) : DTE := fun Δ M Φ => te Δ M fun x M1 => ts Δ M1 fun y M2 => onT x fun ds => onI y fun i => i = -1 ∧ Φ (.dat (.tuple ds.reverse)) M2
end
/-! ### t[lo:hi], the whole of it too -/
section
variable {prog : Program} {w : World} {A : Around} {E : Value → Shared → Prop} {s : Shared}
theorem item_whole {t sl : Addr} {items : Array Value} {vl vu : Value} {lo hi : Option Int} {Q : Value → Shared → Prop} (ht : IsTup s.heap t items) (hs : s.heap.IsSliceOf sl vl vu .none) (pl : IsPart vl lo) (pu : IsPart vu hi)
    (hw : HT.sIx items.size 0 lo = 0 ∧ HT.sIx items.size items.size hi = items.size) (h : Q (.ref t) s) : wpAny (model prog w) A (getItem (.ref t) (.ref sl)) Q E s := by
  obtain ⟨os, hos, hcs, hds⟩ := id hs
  have hTs : s.TypeIs (.ref sl) "slice" := ⟨os, hos, hcs⟩
  unfold getItem
  try with_reducible refine wpAny_holding ?_
  first | refine wpAny_bind (wpAny_pure ?_) | skip
  refine wpAny_bind (wpAny_sequenceKey ht.typeIs (by decide) ?_)
  refine wpAny_bind (wpAny_callSpecial?_slot (name := Str.ofString "__getitem__") ht.typeIs PyProof.Rows.slot_tuple_getitem (wpAny_call_entry PyProof.Rows.slot_tuple_getitem ht.typeIs entry_tuple_getitem ?_ (args_tuple_getitem _ _)))
  show wpAny _ _ (Builtin.Tuple.tupleItemsOf (.ref t) >>= _) _ _ s
  refine wpAny_bind (tupleItemsOf_ ht (wpAny_bind (wpAny_typeOf hTs ?_)))
  rw [if_pos (by decide)]
  refine wpAny_bind (HT.sliceApplied_gen hs pl pu ?_)
  rw [hw.1, hw.2, Nat.sub_zero]
  show wpAny _ _ (if ((((0 : Nat) : Int) == 0) && ((1 : Int) == 1) && (items.size == items.size)) = true then _ else _) _ _ s
  rw [if_pos (by simp)]
  unfold Builtin.Tuple.tupleIsExact
  refine wpAny_bind (wpAny_bind (wpAny_typeOf ht.typeIs (wpAny_pure ?_)))
  rw [if_pos (by decide)]
  exact wpAny_bind (wpAny_rule (wpAny_pure ⟨_, rfl, wpAny_pure h⟩))
end
section
variable {X : Cx}
def rSlTW (K : PySem.W.Frag) : V → Option Int → Option Int → Hp → VK → Prop := fun x lo hi H Q => ∃ a xs, x = .ref a ∧ SqT K H a xs ∧ (HT.sIx xs.length 0 lo = 0 ∧ HT.sIx xs.length xs.length hi = xs.length) ∧ Q (.ref a) H
theorem sl_tupW : SlR X (rSlTW X.K) := by
  intro pins s σ H x v vl vu lo hi sl Q I rx hs pl pu h
  obtain ⟨a, xs, rfl, hx, hw, q⟩ := h
  cases (show v = .ref a from rx)
  obtain ⟨its, r, ht, hz⟩ := I.tuple hx
  have hlen : its.toArray.size = xs.length := by rw [List.size_toArray]; exact r.length.symm
  exact ⟨"tuple", _, PyProof.Rows.slot_tuple_getitem.lookup, ht.typeIs, item_whole ht hs pl pu (by rw [hlen]; exact hw) ⟨.ref a, H, I, rfl, q⟩⟩
def dSlTW (te : DTE) (tl th : DTO) : DTE := fun Δ M Φ => te Δ M fun x M1 => tl Δ M1 fun l M2 => th Δ M2 fun u M3 => onT x fun ds => Φ (.dat (.tuple (cutD ds l u))) M3
theorem de_sliceTW {e : Expr} {te : DTE} {lo hi : Option Expr} {tl th : DTO} {p2 pos : Pos} (he : DE X e te) (hl : DO X lo tl) (hu : DO X hi th) : DE X (.Subscript e (.Slice lo hi none p2) pos) (dSlTW te tl th) := by
  obtain ⟨t1, p1, q1⟩ := he
  obtain ⟨t2, p2, q2⟩ := hl
  obtain ⟨t3, p3, q3⟩ := hu
  refine ⟨_, pe_slice (sl_tup.or sl_tupW) p1 p2 p3, fun σ H Δ M Φ Q r e h k => ?_⟩
  refine q1 σ H Δ M _ _ r e h fun v H1 x M1 r1 st rv hx => ?_
  refine q2 σ H1 Δ M1 _ _ r1 (e.step st) hx fun l H2 M2 r2 st2 hl => ?_
  refine q3 σ H2 Δ M2 _ _ r2 (e.step (st.trans st2)) hl fun u H3 M3 r3 st3 hu => ?_
  replace hu := onT_ex hu
  obtain ⟨ds, rfl, hu⟩ := hu
  obtain ⟨a, xs, rfl, h1, h2⟩ := (rv.step (st2.trans st3)).tup
  by_cases hw : HT.sIx xs.length 0 l = 0 ∧ HT.sIx xs.length xs.length u = xs.length
  · refine .inr ⟨a, xs, rfl, h1.sq, hw, k.dat r3 (st.trans (st2.trans st3)) (Dt.tup h1 h2) ?_⟩
    have e : cutD ds l u = ds := by
      unfold cutD
      rw [← h2.length, hw.1, hw.2, List.drop_zero, Nat.sub_zero, h2.length, List.take_length]
    rw [e] at hu
    exact hu
  · refine .inl ⟨a, xs, rfl, h1.sq, hw, fun p hp => ?_⟩
    exact k.dat (r3.new hp) ((st.trans (st2.trans st3)).trans (Step.new hp)) (Dt.newTup r3 hp (h2.cut l u)) hu
end
section
variable {X : Cx}
/-- an owned list, or one that is data, becomes data -/
def onFr (x : DV) (M : Mp) (Φ : DK) : Prop := match x with | .dat (.list ds) => Φ (.dat (.list ds)) M | .own l => onOL (M l) fun ds => Φ (.dat (.list ds)) (mdel M l) | _ => False
def dFrzA (t : DTE) : DTE := fun Δ M Φ => t Δ M fun x M1 => onFr x M1 Φ
end
end DL

namespace DL
open PySem PySem.Spec PyProof.Rows L2
/-! ### loops and comprehensions over a few items, turn by turn -/
theorem de_weak {X : Cx} {e : Expr} {τ τ' : DTE} (h : DE X e τ) (k : ∀ Δ M Φ, τ' Δ M Φ → τ Δ M Φ) : DE X e τ' := by
  obtain ⟨t, p, q⟩ := h
  exact ⟨t, p, fun σ H Δ M Φ Q a b c d => q σ H Δ M Φ Q a b (k _ _ _ c) d⟩
theorem ds_weak {X : Cx} {s : Stmt} {τ τ' : DTS} (h : DS X s τ) (k : ∀ D Δ M, τ' D Δ M → τ D Δ M) : DS X s τ' := by
  obtain ⟨t, p, q⟩ := h
  exact ⟨t, p, fun σ H Δ M D E a b c d => q σ H Δ M D E a b (k _ _ _ c) d⟩
def srcM (src : DSrc) : DSrc := fun Δ M Ψ => ∃ Ψ', src Δ M Ψ' ∧ ∀ ds M1, Ψ' ds M1 → Ψ ds M1
theorem DI.mono {X : Cx} {tg iter : Expr} {src : DSrc} (h : DI X tg iter src) : DI X tg iter (srcM src) := by
  obtain ⟨wi, p, q⟩ := h
  exact ⟨wi, p, fun σ H Δ M Ψ R dr er ⟨Ψ', h1, h2⟩ k => q σ H Δ M Ψ' R dr er h1 fun J H' M' ds a b c d => k J H' M' ds a b c (h2 _ _ d)⟩
def CompRun (g : DTG) (tc : DTT) (te : DTE) (Δc : DSt) (fin : List PyData → Mp → Prop) : List PyData → List PyData → Mp → Prop
  | [], acc, M => fin acc M
  | d :: ds, acc, M => g (.dat d) Δc M fun Δ2 M2 => tc Δ2 M2 fun b M3 => if b = true then te Δ2 M3 fun y M4 => onD y fun e => CompRun g tc te Δc fin ds (acc ++ [e]) M4 else CompRun g tc te Δc fin ds acc M3
theorem CompRun_n (g : DTG) (tc : DTT) (te : DTE) (Δc : DSt) (fin : List PyData → Mp → Prop) (acc : List PyData) (M : Mp) : CompRun g tc te Δc fin [] acc M = fin acc M := by rw [CompRun]
theorem CompRun_c (g : DTG) (tc : DTT) (te : DTE) (Δc : DSt) (fin : List PyData → Mp → Prop) (d : PyData) (ds acc : List PyData) (M : Mp) : CompRun g tc te Δc fin (d :: ds) acc M =
    g (.dat d) Δc M fun Δ2 M2 => tc Δ2 M2 fun b M3 => if b = true then te Δ2 M3 fun y M4 => onD y fun e => CompRun g tc te Δc fin ds (acc ++ [e]) M4 else CompRun g tc te Δc fin ds acc M3 := by rw [CompRun]
theorem comp_run {g : DTG} {tc : DTT} {te : DTE} {Δc : DSt} {fin : List PyData → Mp → Prop} {ds : List PyData} {M : Mp} (h : CompRun g tc te Δc fin ds [] M) : ∃ J : Nat → List PyData → Mp → Prop, J 0 [] M ∧
  (∀ i d acc M', ds[i]? = some d → J i acc M' → g (.dat d) Δc M' fun Δ2 M2 => tc Δ2 M2 fun b M3 => if b = true then te Δ2 M3 fun y M4 => onD y fun e => J (i + 1) (acc ++ [e]) M4 else J (i + 1) acc M3) ∧
  ∀ acc M', J ds.length acc M' → fin acc M' := by
  refine ⟨fun i acc M' => CompRun g tc te Δc fin (ds.drop i) acc M', by simpa using h, fun i d acc M' e k => ?_, fun acc M' k => ?_⟩
  · have ed : ds.drop i = d :: ds.drop (i + 1) := by
      obtain ⟨hi, e'⟩ := List.getElem?_eq_some_iff.mp e
      rw [← e', List.drop_eq_getElem_cons hi]
    dsimp only at k
    rw [ed] at k
    exact k
  · dsimp only at k
    rw [List.drop_length] at k
    exact k
def dCompU (ow : Bool) (src : DSrc) (ix : List (Option Nat)) (g : DTG) (tc : DTT) (te : DTE) : DTE := fun Δ M Φ => src Δ M fun ds M1 => ds.length ≤ sizeLine ∧ CompRun g tc te (capD ix Δ) (dEnd ow Φ) ds [] M1
theorem dCompU_w {ow : Bool} {src : DSrc} {ix : List (Option Nat)} {g : DTG} {tc : DTT} {te : DTE} (Δ : DSt) (M : Mp) (Φ : DK) (h : dCompU ow src ix g tc te Δ M Φ) : dComp ow (srcM src) ix g tc te Δ M Φ :=
  ⟨_, h, fun _ _ ⟨a, b⟩ => ⟨a, comp_run b⟩⟩
section
variable {X : Cx}
theorem de_compU (ow : Bool) {elt tg iter : Expr} {ifs : List Expr} {scope : Scope} {pos : Pos} {src : DSrc} {N : List Str} {ix : List (Option Nat)} {g : DTG} {tc : DTT} {te : DTE} (ok : CompOk X scope N ix) (hi : DI X tg iter src)
    (hg : ∀ C ex s H, DG (compCx X scope C N ex s H) tg g) (ht : ∀ C ex s H, DTs (compCx X scope C N ex s H) ifs tc) (he : ∀ C ex s H, DE (compCx X scope C N ex s H) elt te) (hc : X.calm = true)
    (hs : ∀ x, foldedSetIterable iter X.env x = pure x := by intro _; rfl) : DE X (.ListComp elt [⟨tg, iter, ifs, 0⟩] scope pos) (dCompU ow src ix g tc te) :=
  de_weak (de_comp ow ok hi.mono hg ht he hc hs) dCompU_w
theorem ds_setCU (i : Nat) (ow : Bool) {x : Str} {pos' spos : Pos} (hN : X.N.Nodup) {elt tg iter : Expr} {ifs : List Expr} {scope : Scope} {pos : Pos} {src : DSrc} {N : List Str} {ix : List (Option Nat)} {g : DTG} {tc : DTT} {te : DTE} (ok : CompOk X scope N ix) (hi : DI X tg iter src)
    (hg : ∀ C ex s H, DG (compCx X scope C N ex s H) tg g) (ht : ∀ C ex s H, DTs (compCx X scope C N ex s H) ifs tc) (he : ∀ C ex s H, DE (compCx X scope C N ex s H) elt te) (hc : X.calm = true)
    (hs : ∀ x, foldedSetIterable iter X.env x = pure x := by intro _; rfl) (hin : X.N[i]? = some x := by rfl) (hx : Loc X.env.scope x := by first | exact Or.inl rfl | exact Or.inr rfl)
    (hsw : swapsWith (.ListComp elt [⟨tg, iter, ifs, 0⟩] scope pos) (some (.Name x pos')) spos.line X.env = pure true := by rfl)
    (hf : X.fn x = true ∨ X.env.scope.names.lookup x = some .local := by first | exact .inl rfl | exact .inr rfl | assumption) :
    DS X (.Assign [.Name x pos'] (.ListComp elt [⟨tg, iter, ifs, 0⟩] scope pos) spos) (dAsg (dCompU ow src ix g tc te) (dgName i)) :=
  ds_weak (ds_setC i ow hN ok hi.mono hg ht he hc hs hin hx hsw hf) fun D Δ M h => dCompU_w Δ M _ h
end
def TurnsU (g : DTG) (tb : DTS) (D : DEnds) : List PyData → DSt → Mp → Prop
  | [], Δ, M => D.nx Δ M
  | d :: ds, Δ, M => g (.dat d) Δ M fun Δ2 M2 => tb { D with nx := TurnsU g tb D ds, ct := TurnsU g tb D ds, bk := D.nx } Δ2 M2
theorem TurnsU_n (g : DTG) (tb : DTS) (D : DEnds) (Δ : DSt) (M : Mp) : TurnsU g tb D [] Δ M = D.nx Δ M := by rw [TurnsU]
theorem TurnsU_c (g : DTG) (tb : DTS) (D : DEnds) (d : PyData) (ds : List PyData) (Δ : DSt) (M : Mp) : TurnsU g tb D (d :: ds) Δ M = g (.dat d) Δ M fun Δ2 M2 => tb { D with nx := TurnsU g tb D ds, ct := TurnsU g tb D ds, bk := D.nx } Δ2 M2 := by rw [TurnsU]
theorem rngD_s (lo : Int) (n : Nat) : rngD lo (n + 1) = .int lo :: rngD (lo + 1) n := by
  unfold rngD
  rw [List.range_succ_eq_map, List.map_cons, List.map_map]
  congr 1
  · simp
  · refine List.map_congr_left fun i _ => ?_
    show PyData.int _ = PyData.int _
    congr 1
    simp
    omega
theorem rngD_0 (lo : Int) : rngD lo 0 = [] := rfl
theorem rngD_1 (lo : Int) : rngD lo 1 = [.int lo] := by rw [rngD_s]; rfl
theorem rngD_2 (lo : Int) : rngD lo 2 = [.int lo, .int (lo + 1)] := by rw [rngD_s, rngD_1]
theorem rngD_3 (lo : Int) : rngD lo 3 = [.int lo, .int (lo + 1), .int (lo + 1 + 1)] := by rw [rngD_s, rngD_2]
theorem rngD_4 (lo : Int) : rngD lo 4 = [.int lo, .int (lo + 1), .int (lo + 1 + 1), .int (lo + 1 + 1 + 1)] := by rw [rngD_s, rngD_3]
/-! ### for the readings -/
/-- the rest of a block out of sight -/
theorem seq_hide {A B : DTS} {D : DEnds} {Δ : DSt} {M : Mp} (h : ∀ R, R = B → dSeq A R D Δ M) : dSeq A B D Δ M := h B rfl
theorem atI_int {l : List Int} {r : Int} (h0 : 0 ≤ r) (h1 : r < l.length) : ∃ w ∈ l, atI (l.map PyData.int) r = some (.int w) := by
  obtain ⟨d, e, hm⟩ := atI_mem (l := l.map PyData.int) h0 (by rw [List.length_map]; exact h1)
  obtain ⟨w, hw, rfl⟩ := List.mem_map.mp hm
  exact ⟨w, hw, e⟩
end DL

namespace DL
open PySem PySem.Spec PyProof.Rows L2
/-! ### what kind, and alike: by the data's form -/
theorem ty_int_none  : isTyp "int" .none = false := rfl
theorem ty_int_bool (b : Bool) : isTyp "int" (.bool b) = true := rfl
theorem ty_int_int (i : Int) : isTyp "int" (.int i) = true := rfl
theorem ty_int_str (z : Str) : isTyp "int" (.str z) = false := rfl
theorem ty_int_list (l : List PyData) : isTyp "int" (.list l) = false := rfl
theorem ty_int_tuple (l : List PyData) : isTyp "int" (.tuple l) = false := rfl
theorem ty_int_dict (l : List (PyData × PyData)) : isTyp "int" (.dict l) = false := rfl
theorem ty_bool_none  : isTyp "bool" .none = false := rfl
theorem ty_bool_bool (b : Bool) : isTyp "bool" (.bool b) = true := rfl
theorem ty_bool_int (i : Int) : isTyp "bool" (.int i) = false := rfl
theorem ty_bool_str (z : Str) : isTyp "bool" (.str z) = false := rfl
theorem ty_bool_list (l : List PyData) : isTyp "bool" (.list l) = false := rfl
theorem ty_bool_tuple (l : List PyData) : isTyp "bool" (.tuple l) = false := rfl
theorem ty_bool_dict (l : List (PyData × PyData)) : isTyp "bool" (.dict l) = false := rfl
theorem ty_tuple_none  : isTyp "tuple" .none = false := rfl
theorem ty_tuple_bool (b : Bool) : isTyp "tuple" (.bool b) = false := rfl
theorem ty_tuple_int (i : Int) : isTyp "tuple" (.int i) = false := rfl
theorem ty_tuple_str (z : Str) : isTyp "tuple" (.str z) = false := rfl
theorem ty_tuple_list (l : List PyData) : isTyp "tuple" (.list l) = false := rfl
theorem ty_tuple_tuple (l : List PyData) : isTyp "tuple" (.tuple l) = true := rfl
theorem ty_tuple_dict (l : List (PyData × PyData)) : isTyp "tuple" (.dict l) = false := rfl
theorem ty_list_none  : isTyp "list" .none = false := rfl
theorem ty_list_bool (b : Bool) : isTyp "list" (.bool b) = false := rfl
theorem ty_list_int (i : Int) : isTyp "list" (.int i) = false := rfl
theorem ty_list_str (z : Str) : isTyp "list" (.str z) = false := rfl
theorem ty_list_list (l : List PyData) : isTyp "list" (.list l) = true := rfl
theorem ty_list_tuple (l : List PyData) : isTyp "list" (.tuple l) = false := rfl
theorem ty_list_dict (l : List (PyData × PyData)) : isTyp "list" (.dict l) = false := rfl
theorem ty_str_none  : isTyp "str" .none = false := rfl
theorem ty_str_bool (b : Bool) : isTyp "str" (.bool b) = false := rfl
theorem ty_str_int (i : Int) : isTyp "str" (.int i) = false := rfl
theorem ty_str_str (z : Str) : isTyp "str" (.str z) = true := rfl
theorem ty_str_list (l : List PyData) : isTyp "str" (.list l) = false := rfl
theorem ty_str_tuple (l : List PyData) : isTyp "str" (.tuple l) = false := rfl
theorem ty_str_dict (l : List (PyData × PyData)) : isTyp "str" (.dict l) = false := rfl
theorem ty_dict_none  : isTyp "dict" .none = false := rfl
theorem ty_dict_bool (b : Bool) : isTyp "dict" (.bool b) = false := rfl
theorem ty_dict_int (i : Int) : isTyp "dict" (.int i) = false := rfl
theorem ty_dict_str (z : Str) : isTyp "dict" (.str z) = false := rfl
theorem ty_dict_list (l : List PyData) : isTyp "dict" (.list l) = false := rfl
theorem ty_dict_tuple (l : List PyData) : isTyp "dict" (.tuple l) = false := rfl
theorem ty_dict_dict (l : List (PyData × PyData)) : isTyp "dict" (.dict l) = true := rfl
theorem eq_ii (i j : Int) : (PyData.int i).eqv (.int j) = decide (i = j) := by
  simp only [PyData.eqv]
  first | rfl | exact Bool.beq_eq_decide_eq _ _ | (rw [Bool.eq_iff_iff]; simp)
theorem eq_ss (x y : Str) : (PyData.str x).eqv (.str y) = decide (x = y) := by
  simp only [PyData.eqv]
  first | rfl | (rw [Bool.eq_iff_iff]; simp)
theorem eq_bb (x y : Bool) : (PyData.bool x).eqv (.bool y) = (x == y) := by
  simp only [PyData.eqv]
theorem eq_nn : PyData.none.eqv .none = true := by simp only [PyData.eqv]
theorem eq_tt (x y : List PyData) : (PyData.tuple x).eqv (.tuple y) = PyData.eqvAll x y := by simp only [PyData.eqv]
theorem eq_ll (x y : List PyData) : (PyData.list x).eqv (.list y) = PyData.eqvAll x y := by simp only [PyData.eqv]
theorem eqA_nil : PyData.eqvAll [] [] = true := by simp only [PyData.eqvAll]
theorem eqA_cons (x y : PyData) (xs ys : List PyData) : PyData.eqvAll (x :: xs) (y :: ys) = (x.eqv y && PyData.eqvAll xs ys) := by simp only [PyData.eqvAll]
theorem eqA_cn (x : PyData) (xs : List PyData) : PyData.eqvAll (x :: xs) [] = false := by simp only [PyData.eqvAll]
theorem eqA_nc (x : PyData) (xs : List PyData) : PyData.eqvAll [] (x :: xs) = false := by simp only [PyData.eqvAll]
end DL

namespace DL
open PySem PySem.Spec PyProof.Rows L2
/-! ### while, pop, is None, not in, min with a default -/
section
variable {X : Cx} {pos : Pos}
def dWhile (tc : DTT) (tb : DTS) : DTS := fun D Δ M => ∃ J : Nat → DSt → Mp → Prop, (∃ m, J m Δ M) ∧ ∀ n Δ M, J n Δ M → tc Δ M fun b M1 =>
  if b = true then tb { D with nx := fun Δ' M' => ∃ m, m < n ∧ J m Δ' M', ct := fun Δ' M' => ∃ m, m < n ∧ J m Δ' M', bk := D.nx } Δ M1 else D.nx Δ M1
/-- l.pop() of an owned list -/
def dPop (to : DTE) : DTE := fun Δ M Φ => to Δ M fun x M1 => onO x fun l => ∃ ds d, M1 l = some (.lst (ds ++ [d])) ∧ Φ (.dat d) (mset M1 l (.lst ds))
theorem Dts.snoc_inv {K : PySem.W.Frag} {M : Mp} {H : Hp} : ∀ {vs : List V} {ds : List PyData} {d : PyData}, Dts K M H vs (ds ++ [d]) → ∃ ws v, vs = ws ++ [v] ∧ Dts K M H ws ds ∧ Dt K M H v d
  | vs, [], d, h => by
    cases h with
    | cons a b => cases b; exact ⟨[], _, rfl, .nil, a⟩
  | vs, e :: ds, d, h => by
    cases h with
    | cons a b =>
      obtain ⟨ws, v, rfl, h1, h2⟩ := Dts.snoc_inv b
      exact ⟨_ :: ws, v, rfl, .cons a h1, h2⟩
theorem de_pop {o : Expr} {to : DTE} {apos cpos : Pos} (ho : DE X o to) (hbase : attributeBase o "pop" X.env (eval o X.env) = eval o X.env := by rfl) (hline : (apos.endLine == cpos.line) = true := by rfl) :
    DE X (.Call (.Attribute o "pop" apos) [] [] cpos) (dPop to) := by
  obtain ⟨t1, p1, q1⟩ := ho
  refine ⟨_, pe_bm0 PySem.F.plainAttrs_list PySem.F.slot_list_pop PySem.F.type_list_pop mt_pop p1 hbase hline, fun σ H Δ M Φ Q r e h k => ?_⟩
  refine q1 σ H Δ M _ _ r e h fun v H1 x M1 r1 st rv hx => ?_
  replace hx := onO_ex hx
  obtain ⟨l, rfl, ds, d, hm, hx⟩ := hx
  cases (show v = .ref l from rv)
  obtain ⟨vs, g1, g2⟩ := r1.ls l _ hm
  obtain ⟨ws, v, rfl, h1, h2⟩ := Dts.snoc_inv g2
  refine ⟨.inl ⟨rfl, _, SqL.of g1⟩, l, _, v, rfl, rfl, g1, by simp, ?_⟩
  rw [List.dropLast_concat]
  have st2 : Step M1 H1 (mset M1 l (.lst ds)) (upd H1 l (.lst ws)) := Step.ownPut hm
  exact k.dat (r1.ownSet st2 h1) (st.trans st2) (h2.step st2) hx
/-- is None -/
def isNone : PyData → Bool
  | .none => true
  | _ => false
def onN (x : DV) (P : Prop) : Prop := match x with | .dat .none => P | _ => False
def δIsN (b : Bool) : D2 := fun x y M Φ => onD x fun d => onN y <| Φ (.dat (.bool (isNone d != b))) M
theorem isNone_none : isNone .none = true := rfl
theorem isNone_bool (b : Bool) : isNone (.bool b) = false := rfl
theorem isNone_int (b : Int) : isNone (.int b) = false := rfl
theorem isNone_str (b : Str) : isNone (.str b) = false := rfl
theorem isNone_list (b : List PyData) : isNone (.list b) = false := rfl
theorem isNone_tuple (b : List PyData) : isNone (.tuple b) = false := rfl
theorem isNone_dict (b : List (PyData × PyData)) : isNone (.dict b) = false := rfl
/-- is, is not True / False, of whatever data -/
def isBl (c : Bool) : PyData → Bool
  | .bool b => b == c
  | _ => false
/-! ### not in -/
def δNotIn : D2 := fun x y M Φ => onD x fun d => onW y fun ds => okIn d ds = true ∧ Φ (.dat (.bool (!(ds.any fun e => PyData.eqv e d)))) M
def δNotInT : D2 := fun x y M Φ => onP x fun i j => onO y fun l => onOC (M l) fun ks => Φ (.dat (.bool (!memK ks (kP i j)))) M
end
/-! ### min(l, default=..) -/
section
variable {prog : Program} {w : World} {A : Around} {E : Value → Shared → Prop} {s : Shared}
end
end DL

namespace DL
open PySem PySem.Spec PyProof.Rows L2
/-! ### the readings' rows for simp -/
theorem onV_mk_q (x : DV) (P : DV → Prop) : onV (some (some x)) P = P x := propext Iff.rfl
theorem onI_mk_q (i : Int) (P : Int → Prop) : onI (.dat (.int i)) P = P i := propext Iff.rfl
theorem onB_mk_q (i : Bool) (P : Bool → Prop) : onB (.dat (.bool i)) P = P i := propext Iff.rfl
theorem onS_mk_q (i : Str) (P : Str → Prop) : onS (.dat (.str i)) P = P i := propext Iff.rfl
theorem onT_mk_q (i : List PyData) (P : List PyData → Prop) : onT (.dat (.tuple i)) P = P i := propext Iff.rfl
theorem onL_mk_q (i : List PyData) (P : List PyData → Prop) : onL (.dat (.list i)) P = P i := propext Iff.rfl
theorem onD_mk_q (i : PyData) (P : PyData → Prop) : onD (.dat i) P = P i := propext Iff.rfl
theorem onO_mk_q (i : Addr) (P : Addr → Prop) : onO (.own i) P = P i := propext Iff.rfl
theorem onOL_mk_q (ds : List PyData) (P : List PyData → Prop) : onOL (some (.lst ds)) P = P ds := propext Iff.rfl
theorem onOC_mk_q (ks : List (List Key)) (P : List (List Key) → Prop) : onOC (some (.dct ks)) P = P ks := propext Iff.rfl
theorem onQ_t_q (ds : List PyData) (M : Mp) (P : List PyData → Prop) : onQ (.dat (.tuple ds)) M P = P ds := propext Iff.rfl
theorem onQ_l_q (ds : List PyData) (M : Mp) (P : List PyData → Prop) : onQ (.dat (.list ds)) M P = P ds := propext Iff.rfl
theorem onQ_o_q (l : Addr) (M : Mp) (P : List PyData → Prop) : onQ (.own l) M P = onOL (M l) P := propext Iff.rfl
theorem onK_l_q (ds : List PyData) (M : Mp) (P : List PyData → Prop) : onK (.dat (.list ds)) M P = P ds := propext Iff.rfl
theorem onK_o_q (l : Addr) (M : Mp) (P : List PyData → Prop) : onK (.own l) M P = onOL (M l) P := propext Iff.rfl
theorem on1_mk_q (x : DV) (P : DV → Prop) : on1 [x] P = P x := propext Iff.rfl
theorem on2_mk_q (x y : DV) (P : DV → DV → Prop) : on2 [x, y] P = P x y := propext Iff.rfl
theorem on3_mk_q (x y z : DV) (P : DV → DV → DV → Prop) : on3 [x, y, z] P = P x y z := propext Iff.rfl
theorem on4_mk_q (x0 x1 x2 x3 : DV) (P : DV → DV → DV → DV → Prop) : on4 [x0, x1, x2, x3] P = P x0 x1 x2 x3 := propext Iff.rfl
theorem on5_mk_q (x0 x1 x2 x3 x4 : DV) (P : DV → DV → DV → DV → DV → Prop) : on5 [x0, x1, x2, x3, x4] P = P x0 x1 x2 x3 x4 := propext Iff.rfl
theorem on6_mk_q (x0 x1 x2 x3 x4 x5 : DV) (P : DV → DV → DV → DV → DV → DV → Prop) : on6 [x0, x1, x2, x3, x4, x5] P = P x0 x1 x2 x3 x4 x5 := propext Iff.rfl
theorem onDs_0_q (P : List PyData → Prop) : onDs [] P = P [] := propext Iff.rfl
theorem onDs_1_q (a0 : PyData) (P : List PyData → Prop) : onDs [.dat a0] P = P [a0] := propext Iff.rfl
theorem onDs_2_q (a0 a1 : PyData) (P : List PyData → Prop) : onDs [.dat a0, .dat a1] P = P [a0, a1] := propext Iff.rfl
theorem onDs_3_q (a0 a1 a2 : PyData) (P : List PyData → Prop) : onDs [.dat a0, .dat a1, .dat a2] P = P [a0, a1, a2] := propext Iff.rfl
theorem onDs_4_q (a0 a1 a2 a3 : PyData) (P : List PyData → Prop) : onDs [.dat a0, .dat a1, .dat a2, .dat a3] P = P [a0, a1, a2, a3] := propext Iff.rfl
theorem onDs_5_q (a0 a1 a2 a3 a4 : PyData) (P : List PyData → Prop) : onDs [.dat a0, .dat a1, .dat a2, .dat a3, .dat a4] P = P [a0, a1, a2, a3, a4] := propext Iff.rfl
theorem onDs_6_q (a0 a1 a2 a3 a4 a5 : PyData) (P : List PyData → Prop) : onDs [.dat a0, .dat a1, .dat a2, .dat a3, .dat a4, .dat a5] P = P [a0, a1, a2, a3, a4, a5] := propext Iff.rfl
theorem onDs_7_q (a0 a1 a2 a3 a4 a5 a6 : PyData) (P : List PyData → Prop) : onDs [.dat a0, .dat a1, .dat a2, .dat a3, .dat a4, .dat a5, .dat a6] P = P [a0, a1, a2, a3, a4, a5, a6] := propext Iff.rfl
theorem onDs_8_q (a0 a1 a2 a3 a4 a5 a6 a7 : PyData) (P : List PyData → Prop) : onDs [.dat a0, .dat a1, .dat a2, .dat a3, .dat a4, .dat a5, .dat a6, .dat a7] P = P [a0, a1, a2, a3, a4, a5, a6, a7] := propext Iff.rfl
theorem onDs_9_q (a0 a1 a2 a3 a4 a5 a6 a7 a8 : PyData) (P : List PyData → Prop) : onDs [.dat a0, .dat a1, .dat a2, .dat a3, .dat a4, .dat a5, .dat a6, .dat a7, .dat a8] P = P [a0, a1, a2, a3, a4, a5, a6, a7, a8] := propext Iff.rfl
theorem onDs_10_q (a0 a1 a2 a3 a4 a5 a6 a7 a8 a9 : PyData) (P : List PyData → Prop) : onDs [.dat a0, .dat a1, .dat a2, .dat a3, .dat a4, .dat a5, .dat a6, .dat a7, .dat a8, .dat a9] P = P [a0, a1, a2, a3, a4, a5, a6, a7, a8, a9] := propext Iff.rfl
theorem onDs_11_q (a0 a1 a2 a3 a4 a5 a6 a7 a8 a9 a10 : PyData) (P : List PyData → Prop) : onDs [.dat a0, .dat a1, .dat a2, .dat a3, .dat a4, .dat a5, .dat a6, .dat a7, .dat a8, .dat a9, .dat a10] P = P [a0, a1, a2, a3, a4, a5, a6, a7, a8, a9, a10] := propext Iff.rfl
theorem onDs_12_q (a0 a1 a2 a3 a4 a5 a6 a7 a8 a9 a10 a11 : PyData) (P : List PyData → Prop) : onDs [.dat a0, .dat a1, .dat a2, .dat a3, .dat a4, .dat a5, .dat a6, .dat a7, .dat a8, .dat a9, .dat a10, .dat a11] P = P [a0, a1, a2, a3, a4, a5, a6, a7, a8, a9, a10, a11] := propext Iff.rfl
theorem onDs_13_q (a0 a1 a2 a3 a4 a5 a6 a7 a8 a9 a10 a11 a12 : PyData) (P : List PyData → Prop) : onDs [.dat a0, .dat a1, .dat a2, .dat a3, .dat a4, .dat a5, .dat a6, .dat a7, .dat a8, .dat a9, .dat a10, .dat a11, .dat a12] P = P [a0, a1, a2, a3, a4, a5, a6, a7, a8, a9, a10, a11, a12] := propext Iff.rfl
theorem onDs_14_q (a0 a1 a2 a3 a4 a5 a6 a7 a8 a9 a10 a11 a12 a13 : PyData) (P : List PyData → Prop) : onDs [.dat a0, .dat a1, .dat a2, .dat a3, .dat a4, .dat a5, .dat a6, .dat a7, .dat a8, .dat a9, .dat a10, .dat a11, .dat a12, .dat a13] P = P [a0, a1, a2, a3, a4, a5, a6, a7, a8, a9, a10, a11, a12, a13] := propext Iff.rfl
theorem dVar_q (i : Nat) (Δ : DSt) (M : Mp) (Φ : DK) : dVar i Δ M Φ = (onV Δ[i]? fun x => Φ x M) := propext Iff.rfl
theorem dC_q (d : PyData) (z0 : DSt) (M : Mp) (Φ : DK) : dC d z0 M Φ = (Φ (.dat d) M) := propext Iff.rfl
theorem dTy_q (n : String) (z0 : DSt) (M : Mp) (Φ : DK) : dTy n z0 M Φ = (Φ (.ty n) M) := propext Iff.rfl
theorem dOp_q (δ : D2) (ta tb : DTE) (Δ : DSt) (M : Mp) (Φ : DK) : dOp δ ta tb Δ M Φ = (ta Δ M fun x M1 => tb Δ M1 fun y M2 => δ x y M2 Φ) := propext Iff.rfl
theorem dB_q (t : DTE) (Δ : DSt) (M : Mp) (Φ : Bool → Mp → Prop) : dB t Δ M Φ = (t Δ M fun x M1 => onB x fun c => Φ c M1) := propext Iff.rfl
theorem dChain_q (δ δ' : D2) (ta tb tc : DTE) (Δ : DSt) (M : Mp) (Φ : DK) : dChain δ δ' ta tb tc Δ M Φ = (ta Δ M fun x M1 => tb Δ M1 fun y M2 => δ x y M2 fun z M3 => onB z fun k => (if k = true then tc Δ M3 fun w' M4 => δ' y w' M4 Φ else Φ (.dat (.bool false)) M3)) := propext Iff.rfl
theorem dAnd_q (t u : DTT) (Δ : DSt) (M : Mp) (Φ : Bool → Mp → Prop) : dAnd t u Δ M Φ = (t Δ M fun c M1 => if c = true then u Δ M1 Φ else Φ false M1) := propext Iff.rfl
theorem dOr_q (t u : DTT) (Δ : DSt) (M : Mp) (Φ : Bool → Mp → Prop) : dOr t u Δ M Φ = (t Δ M fun c M1 => if c = true then Φ true M1 else u Δ M1 Φ) := propext Iff.rfl
theorem dNot_q (t : DTT) (Δ : DSt) (M : Mp) (Φ : Bool → Mp → Prop) : dNot t Δ M Φ = (t Δ M fun c M1 => Φ (!c) M1) := propext Iff.rfl
theorem dAndV_q (ta tb : DTE) (Δ : DSt) (M : Mp) (Φ : DK) : dAndV ta tb Δ M Φ = (ta Δ M fun x M1 => onB x fun c => if c = true then tb Δ M1 Φ else Φ (.dat (.bool false)) M1) := propext Iff.rfl
theorem dOrV_q (ta tb : DTE) (Δ : DSt) (M : Mp) (Φ : DK) : dOrV ta tb Δ M Φ = (ta Δ M fun x M1 => onB x fun c => if c = true then Φ (.dat (.bool true)) M1 else tb Δ M1 Φ) := propext Iff.rfl
theorem dNotV_q (ta : DTE) (Δ : DSt) (M : Mp) (Φ : DK) : dNotV ta Δ M Φ = (ta Δ M fun x M1 => onB x fun c => Φ (.dat (.bool (!c))) M1) := propext Iff.rfl
theorem dIf_q (t : DTT) (ta tb : DTE) (Δ : DSt) (M : Mp) (Φ : DK) : dIf t ta tb Δ M Φ = (t Δ M fun c M1 => if c = true then ta Δ M1 Φ else tb Δ M1 Φ) := propext Iff.rfl
theorem dUnI_q (g : Int → Int) (ta : DTE) (Δ : DSt) (M : Mp) (Φ : DK) : dUnI g ta Δ M Φ = (ta Δ M fun x M1 => onI x fun i => Φ (.dat (.int (g i))) M1) := propext Iff.rfl
theorem δI_q (C : Int → Int → Prop) (g : Int → Int → PyData) (x : DV) (y : DV) (M : Mp) (Φ : DK) : δI C g x y M Φ = (onI x fun i => onI y fun j => C i j ∧ Φ (.dat (g i j)) M) := propext Iff.rfl
theorem δI0_q (g : Int → Int → PyData) (x : DV) (y : DV) (M : Mp) (Φ : DK) : δI0 g x y M Φ = (onI x fun i => onI y fun j => Φ (.dat (g i j)) M) := propext Iff.rfl
theorem δB_q (g : Bool → Bool → Bool) (x : DV) (y : DV) (M : Mp) (Φ : DK) : δB g x y M Φ = (onB x fun c => onB y fun d => Φ (.dat (.bool (g c d))) M) := propext Iff.rfl
theorem δCatT_q  (x : DV) (y : DV) (M : Mp) (Φ : DK) : δCatT x y M Φ = (onT x fun ds => onT y fun es => ds ≠ [] ∧ ds.length + es.length ≤ sizeLine ∧ Φ (.dat (.tuple (ds ++ es))) M) := propext Iff.rfl
theorem δCatL_q  (x : DV) (y : DV) (M : Mp) (Φ : DK) : δCatL x y M Φ = (onL x fun ds => onL y fun es => ds.length + es.length ≤ sizeLine ∧ Φ (.dat (.list (ds ++ es))) M) := propext Iff.rfl
theorem δCatLO_q  (x : DV) (y : DV) (M : Mp) (Φ : DK) : δCatLO x y M Φ = (onL x fun ds => onL y fun es => ds.length + es.length ≤ sizeLine ∧ ∀ p, M p = none → Φ (.own p) (mset M p (.lst (ds ++ es)))) := propext Iff.rfl
theorem dNil_q  (z0 : DSt) (M : Mp) (Φ : List DV → Mp → Prop) : dNil z0 M Φ = (Φ [] M) := propext Iff.rfl
theorem dCons_q (ta : DTE) (tr : DTA) (Δ : DSt) (M : Mp) (Φ : List DV → Mp → Prop) : dCons ta tr Δ M Φ = (ta Δ M fun x M1 => tr Δ M1 fun xs M2 => Φ (x :: xs) M2) := propext Iff.rfl
theorem dTup_q (t : DTA) (Δ : DSt) (M : Mp) (Φ : DK) : dTup t Δ M Φ = (t Δ M fun xs M1 => onDs xs fun ds => Φ (.dat (.tuple ds)) M1) := propext Iff.rfl
theorem dLst_q (t : DTA) (Δ : DSt) (M : Mp) (Φ : DK) : dLst t Δ M Φ = (t Δ M fun xs M1 => onDs xs fun ds => Φ (.dat (.list ds)) M1) := propext Iff.rfl
theorem dLstO_q (t : DTA) (Δ : DSt) (M : Mp) (Φ : DK) : dLstO t Δ M Φ = (t Δ M fun xs M1 => onDs xs fun ds => ∀ p, M1 p = none → Φ (.own p) (mset M1 p (.lst ds))) := propext Iff.rfl
theorem dFrz_q (t : DTE) (Δ : DSt) (M : Mp) (Φ : DK) : dFrz t Δ M Φ = (t Δ M fun x M1 => onO x fun l => onOL (M1 l) fun ds => Φ (.dat (.list ds)) (mdel M1 l)) := propext Iff.rfl
theorem onAt_0_q (a : PyData) (l : List PyData) (P : PyData → Prop) : onAt (a :: l) 0 P = P a := propext Iff.rfl
theorem onAt_1_q (a b : PyData) (l : List PyData) (P : PyData → Prop) : onAt (a :: b :: l) 1 P = P b := propext Iff.rfl
theorem onAt_2_q (a b c : PyData) (l : List PyData) (P : PyData → Prop) : onAt (a :: b :: c :: l) 2 P = P c := propext Iff.rfl
theorem onAt_3_q (a b c d : PyData) (l : List PyData) (P : PyData → Prop) : onAt (a :: b :: c :: d :: l) 3 P = P d := propext Iff.rfl
theorem onAt_4_q (a b c d e : PyData) (l : List PyData) (P : PyData → Prop) : onAt (a :: b :: c :: d :: e :: l) 4 P = P e := propext Iff.rfl
theorem onAt_5_q (a b c d e f : PyData) (l : List PyData) (P : PyData → Prop) : onAt (a :: b :: c :: d :: e :: f :: l) 5 P = P f := propext Iff.rfl
theorem onAt_6_q (a b c d e f g : PyData) (l : List PyData) (P : PyData → Prop) : onAt (a :: b :: c :: d :: e :: f :: g :: l) 6 P = P g := propext Iff.rfl
theorem onAt_7_q (a b c d e f g h : PyData) (l : List PyData) (P : PyData → Prop) : onAt (a :: b :: c :: d :: e :: f :: g :: h :: l) 7 P = P h := propext Iff.rfl
theorem δIx_q  (x : DV) (y : DV) (M : Mp) (Φ : DK) : δIx x y M Φ = (onQ x M fun ds => onI y fun i => onAt ds i fun d => Φ (.dat d) M) := propext Iff.rfl
theorem dCB_q (δ : D1) (t : DTA) (Δ : DSt) (M : Mp) (Φ : DK) : dCB δ t Δ M Φ = (t Δ M fun xs M1 => δ xs M1 Φ) := propext Iff.rfl
theorem δLen_q  (xs : List DV) (M : Mp) (Φ : DK) : δLen xs M Φ = (on1 xs fun x => onQ x M fun ds => Φ (.dat (.int ds.length)) M) := propext Iff.rfl
theorem δLenS_q  (xs : List DV) (M : Mp) (Φ : DK) : δLenS xs M Φ = (on1 xs fun x => onS x fun z => z.length ≤ sizeLine ∧ Φ (.dat (.int z.length)) M) := propext Iff.rfl
theorem δStrI_q  (xs : List DV) (M : Mp) (Φ : DK) : δStrI xs M Φ = (on1 xs fun x => onI x fun i => i.natAbs.log2 < 1920 ∧ Φ (.dat (.str (toString i))) M) := propext Iff.rfl
theorem δAbs_q  (xs : List DV) (M : Mp) (Φ : DK) : δAbs xs M Φ = (on1 xs fun x => onI x fun i => Φ (.dat (.int (if i < 0 then -i else i))) M) := propext Iff.rfl
theorem δ2I_q (g : Int → Int → Int) (xs : List DV) (M : Mp) (Φ : DK) : δ2I g xs M Φ = (on2 xs fun x y => onI x fun i => onI y fun j => Φ (.dat (.int (g i j))) M) := propext Iff.rfl
theorem δListOf_q  (xs : List DV) (M : Mp) (Φ : DK) : δListOf xs M Φ = (on1 xs fun x => onQ x M fun ds => Φ (.dat (.list ds)) M) := propext Iff.rfl
theorem δRepr_q  (xs : List DV) (M : Mp) (Φ : DK) : δRepr xs M Φ = (on1 xs fun x => onD x fun d => Shw d ∧ Φ (.dat (.str d.shown)) M) := propext Iff.rfl
theorem δIsi_mk_q (T : String) (d : PyData) (t : String) (M : Mp) (Φ : DK) : δIsi T [.dat d, .ty t] M Φ = (t = T ∧ Φ (.dat (.bool (isTyp T d))) M) := propext Iff.rfl
theorem eqD_ii_q (i j : Int) (P : Bool → Prop) : eqD (.int i) (.int j) P = P (decide (i = j)) := propext Iff.rfl
theorem eqD_ss_q (i j : Str) (P : Bool → Prop) : eqD (.str i) (.str j) P = P (decide (i = j)) := propext Iff.rfl
theorem eqD_bb_q (i j : Bool) (P : Bool → Prop) : eqD (.bool i) (.bool j) P = P (i == j) := propext Iff.rfl
theorem δEq_q  (x : DV) (y : DV) (M : Mp) (Φ : DK) : δEq x y M Φ = (onD x fun d => onD y fun e => eqD d e fun b => Φ (.dat (.bool b)) M) := propext Iff.rfl
theorem δNe_q  (x : DV) (y : DV) (M : Mp) (Φ : DK) : δNe x y M Φ = (onD x fun d => onD y fun e => eqD d e fun b => Φ (.dat (.bool (!b))) M) := propext Iff.rfl
theorem δNeS_q  (x : DV) (y : DV) (M : Mp) (Φ : DK) : δNeS x y M Φ = (onS x fun s => onS y fun t => Φ (.dat (.bool (!decide (s = t)))) M) := propext Iff.rfl
theorem δEqS_q  (x : DV) (y : DV) (M : Mp) (Φ : DK) : δEqS x y M Φ = (onS x fun s => onS y fun t => Φ (.dat (.bool (decide (s = t)))) M) := propext Iff.rfl
theorem dNoPart_q  (z0 : DSt) (M : Mp) (Φ : Option Int → Mp → Prop) : dNoPart z0 M Φ = (Φ none M) := propext Iff.rfl
theorem dPart_q (t : DTE) (Δ : DSt) (M : Mp) (Φ : Option Int → Mp → Prop) : dPart t Δ M Φ = (t Δ M fun x M1 => onI x fun i => Φ (some i) M1) := propext Iff.rfl
theorem dSlT_q (te : DTE) (tl th : DTO) (Δ : DSt) (M : Mp) (Φ : DK) : dSlT te tl th Δ M Φ = (te Δ M fun x M1 => tl Δ M1 fun l M2 => th Δ M2 fun u M3 => onT x fun ds => ¬ (HT.sIx ds.length 0 l = 0 ∧ HT.sIx ds.length ds.length u = ds.length) ∧ Φ (.dat (.tuple (cutD ds l u))) M3) := propext Iff.rfl
theorem dNext_q  (D : DEnds) (Δ : DSt) (M : Mp) : dNext D Δ M = (D.nx Δ M) := propext Iff.rfl
theorem dSeq_q (t u : DTS) (D : DEnds) (Δ : DSt) (M : Mp) : dSeq t u D Δ M = (t { D with nx := u D } Δ M) := propext Iff.rfl
theorem dBreak_q  (D : DEnds) (Δ : DSt) (M : Mp) : dBreak D Δ M = (D.bk Δ M) := propext Iff.rfl
theorem dCont_q  (D : DEnds) (Δ : DSt) (M : Mp) : dCont D Δ M = (D.ct Δ M) := propext Iff.rfl
theorem dDrop_q (te : DTE) (D : DEnds) (Δ : DSt) (M : Mp) : dDrop te D Δ M = (te Δ M fun _ M1 => D.nx Δ M1) := propext Iff.rfl
theorem dRet_q (te : DTE) (D : DEnds) (Δ : DSt) (M : Mp) : dRet te D Δ M = (te Δ M D.rt) := propext Iff.rfl
theorem dRetN_q  (D : DEnds) (z1 : DSt) (M : Mp) : dRetN D z1 M = (D.rt (.dat .none) M) := propext Iff.rfl
theorem dIfS_q (c : DTT) (t u : DTS) (D : DEnds) (Δ : DSt) (M : Mp) : dIfS c t u D Δ M = (c Δ M fun b M1 => if b = true then t D Δ M1 else u D Δ M1) := propext Iff.rfl
theorem dgName_q (i : Nat) (x : DV) (Δ : DSt) (M : Mp) (Φ : DSt → Mp → Prop) : dgName i x Δ M Φ = (Φ (Δ.set i (some x)) M) := propext Iff.rfl
theorem dgNil_mk_q (Δ : DSt) (M : Mp) (Φ : DSt → Mp → Prop) : dgNil [] Δ M Φ = Φ Δ M := propext Iff.rfl
theorem dgCons_mk_q (t : DTG) (u : DTGs) (x : DV) (r : List DV) (Δ : DSt) (M : Mp) (Φ : DSt → Mp → Prop) : dgCons t u (x :: r) Δ M Φ = t x Δ M fun Δ' M' => u r Δ' M' Φ := propext Iff.rfl
theorem onNs_0_q (P : List DV → Prop) : onNs 0 [] P = P [] := propext Iff.rfl
theorem onNs_s_q (n : Nat) (d : PyData) (r : List PyData) (P : List DV → Prop) : onNs (n + 1) (d :: r) P = onNs n r fun xs => P (.dat d :: xs) := propext Iff.rfl
theorem dgTup_q (n : Nat) (t : DTGs) (x : DV) (Δ : DSt) (M : Mp) (Φ : DSt → Mp → Prop) : dgTup n t x Δ M Φ = (onT x fun ds => onNs n ds fun xs => t xs Δ M Φ) := propext Iff.rfl
theorem dgSub_q (to ti : DTE) (x : DV) (Δ : DSt) (M : Mp) (Φ : DSt → Mp → Prop) : dgSub to ti x Δ M Φ = (to Δ M fun o M1 => ti Δ M1 fun i M2 => onO o fun l => onI i fun k => onD x fun d => onOL (M2 l) fun ds => ∃ j, ixN ds.length k = some j ∧ Φ Δ (mset M2 l (.lst (ds.set j d)))) := propext Iff.rfl
theorem dAsg_q (te : DTE) (g : DTG) (D : DEnds) (Δ : DSt) (M : Mp) : dAsg te g D Δ M = (te Δ M fun x M1 => g x Δ M1 D.nx) := propext Iff.rfl
theorem dAppend_q (to te : DTE) (Δ : DSt) (M : Mp) (Φ : DK) : dAppend to te Δ M Φ = (to Δ M fun x M1 => onO x fun l => onOL (M1 l) fun _ => te Δ M1 fun y M2 => onD y fun d => onOL (M2 l) fun ds => ds.length < sizeLine ∧ Φ (.dat .none) (mset M2 l (.lst (ds ++ [d])))) := propext Iff.rfl
theorem dForL_q (te : DTE) (g : DTG) (tb : DTS) (D : DEnds) (Δ : DSt) (M : Mp) : dForL te g tb D Δ M = (te Δ M fun x M1 => onL x fun ds => Turns g tb D ds Δ M1) := propext Iff.rfl
theorem dForT_q (te : DTE) (g : DTG) (tb : DTS) (D : DEnds) (Δ : DSt) (M : Mp) : dForT te g tb D Δ M = (te Δ M fun x M1 => onT x fun ds => Turns g tb D ds Δ M1) := propext Iff.rfl
theorem dForR1_q (ta : DTA) (g : DTG) (tb : DTS) (D : DEnds) (Δ : DSt) (M : Mp) : dForR1 ta g tb D Δ M = (ta Δ M fun xs M1 => on1 xs fun x => onI x fun j => InR j ∧ TurnsR g tb D 0 j.toNat Δ M1) := propext Iff.rfl
theorem dForR2_q (ta : DTA) (g : DTG) (tb : DTS) (D : DEnds) (Δ : DSt) (M : Mp) : dForR2 ta g tb D Δ M = (ta Δ M fun xs M1 => on2 xs fun x y => onI x fun i => onI y fun j => (InR i ∧ InR j) ∧ TurnsR g tb D i (j - i).toNat Δ M1) := propext Iff.rfl
theorem dCall_q (S : DSp) (t : DTA) (Δ : DSt) (M : Mp) (Φ : DK) : dCall S t Δ M Φ = (t Δ M fun xs M1 => S xs M1 Φ) := propext Iff.rfl
theorem dDict0_q  (z0 : DSt) (M : Mp) (Φ : DK) : dDict0 z0 M Φ = (Φ (.dat (.dict [])) M) := propext Iff.rfl
theorem onKey_i_q (i : Int) (P : Key → Prop) : onKey (.dat (.int i)) P = P (.inl i) := propext Iff.rfl
theorem onKey_s_q (i : Str) (P : Key → Prop) : onKey (.dat (.str i)) P = P (.inr i) := propext Iff.rfl
theorem dDict1_q (tk tv : DTE) (Δ : DSt) (M : Mp) (Φ : DK) : dDict1 tk tv Δ M Φ = (tk Δ M fun x M1 => tv Δ M1 fun y M2 => onKey x fun k => onD y fun d => Φ (.dat (.dict [(kD k, d)])) M2) := propext Iff.rfl
theorem dDict2_q (tk tv tk' tv' : DTE) (Δ : DSt) (M : Mp) (Φ : DK) : dDict2 tk tv tk' tv' Δ M Φ = (tk Δ M fun x M1 => tv Δ M1 fun y M2 => tk' Δ M2 fun x' M3 => tv' Δ M3 fun y' M4 => onKey x fun k => onD y fun d => onKey x' fun k' => onD y' fun d' => k ≠ k' ∧ Φ (.dat (.dict [(kD k, d), (kD k', d')])) M4) := propext Iff.rfl
theorem dDict1T_q (tk tv : DTE) (Δ : DSt) (M : Mp) (Φ : DK) : dDict1T tk tv Δ M Φ = (tk Δ M fun x M1 => tv Δ M1 fun y M2 => onT x fun ds => onKs ds fun ks => onD y fun d => Φ (.dat (.dict [(.tuple (ks.map kD), d)])) M2) := propext Iff.rfl
theorem sp1_q (f : PyData → Bool) (xs : List DV) (M : Mp) (Φ : DK) : sp1 f xs M Φ = (∃ d, xs = [.dat d] ∧ Φ (.dat (.bool (f d))) M) := propext Iff.rfl
theorem srcL_q (te : DTE) (Δ : DSt) (M : Mp) (Ψ : List PyData → Mp → Prop) : srcL te Δ M Ψ = (te Δ M fun x M1 => onL x fun ds => Ψ ds M1) := propext Iff.rfl
theorem srcT_q (te : DTE) (Δ : DSt) (M : Mp) (Ψ : List PyData → Mp → Prop) : srcT te Δ M Ψ = (te Δ M fun x M1 => onT x fun ds => Ψ ds M1) := propext Iff.rfl
theorem srcR1_q (ta : DTA) (Δ : DSt) (M : Mp) (Ψ : List PyData → Mp → Prop) : srcR1 ta Δ M Ψ = (ta Δ M fun xs M1 => on1 xs fun x => onI x fun j => InR j ∧ Ψ (rngD 0 j.toNat) M1) := propext Iff.rfl
theorem srcR2_q (ta : DTA) (Δ : DSt) (M : Mp) (Ψ : List PyData → Mp → Prop) : srcR2 ta Δ M Ψ = (ta Δ M fun xs M1 => on2 xs fun x y => onI x fun i => onI y fun j => (InR i ∧ InR j) ∧ Ψ (rngD i (j - i).toNat) M1) := propext Iff.rfl
theorem dEnd_t_q (Φ : DK) (acc : List PyData) (M : Mp) : dEnd true Φ acc M = ∀ p, M p = none → Φ (.own p) (mset M p (.lst acc)) := propext Iff.rfl
theorem dEnd_f_q (Φ : DK) (acc : List PyData) (M : Mp) : dEnd false Φ acc M = Φ (.dat (.list acc)) M := propext Iff.rfl
theorem dComp_q (ow : Bool) (src : DSrc) (ix : List (Option Nat)) (g : DTG) (tc : DTT) (te : DTE) (Δ : DSt) (M : Mp) (Φ : DK) : dComp ow src ix g tc te Δ M Φ = (src Δ M fun ds M1 => ds.length ≤ sizeLine ∧ ∃ J : Nat → List PyData → Mp → Prop, J 0 [] M1 ∧ (∀ i d acc M', ds[i]? = some d → J i acc M' → g (.dat d) (capD ix Δ) M' fun Δ2 M2 => tc Δ2 M2 fun b M3 => if b = true then te Δ2 M3 fun y M4 => onD y fun e => J (i + 1) (acc ++ [e]) M4 else J (i + 1) acc M3) ∧ ∀ acc M', J ds.length acc M' → dEnd ow Φ acc M') := propext Iff.rfl
theorem tcNo_q  (z0 : DSt) (M : Mp) (Φ : Bool → Mp → Prop) : tcNo z0 M Φ = (Φ true M) := propext Iff.rfl
theorem δSortI_q  (xs : List DV) (M : Mp) (Φ : DK) : δSortI xs M Φ = (∃ ns : List Int, IntsOf xs M ns ∧ ns.length < 64 ∧ ∀ ns' : List Int, ns'.Perm ns → ns'.Pairwise (· ≤ ·) → Φ (.dat (.list (ns'.map PyData.int))) M) := propext Iff.rfl
theorem δMinI_q  (xs : List DV) (M : Mp) (Φ : DK) : δMinI xs M Φ = (∃ ns : List Int, IntsOf xs M ns ∧ 0 < ns.length ∧ ∀ m ∈ ns, (∀ a ∈ ns, m ≤ a) → Φ (.dat (.int m)) M) := propext Iff.rfl
theorem δMaxI_q  (xs : List DV) (M : Mp) (Φ : DK) : δMaxI xs M Φ = (∃ ns : List Int, IntsOf xs M ns ∧ 0 < ns.length ∧ ∀ m ∈ ns, (∀ a ∈ ns, a ≤ m) → Φ (.dat (.int m)) M) := propext Iff.rfl
theorem δ3I_q (g : Int → Int → Int → Int) (xs : List DV) (M : Mp) (Φ : DK) : δ3I g xs M Φ = (on3 xs fun x y z => onI x fun i => onI y fun j => onI z fun l => Φ (.dat (.int (g i j l))) M) := propext Iff.rfl
theorem δTupOf_q  (xs : List DV) (M : Mp) (Φ : DK) : δTupOf xs M Φ = (on1 xs fun x => onQ x M fun ds => Φ (.dat (.tuple ds)) M) := propext Iff.rfl
theorem onW_t_q (ds : List PyData) (P : List PyData → Prop) : onW (.dat (.tuple ds)) P = P ds := propext Iff.rfl
theorem onW_l_q (ds : List PyData) (P : List PyData → Prop) : onW (.dat (.list ds)) P = P ds := propext Iff.rfl
theorem δIn_q  (x : DV) (y : DV) (M : Mp) (Φ : DK) : δIn x y M Φ = (onD x fun d => onW y fun ds => okIn d ds = true ∧ Φ (.dat (.bool (ds.any fun e => PyData.eqv e d))) M) := propext Iff.rfl
theorem dExtend_q (to te : DTE) (Δ : DSt) (M : Mp) (Φ : DK) : dExtend to te Δ M Φ = (to Δ M fun x M1 => onO x fun l => onOL (M1 l) fun _ => te Δ M1 fun y M2 => onO y fun b => onOL (M2 l) fun ds => onOL (M2 b) fun es => b ≠ l ∧ ds.length + es.length ≤ sizeLine ∧ Φ (.dat .none) (mdel (mset M2 l (.lst (ds ++ es))) b)) := propext Iff.rfl
theorem dSlL_q (te : DTE) (tl th : DTO) (Δ : DSt) (M : Mp) (Φ : DK) : dSlL te tl th Δ M Φ = (te Δ M fun x M1 => tl Δ M1 fun l M2 => th Δ M2 fun u M3 => onL x fun ds => Φ (.dat (.list (cutD ds l u))) M3) := propext Iff.rfl
theorem δSumI_q  (xs : List DV) (M : Mp) (Φ : DK) : δSumI xs M Φ = (∃ ns : List Int, IntsOf xs M ns ∧ Φ (.dat (.int ns.sum)) M) := propext Iff.rfl
theorem δAllB_q  (xs : List DV) (M : Mp) (Φ : DK) : δAllB xs M Φ = (∃ bs : List Bool, xs = [.dat (.list (bs.map PyData.bool))] ∧ Φ (.dat (.bool (bs.all id))) M) := propext Iff.rfl
theorem δAnyB_q  (xs : List DV) (M : Mp) (Φ : DK) : δAnyB xs M Φ = (∃ bs : List Bool, xs = [.dat (.list (bs.map PyData.bool))] ∧ Φ (.dat (.bool (bs.any id))) M) := propext Iff.rfl
theorem δIntB_q  (xs : List DV) (M : Mp) (Φ : DK) : δIntB xs M Φ = (on1 xs fun x => onB x fun b => Φ (.dat (.int (if b = true then 1 else 0))) M) := propext Iff.rfl
theorem dPar_q (i j : Nat) (ta : DTA) (D : DEnds) (Δ : DSt) (M : Mp) : dPar i j ta D Δ M = (ta Δ M fun xs M1 => on2 xs fun x y => D.nx ((Δ.set i (some x)).set j (some y)) M1) := propext Iff.rfl
theorem δCatS_q  (x : DV) (y : DV) (M : Mp) (Φ : DK) : δCatS x y M Φ = (onK x M fun ds => onK y M fun es => ds.length + es.length ≤ sizeLine ∧ Φ (.dat (.list (ds ++ es))) M) := propext Iff.rfl
theorem dSlS_q (te : DTE) (tl th : DTO) (Δ : DSt) (M : Mp) (Φ : DK) : dSlS te tl th Δ M Φ = (te Δ M fun x M1 => tl Δ M1 fun l M2 => th Δ M2 fun u M3 => onK x M3 fun ds => Φ (.dat (.list (cutD ds l u))) M3) := propext Iff.rfl
theorem dListR2_q (ta : DTA) (Δ : DSt) (M : Mp) (Φ : DK) : dListR2 ta Δ M Φ = (ta Δ M fun xs M1 => on2 xs fun x y => onI x fun i => onI y fun j => (InR i ∧ InR j) ∧ (j - i).toNat ≤ 16777216 ∧ Φ (.dat (.list (rngD i (j - i).toNat))) M1) := propext Iff.rfl
theorem dAug_q (i : Nat) (te : DTE) (f : Int → Int → Int) (D : DEnds) (Δ : DSt) (M : Mp) : dAug i te f D Δ M = (onV Δ[i]? fun z => onI z fun a => te Δ M fun x M1 => onI x fun b => D.nx (Δ.set i (some (.dat (.int (f a b))))) M1) := propext Iff.rfl
theorem δMinP_q  (xs : List DV) (M : Mp) (Φ : DK) : δMinP xs M Φ = (∃ qs : List (Int × Int), xs = [.dat (.list (qs.map prD))] ∧ 0 < qs.length ∧ ∀ q ∈ qs, (∀ r ∈ qs, ltP r q = false) → Φ (.dat (prD q)) M) := propext Iff.rfl
theorem dDict0T_q  (z0 : DSt) (M : Mp) (Φ : DK) : dDict0T z0 M Φ = (∀ p, M p = none → Φ (.own p) (mset M p (.dct []))) := propext Iff.rfl
theorem dPutT_q (td : DTE) (ta : DTA) (tv : DTE) (D : DEnds) (Δ : DSt) (M : Mp) : dPutT td ta tv D Δ M = (tv Δ M fun x M1 => td Δ M1 fun y M2 => ta Δ M2 fun zs M3 => onD x fun _ => onO y fun l => on2 zs fun p q => onI p fun i => onI q fun j => onOC (M3 l) fun ks => ks.length < sizeLine ∧ D.nx Δ (mset M3 l (.dct (addK ks (kP i j))))) := propext Iff.rfl
theorem onP_mk_q (i j : Int) (P : Int → Int → Prop) : onP (.dat (.tuple [.int i, .int j])) P = P i j := propext Iff.rfl
theorem δInT_q  (x : DV) (y : DV) (M : Mp) (Φ : DK) : δInT x y M Φ = (onP x fun i j => onO y fun l => onOC (M l) fun ks => Φ (.dat (.bool (memK ks (kP i j)))) M) := propext Iff.rfl
theorem dRevT_q (te ts : DTE) (Δ : DSt) (M : Mp) (Φ : DK) : dRevT te ts Δ M Φ = (te Δ M fun x M1 => ts Δ M1 fun y M2 => onT x fun ds => onI y fun i => i = -1 ∧ Φ (.dat (.tuple ds.reverse)) M2) := propext Iff.rfl
theorem dSlTW_q (te : DTE) (tl th : DTO) (Δ : DSt) (M : Mp) (Φ : DK) : dSlTW te tl th Δ M Φ = (te Δ M fun x M1 => tl Δ M1 fun l M2 => th Δ M2 fun u M3 => onT x fun ds => Φ (.dat (.tuple (cutD ds l u))) M3) := propext Iff.rfl
theorem onFr_l_q (ds : List PyData) (M : Mp) (Φ : DK) : onFr (.dat (.list ds)) M Φ = Φ (.dat (.list ds)) M := propext Iff.rfl
theorem onFr_o_q (l : Addr) (M : Mp) (Φ : DK) : onFr (.own l) M Φ = onOL (M l) fun ds => Φ (.dat (.list ds)) (mdel M l) := propext Iff.rfl
theorem dFrzA_q (t : DTE) (Δ : DSt) (M : Mp) (Φ : DK) : dFrzA t Δ M Φ = (t Δ M fun x M1 => onFr x M1 Φ) := propext Iff.rfl
theorem srcM_q (src : DSrc) (Δ : DSt) (M : Mp) (Ψ : List PyData → Mp → Prop) : srcM src Δ M Ψ = (∃ Ψ', src Δ M Ψ' ∧ ∀ ds M1, Ψ' ds M1 → Ψ ds M1) := propext Iff.rfl
theorem dCompU_q (ow : Bool) (src : DSrc) (ix : List (Option Nat)) (g : DTG) (tc : DTT) (te : DTE) (Δ : DSt) (M : Mp) (Φ : DK) : dCompU ow src ix g tc te Δ M Φ = (src Δ M fun ds M1 => ds.length ≤ sizeLine ∧ CompRun g tc te (capD ix Δ) (dEnd ow Φ) ds [] M1) := propext Iff.rfl
theorem dWhile_q (tc : DTT) (tb : DTS) (D : DEnds) (Δ : DSt) (M : Mp) : dWhile tc tb D Δ M = (∃ J : Nat → DSt → Mp → Prop, (∃ m, J m Δ M) ∧ ∀ n Δ M, J n Δ M → tc Δ M fun b M1 => if b = true then tb { D with nx := fun Δ' M' => ∃ m, m < n ∧ J m Δ' M', ct := fun Δ' M' => ∃ m, m < n ∧ J m Δ' M', bk := D.nx } Δ M1 else D.nx Δ M1) := propext Iff.rfl
theorem dPop_q (to : DTE) (Δ : DSt) (M : Mp) (Φ : DK) : dPop to Δ M Φ = (to Δ M fun x M1 => onO x fun l => ∃ ds d, M1 l = some (.lst (ds ++ [d])) ∧ Φ (.dat d) (mset M1 l (.lst ds))) := propext Iff.rfl
theorem onN_mk_q (P : Prop) : onN (.dat .none) P = P := propext Iff.rfl
theorem δIsN_q (b : Bool) (x : DV) (y : DV) (M : Mp) (Φ : DK) : δIsN b x y M Φ = (onD x fun d => onN y <| Φ (.dat (.bool (isNone d != b))) M) := propext Iff.rfl
theorem δNotIn_q  (x : DV) (y : DV) (M : Mp) (Φ : DK) : δNotIn x y M Φ = (onD x fun d => onW y fun ds => okIn d ds = true ∧ Φ (.dat (.bool (!(ds.any fun e => PyData.eqv e d)))) M) := propext Iff.rfl
theorem δNotInT_q  (x : DV) (y : DV) (M : Mp) (Φ : DK) : δNotInT x y M Φ = (onP x fun i j => onO y fun l => onOC (M l) fun ks => Φ (.dat (.bool (!memK ks (kP i j)))) M) := propext Iff.rfl
end DL

namespace DL
open PySem PySem.Spec PyProof.Rows L2
/-! ### texts -/
def cutS (x : Str) (lo hi : Option Int) : Str := ⟨((x.cps.toList.drop (HT.sIx x.length 0 lo)).take (HT.sIx x.length x.length hi - HT.sIx x.length 0 lo)).toArray⟩
theorem clip_ix (v : Int) (n d : Nat) : max 0 (min (if v < 0 then v + (n : Int) else v) (n : Int)) = ((HT.sIx n d (some v) : Nat) : Int) := by
  rw [← HT.clip_eq v n d]
  split <;> omega
theorem idx_eq (lo hi : Option Int) (n : Nat) : Builtin.Str.strSliceIndices lo hi 1 n = Builtin.Str.strSliceIndices (some ((HT.sIx n 0 lo : Nat) : Int)) (some ((HT.sIx n n hi : Nat) : Int)) 1 n := by
  have l1 := HT.sIx_le n 0 (Nat.zero_le n) lo
  have l2 := HT.sIx_le n n (Nat.le_refl n) hi
  have e : ∀ a : Nat, a ≤ n → max 0 (min (if (a : Int) < 0 then (a : Int) + (n : Int) else (a : Int)) (n : Int)) = (a : Int) := fun a ha => by
    rw [if_neg (by omega)]
    omega
  unfold Builtin.Str.strSliceIndices
  simp only [show ((1 : Int) > 0) = True from by simp, if_true]
  rw [e _ l1, e _ l2]
  cases lo with
  | none =>
    cases hi with
    | none => rfl
    | some v => simp only [clip_ix v n n]; rfl
  | some u =>
    cases hi with
    | none => simp only [clip_ix u n 0]; rfl
    | some v => simp only [clip_ix u n 0, clip_ix v n n]
theorem idx_nil {a b n : Nat} (h : b < a) (ha : a ≤ n) : Builtin.Str.strSliceIndices (some (a : Int)) (some (b : Int)) 1 n = [] := by
  unfold Builtin.Str.strSliceIndices sliceRange
  simp only [show ((1 : Int) > 0) = True from by simp, if_true]
  rw [if_neg (show ¬ ((a : Int) < 0) by omega), if_neg (show ¬ ((b : Int) < 0) by omega), if_neg (by omega)]
  rfl
theorem slice_cut (x : Str) (lo hi : Option Int) : Txt.slice x lo hi = cutS x lo hi := by
  have l1 := HT.sIx_le x.length 0 (Nat.zero_le _) lo
  have l2 := HT.sIx_le x.length x.length (Nat.le_refl _) hi
  have hl : x.cps.toList.length = x.length := by simp [Str.length]
  unfold Txt.slice
  rw [idx_eq]
  unfold cutS
  generalize HT.sIx x.length 0 lo = a at *
  generalize HT.sIx x.length x.length hi = b at *
  by_cases h : a ≤ b
  · rw [StrLaws.sliced_plain x h l2, StrLaws.strSliceIndices_plain h l2]
    split
    · rename_i q
      have q' : b - a = x.length := by simpa using q
      have a0 : a = 0 := by omega
      subst a0
      apply Str.ext'
      rw [List.drop_zero, List.take_of_length_le (by omega)]
    · rfl
  · rw [idx_nil (by omega) l1, show b - a = 0 by omega]
    split
    · rename_i q
      have q' : x.length = 0 := by
        have : 0 = x.length := by simpa using q
        omega
      apply Str.ext'
      have : x.cps.toList = [] := List.length_eq_zero_iff.mp (by omega)
      rw [List.take_zero]
      exact Array.toList_inj.mp this
    · simp
section
variable {X : Cx} {a b : Expr} {ta tb : DTE} {pos : Pos}
def rSlS : V → Option Int → Option Int → Hp → VK → Prop := fun x lo hi H Q => ∃ z, x = .str z ∧ z.length ≤ sizeLine ∧ Q (.str (cutS z lo hi)) H
theorem sl_str : SlR X rSlS := by
  intro pins s σ H x v vl vu lo hi sl Q I rx hs pl pu h
  obtain ⟨z, rfl, hz, q⟩ := h
  obtain ⟨t, rfl⟩ := rx
  have hlen : (Txt.slice z lo hi).length ≤ sizeLine := Nat.le_trans (Txt.slice_le z lo hi) hz
  have fin : ∀ t' k, EP X pins σ Q (.str (Txt.slice z lo hi) t') { s with toks := k } := fun t' k => by
    rw [slice_cut]
    exact ⟨.str (cutS z lo hi), H, I.tok _, ⟨_, rfl⟩, q⟩
  refine ⟨"str", _, PySem.F.slot_str_getitem.lookup, typeIs_str s z t, ?_⟩
  cases pl with
  | none => cases pu with
    | none => exact wpAny_getItem_str_slice (l := none) (u := none) (st := none) hs rfl (post_val_or_str ⟨hlen, fin⟩)
    | int j uj => exact wpAny_getItem_str_slice (l := none) (u := some (j, uj)) (st := none) hs rfl (post_val_or_str ⟨hlen, fin⟩)
  | int i ui => cases pu with
    | none => exact wpAny_getItem_str_slice (l := some (i, ui)) (u := none) (st := none) hs rfl (post_val_or_str ⟨hlen, fin⟩)
    | int j uj => exact wpAny_getItem_str_slice (l := some (i, ui)) (u := some (j, uj)) (st := none) hs rfl (post_val_or_str ⟨hlen, fin⟩)
def dSlX (te : DTE) (tl th : DTO) : DTE := fun Δ M Φ => te Δ M fun x M1 => tl Δ M1 fun l M2 => th Δ M2 fun u M3 => onS x fun s => s.length ≤ sizeLine ∧ Φ (.dat (.str (cutS s l u))) M3
theorem de_sliceX {e : Expr} {te : DTE} {lo hi : Option Expr} {tl th : DTO} {p2 pos : Pos} (he : DE X e te) (hl : DO X lo tl) (hu : DO X hi th) : DE X (.Subscript e (.Slice lo hi none p2) pos) (dSlX te tl th) := by
  obtain ⟨t1, p1, q1⟩ := he
  obtain ⟨t2, p2, q2⟩ := hl
  obtain ⟨t3, p3, q3⟩ := hu
  refine ⟨_, pe_slice sl_str p1 p2 p3, fun σ H Δ M Φ Q r e h k => ?_⟩
  refine q1 σ H Δ M _ _ r e h fun v H1 x M1 r1 st rv hx => ?_
  refine q2 σ H1 Δ M1 _ _ r1 (e.step st) hx fun l H2 M2 r2 st2 hl => ?_
  refine q3 σ H2 Δ M2 _ _ r2 (e.step (st.trans st2)) hl fun u H3 M3 r3 st3 hu => ?_
  replace hu := onS_ex hu
  obtain ⟨s, rfl, hz, hu⟩ := hu
  exact ⟨s, rv.str, hz, k.dat r3 (st.trans (st2.trans st3)) (Dt.str _) hu⟩
/-! a text's sign, texts put together, so many times, compared -/
def δIxS : D2 := fun x y M Φ => onS x fun s => onI y fun i => s.length ≤ sizeLine ∧ ∃ c, L2.atI s.cps.toList i = some c ∧ Φ (.dat (.str ⟨#[c]⟩)) M
theorem de_ixS (ha : DE X a ta) (hb : DE X b tb) (hs : PlainIx b := by intro _ _; rfl) : DE X (.Subscript a b pos) (dOp δIxS ta tb) := by
  obtain ⟨ta', pa, qa⟩ := ha
  obtain ⟨tb', pb, qb⟩ := hb
  refine ⟨_, pe_ix ix_str pa pb hs, Snd.opn qa qb fun v u H x y M Φ Q r rv ru h k => ?_⟩
  replace h := onS_ex h
  obtain ⟨s, rfl, h⟩ := h
  replace h := onI_ex h
  obtain ⟨i, rfl, hz, c, hc, q⟩ := h
  exact ⟨s, i, c, rv.str, ru.int, hz, hc, k.dat r Step.refl (Dt.str _) q⟩
def δAddS : D2 := fun x y M Φ => onS x fun s => onS y fun t => s.length + t.length ≤ sizeLine ∧ Φ (.dat (.str (s ++ t))) M
theorem od_addS : OpD X (binaryOp .Add) δAddS :=
  ⟨_, op_add_str, fun v u H x y M Φ Q r rv ru h k => by
    replace h := onS_ex h
    obtain ⟨s, rfl, h⟩ := h
    replace h := onS_ex h
    obtain ⟨t, rfl, hz, q⟩ := h
    exact ⟨s, t, rv.str, ru.str, hz, k.dat r Step.refl (Dt.str _) q⟩⟩
def mulS (s : Str) (n : Nat) : Str := ⟨((List.replicate n s.cps.toList).flatten).toArray⟩
def δMulS : D2 := fun x y M Φ => onS x fun s => onI y fun i => (1 ≤ i ∧ i ≤ 1000 ∧ s.length ≤ 1000) ∧ Φ (.dat (.str (mulS s i.toNat))) M
theorem op_le_str : OpR X (compareOp .LtE) (fun x y H Q => ∃ i j, x = .str i ∧ y = .str j ∧ Q (.bl (!decide (j.cps.toList < i.cps.toList))) H) := by
  intro pins s σ H x y v u Q I rx ry h
  obtain ⟨i, j, rfl, rfl, q⟩ := h
  obtain ⟨t, rfl⟩ := rx
  obtain ⟨t', rfl⟩ := ry
  exact PySem.P.le_str (fin_bl I q rfl)
def δLeS : D2 := fun x y M Φ => onS x fun s => onS y fun t => Φ (.dat (.bool (!decide (t.cps.toList < s.cps.toList)))) M
theorem od_leS : OpD X (compareOp .LtE) δLeS :=
  ⟨_, op_le_str, fun v u H x y M Φ Q r rv ru h k => by
    replace h := onS_ex h
    obtain ⟨s, rfl, h⟩ := h
    replace h := onS_ex h
    obtain ⟨t, rfl, q⟩ := h
    exact ⟨s, t, rv.str, ru.str, k.dat r Step.refl (Dt.bl _) q⟩⟩
/-! a text is walked -/
def Its (x : Str) : It := ⟨fun i _ => i < x.length, fun i H y H' => H' = H ∧ ∃ c, x.cps[i]? = some c ∧ y = .str ⟨#[c]⟩, fun i _ => x.length ≤ i⟩
theorem turn_strA {P : Program} {w : World} {K : PySem.W.Frag} {tg : Expr} (x : Str) (t : Tok) (it : Addr) : Turn P w K tg (Its x) [it] it (fun i h => h.IsStrIter it "str_ascii_iterator" x t i) where
  mem := by simp
  obj := fun i h st b hb => by
    have e : b = it := by simpa using hb
    subst e
    obtain ⟨o, e, c, d⟩ := st
    exact ⟨o, e, fun v z => by rw [d] at z; cases z⟩
  keep := fun i h h' st k => let ⟨o, ho, r⟩ := st; ⟨o, k it (by simp) o ho, r⟩
  item := by
    intro X hP hw hK hc i pins s σ H E I hf st hg
    subst hP hw hK
    have hi : i < x.cps.size := hg
    obtain ⟨f0, f1, f2, f3, f4, f5⟩ := hf it (by simp)
    refine wpAny_pyNext_ascii_item st (c := x.cps[i]) (by simp [hi]) fun h' st' sb => ?_
    have I1 : Inv X pins σ H { s with heap := h', toks := s.toks + 1 } := I.turned (t' := s.toks + 1) (fun b o hb e => (sb.2 b hb).trans e) f0 f1 f3 f4 f5
    obtain ⟨o, e, c, d⟩ := id st'
    exact ⟨_, rfl, go_of (s := { s with heap := h', toks := s.toks + 1 }) e c d (by decide) ⟨.str ⟨#[x.cps[i]]⟩, H, I1, ⟨_, rfl⟩, ⟨rfl, _, by simp [hi], rfl⟩, st', fun b hb => (hf b hb).1⟩⟩
  done := by
    intro X hP hw hK hc i pins s σ H E I hf st hg
    subst hP hw hK
    obtain ⟨f0, f1, f2, f3, f4, f5⟩ := hf it (by simp)
    have hi : x.cps.size ≤ i := hg
    exact wpAny_pyNext_ascii_end (I.ok.hd hc) st (by simp [hi]) fun h' eb => ⟨rfl, I.turned (t' := s.toks) (fun b o hb e => eb b o hb e) f0 f1 f3 f4 f5⟩
  self := fun _ _ _ _ _ st h => wpAny_pyIter_striter_ascii st h
theorem turn_strW {P : Program} {w : World} {K : PySem.W.Frag} {tg : Expr} (x : Str) (t : Tok) (it : Addr) : Turn P w K tg (Its x) [it] it (fun i h => h.IsStrIter it "str_iterator" x t i) where
  mem := by simp
  obj := fun i h st b hb => by
    have e : b = it := by simpa using hb
    subst e
    obtain ⟨o, e, c, d⟩ := st
    exact ⟨o, e, fun v z => by rw [d] at z; cases z⟩
  keep := fun i h h' st k => let ⟨o, ho, r⟩ := st; ⟨o, k it (by simp) o ho, r⟩
  item := by
    intro X hP hw hK hc i pins s σ H E I hf st hg
    subst hP hw hK
    have hi : i < x.cps.size := hg
    obtain ⟨f0, f1, f2, f3, f4, f5⟩ := hf it (by simp)
    refine wpAny_pyNext_wide_item st (c := x.cps[i]) (by simp [hi]) fun h' st' sb => ?_
    have I1 : Inv X pins σ H { s with heap := h', toks := s.toks + 1 } := I.turned (t' := s.toks + 1) (fun b o hb e => (sb.2 b hb).trans e) f0 f1 f3 f4 f5
    obtain ⟨o, e, c, d⟩ := id st'
    exact ⟨_, rfl, go_of (s := { s with heap := h', toks := s.toks + 1 }) e c d (by decide) ⟨.str ⟨#[x.cps[i]]⟩, H, I1, ⟨_, rfl⟩, ⟨rfl, _, by simp [hi], rfl⟩, st', fun b hb => (hf b hb).1⟩⟩
  done := by
    intro X hP hw hK hc i pins s σ H E I hf st hg
    subst hP hw hK
    obtain ⟨f0, f1, f2, f3, f4, f5⟩ := hf it (by simp)
    have hi : x.cps.size ≤ i := hg
    exact wpAny_pyNext_wide_end (I.ok.hd hc) st (by simp [hi]) fun h' eb => ⟨rfl, I.turned (t' := s.toks) (fun b o hb e => eb b o hb e) f0 f1 f3 f4 f5⟩
  self := fun _ _ _ _ _ st h => wpAny_pyIter_striter_wide st h
def iStr (tl : TE) : TI := fun σ H R => tl σ H fun x H1 => ∃ z, x = .str z ∧ R (Its z) H1
theorem pi_str {tg l : Expr} {tl : TE} (hl : PE X l tl) : PI X tg l (iStr tl) := by
  intro pins s σ H R I h
  refine thn (hl pins s σ H _ I h) fun v s1 ⟨x, H1, I1, r1, q1⟩ => ?_
  obtain ⟨z, e, q⟩ := q1
  subst e
  obtain ⟨t, rfl⟩ := r1
  cases ha : z.cps.all (· < 128)
  · refine wpAny_pyIter_wide ha ?_
    refine ⟨s1.heap.objs.size, [s1.heap.objs.size], _, _, H1, rfl, I1.kept (t' := s1.toks) fun b o e => Heap.get?_push_of_some _ e, turn_strW z t _, ⟨_, Heap.get?_push_size _ rfl, rfl, rfl⟩, fun b hb => ?_, q⟩
    have e : b = s1.heap.objs.size := by simpa using hb
    subst e
    exact I1.fpOk (Nat.le_refl _) (I1.hok.fresh (Nat.le_refl _))
  · refine wpAny_pyIter_ascii ha ?_
    refine ⟨s1.heap.objs.size, [s1.heap.objs.size], _, _, H1, rfl, I1.kept (t' := s1.toks) fun b o e => Heap.get?_push_of_some _ e, turn_strA z t _, ⟨_, Heap.get?_push_size _ rfl, rfl, rfl⟩, fun b hb => ?_, q⟩
    have e : b = s1.heap.objs.size := by simpa using hb
    subst e
    exact I1.fpOk (Nat.le_refl _) (I1.hok.fresh (Nat.le_refl _))
def sgnD (c : Nat) : PyData := .str ⟨#[c]⟩
def srcX (te : DTE) : DSrc := fun Δ M Ψ => te Δ M fun x M1 => onS x fun s => Ψ (s.cps.toList.map sgnD) M1
theorem di_str {tg iter : Expr} {te : DTE} (he : DE X iter te) : DI X tg iter (srcX te) := by
  obtain ⟨t, p, q⟩ := he
  refine ⟨_, pi_str p, fun σ H Δ M Ψ R dr er h k => ?_⟩
  refine q σ H Δ M _ _ dr er h fun v H1 x M1 r1 st rv hx => ?_
  replace hx := onS_ex hx
  obtain ⟨s, rfl, hΨ⟩ := hx
  have hl : (s.cps.toList.map sgnD).length = s.length := by simp [Str.length]
  refine ⟨s, rv.str, k _ H1 M1 _ r1 st (fun M2 H2 st2 i => ⟨fun hi => ⟨by rw [hl] at hi; exact hi, fun x H' y => ?_⟩, fun hi => by rw [hl] at hi; exact hi⟩) hΨ⟩
  obtain ⟨e, c, hc, rfl⟩ := y
  subst e
  refine fun r => ⟨r, Step.refl, sgnD c, ?_, Dt.str _⟩
  rw [List.getElem?_map, Array.getElem?_toList, hc]
  rfl
/-! list(text), tuple(text) -/
def δListX : D1 := fun xs M Φ => on1 xs fun x => onS x fun s => s.length ≤ sizeLine ∧ Φ (.dat (.list (s.cps.toList.map sgnD))) M
def δTupX : D1 := fun xs M Φ => on1 xs fun x => onS x fun s => s.length ≤ sizeLine ∧ Φ (.dat (.tuple (s.cps.toList.map sgnD))) M
/-! sep.join(texts), text.upper() -/
def rJoin (K : PySem.W.Frag) : V → List V → Hp → VK → Prop := fun x xs H Q => ∃ z p ss, x = .str z ∧ xs = [.ref p] ∧ SqL K H p (ss.map V.str) ∧ JoinOk z ss = true ∧ Q (.str (Txt.join z ss)) H
theorem strs_of : ∀ {ss : List Str} {us : List Value}, Vals (ss.map V.str) us → ∃ l : List (Str × Tok), us = strValues l ∧ l.map (·.1) = ss
  | [], _, r => by rw [List.map_nil] at r; cases r; exact ⟨[], rfl, rfl⟩
  | s :: ss, _, r => by
    rw [List.map_cons] at r
    cases r with
    | cons r1 r2 =>
      obtain ⟨t, rfl⟩ := r1
      obtain ⟨l, rfl, e⟩ := strs_of r2
      exact ⟨(s, t) :: l, rfl, by rw [List.map_cons, e]⟩
theorem mt_join : MtR X "str.join" (rJoin X.K) := by
  intro pins s σ H x xs v us Q I rx rs h
  obtain ⟨z, p, ss, rfl, rfl, hq, hj, q⟩ := h
  obtain ⟨t, rfl⟩ := rx
  obtain ⟨u, rfl, ru⟩ := vals1 rs
  cases ru
  obtain ⟨its, rv, pl, hz⟩ := I.list hq
  obtain ⟨l, rfl, hl⟩ := strs_of rv
  exact SC.join pl.isList hl hj fun t' k => ⟨.str _, H, I.tok _, ⟨_, rfl⟩, q⟩
def onSs (ds : List PyData) (P : List Str → Prop) : Prop := ∃ ss, ds = ss.map PyData.str ∧ P ss
def dJoin (to te : DTE) : DTE := fun Δ M Φ => to Δ M fun x M1 => onS x fun z => te Δ M1 fun y M2 => onK y M2 fun ds => onSs ds fun ss => JoinOk z ss = true ∧ Φ (.dat (.str (Txt.join z ss))) M2
theorem ofDts_strs {K : PySem.W.Frag} {M : Mp} {H : Hp} : ∀ {vs : List V} {ss : List Str}, Dts K M H vs (ss.map PyData.str) → vs = ss.map V.str
  | vs, [], h => by
    rw [List.map_nil] at h
    cases h
    rfl
  | vs, n :: ns, h => by
    rw [List.map_cons] at h
    cases h with
    | cons h1 h2 =>
      cases h1
      rw [ofDts_strs h2, List.map_cons]
theorem de_join {o e : Expr} {to te : DTE} {apos cpos : Pos} (ho : DE X o to) (he : DE X e te) (hbase : attributeBase o "join" X.env (eval o X.env) = eval o X.env := by rfl)
    (hfew : ((backTo cpos (starEach [e] X.env)).all (fun x => !x.1) && (backToKw cpos (keywordEach [] X.env)).all (fun x => x.1.isSome)
      && decide ([e].length + ([] : List Keyword).length + (if ([] : List Keyword).isEmpty then 0 else 1) < 30)) = true := by rfl)
    (hline : (apos.endLine == cpos.line) = true := by rfl) (hs : starEach [e] X.env = (false, eval e X.env) :: starEach [] X.env := by rfl) (hplain : (backTo cpos (starEach [] X.env)).any (·.1) = false := by rfl) :
    DE X (.Call (.Attribute o "join" apos) [e] [] cpos) (dJoin to te) := by
  obtain ⟨t1, p1, q1⟩ := ho
  obtain ⟨t2, p2, q2⟩ := he
  refine ⟨_, pe_bm PySem.F.plainAttrs_str PySem.F.slot_str_join PySem.F.type_str_join mt_join p1 (pa_cons p2 pa_nil hs) hbase hfew hline hs hplain, fun σ H Δ M Φ Q r e h k => ?_⟩
  refine q1 σ H Δ M _ _ r e h fun v H1 x M1 r1 st rv hx => ?_
  replace hx := onS_ex hx
  obtain ⟨z, rfl, hx⟩ := hx
  cases rv.str
  refine ⟨rfl, q2 σ H1 Δ M1 _ _ r1 (e.step st) hx fun w H2 y M2 r2 st2 rw2 hy => ?_⟩
  replace hy := onK_ex hy
  obtain ⟨ds, hd, ss, rfl, hj, hy⟩ := hy
  replace hd : LsOf y M2 (ss.map PyData.str) := hd
  obtain ⟨a, xs, rfl, h1, h2⟩ := hd.sq r2 rw2
  cases ofDts_strs h2
  exact ⟨z, a, ss, rfl, rfl, h1, hj, k.dat r2 (st.trans st2) (Dt.str _) hy⟩
def rUp : V → List V → Hp → VK → Prop := fun x xs H Q => ∃ z, x = .str z ∧ xs = [] ∧ z.length ≤ 1000 ∧ Q (.str (Txt.upper z)) H
def dUpper (to : DTE) : DTE := fun Δ M Φ => to Δ M fun x M1 => onS x fun z => z.length ≤ 1000 ∧ Φ (.dat (.str (Txt.upper z))) M1
end
/-! rows for the readings -/
theorem dSlX_q (te : DTE) (tl th : DTO) (Δ : DSt) (M : Mp) (Φ : DK) : dSlX te tl th Δ M Φ = (te Δ M fun x M1 => tl Δ M1 fun l M2 => th Δ M2 fun u M3 => onS x fun s => s.length ≤ sizeLine ∧ Φ (.dat (.str (cutS s l u))) M3) := propext Iff.rfl
theorem δIxS_q (x y : DV) (M : Mp) (Φ : DK) : δIxS x y M Φ = (onS x fun s => onI y fun i => s.length ≤ sizeLine ∧ ∃ c, L2.atI s.cps.toList i = some c ∧ Φ (.dat (.str ⟨#[c]⟩)) M) := propext Iff.rfl
theorem δAddS_q (x y : DV) (M : Mp) (Φ : DK) : δAddS x y M Φ = (onS x fun s => onS y fun t => s.length + t.length ≤ sizeLine ∧ Φ (.dat (.str (s ++ t))) M) := propext Iff.rfl
theorem δMulS_q (x y : DV) (M : Mp) (Φ : DK) : δMulS x y M Φ = (onS x fun s => onI y fun i => (1 ≤ i ∧ i ≤ 1000 ∧ s.length ≤ 1000) ∧ Φ (.dat (.str (mulS s i.toNat))) M) := propext Iff.rfl
theorem δLeS_q (x y : DV) (M : Mp) (Φ : DK) : δLeS x y M Φ = (onS x fun s => onS y fun t => Φ (.dat (.bool (!decide (t.cps.toList < s.cps.toList)))) M) := propext Iff.rfl
theorem srcX_q (te : DTE) (Δ : DSt) (M : Mp) (Ψ : List PyData → Mp → Prop) : srcX te Δ M Ψ = (te Δ M fun x M1 => onS x fun s => Ψ (s.cps.toList.map sgnD) M1) := propext Iff.rfl
theorem δListX_q (xs : List DV) (M : Mp) (Φ : DK) : δListX xs M Φ = (on1 xs fun x => onS x fun s => s.length ≤ sizeLine ∧ Φ (.dat (.list (s.cps.toList.map sgnD))) M) := propext Iff.rfl
theorem δTupX_q (xs : List DV) (M : Mp) (Φ : DK) : δTupX xs M Φ = (on1 xs fun x => onS x fun s => s.length ≤ sizeLine ∧ Φ (.dat (.tuple (s.cps.toList.map sgnD))) M) := propext Iff.rfl
theorem dJoin_q (to te : DTE) (Δ : DSt) (M : Mp) (Φ : DK) : dJoin to te Δ M Φ = (to Δ M fun x M1 => onS x fun z => te Δ M1 fun y M2 => onK y M2 fun ds => onSs ds fun ss => JoinOk z ss = true ∧ Φ (.dat (.str (Txt.join z ss))) M2) := propext Iff.rfl
theorem dUpper_q (to : DTE) (Δ : DSt) (M : Mp) (Φ : DK) : dUpper to Δ M Φ = (to Δ M fun x M1 => onS x fun z => z.length ≤ 1000 ∧ Φ (.dat (.str (Txt.upper z))) M1) := propext Iff.rfl
/-! what texts are -/
theorem str_len (s : Str) : s.cps.toList.length = s.length := by simp [Str.length]
theorem add_list (s t : Str) : (s ++ t).cps.toList = s.cps.toList ++ t.cps.toList := by rw [Str.cps_append, Array.toList_append]
theorem add_len (s t : Str) : (s ++ t).length = s.length + t.length := Str.length_append s t
theorem one_list (c : Nat) : (⟨#[c]⟩ : Str).cps.toList = [c] := rfl
theorem one_len (c : Nat) : (⟨#[c]⟩ : Str).length = 1 := rfl
theorem cut_list (s : Str) (lo hi : Option Int) : (cutS s lo hi).cps.toList = (s.cps.toList.drop (HT.sIx s.length 0 lo)).take (HT.sIx s.length s.length hi - HT.sIx s.length 0 lo) := rfl
theorem cut_mem {s : Str} {lo hi : Option Int} {c : Nat} (h : c ∈ (cutS s lo hi).cps.toList) : c ∈ s.cps.toList := by
  rw [cut_list] at h
  exact List.mem_of_mem_drop (List.mem_of_mem_take h)
theorem cut_len (s : Str) (lo hi : Option Int) : (cutS s lo hi).length = HT.sIx s.length s.length hi - HT.sIx s.length 0 lo := by
  have l1 := HT.sIx_le s.length s.length (Nat.le_refl _) hi
  rw [← str_len, cut_list, List.length_take, List.length_drop, str_len]
  omega
theorem sIx_at {n d : Nat} {i : Int} (h0 : 0 ≤ i) : HT.sIx n d (some i) = min i.toNat n := by
  obtain ⟨k, rfl⟩ := Int.eq_ofNat_of_zero_le h0
  rw [HT.sIx_nat]
  rfl
theorem join_list : ∀ ss : List Str, (Txt.join (Str.ofString "") ss).cps.toList = (ss.map (·.cps.toList)).flatten := by
  have e0 : (Str.ofString "").cps.toList = [] := by decide +kernel
  have go : ∀ ss : List Str, (Str.join (Str.ofString "") ss).cps.toList = (ss.map (·.cps.toList)).flatten := fun ss => by
    induction ss with
    | nil => rfl
    | cons s ss ih =>
      cases ss with
      | nil => simp [Str.join]
      | cons t ss =>
        rw [Str.join, add_list, add_list, e0, ih]
        · simp
        · simp
  intro ss
  have : Txt.join (Str.ofString "") ss = Str.join (Str.ofString "") ss := by
    exact StrLaws.glued_eq_join _ _
  rw [this, go]
theorem join_ok {sep : Str} {ss : List Str} {B : Nat} (hB : ∀ y ∈ ss, y.length ≤ B) (h : ss.length * B + ss.length * sep.length ≤ 16777216) : JoinOk sep ss = true := by
  unfold JoinOk
  rw [StrLaws.joinFits hB h]
  rfl
end DL

namespace DL
open PySem PySem.Spec PyProof.Rows L2 PySem.W
/-! ### dict(pairs) -/
section
variable {prog : Program} {w : World} {A : Around} {E : Value → Shared → Prop} {s : Shared}
/-- a list at a -/
def LAt (a : Addr) (h : Heap) : Prop := ∃ xs n sl, h.get? a = some { cls := .type "list", data := .seq xs n, slots := sl }
variable {K : Type} [DecidableEq K] {knd : KeyKind prog w K}
/-- a row of two at a -/
def RowAt (h : Heap) (v key val : Value) : Prop := ∃ a o c, v = .ref a ∧ h.get? a = some o ∧ o.cls = .type "tuple" ∧ o.data = .seq #[key, val] c
end
section
variable {X : Cx}
/-- the value's row of two -/
def V2 (K : PySem.W.Frag) (H : Hp) (v : V) (p : Key × V) : Prop := ∃ a, v = .ref a ∧ SqT K H a [kV p.1, p.2]
def rDictP (K : PySem.W.Frag) : List V → Hp → VK → Prop := fun xs H Q => ∃ (a : Addr) (vs : List V) (ps : List (Key × V)), xs = [.ref a] ∧ SqL K H a vs ∧ vs.length = ps.length ∧ (∀ (j : Nat) (p : Key × V), ps[j]? = some p → ∃ v, vs[j]? = some v ∧ V2 K H v p) ∧
  ∀ l, H l = none → Q (.ref l) (upd H l (.dK (ps.foldl (fun m p => putK m p.1 p.2) [])))
end
end DL

namespace DL
open PySem PySem.Spec PyProof.Rows L2
/-! ### dicts under way whose keys are texts -/
def onOK (o : Option OO) (P : List (Key × PyData) → Prop) : Prop := match o with | some (.dkv ps) => P ps | _ => False
theorem onOK_mk_q (ps : List (Key × PyData)) (P : List (Key × PyData) → Prop) : onOK (some (.dkv ps)) P = P ps := propext Iff.rfl
theorem onOK_ex {o : Option OO} {P : List (Key × PyData) → Prop} (h : onOK o P) : ∃ ps, o = some (.dkv ps) ∧ P ps := by
  unfold onOK at h
  split at h
  · exact ⟨_, rfl, h⟩
  · exact h.elim
def dvalD (ps : List (Key × PyData)) (k : Key) : Option PyData := (ps.find? fun kv => decide (kv.1 = k)).map (·.2)
def dputD (ps : List (Key × PyData)) (k : Key) (d : PyData) : List (Key × PyData) := if (ps.any fun kv => decide (kv.1 = k)) = true then ps.map (fun kv => if kv.1 = k then (kv.1, d) else kv) else ps ++ [(k, d)]
section
variable {K : PySem.W.Frag} {M : Mp} {H : Hp}
/-- the same keys, the values' data -/
inductive KD (K : PySem.W.Frag) (M : Mp) (H : Hp) : List (Key × V) → List (Key × PyData) → Prop
  | nil : KD K M H [] []
  | cons {k : Key} {v : V} {d : PyData} {kvs : List (Key × V)} {ps : List (Key × PyData)} : Dt K M H v d → KD K M H kvs ps → KD K M H ((k, v) :: kvs) ((k, d) :: ps)
theorem KD.of : ∀ {kvs : List (Key × V)} {ps : List (Key × PyData)}, kvs.map (·.1) = ps.map (·.1) → Dts K M H (kvs.map (·.2)) (ps.map (·.2)) → KD K M H kvs ps
  | [], [], _, _ => .nil
  | [], _ :: _, h, _ => by simp at h
  | _ :: _, [], h, _ => by simp at h
  | (k, v) :: kvs, (k', d) :: ps, h, hd => by
    rw [List.map_cons, List.map_cons, List.cons.injEq] at h
    cases (show k = k' from h.1)
    cases hd with
    | cons h1 h2 => exact .cons h1 (KD.of h.2 h2)
theorem KD.keys : ∀ {kvs : List (Key × V)} {ps : List (Key × PyData)}, KD K M H kvs ps → kvs.map (·.1) = ps.map (·.1)
  | _, _, .nil => rfl
  | _, _, .cons _ h => by rw [List.map_cons, List.map_cons, h.keys]
theorem KD.vals : ∀ {kvs : List (Key × V)} {ps : List (Key × PyData)}, KD K M H kvs ps → Dts K M H (kvs.map (·.2)) (ps.map (·.2))
  | _, _, .nil => .nil
  | _, _, .cons h1 h => .cons h1 h.vals
theorem KD.any (k : Key) : ∀ {kvs : List (Key × V)} {ps : List (Key × PyData)}, KD K M H kvs ps → (kvs.any fun kv => decide (kv.1 = k)) = ps.any fun kv => decide (kv.1 = k)
  | _, _, .nil => rfl
  | _, _, .cons _ h => by rw [List.any_cons, List.any_cons, h.any k]
theorem KD.snoc {k : Key} {v : V} {d : PyData} (hd : Dt K M H v d) : ∀ {kvs : List (Key × V)} {ps : List (Key × PyData)}, KD K M H kvs ps → KD K M H (kvs ++ [(k, v)]) (ps ++ [(k, d)])
  | _, _, .nil => .cons hd .nil
  | _, _, .cons h1 h => .cons h1 (h.snoc hd)
theorem KD.repl (k : Key) {v : V} {d : PyData} (hd : Dt K M H v d) : ∀ {kvs : List (Key × V)} {ps : List (Key × PyData)}, KD K M H kvs ps → KD K M H (kvs.map fun kv => if kv.1 = k then (kv.1, v) else kv) (ps.map fun kv => if kv.1 = k then (kv.1, d) else kv)
  | _, _, .nil => .nil
  | _, _, .cons (k := k') h1 h => by
    rw [List.map_cons, List.map_cons]
    by_cases e : k' = k
    · rw [if_pos e, if_pos e]
      exact .cons hd (h.repl k hd)
    · rw [if_neg e, if_neg e]
      exact .cons h1 (h.repl k hd)
theorem KD.put (k : Key) {v : V} {d : PyData} (hd : Dt K M H v d) {kvs : List (Key × V)} {ps : List (Key × PyData)} (h : KD K M H kvs ps) : KD K M H (putK kvs k v) (dputD ps k d) := by
  unfold putK dputD
  rw [h.any k]
  split
  · exact h.repl k hd
  · exact h.snoc hd
theorem KD.val (k : Key) : ∀ {kvs : List (Key × V)} {ps : List (Key × PyData)}, KD K M H kvs ps → (valV kvs k = none ∧ dvalD ps k = none) ∨ ∃ v d, valV kvs k = some v ∧ dvalD ps k = some d ∧ Dt K M H v d
  | _, _, .nil => .inl ⟨rfl, rfl⟩
  | _, _, .cons (k := k') (v := v) (d := d) h1 h => by
    unfold valV dvalD
    by_cases e : k' = k
    · rw [List.find?_cons_of_pos (by simpa using e), List.find?_cons_of_pos (by simpa using e)]
      exact .inr ⟨v, d, rfl, rfl, h1⟩
    · rw [List.find?_cons_of_neg (by simpa using e), List.find?_cons_of_neg (by simpa using e)]
      exact h.val k
theorem KD.length {kvs : List (Key × V)} {ps : List (Key × PyData)} (h : KD K M H kvs ps) : kvs.length = ps.length := by
  have := congrArg List.length h.keys
  simpa using this
theorem DRel.dk (r : DRel K M H) {a : Addr} {ps : List (Key × PyData)} (h : M a = some (.dkv ps)) : ∃ kvs, H a = some (.dK kvs) ∧ KD K M H kvs ps := by
  obtain ⟨kvs, e1, e2, e3⟩ := r.ok a _ h
  exact ⟨kvs, e1, .of e2 e3⟩
theorem DRel.ownDk (r : DRel K M H) {p : Addr} {kvs : List (Key × V)} {ps : List (Key × PyData)} (st : Step M H (mset M p (.dkv ps)) (upd H p (.dK kvs))) (h : KD K M H kvs ps) : DRel K (mset M p (.dkv ps)) (upd H p (.dK kvs)) :=
  r.ownAny st ⟨kvs, upd_same, h.keys, h.vals.step st⟩
end
section
variable {X : Cx} {o i e value : Expr} {td ti te tv : DTE} {pos pos' : Pos}
def dDict0K : DTE := fun _ M Φ => ∀ p, M p = none → Φ (.own p) (mset M p (.dkv []))
def dPutK (td ti tv : DTE) : DTS := fun D Δ M => tv Δ M fun x M1 => td Δ M1 fun y M2 => ti Δ M2 fun z M3 => onD x fun d => onO y fun l => onS z fun s => onOK (M3 l) fun ps => ps.length < sizeLine ∧ D.nx Δ (mset M3 l (.dkv (dputD ps (.inr s) d)))
theorem ds_putK {k : Nat} (hr : Room k X.A) (ho : DE X o td) (hi : DE X i ti) (hv : DE X value tv) (hs : swapsWith value (some (.Subscript o i pos')) pos.line X.env = pure false := by rfl) : DS X (.Assign [.Subscript o i pos'] value pos) (dPutK td ti tv) := by
  obtain ⟨t1, p1, q1⟩ := hv
  obtain ⟨t2, p2, q2⟩ := ho
  obtain ⟨t3, p3, q3⟩ := hi
  refine ⟨_, ps_dput (by have := hr.un; omega) p2 p3 p1 hs, fun σ H Δ M D E r e h k => ?_⟩
  refine q1 σ H Δ M _ _ r e h fun v H1 x M1 r1 st1 rv hx => ?_
  refine q2 σ H1 Δ M1 _ _ r1 (e.step st1) hx fun w H2 y M2 r2 st2 rw2 hy => ?_
  refine q3 σ H2 Δ M2 _ _ r2 (e.step (st1.trans st2)) hy fun u H3 z M3 r3 st3 ru hz => ?_
  replace hz := onD_ex hz
  obtain ⟨d, rfl, hz⟩ := hz
  replace hz := onO_ex hz
  obtain ⟨l, rfl, hz⟩ := hz
  replace hz := onS_ex hz
  obtain ⟨s, rfl, hz⟩ := hz
  replace hz := onOK_ex hz
  obtain ⟨ps, hm, hl, hn⟩ := hz
  cases (show w = .ref l from rw2)
  cases ru.str
  obtain ⟨kvs, g1, g2⟩ := r3.dk hm
  have dv : Dt X.K M3 H3 v d := (rv.step (st2.trans st3) : VRel X.K M3 H3 v (.dat d))
  refine ⟨l, _, rfl, DPut.k (k := .inr s) g1 (by rw [g2.length]; exact hl), ?_⟩
  have st4 : Step M3 H3 (mset M3 l (.dkv (dputD ps (.inr s) d))) (upd H3 l (.dK (putK kvs (.inr s) v))) := Step.ownPut hm
  have stA := st1.trans (st2.trans (st3.trans st4))
  exact k.nx _ _ _ _ (r3.ownDk st4 (g2.put _ dv)) stA (e.step stA) hn
theorem op_inK (hu : X.A.units + 1 < cLine) : OpR X (compareOp .In) (fun x y H Q => ∃ a kvs s, x = .str s ∧ y = .ref a ∧ H a = some (.dK kvs) ∧ Q (.bl (valV kvs (.inr s)).isSome) H) := by
  intro pins s σ H x y v u Q I rx ry h
  obtain ⟨a, kvs, z, rfl, rfl, ha, q⟩ := h
  cases (show u = .ref a from ry)
  exact d_in hu I (DGet.k (k := .inr z) ha) rx fun s' I' => ⟨.bl _, H, I', rfl, q⟩
theorem KD.some {K : PySem.W.Frag} {M : Mp} {H : Hp} {kvs : List (Key × V)} {ps : List (Key × PyData)} (h : KD K M H kvs ps) (k : Key) : (valV kvs k).isSome = (dvalD ps k).isSome := by
  rcases h.val k with ⟨a, b⟩ | ⟨v, d, a, b, _⟩
  · rw [a, b]; rfl
  · rw [a, b]; rfl
def δInK (neg : Bool) : D2 := fun x y M Φ => onS x fun s => onO y fun l => onOK (M l) fun ps => Φ (.dat (.bool ((dvalD ps (.inr s)).isSome != neg))) M
theorem od_inK {k : Nat} (hr : Room k X.A) : OpD X (compareOp .In) (δInK false) := by
  refine ⟨_, op_inK (by have := hr.un; omega), fun v u H x y M Φ Q r rv ru h k => ?_⟩
  replace h := onS_ex h
  obtain ⟨s, rfl, h⟩ := h
  replace h := onO_ex h
  obtain ⟨l, rfl, h⟩ := h
  replace h := onOK_ex h
  obtain ⟨ps, hm, q⟩ := h
  cases (show u = .ref l from ru)
  obtain ⟨kvs, g1, g2⟩ := r.dk hm
  refine ⟨l, kvs, s, rv.str, rfl, g1, ?_⟩
  rw [g2.some]
  simp only [Bool.bne_false] at q
  exact k.dat r Step.refl (Dt.bl _) q
def dGetK (td ti : DTE) : DTE := fun Δ M Φ => td Δ M fun x M1 => ti Δ M1 fun y M2 => onO x fun l => onS y fun s => onOK (M2 l) fun ps => ∃ d, dvalD ps (.inr s) = some d ∧ Φ (.dat d) M2
theorem de_getK {k : Nat} (hr : Room k X.A) (ho : DE X o td) (hi : DE X i ti) (hs : NoSl i := by intro _ _; rfl) : DE X (.Subscript o i pos) (dGetK td ti) := by
  obtain ⟨t1, p1, q1⟩ := ho
  obtain ⟨t2, p2, q2⟩ := hi
  refine ⟨_, pe_dget (by have := hr.un; omega) p1 p2 hs, fun σ H Δ M Φ Q r e h k => ?_⟩
  refine q1 σ H Δ M _ _ r e h fun v H1 x M1 r1 st1 rv hx => ?_
  refine q2 σ H1 Δ M1 _ _ r1 (e.step st1) hx fun w H2 y M2 r2 st2 rw2 hy => ?_
  replace hy := onO_ex hy
  obtain ⟨l, rfl, hy⟩ := hy
  replace hy := onS_ex hy
  obtain ⟨s, rfl, hy⟩ := hy
  replace hy := onOK_ex hy
  obtain ⟨ps, hm, d, hd, q⟩ := hy
  cases (show v = .ref l from rv)
  cases rw2.str
  obtain ⟨kvs, g1, g2⟩ := r2.dk hm
  rcases g2.val (.inr s) with ⟨_, b⟩ | ⟨u, d', a, b, du⟩
  · rw [hd] at b
    cases b
  · rw [hd] at b
    cases b
    exact ⟨l, u, rfl, by rw [← a]; exact DGet.k (k := .inr s) g1, k.dat r2 (st1.trans st2) du q⟩
def dGetM (td ti : DTE) : DTE := fun Δ M Φ => td Δ M fun x M1 => onO x fun l => onOK (M1 l) fun _ => ti Δ M1 fun y M2 => onS y fun s => onOK (M2 l) fun ps => Φ (.dat ((dvalD ps (.inr s)).getD .none)) M2
/-! len(d) -/
def δLenK : D1 := fun xs M Φ => on1 xs fun x => onO x fun l => onOK (M l) fun ps => Φ (.dat (.int ps.length)) M
/-! dict(pairs) -/
def pairD (p : Str × PyData) : PyData := .tuple [.str p.1, p.2]
def foldD (l : List (Str × PyData)) : List (Key × PyData) := l.foldl (fun m p => dputD m (.inr p.1) p.2) []
def δDictP : D1 := fun xs M Φ => on1 xs fun x => onK x M fun ds => ∃ l : List (Str × PyData), ds = l.map pairD ∧ ∀ p, M p = none → Φ (.own p) (mset M p (.dkv (foldD l)))
end
/-! rows for the readings -/
theorem dPutK_q (td ti tv : DTE) (D : DEnds) (Δ : DSt) (M : Mp) : dPutK td ti tv D Δ M = (tv Δ M fun x M1 => td Δ M1 fun y M2 => ti Δ M2 fun z M3 => onD x fun d => onO y fun l => onS z fun s => onOK (M3 l) fun ps => ps.length < sizeLine ∧ D.nx Δ (mset M3 l (.dkv (dputD ps (.inr s) d)))) := propext Iff.rfl
theorem δInK_q (neg : Bool) (x y : DV) (M : Mp) (Φ : DK) : δInK neg x y M Φ = (onS x fun s => onO y fun l => onOK (M l) fun ps => Φ (.dat (.bool ((dvalD ps (.inr s)).isSome != neg))) M) := propext Iff.rfl
theorem dGetK_q (td ti : DTE) (Δ : DSt) (M : Mp) (Φ : DK) : dGetK td ti Δ M Φ = (td Δ M fun x M1 => ti Δ M1 fun y M2 => onO x fun l => onS y fun s => onOK (M2 l) fun ps => ∃ d, dvalD ps (.inr s) = some d ∧ Φ (.dat d) M2) := propext Iff.rfl
/-! ### a comprehension within a comprehension -/
end DL

namespace DL
open PySem PySem.Spec PyProof.Rows L2 PySem.W
/-! ### l[::-1] of a list -/
section
variable {X : Cx}
def dRevL (te ts : DTE) : DTE := fun Δ M Φ => te Δ M fun x M1 => ts Δ M1 fun y M2 => onK x M2 fun ds => onI y fun i => i = -1 ∧ Φ (.dat (.list ds.reverse)) M2
end
end DL

namespace DL
open PySem PySem.Spec PyProof.Rows L2 PySem.W
/-! ### enumerate of a tuple -/
section
variable {prog : Program} {w : World} {A : Around} {E : Value → Shared → Prop} {s : Shared}
end
section
variable {prog : Program} {w : World} {A : Around} {E : Value → Shared → Prop} {s : Shared}
end
section
variable {X : Cx} {pins : List (Addr × Obj)} {σ : L2.St} {H : Hp} {s : Shared} {h' : Heap}
/-- untracked records of ours have turned -/
theorem turned_n {t' : Nat} {ch : List Addr} (I : L2.Inv X pins σ H s) (k : ∀ b o, b ∉ ch → s.heap.get? b = some o → h'.get? b = some o) (f : ∀ b ∈ ch, FpOk X pins H b) : L2.Inv X pins σ H { s with heap := h', toks := t' } := by
  have nit : ∀ b u, H b = some u → b ∉ ch := fun b u e z => by rw [(f b z).1] at e; cases e
  refine I.step (g' := s.gens) (d' := s.drawn) (ch := ch) (fun b hb => ?_) (fun b o _ _ hc e _ => k b o hc e) (fun b o _ _ hc e _ => ⟨o.slots, k b o hc e⟩) (fun _ _ _ _ n => n)
    (fun b o hc e => ⟨o, k b o hc e⟩) (fun _ _ e => e) (fun _ _ _ e => e) (fun b ps e => ⟨#[], by rw [e]; simp⟩) (fun m hm => ?_) (fun b u e => ?_) I.bare
  · obtain ⟨_, f1, _, f3, f4, f5⟩ := f b hb
    exact ⟨f3, f1, f4, f5⟩
  · obtain ⟨o, es, ep, ho, r⟩ := hm
    exact ⟨o, es, ep, k _ o (fun z => (f _ z).2.1 rfl) ho, r⟩
  · refine (I.hok b u e).stay (fun c v hc q => k c v ?_ q) (fun _ q => q) fun _ _ q => q
    rcases hc with z | z
    · rw [z]; exact nit b u e
    · exact nit c _ z
end
/-- number and item, as a new tuple each -/
def Ite (K : PySem.W.Frag) (a : Addr) : It :=
  ⟨fun i H => ∃ xs x, SqT K H a xs ∧ xs[i]? = some x, fun i H y H' => ∃ T x, (∀ xs, SqT K H a xs → xs[i]? = some x) ∧ H T = none ∧ y = .ref T ∧ H' = upd H T (.tup [.int i, x]), fun i H => ∃ xs, SqT K H a xs ∧ xs.length ≤ i⟩
section
variable {X : Cx}
def iEnum (K : PySem.W.Frag) (ta : TA) : TI := fun σ H R => ta σ H fun vs H1 => ∃ a, vs = [.ref a] ∧ (∃ xs, SqT K H1 a xs) ∧ R (Ite K a) H1
def enumD (ds : List PyData) : List PyData := ds.mapIdx fun i d => .tuple [.int i, d]
def srcE (ta : DTA) : DSrc := fun Δ M Ψ => ta Δ M fun xs M1 => on1 xs fun x => onT x fun ds => Ψ (enumD ds) M1
end
end DL

namespace DL
open PySem PySem.Spec PyProof.Rows L2 PySem.W
/-! ### a, b = l of a list -/
section
variable {prog : Program} {w : World} {A : Around} {E : Value → Shared → Prop} {s : Shared}
end
section
variable {X : Cx} {pos : Pos}
def dgLst (n : Nat) (t : DTGs) : DTG := fun x Δ M Φ => onL x fun ds => onNs n ds fun xs => t xs Δ M Φ
end
end DL

namespace DL
open PySem PySem.Spec PyProof.Rows L2 PySem.W
/-! ### a list beside the empty one; lists put together, owned; bool of a number -/
section
variable {X : Cx}
def δNeNil : D2 := fun x y M Φ => onK x M fun ds => onK y M fun es => es = [] ∧ Φ (.dat (.bool (!ds.isEmpty))) M
def δCatSO : D2 := fun x y M Φ => onK x M fun ds => onK y M fun es => ds.length + es.length ≤ sizeLine ∧ ∀ p, M p = none → Φ (.own p) (mset M p (.lst (ds ++ es)))
def δBoolI : D1 := fun xs M Φ => on1 xs fun x => onI x fun i => Φ (.dat (.bool (i != 0))) M
end
/-! ### == of any data and a text -/
def isS (h : PyData) (s : Str) : Bool := match h with | .str t => decide (t = s) | _ => false
end DL

namespace DL
open PySem PySem.Spec PyProof.Rows L2 PySem.W PySem.SeqAt PySem.MeetsSeq
/-! ### any data beside a text -/
theorem dict_eq_declines_str (l : Addr) (es : Array DictEntry) (n : Nat) (dd : Option Addr) (sl : Array (Option Value)) (b : Str) (u : Tok) :
    Meets (Builtin.«dict.__eq__» ⟨[.ref l, .str b u], []⟩) (fun _ R s => s.heap.get? l = some { cls := .type "dict", dict := dd, data := .dict es n, slots := sl } ∧ R (.ok (.ret .notImplemented)) s) :=
  .of_wp fun prog w A R s h => by
    obtain ⟨hp, g, d, tk, os⟩ := s; obtain ⟨hl, h⟩ := h
    have f1 := F.sub_str_dict
    wp_walk using wpAny_loadPart' hl
    exact ⟨_, rfl, h⟩
theorem str_eq_declines_dict (b : Str) (u : Tok) (l : Addr) (c : Value) (es : Array DictEntry) (n : Nat) (dd : Option Addr) (sl : Array (Option Value)) :
    Meets (Builtin.«str.__eq__» ⟨[.str b u, .ref l], []⟩) (fun _ R s => s.heap.get? l = some { cls := c, dict := dd, data := .dict es n, slots := sl } ∧ R (.ok (.ret .notImplemented)) s) :=
  .of_wp fun prog w A R s h => by obtain ⟨hp, g, d, tk, os⟩ := s; obtain ⟨hl, h⟩ := h; wp_walk using wpAny_loadPart' hl, wpAny_load hl; exact ⟨_, rfl, h⟩
section
variable {A : Around} {s : Shared}
def IsDc (h : Heap) (l : Addr) : Prop := ∃ (o : Obj) (es : Array DictEntry) (n : Nat), h.get? l = some o ∧ o.cls = .type "dict" ∧ o.data = .dict es n
theorem rc_dict_str {l : Addr} (b : Str) (u : Tok) (hl : IsDc s.heap l) (hu : A.units < cLine) : RcAt A s (.ref l) (.str b u) false := fun prog w E Q h => by
  obtain ⟨⟨cls, dd, data, sl⟩, es, n, ho, hc, hd⟩ := hl
  simp only at hc hd
  subst hc hd
  exact rc_eq_decline_or (k := false) ⟨_, ho, rfl⟩ (typeIs_str s b u) (by decide) F.sub_str_dict F.slot_dict_eq F.slot_str_eq_refl
    (fun _ hq => call_meets F.slot_dict_eq ⟨_, ho, rfl⟩ F.entry_dict_eq (F.args_dict_eq_2 _ _) (dict_eq_declines_str l es n dd sl b u) ⟨ho, hq⟩)
    (fun _ hq => call_meets F.slot_str_eq_refl (typeIs_str s b u) F.entry_str_eq (F.args_str_eq_2 _ _) (str_eq_declines_dict b u l (.type "dict") es n dd sl) ⟨ho, hq⟩)
    (fun _ hq => wpAny_of_eq (rfl : isSame (.ref l) (.str b u) = pure false) hq) (.inr hu) h
theorem rc_str_dict {l : Addr} (b : Str) (u : Tok) (hl : IsDc s.heap l) (hu : A.units < cLine) : RcAt A s (.str b u) (.ref l) false := fun prog w E Q h => by
  obtain ⟨⟨cls, dd, data, sl⟩, es, n, ho, hc, hd⟩ := hl
  simp only at hc hd
  subst hc hd
  exact rc_eq_decline_or (k := false) (typeIs_str s b u) ⟨_, ho, rfl⟩ (by decide) F.sub_dict_str F.slot_str_eq F.slot_dict_eq_refl
    (fun _ hq => call_meets F.slot_str_eq (typeIs_str s b u) F.entry_str_eq (F.args_str_eq_2 _ _) (str_eq_declines_dict b u l (.type "dict") es n dd sl) ⟨ho, hq⟩)
    (fun _ hq => call_meets F.slot_dict_eq_refl ⟨_, ho, rfl⟩ F.entry_dict_eq (F.args_dict_eq_2 _ _) (dict_eq_declines_str l es n dd sl b u) ⟨ho, hq⟩)
    (fun _ hq => wpAny_of_eq (rfl : isSame (.str b u) (.ref l) = pure false) hq) (.inr hu) h
theorem eq_str_dict {l : Addr} (b : Str) (u : Tok) (hl : IsDc s.heap l) (hu : A.units < cLine) : EqAt A s (.str b u) (.ref l) false := fun prog w E Q h => by
  unfold eqBool
  refine wpAny_holding ?_
  refine wpAny_ite_split (fun hab => absurd (eq_of_beq hab) nofun) (fun _ => ?_)
  exact wpAny_bind (rc_str_dict b u hl hu prog w E _ (wpAny_truthy_bool h))
end
section
variable {X : Cx}
/-- a value's data beside a text: what is known of it on the heap -/
inductive Bs (h : Heap) (b : Bool) (t : Str) : Value → Prop
  | non : b = false → Bs h b t .none
  | bl (k : Bool) : b = false → Bs h b t (.bool k)
  | int (i : Int) (u : Tok) : b = false → Bs h b t (.int i u)
  | str (x : Str) (u : Tok) : b = decide (x = t) → Bs h b t (.str x u)
  | tup {a : Addr} {items : Array Value} : h.IsTuple a items → b = false → Bs h b t (.ref a)
  | lst {a : Addr} {items : Array Value} : h.IsList a items → b = false → Bs h b t (.ref a)
  | dic {a : Addr} : IsDc h a → b = false → Bs h b t (.ref a)
theorem bs_of {pins : List (Addr × Obj)} {σ : L2.St} {H : Hp} {s : Shared} {M : Mp} {x : V} {v : Value} {d : PyData} (t : Str) (I : L2.Inv X pins σ H s) (r : RelV x v) (h : Dt X.K M H x d) : Bs s.heap (isS d t) t v := by
  cases h with
  | non => cases r; exact .non rfl
  | bl b => cases r; exact .bl b rfl
  | int i => obtain ⟨u, rfl⟩ := r; exact .int i u rfl
  | str z => obtain ⟨u, rfl⟩ := r; exact .str z u rfl
  | tup h1 h2 =>
    cases r
    obtain ⟨its, rv, p, _⟩ := I.tuple h1.sq
    exact .tup (show s.heap.IsTuple _ its.toArray from p) rfl
  | lst h1 h2 =>
    cases r
    obtain ⟨its, rv, p, _⟩ := I.list h1.sq
    exact .lst p.isList rfl
  | dK h0 h1 h2 =>
    cases r
    obtain ⟨_, _, _, _, o, es, n, e, c, d, _⟩ := I.hok _ _ h1
    exact .dic ⟨o, es, n, e, c.1, d⟩ rfl
  | dT h0 h1 h2 =>
    cases r
    obtain ⟨_, _, _, _, o, es, n, e, c, d, _⟩ := I.hok _ _ h1
    exact .dic ⟨o, es, n, e, c.1, d⟩ rfl
  | dX h0 h1 h2 h3 h4 h5 =>
    cases r
    obtain ⟨φ, _⟩ := I.hok _ _ h1
    obtain ⟨o, es, n, u, e, c, d, _⟩ := h3 _ φ
    exact .dic ⟨o, es, n, e, c, d⟩ rfl
theorem Bs.rc {A : Around} {s : Shared} {b : Bool} {t : Str} {v : Value} (u : Tok) (h : Bs s.heap b t v) (hu : A.units < cLine) : RcAt A s v (.str t u) b := by
  cases h with
  | non e => rw [e]; exact RcAt.none_str t u
  | bl k e => rw [e]; exact RcAt.bool_str k t u
  | int i w e => rw [e]; exact RcAt.int_str i w t u
  | str x w e => rw [e, ← Bool.beq_eq_decide_eq]; exact RcAt.str_str x w t u
  | tup p e => rw [e]; exact RcAt.tuple_str t u p hu
  | lst p e => rw [e]; exact RcAt.list_str t u p hu
  | dic p e => rw [e]; exact rc_dict_str t u p hu
theorem Bs.eq {A : Around} {s : Shared} {b : Bool} {t : Str} {v : Value} (u : Tok) (h : Bs s.heap b t v) (hu : A.units < cLine) : EqAt A s (.str t u) v b := by
  cases h with
  | non e => rw [e]; exact EqAt.str_none t u
  | bl k e => rw [e]; exact EqAt.str_bool t u k
  | int i w e => rw [e]; exact EqAt.str_int t u i w
  | str x w e =>
    have e2 : b = (t == x) := by rw [e, Bool.beq_eq_decide_eq, decide_eq_decide]; exact eq_comm
    rw [e2]
    exact EqAt.str_str t u x w
  | tup p e => rw [e]; exact EqAt.str_tuple t u p hu
  | lst p e => rw [e]; exact EqAt.str_list t u p hu
  | dic p e => rw [e]; exact eq_str_dict t u p hu
/-- == of any data and a text -/
theorem op_eqX (hu : X.A.units < cLine) : OpR X (compareOp .Eq) (fun x y H Q => ∃ M d t, Dt X.K M H x d ∧ y = .str t ∧ Q (.bl (isS d t)) H) := by
  intro pins s σ H x y v u Q I rx ry h
  obtain ⟨M, d, t, h1, rfl, q⟩ := h
  obtain ⟨w, rfl⟩ := ry
  exact (bs_of t I rx h1).rc w hu _ _ _ _ ⟨.bl _, H, I, rfl, q⟩
def δEqX : D2 := fun x y M Φ => onD x fun d => onS y fun t => Φ (.dat (.bool (isS d t))) M
theorem od_eqX {k : Nat} (hr : Room k X.A) : OpD X (compareOp .Eq) δEqX :=
  ⟨_, op_eqX (by have := hr.un; omega), fun v u H x y M Φ Q r rv ru h k => by
    obtain ⟨d, e1, h⟩ := onD_ex h
    obtain ⟨t, e2, q⟩ := onS_ex h
    subst e1 e2
    exact ⟨M, d, t, rv, ru.str, k.dat r Step.refl (Dt.bl _) q⟩⟩
/-- x in (text, text, ..) of any data x -/
theorem op_inX (hu : X.A.in1.units < cLine) : OpR X (compareOp .In) (fun x y H Q => ∃ (M : Mp) (d : PyData) (b : Addr) (ts : List Str), Dt X.K M H x d ∧ y = .ref b ∧ SqT X.K H b (ts.map V.str) ∧ Q (.bl (ts.any (isS d))) H) := by
  intro pins s σ H x y v u Q I rx ry h
  obtain ⟨M, d, b, ts, h1, rfl, h2, q⟩ := h
  cases ry
  obtain ⟨its, r, p, _⟩ := I.tuple h2
  have key : ∀ (ts : List Str) (its : List Value), Vals (ts.map V.str) its → (∀ y ∈ its, EqAt X.A.in1 s y v (match y with | .str t _ => isS d t | _ => false)) ∧ (its.any fun y => match y with | .str t _ => isS d t | _ => false) = ts.any (isS d) := by
    intro ts
    induction ts with
    | nil => intro its r; cases r; exact ⟨fun y hy => (nomatch hy), rfl⟩
    | cons t ts ih =>
      intro its r
      rw [List.map_cons] at r
      cases r with
      | cons r1 r2 =>
        obtain ⟨w, rfl⟩ := r1
        obtain ⟨i1, i2⟩ := ih _ r2
        refine ⟨fun y hy => ?_, by rw [List.any_cons, List.any_cons, i2]⟩
        rcases List.mem_cons.mp hy with rfl | hy
        · exact (bs_of t I rx h1).eq w hu
        · exact i1 y hy
  obtain ⟨k1, k2⟩ := key ts its r
  refine in_tupleAt (fun y => match y with | .str t _ => isS d t | _ => false) (show s.heap.IsTuple b its.toArray from p) (fun y hy => k1 y (by simpa using hy)) ⟨.bl _, H, I, ?_, q⟩
  rw [← k2]
  simp only [List.any_toArray]
  rfl
def δInX : D2 := fun x y M Φ => onD x fun d => onT y fun ds => ∃ ts : List Str, ds = ts.map PyData.str ∧ Φ (.dat (.bool (ts.any (isS d)))) M
theorem od_inX {k : Nat} (hr : Room k X.A) : OpD X (compareOp .In) δInX :=
  ⟨_, op_inX (by have := hr.un; show X.A.units + 1 < _; omega), fun v u H x y M Φ Q r rv ru h k => by
    obtain ⟨d, e1, h⟩ := onD_ex h
    obtain ⟨ds, e2, ts, rfl, q⟩ := onT_ex h
    subst e1 e2
    obtain ⟨b, xs, rfl, g1, g2⟩ := ru.tup
    rw [ofDts_strs g2] at g1
    exact ⟨M, d, b, ts, rv, rfl, g1.sq, k.dat r Step.refl (Dt.bl _) q⟩⟩
theorem δEqX_q (x y : DV) (M : Mp) (Φ : DK) : δEqX x y M Φ = (onD x fun d => onS y fun t => Φ (.dat (.bool (isS d t))) M) := propext Iff.rfl
theorem δInX_q (x y : DV) (M : Mp) (Φ : DK) : δInX x y M Φ = (onD x fun d => onT y fun ds => ∃ ts : List Str, ds = ts.map PyData.str ∧ Φ (.dat (.bool (ts.any (isS d)))) M) := propext Iff.rfl
end
end DL

namespace DL
open PySem PySem.Spec PyProof.Rows L2 PySem.W
/-! ### {text: data, ..} of six, owned; [..] * n -/
theorem mergeK_go : ∀ (l acc : List (Key × V)), (l.map (·.1)).Nodup → (∀ p ∈ l, ∀ q ∈ acc, q.1 ≠ p.1) → l.foldl (fun acc kv => putK acc kv.1 kv.2) acc = acc ++ l
  | [], acc, _, _ => by simp
  | p :: l, acc, hn, hd => by
    rw [List.map_cons, List.nodup_cons] at hn
    have e : putK acc p.1 p.2 = acc ++ [p] := by
      unfold putK
      rw [if_neg]
      intro z
      obtain ⟨q, hq, e⟩ := List.any_eq_true.mp z
      exact hd p List.mem_cons_self q hq (of_decide_eq_true e)
    rw [List.foldl_cons, e, mergeK_go l _ hn.2 fun p' hp' q hq => ?_]
    · simp
    · rcases List.mem_append.mp hq with hq | hq
      · exact hd p' (List.mem_cons_of_mem _ hp') q hq
      · rw [List.mem_singleton.mp hq]
        intro z
        exact hn.1 (List.mem_map.mpr ⟨p', hp', z.symm⟩)
theorem mergeK_new (l : List (Key × V)) (h : (l.map (·.1)).Nodup) : mergeK [] l = l := by
  unfold mergeK
  rw [mergeK_go l [] h fun p _ q hq => (nomatch hq)]
  rfl
section
variable {X : Cx} {pos : Pos}
def dDict6 (tk0 tk1 tk2 tk3 tk4 tk5 tv0 tv1 tv2 tv3 tv4 tv5 : DTE) : DTE := fun Δ M Φ => tk0 Δ M fun x0 M1 => tv0 Δ M1 fun y0 M2 => tk1 Δ M2 fun x1 M3 => tv1 Δ M3 fun y1 M4 => tk2 Δ M4 fun x2 M5 => tv2 Δ M5 fun y2 M6 => tk3 Δ M6 fun x3 M7 => tv3 Δ M7 fun y3 M8 => tk4 Δ M8 fun x4 M9 => tv4 Δ M9 fun y4 M10 => tk5 Δ M10 fun x5 M11 => tv5 Δ M11 fun y5 M12 => onS x0 fun s0 => onD y0 fun d0 => onS x1 fun s1 => onD y1 fun d1 => onS x2 fun s2 => onD y2 fun d2 => onS x3 fun s3 => onD y3 fun d3 => onS x4 fun s4 => onD y4 fun d4 => onS x5 fun s5 => onD y5 fun d5 => ([s0, s1, s2, s3, s4, s5] : List Str).Nodup ∧ ∀ p, M12 p = none → Φ (.own p) (mset M12 p (.dkv [(Sum.inr s0, d0), (Sum.inr s1, d1), (Sum.inr s2, d2), (Sum.inr s3, d3), (Sum.inr s4, d4), (Sum.inr s5, d5)]))
theorem de_dict6 {k0 k1 k2 k3 k4 k5 v0 v1 v2 v3 v4 v5 : Expr} {tk0 tk1 tk2 tk3 tk4 tk5 tv0 tv1 tv2 tv3 tv4 tv5 : DTE} (hk0 : At X k0 tk0) (hv0 : At X v0 tv0) (hk1 : At X k1 tk1) (hv1 : At X v1 tv1) (hk2 : At X k2 tk2) (hv2 : At X v2 tv2) (hk3 : At X k3 tk3) (hv3 : At X v3 tv3) (hk4 : At X k4 tk4) (hv4 : At X v4 tv4) (hk5 : At X k5 tk5) (hv5 : At X v5 tv5) : DE X (.Dict [some k0, some k1, some k2, some k3, some k4, some k5] [v0, v1, v2, v3, v4, v5] pos) (dDict6 tk0 tk1 tk2 tk3 tk4 tk5 tv0 tv1 tv2 tv3 tv4 tv5) := by
  obtain ⟨a0, pk0, qk0⟩ := hk0
  obtain ⟨b0, pv0, qv0⟩ := hv0
  obtain ⟨a1, pk1, qk1⟩ := hk1
  obtain ⟨b1, pv1, qv1⟩ := hv1
  obtain ⟨a2, pk2, qk2⟩ := hk2
  obtain ⟨b2, pv2, qv2⟩ := hv2
  obtain ⟨a3, pk3, qk3⟩ := hk3
  obtain ⟨b3, pv3, qv3⟩ := hv3
  obtain ⟨a4, pk4, qk4⟩ := hk4
  obtain ⟨b4, pv4, qv4⟩ := hv4
  obtain ⟨a5, pk5, qk5⟩ := hk5
  obtain ⟨b5, pv5, qv5⟩ := hv5
  refine ⟨_, pe_disp (pps_cons pk0 pv0 (pps_cons pk1 pv1 (pps_cons pk2 pv2 (pps_cons pk3 pv3 (pps_cons pk4 pv4 (pps_cons pk5 pv5 pps_nil)))))) rfl rfl (by simp) (by simp), fun σ H Δ M Φ Q r e h kk p hp => ?_⟩
  obtain ⟨u0, x0, ru0, i0, f0⟩ := qk0 σ H Δ M _ e h
  clear h
  obtain ⟨w0, y0, rw0, j0, g0⟩ := qv0 σ H Δ M _ e i0
  clear i0
  obtain ⟨u1, x1, ru1, i1, f1⟩ := qk1 σ H Δ M _ e j0
  clear j0
  obtain ⟨w1, y1, rw1, j1, g1⟩ := qv1 σ H Δ M _ e i1
  clear i1
  obtain ⟨u2, x2, ru2, i2, f2⟩ := qk2 σ H Δ M _ e j1
  clear j1
  obtain ⟨w2, y2, rw2, j2, g2⟩ := qv2 σ H Δ M _ e i2
  clear i2
  obtain ⟨u3, x3, ru3, i3, f3⟩ := qk3 σ H Δ M _ e j2
  clear j2
  obtain ⟨w3, y3, rw3, j3, g3⟩ := qv3 σ H Δ M _ e i3
  clear i3
  obtain ⟨u4, x4, ru4, i4, f4⟩ := qk4 σ H Δ M _ e j3
  clear j3
  obtain ⟨w4, y4, rw4, j4, g4⟩ := qv4 σ H Δ M _ e i4
  clear i4
  obtain ⟨u5, x5, ru5, i5, f5⟩ := qk5 σ H Δ M _ e j4
  clear j4
  obtain ⟨w5, y5, rw5, j5, g5⟩ := qv5 σ H Δ M _ e i5
  clear i5
  replace j5 := onS_ex j5
  obtain ⟨s0, rfl, z0⟩ := j5
  replace z0 := onD_ex z0
  obtain ⟨d0, rfl, y0⟩ := z0
  replace y0 := onS_ex y0
  obtain ⟨s1, rfl, z1⟩ := y0
  replace z1 := onD_ex z1
  obtain ⟨d1, rfl, y1⟩ := z1
  replace y1 := onS_ex y1
  obtain ⟨s2, rfl, z2⟩ := y1
  replace z2 := onD_ex z2
  obtain ⟨d2, rfl, y2⟩ := z2
  replace y2 := onS_ex y2
  obtain ⟨s3, rfl, z3⟩ := y2
  replace z3 := onD_ex z3
  obtain ⟨d3, rfl, y3⟩ := z3
  replace y3 := onS_ex y3
  obtain ⟨s4, rfl, z4⟩ := y3
  replace z4 := onD_ex z4
  obtain ⟨d4, rfl, y4⟩ := z4
  replace y4 := onS_ex y4
  obtain ⟨s5, rfl, z5⟩ := y4
  replace z5 := onD_ex z5
  obtain ⟨d5, rfl, y5⟩ := z5
  have h := y5
  refine f0 _ _ (g0 _ _ (f1 _ _ (g1 _ _ (f2 _ _ (g2 _ _ (f3 _ _ (g3 _ _ (f4 _ _ (g4 _ _ (f5 _ _ (g5 _ _ ⟨upd_same, [((Sum.inr s0 : Key), w0), ((Sum.inr s1 : Key), w1), ((Sum.inr s2 : Key), w2), ((Sum.inr s3 : Key), w3), ((Sum.inr s4 : Key), w4), ((Sum.inr s5 : Key), w5)], ?_, by simp, ?_⟩)))))))))))
  · rw [ru0.str, ru1.str, ru2.str, ru3.str, ru4.str, ru5.str]; rfl
  · have e1 : mergeK [] [((Sum.inr s0 : Key), w0), ((Sum.inr s1 : Key), w1), ((Sum.inr s2 : Key), w2), ((Sum.inr s3 : Key), w3), ((Sum.inr s4 : Key), w4), ((Sum.inr s5 : Key), w5)] = [((Sum.inr s0 : Key), w0), ((Sum.inr s1 : Key), w1), ((Sum.inr s2 : Key), w2), ((Sum.inr s3 : Key), w3), ((Sum.inr s4 : Key), w4), ((Sum.inr s5 : Key), w5)] := mergeK_new _ (by simpa using h.1)
    rw [e1, upd_upd]
    exact kk _ _ (.own p) _ (r.ownDk (ps := [(Sum.inr s0, d0), (Sum.inr s1, d1), (Sum.inr s2, d2), (Sum.inr s3, d3), (Sum.inr s4, d4), (Sum.inr s5, d5)]) (Step.ownNew hp) (.cons rw0 (.cons rw1 (.cons rw2 (.cons rw3 (.cons rw4 (.cons rw5 .nil))))))) (Step.ownNew hp) rfl (h.2 p (r.tracked hp))
theorem dDict6_q (tk0 tk1 tk2 tk3 tk4 tk5 tv0 tv1 tv2 tv3 tv4 tv5 : DTE) (Δ : DSt) (M : Mp) (Φ : DK) : dDict6 tk0 tk1 tk2 tk3 tk4 tk5 tv0 tv1 tv2 tv3 tv4 tv5 Δ M Φ = (tk0 Δ M fun x0 M1 => tv0 Δ M1 fun y0 M2 => tk1 Δ M2 fun x1 M3 => tv1 Δ M3 fun y1 M4 => tk2 Δ M4 fun x2 M5 => tv2 Δ M5 fun y2 M6 => tk3 Δ M6 fun x3 M7 => tv3 Δ M7 fun y3 M8 => tk4 Δ M8 fun x4 M9 => tv4 Δ M9 fun y4 M10 => tk5 Δ M10 fun x5 M11 => tv5 Δ M11 fun y5 M12 => onS x0 fun s0 => onD y0 fun d0 => onS x1 fun s1 => onD y1 fun d1 => onS x2 fun s2 => onD y2 fun d2 => onS x3 fun s3 => onD y3 fun d3 => onS x4 fun s4 => onD y4 fun d4 => onS x5 fun s5 => onD y5 fun d5 => ([s0, s1, s2, s3, s4, s5] : List Str).Nodup ∧ ∀ p, M12 p = none → Φ (.own p) (mset M12 p (.dkv [(Sum.inr s0, d0), (Sum.inr s1, d1), (Sum.inr s2, d2), (Sum.inr s3, d3), (Sum.inr s4, d4), (Sum.inr s5, d5)]))) := propext Iff.rfl
theorem Dts.rep {K : PySem.W.Frag} {M : Mp} {H : Hp} {vs : List V} {ds : List PyData} (h : Dts K M H vs ds) : ∀ n : Nat, Dts K M H (List.replicate n vs).flatten (List.replicate n ds).flatten
  | 0 => .nil
  | n + 1 => by rw [List.replicate_succ, List.replicate_succ, List.flatten_cons, List.flatten_cons]; exact h.append (h.rep n)
def δRep : D2 := fun x y M Φ => onO x fun l => onI y fun i => onOL (M l) fun ds => (0 ≤ i ∧ i < 2 ^ 63 ∧ ds.length * i.toNat ≤ sizeLine) ∧ Φ (.dat (.list (List.replicate i.toNat ds).flatten)) M
theorem od_rep : OpD X (binaryOp .Mult) δRep := by
  refine ⟨_, op_rep, fun v u H x y M Φ Q r rv ru h k => ?_⟩
  replace h := onO_ex h
  obtain ⟨l, rfl, h⟩ := h
  replace h := onI_ex h
  obtain ⟨i, rfl, h⟩ := h
  replace h := onOL_ex h
  obtain ⟨ds, hl, ⟨h1, h2, h3⟩, q⟩ := h
  cases (show v = .ref l from rv)
  obtain ⟨ws, g1, g2⟩ := r.ls l _ hl
  exact ⟨l, i, ws, rfl, ru.int, g1, by omega, h2, by rw [g2.length]; exact h3, fun p hp => k.dat (r.new hp) (Step.new hp) (Dt.newLst r hp (g2.rep _)) q⟩
theorem δRep_q (x y : DV) (M : Mp) (Φ : DK) : δRep x y M Φ = (onO x fun l => onI y fun i => onOL (M l) fun ds => (0 ≤ i ∧ i < 2 ^ 63 ∧ ds.length * i.toNat ≤ sizeLine) ∧ Φ (.dat (.list (List.replicate i.toNat ds).flatten)) M) := propext Iff.rfl
end
end DL

namespace DL
open PySem PySem.Spec PyProof.Rows L2 PySem.W PySem.SeqAt PySem.MeetsSeq
/-! ### t + u of any two tuples; t * n; fourteen items -/
theorem int_rmul_tuple (a : Int) (t : Tok) (l : Addr) (items : Array Value) (n : Nat) (dd : Option Addr) (sl : Array (Option Value)) :
    Meets (Builtin.«int.__rmul__» ⟨[.int a t, .ref l], []⟩) (fun _ R s => s.heap.get? l = some { cls := .type "tuple", dict := dd, data := .seq items n, slots := sl } ∧ R (.ok (.ret .notImplemented)) s) :=
  .of_wp fun prog w A R s h => by
    obtain ⟨hp, g, d, tk, os⟩ := s; obtain ⟨hl, h⟩ := h
    wp_walk using wpAny_loadPart' hl, wpAny_load hl
    exact ⟨_, rfl, h⟩
theorem rep_arr (its : List Value) (k : Nat) : List.foldl (fun x1 x2 => x1 ++ x2) #[] (List.replicate k its.toArray) = (List.replicate k its).flatten.toArray := by
  have := foldl_rep its k []
  rw [List.nil_append] at this
  exact this
theorem tuple_mulW (l : Addr) (its : List Value) (n : Nat) (x : Int) (u : Tok) (dd : Option Addr) (sl : Array (Option Value)) (h2 : 2 ≤ x) (h3 : x ≤ 1000) (he : 1 ≤ its.length) (hz : its.length ≤ 1000) :
    Meets (Builtin.«tuple.__mul__» ⟨[.ref l, .int x u], []⟩) (fun _ R s => s.heap.get? l = some { cls := .type "tuple", dict := dd, data := .seq its.toArray n, slots := sl } ∧
      R (.ok (.ret (.ref s.heap.objs.size))) { s with heap := s.heap.push { cls := .type "tuple", data := .seq (List.replicate x.toNat its).flatten.toArray } }) :=
  .of_wp fun prog w A R s h => by
    obtain ⟨hp, g, d, tk, os⟩ := s; obtain ⟨hl, h⟩ := h
    have he' : its.toArray.isEmpty = false := by
      cases its with
      | nil => exact absurd he (by simp)
      | cons _ _ => rfl
    have hs : its.toArray.size = its.length := List.size_toArray
    have e1 : (decide (x < -2 ^ 63) || decide (x ≥ 2 ^ 63)) = false := by simp; omega
    have e2 : (its.toArray.isEmpty || x == 1) = false := by rw [he']; simp; omega
    have e3 : (decide (x ≤ 0) || its.toArray.isEmpty) = false := by rw [he']; simp; omega
    have hzx : (its.toArray.size : Int) * x ≤ 1000 * 1000 := Int.mul_le_mul (by omega) h3 (by omega) (by decide)
    have e4 : ¬ (its.toArray.size : Int) * x > (2 ^ 63 - 1) / 8 := by omega
    have e5 : ¬ Builtin.Tuple.tupleTooMany ((its.toArray.size : Int) * x) = true := by
      unfold Builtin.Tuple.tupleTooMany
      simp
      simp at hzx
      have := sizeLine_eq
      omega
    have e6 : ¬ (List.foldl (fun x1 x2 => x1 ++ x2) #[] (List.replicate x.toNat its.toArray)).size > sizeLine := by
      rw [rep_arr, List.size_toArray, len_rep, sizeLine_eq]
      have : x.toNat * its.length ≤ 1000 * 1000 := Nat.mul_le_mul (by omega) hz
      omega
    wp_walk using wpAny_loadPart' hl, wpAny_load hl
    rw [if_neg (by rw [e1]; decide)]
    wp_walk using wpAny_loadPart' hl, wpAny_load hl
    rw [if_neg (by rw [e2]; decide)]
    wp_walk using wpAny_loadPart' hl, wpAny_load hl
    rw [if_neg (by rw [e3]; decide)]
    wp_walk using wpAny_loadPart' hl, wpAny_load hl
    rw [if_neg e4]
    wp_walk using wpAny_loadPart' hl, wpAny_load hl
    rw [if_neg e5]
    wp_walk using wpAny_loadPart' hl, wpAny_load hl
    rw [rep_arr]
    exact ⟨_, rfl, h⟩
section
variable {X : Cx}
theorem op_repT : OpR X (binaryOp .Mult) (fun x y H Q => ∃ a xs k, x = .ref a ∧ y = .int k ∧ SqT X.K H a xs ∧ (2 ≤ k ∧ k ≤ 1000 ∧ 1 ≤ xs.length ∧ xs.length ≤ 1000) ∧ ∀ p, H p = none → Q (.ref p) (upd H p (.tup (List.replicate k.toNat xs).flatten))) := by
  intro pins s σ H x y v u Q I rx ry h
  obtain ⟨a, xs, k, rfl, rfl, ha, ⟨h1, h2, h3, h4⟩, q⟩ := h
  cases rx
  obtain ⟨t, rfl⟩ := ry
  obtain ⟨its, r1, p1, _⟩ := I.tuple ha
  obtain ⟨⟨cls, dd, data, sl⟩, ho, hc, n, hd⟩ := id p1
  simp only at hc hd
  subst hc hd
  have hl := r1.length
  refine wpAny_binaryOp_repeat_ref (T := "tuple") (U := "int") (by decide) ⟨_, ho, rfl⟩ (fun s' => typeIs_int s' k t) rfl F.fills_int_mul F.slot_int_rmul rfl F.slot_int_index.lookup
    (call_meets F.slot_int_rmul (typeIs_int s k t) F.entry_int_rmul (F.args_int_rmul_2 _ _) (int_rmul_tuple k t a its.toArray n dd sl)
      ⟨ho, rfl, ⟨_, ho, rfl⟩, call_meets F.slot_tuple_mul ⟨_, ho, rfl⟩ F.entry_tuple_mul (F.args_tuple_mul_2 _ _) (tuple_mulW a its n k t dd sl h1 h2 (by omega) (by omega)) ⟨ho, ?_⟩⟩)
  refine ⟨.ref s.heap.objs.size, _, I.laid (t' := s.toks) (o := .tup (List.replicate k.toNat xs).flatten) (fun b ob q => Heap.get?_push_of_some _ q) (Nat.le_refl _) ?_, rfl, q _ (I.hok.fresh (Nat.le_refl _))⟩
  refine ⟨?_, _, r1.rep k.toNat, IsTup.new _ _⟩
  rw [len_rep, sizeLine_eq]
  have : k.toNat * xs.length ≤ 1000 * 1000 := Nat.mul_le_mul (by omega) h4
  omega
def δRepT : D2 := fun x y M Φ => onT x fun ds => onI y fun k => (2 ≤ k ∧ k ≤ 1000 ∧ 1 ≤ ds.length ∧ ds.length ≤ 1000) ∧ Φ (.dat (.tuple (List.replicate k.toNat ds).flatten)) M
theorem od_repT : OpD X (binaryOp .Mult) δRepT := by
  refine ⟨_, op_repT, fun v u H x y M Φ Q r rv ru h k => ?_⟩
  replace h := onT_ex h
  obtain ⟨ds, rfl, h⟩ := h
  replace h := onI_ex h
  obtain ⟨i, rfl, ⟨h1, h2, h3, h4⟩, q⟩ := h
  obtain ⟨a, xs, rfl, g1, g2⟩ := rv.tup
  exact ⟨a, xs, i, rfl, ru.int, g1.sq, ⟨h1, h2, by rw [g2.length]; exact h3, by rw [g2.length]; exact h4⟩, fun p hp => k.dat (r.new hp) (Step.new hp) (Dt.newTup r hp (g2.rep _)) q⟩
theorem δRepT_q (x y : DV) (M : Mp) (Φ : DK) : δRepT x y M Φ = (onT x fun ds => onI y fun k => (2 ≤ k ∧ k ≤ 1000 ∧ 1 ≤ ds.length ∧ ds.length ≤ 1000) ∧ Φ (.dat (.tuple (List.replicate k.toNat ds).flatten)) M) := propext Iff.rfl
theorem op_catT0 : OpR X (binaryOp .Add) (fun x y H Q => ∃ a b xs ys, x = .ref a ∧ y = .ref b ∧ SqT X.K H a xs ∧ SqT X.K H b ys ∧ xs.length + ys.length ≤ sizeLine ∧
    (xs = [] → Q (.ref b) H) ∧ (xs ≠ [] → ys = [] → Q (.ref a) H) ∧ (xs ≠ [] → ys ≠ [] → ∀ p, H p = none → Q (.ref p) (upd H p (.tup (xs ++ ys))))) := by
  intro pins s σ H x y v u Q I rx ry h
  obtain ⟨a, b, xs, ys, rfl, rfl, ha, hb, hz, q0, q1, q2⟩ := h
  by_cases hx : xs = []
  · cases rx
    cases ry
    obtain ⟨its, r1, p1, _⟩ := I.tuple ha
    obtain ⟨its2, r2, p2, _⟩ := I.tuple hb
    obtain ⟨⟨cls, dd, data, sl⟩, ho, hc, n, hd⟩ := id p1
    obtain ⟨⟨cls2, dd2, data2, sl2⟩, ho2, hc2, n2, hd2⟩ := id p2
    simp only at hc hd hc2 hd2
    subst hc hd hc2 hd2
    have he : its = [] := r1.nil_iff.mpr hx
    exact concat_meets ⟨_, ho, rfl⟩ ⟨_, ho2, rfl⟩ noFill_tuple_add seq_tuple_add PySem.F.slot_tuple_add PySem.F.entry_tuple_add (PySem.F.args_tuple_add_2 _ _)
      (tuple_addW0 a b its.toArray its2.toArray n n2 dd dd2 sl sl2 (by rw [he]; rfl)) ⟨ho, ho2, ⟨.ref b, H, I, rfl, q0 hx⟩⟩
  · exact op_catT pins s σ H _ _ v u Q I rx ry ⟨a, b, xs, ys, rfl, rfl, ha, hb, hx, hz, q1 hx, q2 hx⟩
def δCatT0 : D2 := fun x y M Φ => onT x fun ds => onT y fun es => ds.length + es.length ≤ sizeLine ∧ Φ (.dat (.tuple (ds ++ es))) M
theorem od_catT0 : OpD X (binaryOp .Add) δCatT0 := by
  refine ⟨_, op_catT0, fun v u H x y M Φ Q r rv ru h k => ?_⟩
  replace h := onT_ex h
  obtain ⟨ds, rfl, h⟩ := h
  replace h := onT_ex h
  obtain ⟨es, rfl, hz, q⟩ := h
  obtain ⟨a, xs, rfl, h1, h2⟩ := id rv.tup
  obtain ⟨b, ys, rfl, h3, h4⟩ := id ru.tup
  refine ⟨a, b, xs, ys, rfl, rfl, h1.sq, h3.sq, by rw [h2.length, h4.length]; exact hz, fun e => ?_, fun e e2 => ?_, fun e e2 p hp => ?_⟩
  · subst e
    cases h2
    exact k _ _ _ _ r Step.refl ru q
  · subst e2
    cases h4
    rw [List.append_nil] at q
    exact k _ _ _ _ r Step.refl rv q
  · exact k.dat (r.new hp) (Step.new hp) (Dt.newTup r hp (h2.append h4)) q
theorem δCatT0_q (x y : DV) (M : Mp) (Φ : DK) : δCatT0 x y M Φ = (onT x fun ds => onT y fun es => ds.length + es.length ≤ sizeLine ∧ Φ (.dat (.tuple (ds ++ es))) M) := propext Iff.rfl
end
end DL

namespace DL
open PySem PySem.Spec PyProof.Rows L2 PySem.W
/-! ### zip of two lists -/
/-- items of two lists, as a new tuple each -/
def Itz (K : PySem.W.Frag) (a b : Addr) : It :=
  ⟨fun i H => ∃ xs ys x y, SqL K H a xs ∧ xs[i]? = some x ∧ SqL K H b ys ∧ ys[i]? = some y,
   fun i H v H' => ∃ T x y, (∀ xs, SqL K H a xs → xs[i]? = some x) ∧ (∀ ys, SqL K H b ys → ys[i]? = some y) ∧ H T = none ∧ v = .ref T ∧ H' = upd H T (.tup [x, y]),
   fun i H => ∃ xs ys, SqL K H a xs ∧ SqL K H b ys ∧ (xs.length ≤ i ∨ ys.length ≤ i)⟩
def ZipSt (a b : Addr) (n : Nat) (i : Nat) (h : Heap) : Prop :=
  IsZip h (n + 4) (n + 2) (n + 3) .none ∧ IsPair h (n + 2) (.ref n) (.ref (n + 1)) ∧ (∃ u v, IsPair h (n + 3) u v) ∧ h.IsListIter n a i ∧ h.IsListIter (n + 1) b i
theorem zn {n p q : Nat} (h : p ≠ q) : n + p ≠ n + q := fun e => h (Nat.add_left_cancel e)
theorem zn0 {n p : Nat} (h : p ≠ 0) : n + p ≠ n := fun e => h (by omega)
theorem ZipSt.apart {a b : Addr} {n : Nat} {i : Nat} {h : Heap} {xs ys : Array Value} (st : ZipSt a b n i h) (ha : h.IsList a xs) (hb : h.IsList b ys) : ZipApart (n + 4) (n + 2) (n + 3) n (n + 1) a b := by
  obtain ⟨hz, h2, ⟨u, v, h3⟩, h0, h1⟩ := st
  have nz : ∀ {l : Addr} {zs : Array Value} (_ : h.IsList l zs), l ≠ n + 4 ∧ l ≠ n + 3 ∧ l ≠ n ∧ l ≠ n + 1 := by
    intro l zs hl
    obtain ⟨o, ho, hc, _⟩ := hl
    refine ⟨fun e => ?_, fun e => ?_, fun e => ?_, fun e => ?_⟩
    · rw [e, hz] at ho; cases ho; exact absurd (Value.type.inj hc) (by decide)
    · rw [e, h3] at ho; cases ho; exact absurd (Value.type.inj hc) (by decide)
    · obtain ⟨o', ho', hc', _⟩ := h0
      rw [e, ho'] at ho; cases ho; rw [hc'] at hc; exact absurd (Value.type.inj hc) (by decide)
    · obtain ⟨o', ho', hc', _⟩ := h1
      rw [e, ho'] at ho; cases ho; rw [hc'] at hc; exact absurd (Value.type.inj hc) (by decide)
  have A := nz ha
  have B := nz hb
  exact ⟨zn (by decide), zn (by decide), (zn0 (by decide)).symm, zn (by decide), zn (by decide), zn0 (by decide), zn (by decide), zn0 (by decide), zn (by decide), (zn0 (by decide)).symm, A.1, A.2.1, A.2.2.1, A.2.2.2, B.1, B.2.1, B.2.2.1, B.2.2.2⟩
theorem ZipSt.keep {a b : Addr} {n : Nat} {i : Nat} {h h' : Heap} (st : ZipSt a b n i h) (k : ∀ c ∈ [n + 4, n + 2, n + 3, n, n + 1], ∀ o, h.get? c = some o → h'.get? c = some o) : ZipSt a b n i h' := by
  obtain ⟨hz, h2, ⟨u, v, h3⟩, h0, h1⟩ := st
  exact ⟨k _ (by simp) _ hz, k _ (by simp) _ h2, ⟨u, v, k _ (by simp) _ h3⟩, h0.at fun o e => k _ (by simp) o e, h1.at fun o e => k _ (by simp) o e⟩
theorem turn_zip {P : Program} {w : World} {K : PySem.W.Frag} {elts : List Expr} {x1 : Nat} {pos : Pos} (a b : Addr) (n : Nat) : Turn P w K (.Tuple elts x1 pos) (Itz K a b) [n + 4, n + 2, n + 3, n, n + 1] (n + 4) (ZipSt a b n) where
  mem := by simp
  obj := fun i h st c hc => by
    obtain ⟨hz, h2, ⟨u, v, h3⟩, h0, h1⟩ := st
    have it : ∀ {p l : Addr} {j : Nat}, h.IsListIter p l j → ∃ o, h.get? p = some o ∧ ∀ v, o.data ≠ .cell v := fun ⟨o, ho, _, hd⟩ => ⟨o, ho, fun v z => by rw [hd] at z; cases z⟩
    simp only [List.mem_cons, List.not_mem_nil, or_false] at hc
    rcases hc with rfl | rfl | rfl | rfl | rfl
    · exact ⟨_, hz, fun v z => nomatch z⟩
    · exact ⟨_, h2, fun v z => nomatch z⟩
    · exact ⟨_, h3, fun v z => nomatch z⟩
    · exact it h0
    · exact it h1
  keep := fun i h h' st k => st.keep k
  item := by
    intro X hP hw hK hc i pins s σ H E I hf st hg
    subst hP hw hK
    obtain ⟨xs, ys, x, y, hq, hx, hr, hy⟩ := hg
    obtain ⟨its, rv, p, hz⟩ := I.list hq
    obtain ⟨jts, rw', p', hz'⟩ := I.list hr
    obtain ⟨u, hu, ru⟩ := rv.get hx
    obtain ⟨v, hv, rv2⟩ := rw'.get hy
    have hA : s.heap.IsList a its.toArray := p.isList
    have hB : s.heap.IsList b jts.toArray := p'.isList
    have D := st.apart hA hB
    obtain ⟨tz, t2, ⟨c, d, t3⟩, t0, t1⟩ := st
    refine wpAny_pyNext_zip_item D tz t2 t3 t0 t1 hA hB (x := u) (y := v) (by simpa using hu) (by simpa using hv) fun h' z1 z2 z3 z4 z5 z6 z7 => ?_
    refine ⟨_, rfl, ?_⟩
    refine wpAny_letOwnedTupleGo_zip z1 fun h2 hz2 hs2 => ?_
    have zl : n + 4 < s.heap.objs.size := Heap.lt_size tz
    have hTn : H s.heap.objs.size = none := I.hok.fresh (Nat.le_refl _)
    have g2 : h2.get? s.heap.objs.size = some { cls := .type "tuple", data := .seq #[u, v] } := (hs2.2 _ (Nat.ne_of_gt zl)).trans z5
    have IA : L2.Inv X pins σ (upd H s.heap.objs.size (.tup [x, y])) { s with heap := s.heap.push { cls := .type "tuple", data := .seq #[u, v] }, toks := s.toks } :=
      I.laid (t' := s.toks) (o := .tup [x, y]) (fun b ob q => Heap.get?_push_of_some _ q) (Nat.le_refl _) ⟨by rw [sizeLine_eq]; exact (by decide : 2 ≤ 16777216), [u, v], .cons ru (.cons rv2 .nil), IsTup.new _ _⟩
    have fN : ∀ c ∈ [n + 4, n + 2, n + 3, n, n + 1], FpOk X pins (upd H s.heap.objs.size (.tup [x, y])) c := fun c hc => by
      have f := hf c hc
      refine ⟨?_, f.2⟩
      have hlt : c < s.heap.objs.size := by
        simp only [List.mem_cons, List.not_mem_nil, or_false] at hc
        rcases hc with rfl | rfl | rfl | rfl | rfl <;> omega
      rw [upd_ne (Nat.ne_of_lt hlt)]
      exact f.1
    have I2 : L2.Inv X pins σ (upd H s.heap.objs.size (.tup [x, y])) { s with heap := h2, toks := s.toks } := turned_n (s := { s with heap := s.heap.push { cls := .type "tuple", data := .seq #[u, v] }, toks := s.toks }) (t' := s.toks) (ch := [n + 4, n + 2, n + 3, n, n + 1]) IA (fun c o hc q => by
      have q' : (s.heap.push { cls := .type "tuple", data := .seq #[u, v] }).get? c = some o := q
      have n4 : c ≠ n + 4 := fun z => hc (by simp [z])
      by_cases hT : c = s.heap.objs.size
      · rw [hT, Heap.get?_push_size _ rfl] at q'
        rw [hT, g2]
        exact q'
      · have q2 : s.heap.get? c = some o := by
          rw [← q']
          exact (Heap.get?_push_ne _ _ _ hT).symm
        exact (hs2.2 c n4).trans (z7 c o n4 (fun z => hc (by simp [z])) (fun z => hc (by simp [z])) (fun z => hc (by simp [z])) q2)) fN
    refine ⟨.ref s.heap.objs.size, _, I2, rfl, ⟨_, x, y, fun zs hy => by rw [I.list_inj hy hq]; exact hx, fun zs hx => by rw [I.list_inj hx hr]; exact hy, hTn, rfl, rfl⟩, ?_, fun b hb => (fN b hb).1⟩
    have e2 : h'.get? (n + 2) = _ := z7 (n + 2) _ (zn (by decide)) (zn (by decide)) (zn0 (by decide)) (zn (by decide)) t2
    exact ⟨hz2, (hs2.2 _ (zn (by decide))).trans e2, ⟨u, v, (hs2.2 _ (zn (by decide))).trans z2⟩, z3.at fun o e => (hs2.2 _ (zn0 (by decide)).symm).trans e, z4.at fun o e => (hs2.2 _ (zn (by decide))).trans e⟩
  done := by
    intro X hP hw hK hc i pins s σ H E I hf st hg
    subst hP hw hK
    obtain ⟨xs, ys, hq, hr, hl⟩ := hg
    obtain ⟨its, rv, p, hz⟩ := I.list hq
    obtain ⟨jts, rw', p', hz'⟩ := I.list hr
    have hA : s.heap.IsList a its.toArray := p.isList
    have hB : s.heap.IsList b jts.toArray := p'.isList
    have D := st.apart hA hB
    obtain ⟨tz, t2, ⟨c, d, t3⟩, t0, t1⟩ := st
    have l1 := rv.length
    have l2 := rw'.length
    refine wpAny_pyNext_zip_end (show X.A.handled = none from I.ok.hd hc) D tz t2 t3 t0 t1 hA hB (hl.imp (fun h => by simp; omega) fun h => by simp; omega) fun h' hk => ?_
    exact ⟨rfl, turned_n (t' := s.toks) (ch := [n + 4, n + 2, n + 3, n, n + 1]) I (fun c o hb q => hk c o (fun z => hb (by simp [z])) (fun z => hb (by simp [z])) (fun z => hb (by simp [z])) (fun z => hb (by simp [z])) q) fun b hb => hf b hb⟩
  self := fun _ _ _ _ _ st h => wpAny_pyIter_zip st.1 h
section
variable {X : Cx}
def iZip (K : PySem.W.Frag) (ta : TA) : TI := fun σ H R => ta σ H fun vs H1 => ∃ a b, vs = [.ref a, .ref b] ∧ (∃ xs, SqL K H1 a xs) ∧ (∃ ys, SqL K H1 b ys) ∧ R (Itz K a b) H1
theorem boot_zip : bootBuiltins "zip" = some (.type "zip") := by decide +kernel
theorem pi_zip {a b : Expr} {elts : List Expr} {x1 : Nat} {tp : Pos} {ta : TA} {p pos : Pos} (hg : Gl X "zip") (hm : X.mg "zip" = none) (ha : PA X [a, b] ta) (hs : starEach [a, b] X.env = [(false, eval a X.env), (false, eval b X.env)] := by rfl) (hs2 : starEach [b] X.env = [(false, eval b X.env)] := by rfl) : PI X (.Tuple elts x1 tp) (.Call (.Name "zip" p) [a, b] [] pos) (iZip X.K ta) := by
  intro pins s σ H R I h
  refine Call_ (ld_blt I hg hm boot_zip (PyProof.Rows.callWith_type1 (thn (ha pos pins s σ H _ I h) fun us s1 ⟨vs, H1, I1, r1, q1⟩ => ?_) (by rw [hs, hs2]) (by rw [hs2]; rfl)))
  obtain ⟨l, m, e, ⟨xs, hq⟩, ⟨ys, hr⟩, q⟩ := q1
  subst e
  cases r1 with
  | cons r rr =>
    cases rr with
    | cons r' rr =>
      cases rr
      cases r
      cases r'
      obtain ⟨its, rv, pt, hz⟩ := I1.list hq
      obtain ⟨jts, rw', pt', hz'⟩ := I1.list hr
      refine call_zip_2 pt.isList pt'.isList fun h' z1 z2 z3 z4 z5 hsz hk => ?_
      have I2 : L2.Inv X pins σ H1 { s1 with heap := h' } := I1.kept (t' := s1.toks) hk
      refine wpAny_pyIter_zip z1 ?_
      refine ⟨s1.heap.objs.size + 4, [s1.heap.objs.size + 4, s1.heap.objs.size + 2, s1.heap.objs.size + 3, s1.heap.objs.size, s1.heap.objs.size + 1], _, _, H1, rfl, I2, turn_zip l m s1.heap.objs.size, ⟨z1, z2, ⟨_, _, z3⟩, z4, z5⟩, fun c hc => ?_, q⟩
      have hle : s1.heap.objs.size ≤ c := by
        simp only [List.mem_cons, List.not_mem_nil, or_false] at hc
        rcases hc with rfl | rfl | rfl | rfl | rfl <;> omega
      exact I1.fpOk hle (I1.hok.fresh hle)
def zipD (as bs : List PyData) : List PyData := List.zipWith (fun a b => .tuple [a, b]) as bs
theorem zipD_get {as bs : List PyData} {i : Nat} {a b : PyData} (h : as[i]? = some a) (k : bs[i]? = some b) : (zipD as bs)[i]? = some (.tuple [a, b]) := by
  unfold zipD
  rw [List.getElem?_zipWith, h, k]
def srcZ (ta : DTA) : DSrc := fun Δ M Ψ => ta Δ M fun xs M1 => on2 xs fun x y => onL x fun as => onL y fun bs => Ψ (zipD as bs) M1
theorem di_zip {a b : Expr} {elts : List Expr} {x1 : Nat} {tp : Pos} {ta : DTA} {p p2 : Pos} (hg0 : Gl X "zip") (hm : X.mg "zip" = none) (ha : DA X [a, b] ta) (hs : starEach [a, b] X.env = [(false, eval a X.env), (false, eval b X.env)] := by rfl) (hs2 : starEach [b] X.env = [(false, eval b X.env)] := by rfl) :
    DI X (.Tuple elts x1 tp) (.Call (.Name "zip" p) [a, b] [] p2) (srcZ ta) := by
  obtain ⟨t1, p1, q1⟩ := ha
  refine ⟨_, pi_zip hg0 hm p1 hs hs2, fun σ H Δ M Ψ R dr er h k => ?_⟩
  refine q1 σ H Δ M _ _ dr er h fun vs H1 xs M1 r1 st rv hx => ?_
  replace hx := on2_ex hx
  obtain ⟨x, y, rfl, hx⟩ := hx
  replace hx := onL_ex hx
  obtain ⟨as, rfl, hx⟩ := hx
  replace hx := onL_ex hx
  obtain ⟨bs, rfl, hΨ⟩ := hx
  obtain ⟨v, u, rfl, hv, hu⟩ := Paired.two rv
  obtain ⟨a, ys, rfl, h1, h2⟩ := hv.lst
  obtain ⟨b, zs, rfl, h3, h4⟩ := hu.lst
  have el : (zipD as bs).length = min as.length bs.length := by unfold zipD; rw [List.length_zipWith]
  refine ⟨a, b, rfl, ⟨ys, h1.sq⟩, ⟨zs, h3.sq⟩, k _ H1 M1 _ r1 st (fun M2 H2 st2 i => ⟨fun hi => ?_, fun hi => ?_⟩) hΨ⟩
  · rw [el] at hi
    have hx : i < ys.length := by rw [h2.length]; omega
    have hy : i < zs.length := by rw [h4.length]; omega
    refine ⟨⟨ys, zs, ys[i], zs[i], (h1.step st2).sq, by simp [hx], (h3.step st2).sq, by simp [hy]⟩, fun y H' z => ?_⟩
    obtain ⟨T, u, v, hu, hv, hT, rfl, rfl⟩ := z
    intro r
    obtain ⟨d, hd, hy⟩ := (h2.step st2).getV (hu ys (h1.step st2).sq)
    obtain ⟨d', hd', hy'⟩ := (h4.step st2).getV (hv zs (h3.step st2).sq)
    exact ⟨r.new hT, Step.new hT, _, zipD_get hd hd', Dt.newTup r hT (.cons hy (.cons hy' .nil))⟩
  · rw [el] at hi
    exact ⟨ys, zs, (h1.step st2).sq, (h3.step st2).sq, by rw [h2.length, h4.length]; omega⟩
theorem srcZ_q (ta : DTA) (Δ : DSt) (M : Mp) (Ψ : List PyData → Mp → Prop) : srcZ ta Δ M Ψ = (ta Δ M fun xs M1 => on2 xs fun x y => onL x fun as => onL y fun bs => Ψ (zipD as bs) M1) := propext Iff.rfl
end
end DL

namespace DL
open PySem PySem.Spec PyProof.Rows L2 PySem.W
/-! ### {k: e, ..} of any values, owned; d.get(k, e) -/
section
variable {X : Cx} {pos : Pos}
abbrev DTP := DSt → Mp → (List (DV × DV) → Mp → Prop) → Prop
def DPs (X : Cx) (pos : Pos) (keys : List (Option Expr)) (values : List Expr) (τ : DTP) : Prop :=
  ∃ trs, PPs X pos keys values trs ∧ trs.length = keys.length ∧ ∀ σ H Δ M Φ (Q : List (V × V) → Hp → Prop), DRel X.K M H → ERel X.K M H σ Δ → τ Δ M Φ →
    (∀ ps H' qs M', DRel X.K M' H' → Step M H M' H' → Paired (fun (p : V × V) (q : DV × DV) => VRel X.K M' H' p.1 q.1 ∧ VRel X.K M' H' p.2 q.2) ps qs → Φ qs M' → Q ps H') → tPairs trs σ H Q
def dPnil : DTP := fun _ M Φ => Φ [] M
def dPcons (tk tv : DTE) (t : DTP) : DTP := fun Δ M Φ => tk Δ M fun x M1 => tv Δ M1 fun y M2 => t Δ M2 fun qs M3 => Φ ((x, y) :: qs) M3
theorem dPnil_q (Δ : DSt) (M : Mp) (Φ : List (DV × DV) → Mp → Prop) : dPnil Δ M Φ = Φ [] M := propext Iff.rfl
theorem dPcons_q (tk tv : DTE) (t : DTP) (Δ : DSt) (M : Mp) (Φ : List (DV × DV) → Mp → Prop) : dPcons tk tv t Δ M Φ = (tk Δ M fun x M1 => tv Δ M1 fun y M2 => t Δ M2 fun qs M3 => Φ ((x, y) :: qs) M3) := propext Iff.rfl
theorem dps_nil : DPs X pos [] [] dPnil := ⟨[], pps_nil, rfl, fun _ H _ M _ _ r _ h k => k [] H [] M r Step.refl .nil h⟩
theorem dps_cons {k v : Expr} {ks : List (Option Expr)} {vs : List Expr} {tk tv : DTE} {t : DTP} (hk : DE X k tk) (hv : DE X v tv) (hr : DPs X pos ks vs t) : DPs X pos (some k :: ks) (v :: vs) (dPcons tk tv t) := by
  obtain ⟨a, p, q⟩ := hk
  obtain ⟨b, p2, q2⟩ := hv
  obtain ⟨c, p3, hl, q3⟩ := hr
  refine ⟨_, pps_cons p p2 p3, by rw [List.length_cons, List.length_cons, hl], fun σ H Δ M Φ Q r e h k => ?_⟩
  refine q σ H Δ M _ _ r e h fun x H1 x' M1 r1 st1 rx hx => ?_
  refine q2 σ H1 Δ M1 _ _ r1 (e.step st1) hx fun y H2 y' M2 r2 st2 ry hy => ?_
  exact q3 σ H2 Δ M2 _ _ r2 ((e.step st1).step st2) hy fun ps H3 qs M3 r3 st3 rp hq => k _ H3 _ M3 r3 ((st1.trans st2).trans st3) (.cons ⟨(rx.step st2).step st3, ry.step st3⟩ rp) hq
def onKvs : List (DV × DV) → (List (Key × PyData) → Prop) → Prop
  | [], P => P []
  | (x, y) :: r, P => onKey x fun k => onD y fun d => onKvs r fun l => P ((k, d) :: l)
theorem onKvs_nil_q (P : List (Key × PyData) → Prop) : onKvs [] P = P [] := propext Iff.rfl
theorem onKvs_cons_q (x y : DV) (r : List (DV × DV)) (P : List (Key × PyData) → Prop) : onKvs ((x, y) :: r) P = (onKey x fun k => onD y fun d => onKvs r fun l => P ((k, d) :: l)) := propext Iff.rfl
theorem onKvs_ex : ∀ {qs : List (DV × DV)} {P : List (Key × PyData) → Prop}, onKvs qs P → ∃ l, qs = l.map (fun kd => (DV.dat (kD kd.1), DV.dat kd.2)) ∧ P l
  | [], P, h => ⟨[], rfl, h⟩
  | (x, y) :: r, P, h => by
    obtain ⟨k, rfl, h1⟩ := onKey_ex (show onKey x fun k => onD y fun d => onKvs r fun l => P ((k, d) :: l) from h)
    obtain ⟨d, rfl, h2⟩ := onD_ex h1
    obtain ⟨l, rfl, h3⟩ := onKvs_ex h2
    exact ⟨(k, d) :: l, rfl, h3⟩
theorem pairs_kd {K : PySem.W.Frag} {M : Mp} {H : Hp} : ∀ {l : List (Key × PyData)} {ps : List (V × V)}, Paired (fun (p : V × V) (q : DV × DV) => VRel K M H p.1 q.1 ∧ VRel K M H p.2 q.2) ps (l.map fun kd => (DV.dat (kD kd.1), DV.dat kd.2)) →
    ∃ kvs : List (Key × V), ps = kvs.map (fun kv => (kV kv.1, kv.2)) ∧ KD K M H kvs l
  | [], ps, h => by rw [List.map_nil] at h; cases h; exact ⟨[], rfl, .nil⟩
  | (k, d) :: l, ps, h => by
    rw [List.map_cons] at h
    cases h with
    | @cons p q ps' qs' h1 h2 =>
      obtain ⟨kvs, rfl, hk⟩ := pairs_kd h2
      obtain ⟨p1, p2⟩ := p
      have e : p1 = kV k := kD_V h1.1
      have h12 : Dt K M H p2 d := h1.2
      exact ⟨(k, p2) :: kvs, by rw [e]; rfl, .cons h12 hk⟩
def dDisp (t : DTP) : DTE := fun Δ M Φ => ∀ p, M p = none → t Δ (mset M p (.dkv [])) fun qs M2 => onKvs qs fun l => M2 p = some (.dkv []) ∧ ((l.map (·.1)).Nodup ∧ l.length ≤ 15) ∧ Φ (.own p) (mset M2 p (.dkv l))
theorem dDisp_q (t : DTP) (Δ : DSt) (M : Mp) (Φ : DK) : dDisp t Δ M Φ = (∀ p, M p = none → t Δ (mset M p (.dkv [])) fun qs M2 => onKvs qs fun l => M2 p = some (.dkv []) ∧ ((l.map (·.1)).Nodup ∧ l.length ≤ 15) ∧ Φ (.own p) (mset M2 p (.dkv l))) := propext Iff.rfl
theorem de_disp {keys : List (Option Expr)} {values : List Expr} {t : DTP} (h : DPs X pos keys values t) (hall : keys.all (·.isSome) = true := by rfl) (hl : keys.length = values.length := by rfl) (h0 : keys ≠ [] := by exact List.cons_ne_nil _ _)
    (h15 : keys.length ≤ 15 := by decide) : DE X (.Dict keys values pos) (dDisp t) := by
  obtain ⟨trs, p, _, q⟩ := h
  refine ⟨_, pe_disp p hall hl h0 h15, fun σ H Δ M Φ Q r e h k a ha => ?_⟩
  have ma := r.tracked ha
  have r0 : DRel X.K (mset M a (.dkv [])) (upd H a (.dK [])) := r.ownDk (kvs := []) (ps := []) (Step.ownNew ha) .nil
  have s0 : Step M H (mset M a (.dkv [])) (upd H a (.dK [])) := Step.ownNew ha
  refine q σ _ Δ _ _ _ r0 (e.step s0) (h a ma) fun ps H2 qs M2 r2 st2 rp hq => ?_
  obtain ⟨l, rfl, m2, ⟨nd, l15⟩, f⟩ := onKvs_ex hq
  obtain ⟨kvs, rfl, hk⟩ := pairs_kd rp
  obtain ⟨kvs0, g0, k0⟩ := r2.dk m2
  have e0 : kvs0 = [] := by
    have := k0.length
    exact List.length_eq_zero_iff.mp (by simpa using this)
  subst e0
  refine ⟨g0, kvs, rfl, by rw [hk.length]; exact l15, ?_⟩
  rw [mergeK_new kvs (by rw [hk.keys]; exact nd)]
  have s3 : Step M2 H2 (mset M2 a (.dkv l)) (upd H2 a (.dK kvs)) := Step.ownPut m2
  exact k _ _ (.own a) _ (r2.ownDk s3 hk) ((s0.trans st2).trans s3) rfl f
def dGetD (td ti tx : DTE) : DTE := fun Δ M Φ => td Δ M fun x M1 => onO x fun l => onOK (M1 l) fun _ => ti Δ M1 fun y M2 => tx Δ M2 fun z M3 => onS y fun s => onD z fun d => onOK (M3 l) fun ps => Φ (.dat ((dvalD ps (.inr s)).getD d)) M3
theorem dGetD_q (td ti tx : DTE) (Δ : DSt) (M : Mp) (Φ : DK) : dGetD td ti tx Δ M Φ = (td Δ M fun x M1 => onO x fun l => onOK (M1 l) fun _ => ti Δ M1 fun y M2 => tx Δ M2 fun z M3 => onS y fun s => onD z fun d => onOK (M3 l) fun ps => Φ (.dat ((dvalD ps (.inr s)).getD d)) M3) := propext Iff.rfl
theorem de_getD {k : Nat} {o e f : Expr} {td te tf : DTE} {apos cpos : Pos} (hr : Room k X.A) (ho : DE X o td) (he : DE X e te) (hf : DE X f tf) (hbase : attributeBase o "get" X.env (eval o X.env) = eval o X.env := by rfl)
    (hfew : ((backTo cpos (starEach [e, f] X.env)).all (fun x => !x.1) && (backToKw cpos (keywordEach [] X.env)).all (fun x => x.1.isSome)
      && decide (([e, f] : List Expr).length + ([] : List Keyword).length + (if ([] : List Keyword).isEmpty then 0 else 1) < 30)) = true := by rfl)
    (hline : (apos.endLine == cpos.line) = true := by rfl) (htr : backTo cpos (starEach [e, f] X.env) = [(false, eval e X.env), (false, eval f X.env)] := by rfl) : DE X (.Call (.Attribute o "get" apos) [e, f] [] cpos) (dGetD td te tf) := by
  obtain ⟨t1, p1, q1⟩ := ho
  obtain ⟨t2, p2, q2⟩ := he
  obtain ⟨t3, p3, q3⟩ := hf
  refine ⟨_, pe_dget2 (by have := hr.un; omega) p1 p2 p3 ⟨hbase, hfew, hline, htr⟩, fun σ H Δ M Φ Q r e h k => ?_⟩
  refine q1 σ H Δ M _ _ r e h fun v H1 x M1 r1 st1 rv hx => ?_
  replace hx := onO_ex hx
  obtain ⟨l, rfl, hx⟩ := hx
  replace hx := onOK_ex hx
  obtain ⟨ps0, hm0, hx⟩ := hx
  cases (show v = .ref l from rv)
  obtain ⟨kvs0, g0, _⟩ := r1.dk hm0
  refine ⟨l, rfl, .inl ⟨kvs0, .inl g0⟩, q2 σ H1 Δ M1 _ _ r1 (e.step st1) hx fun w H2 y M2 r2 st2 rw2 hy => ?_⟩
  refine q3 σ H2 Δ M2 _ _ r2 ((e.step st1).step st2) hy fun z H3 z' M3 r3 st3 rz hz => ?_
  replace hz := onS_ex hz
  obtain ⟨s, rfl, hz⟩ := hz
  replace hz := onD_ex hz
  obtain ⟨d, rfl, hz⟩ := hz
  replace hz := onOK_ex hz
  obtain ⟨ps, hm, q⟩ := hz
  cases rw2.str
  obtain ⟨kvs, g1, g2⟩ := r3.dk hm
  refine ⟨_, DGet.k (k := .inr s) g1, ?_⟩
  rcases g2.val (.inr s) with ⟨a, b⟩ | ⟨u, d', a, b, du⟩
  · rw [b] at q
    rw [a]
    exact k.dat r3 ((st1.trans st2).trans st3) rz q
  · rw [b] at q
    rw [a]
    exact k.dat r3 ((st1.trans st2).trans st3) du q
end
end DL

namespace DL
open PySem PySem.Spec PyProof.Rows L2 PySem.W
/-! ### repr of a tuple, part by part -/
section
variable {X : Cx} {pins : List (Addr × Obj)} {σ : L2.St} {H : Hp} {s : Shared} {M : Mp}
theorem Dts.reprs (I : Inv X pins σ H s) : ∀ {vs : List V} {ds : List PyData}, Dts X.K M H vs ds → ∀ {us : List Value}, Vals vs us → (∀ d ∈ ds, Shw d) →
    ∃ as bs, ReadsAll s.heap us ds as ∧ ReadAtMost s.heap (PyData.depthAll ds) bs ∧ ReprAllK X.prog X.w bs s.heap (PyData.depthAll ds) us (PyData.shownAll ds)
  | _, _, .nil, _, r, _ => by
    cases r
    exact ⟨[], [], .nil, (fun _ h => nomatch h), by simp only [PyData.shownAll]; exact .nil⟩
  | _, _, .cons (d := d) (ds := ds) h1 h2, _, r, hs => by
    cases r with
    | cons r1 r2 =>
      obtain ⟨as, ra, ha⟩ := Dt.reads I h1 r1
      obtain ⟨as', bs', rb, hb, kb⟩ := Dts.reprs I h2 r2 fun x hx => hs x (List.mem_cons_of_mem _ hx)
      have sd := hs d List.mem_cons_self
      obtain ⟨b1, hb1, k1⟩ := ReprK.of_reads (prog := X.prog) (w := X.w) ra sd.s (fun hx => ha (by have := sd.m; rw [hx, Bool.true_and] at this; exact this)) sd.z
      refine ⟨as ++ as', b1 ++ bs', .cons ra rb, ?_, ?_⟩
      · intro b hm
        simp only [PyData.depthAll]
        rcases List.mem_append.mp hm with hm | hm
        · obtain ⟨d', as', r', hd'⟩ := hb1 b hm
          exact ⟨d', as', r', Nat.le_trans hd' (Nat.le_max_left _ _)⟩
        · obtain ⟨d', as', r', hd'⟩ := hb b hm
          exact ⟨d', as', r', Nat.le_trans hd' (Nat.le_max_right _ _)⟩
      · simp only [PyData.depthAll, PyData.shownAll]
        exact .cons ((k1.more fun b hb => List.mem_append_left _ hb).level_le (Nat.le_max_left _ _)) (kb.more_le (fun b hb => List.mem_append_right _ hb) (Nat.le_max_right _ _))
end
section
variable {X : Cx}
theorem call_reprT (hg : X.A.guards = some []) (hu : X.A.units + 100 < cLine) : CallR X (.builtin "repr") (fun xs H Q => ∃ v ds M, xs = [v] ∧ Dt X.K M H v (.tuple ds) ∧ (∀ d ∈ ds, Shw d) ∧ (PyData.tuple ds).depth ≤ 64 ∧
    (PyData.tuple ds).shown.length ≤ sizeLine ∧ Q (.str (PyData.tuple ds).shown) H) := by
  intro pins s σ H xs us Q I r h
  obtain ⟨v, ds, M, rfl, hd, hs, hdp, hz, q⟩ := h
  obtain ⟨u, rfl, ru⟩ := vals1 r
  cases hd with
  | @tup a ys _ h1 h2 =>
    cases ru
    obtain ⟨its, rv, ⟨o, ho, hc, n, hdt⟩, _⟩ := I.tuple h1.sq
    obtain ⟨as, bs, ra, hb, hk⟩ := h2.reprs I rv hs
    have hz' : (tupleText (PyData.shownAll ds)).length ≤ sizeLine := by simpa only [PyData.shown] using hz
    have hr : Reads s.heap (.ref a) (.tuple ds) as := .tuple ho hc hdt (by simpa using ra)
    have hna : a ∉ bs := not_mem_of_deeper hr (by simp only [PyData.depth]; omega) hb
    simp only [PyData.depth] at hdp
    refine call_repr_slot (by omega) ⟨o, ho, hc⟩ F.slot_tuple_repr (call_tuple_reprK ho hc hdt hna (by simpa using hk) (show X.A.in1.guards = some [] from hg) (fun b _ => Clear.nil b) (by show X.A.units + 1 + (PyData.depthAll ds + 1) < cLine; omega) (fun _ _ e => e) (fun h' u tk hkk => ⟨_, _, rfl, .str (PyData.tuple ds).shown, H, I.kept hkk, ⟨u, by simp only [PyData.shown]⟩, q⟩) hz')
def δReprT : D1 := fun xs M Φ => on1 xs fun x => onT x fun ds => ((∀ d ∈ ds, Shw d) ∧ (PyData.tuple ds).depth ≤ 64 ∧ (PyData.tuple ds).shown.length ≤ sizeLine) ∧ Φ (.dat (.str (PyData.tuple ds).shown)) M
theorem δReprT_q (xs : List DV) (M : Mp) (Φ : DK) : δReprT xs M Φ = (on1 xs fun x => onT x fun ds => ((∀ d ∈ ds, Shw d) ∧ (PyData.tuple ds).depth ≤ 64 ∧ (PyData.tuple ds).shown.length ≤ sizeLine) ∧ Φ (.dat (.str (PyData.tuple ds).shown)) M) := propext Iff.rfl
theorem cd_reprT {k : Nat} (hr : Room k X.A) : CallD X (.builtin "repr") δReprT := by
  refine ⟨_, call_reprT hr.gd (by have := hr.un; omega), fun vs H xs M Φ Q r rv h k => ?_⟩
  replace h := on1_ex h
  obtain ⟨x, rfl, h⟩ := h
  replace h := onT_ex h
  obtain ⟨ds, rfl, ⟨h1, h2, h3⟩, q⟩ := h
  obtain ⟨v, rfl, hv⟩ := Paired.one rv
  exact ⟨v, ds, M, rfl, hv, h1, h2, h3, k.dat r Step.refl (Dt.str _) q⟩
end
end DL

namespace My
open PySem PySem.Spec PyProof.Rows L2 DL
set_option maxHeartbeats 8000000
def top (i : Nat) : Stmt := PySem.Challenge.pw_landsentered_k17_what_is_a_telling.main.body.getD i (.Pass ⟨0, 0, 0, 0⟩)
abbrev s_is_whole : Stmt := top 2
abbrev s_is_short : Stmt := top 3
abbrev s_is_any_spot : Stmt := top 5
abbrev s_is_spot : Stmt := top 6
abbrev s_is_box : Stmt := top 7
abbrev s_has_spots : Stmt := top 8
abbrev s_steps_between : Stmt := top 9
abbrev s_gap : Stmt := top 10
abbrev s_is_shape : Stmt := top 13
abbrev s_is_chain : Stmt := top 14
abbrev s_is_name : Stmt := top 18
abbrev s_is_time : Stmt := top 19
abbrev s_is_telling : Stmt := top 20
abbrev s_is_name_or_empty : Stmt := top 21
abbrev s_is_wobble : Stmt := top 22
abbrev s_take : Stmt := top 24
abbrev s_wide : Stmt := top 25
abbrev s_boxes : Stmt := top 26
abbrev s_stretched : Stmt := top 27
abbrev s_stretch : Stmt := top 28
abbrev s_names : Stmt := top 29
abbrev s_world : Stmt := top 30
abbrev s_spot : Stmt := top 31
abbrev s_land : Stmt := top 32
abbrev s_telling : Stmt := top 33
abbrev s_marked : Stmt := top 34
abbrev s_role : Stmt := top 35
abbrev s_drawn : Stmt := top 36
abbrev s_law : Stmt := top 37
theorem sc_is_whole : FnScope ["thing"] ["thing"] (defScope s_is_whole) := ⟨rfl, rfl, rfl, by decide +kernel, rfl, by decide +kernel, by decide +kernel⟩
theorem sc_is_short : FnScope ["thing"] ["thing"] (defScope s_is_short) := ⟨rfl, rfl, rfl, by decide +kernel, rfl, by decide +kernel, by decide +kernel⟩
theorem sc_is_any_spot : FnScope ["thing"] ["thing"] (defScope s_is_any_spot) := ⟨rfl, rfl, rfl, by decide +kernel, rfl, by decide +kernel, by decide +kernel⟩
theorem sc_is_spot : FnScope ["thing"] ["thing"] (defScope s_is_spot) := ⟨rfl, rfl, rfl, by decide +kernel, rfl, by decide +kernel, by decide +kernel⟩
theorem sc_is_box : FnScope ["thing"] ["thing"] (defScope s_is_box) := ⟨rfl, rfl, rfl, by decide +kernel, rfl, by decide +kernel, by decide +kernel⟩
theorem sc_has_spots : FnScope ["box"] ["box"] (defScope s_has_spots) := ⟨rfl, rfl, rfl, by decide +kernel, rfl, by decide +kernel, by decide +kernel⟩
theorem sc_steps_between : FnScope ["one", "other"] ["one", "other"] (defScope s_steps_between) := ⟨rfl, rfl, rfl, by decide +kernel, rfl, by decide +kernel, by decide +kernel⟩
theorem sc_gap : FnScope ["one", "other", "way"] ["one", "other", "way"] (defScope s_gap) := ⟨rfl, rfl, rfl, by decide +kernel, rfl, by decide +kernel, by decide +kernel⟩
theorem sc_is_shape : FnScope ["thing"] ["thing"] (defScope s_is_shape) := ⟨rfl, rfl, rfl, by decide +kernel, rfl, by decide +kernel, by decide +kernel⟩
theorem sc_is_chain : FnScope ["boxes"] ["boxes"] (defScope s_is_chain) := ⟨rfl, rfl, rfl, by decide +kernel, rfl, by decide +kernel, by decide +kernel⟩
theorem sc_is_name : FnScope ["thing"] ["thing"] (defScope s_is_name) := ⟨rfl, rfl, rfl, by decide +kernel, rfl, by decide +kernel, by decide +kernel⟩
theorem sc_is_time : FnScope ["thing"] ["thing"] (defScope s_is_time) := ⟨rfl, rfl, rfl, by decide +kernel, rfl, by decide +kernel, by decide +kernel⟩
theorem sc_is_telling : FnScope ["thing"] ["thing"] (defScope s_is_telling) := ⟨rfl, rfl, rfl, by decide +kernel, rfl, by decide +kernel, by decide +kernel⟩
theorem sc_is_name_or_empty : FnScope ["thing"] ["thing"] (defScope s_is_name_or_empty) := ⟨rfl, rfl, rfl, by decide +kernel, rfl, by decide +kernel, by decide +kernel⟩
theorem sc_is_wobble : FnScope ["thing"] ["thing"] (defScope s_is_wobble) := ⟨rfl, rfl, rfl, by decide +kernel, rfl, by decide +kernel, by decide +kernel⟩
theorem sc_take : FnScope ["_law_pen", "_law_many", "_law_at", "_law_cell", "_law_one", "_law_two", "_law_digit"] ["_law_pen", "_law_many"] (defScope s_take) := ⟨rfl, rfl, rfl, by decide +kernel, rfl, by decide +kernel, by decide +kernel⟩
theorem sc_wide : FnScope ["_law_pen", "_law_many", "_law_found", "_law_k"] ["_law_pen", "_law_many"] (defScope s_wide) := ⟨rfl, rfl, rfl, by decide +kernel, rfl, by decide +kernel, by decide +kernel⟩
theorem sc_boxes : FnScope ["_law_pen", "_law_most", "_law_low", "_law_found", "_law_k", "_law_wide_here", "_law_first", "_law_last"] ["_law_pen", "_law_most"] (defScope s_boxes) := ⟨rfl, rfl, rfl, by decide +kernel, rfl, by decide +kernel, by decide +kernel⟩
theorem sc_stretched : FnScope ["_law_boxes_here", "_law_by", "_law_off", "_law_found", "_law_low", "_law_high", "_law_first"] ["_law_boxes_here", "_law_by", "_law_off"] (defScope s_stretched) := ⟨rfl, rfl, rfl, by decide +kernel, rfl, by decide +kernel, by decide +kernel⟩
theorem sc_stretch : FnScope ["_law_pen", "_law_by", "_law_off"] ["_law_pen"] (defScope s_stretch) := ⟨rfl, rfl, rfl, by decide +kernel, rfl, by decide +kernel, by decide +kernel⟩
theorem sc_names : FnScope ["_law_pen", "_law_many", "_law_letters", "_law_words", "_law_base", "_law_start", "_law_manner", "_law_long", "_law_at", "_law_signs"] ["_law_pen", "_law_many"] (defScope s_names) := ⟨rfl, rfl, rfl, by decide +kernel, rfl, by decide +kernel, by decide +kernel⟩
theorem sc_world : FnScope ["_law_pen", "_law_far", "_law_begin", "_law_span", "_law_things", "_law_lands", "_law_by", "_law_off"] ["_law_pen"] (defScope s_world) := ⟨rfl, rfl, rfl, by decide +kernel, rfl, by decide +kernel, by decide +kernel⟩
theorem sc_spot : FnScope ["_law_pen", "_law_world_here", "_law_by"] ["_law_pen", "_law_world_here"] (defScope s_spot) := ⟨rfl, rfl, rfl, by decide +kernel, rfl, by decide +kernel, by decide +kernel⟩
theorem sc_land : FnScope ["_law_pen", "_law_world_here", "_law_time", "_law_lands", "_law_by", "_law_outer", "_law_boxes_here", "_law_wobble", "_law_name"] ["_law_pen", "_law_world_here", "_law_time"] (defScope s_land) := ⟨rfl, rfl, rfl, by decide +kernel, rfl, by decide +kernel, by decide +kernel⟩
theorem sc_telling : FnScope ["_law_pen", "_law_world_here", "_law_kind", "_law_time", "_law_thing"] ["_law_pen", "_law_world_here"] (defScope s_telling) := ⟨rfl, rfl, rfl, by decide +kernel, rfl, by decide +kernel, by decide +kernel⟩
theorem sc_marked : FnScope ["_law_pen", "_law_world_here", "_law_far", "_law_found", "_law_number", "_law_name", "_law_spots", "_law_spot_here", "_law_k", "_law_shape", "_law_low", "_law_high"] ["_law_pen", "_law_world_here"] (defScope s_marked) := ⟨rfl, rfl, rfl, by decide +kernel, rfl, by decide +kernel, by decide +kernel⟩
theorem sc_role : FnScope ["_law_pen", "_law_marked_here", "_law_role_here", "_law_some"] ["_law_pen", "_law_marked_here", "_law_role_here"] (defScope s_role) := ⟨rfl, rfl, rfl, by decide +kernel, rfl, by decide +kernel, by decide +kernel⟩
theorem sc_drawn : FnScope ["_law_pen", "_law_marked_here", "_law_forms", "_law_word", "_law_roles", "_law_parts", "_law_is_good", "_law_things", "_law_kind"] ["_law_pen", "_law_marked_here"] (defScope s_drawn) := ⟨rfl, rfl, rfl, by decide +kernel, rfl, by decide +kernel, by decide +kernel⟩
theorem sc_law : FnScope ["_law_script", "_law_pen", "_law_world_here", "_law_k", "_law_marked_here", "_law_telling_here", "_law_kept", "_law_found", "_law_thing", "_law_due"] ["_law_script"] (defScope s_law) := ⟨rfl, rfl, rfl, by decide +kernel, rfl, by decide +kernel, by decide +kernel⟩
theorem bt_abs : bootBuiltins "abs" = some (.builtin "abs") := by decide +kernel
theorem bt_all : bootBuiltins "all" = some (.builtin "all") := by decide +kernel
theorem bt_bool : bootBuiltins "bool" = some (.type "bool") := by decide +kernel
theorem bt_int : bootBuiltins "int" = some (.type "int") := by decide +kernel
theorem bt_isinstance : bootBuiltins "isinstance" = some (.builtin "isinstance") := by decide +kernel
theorem bt_len : bootBuiltins "len" = some (.builtin "len") := by decide +kernel
theorem bt_list : bootBuiltins "list" = some (.type "list") := by decide +kernel
theorem bt_max : bootBuiltins "max" = some (.builtin "max") := by decide +kernel
theorem bt_repr : bootBuiltins "repr" = some (.builtin "repr") := by decide +kernel
theorem bt_str : bootBuiltins "str" = some (.type "str") := by decide +kernel
theorem bt_tuple : bootBuiltins "tuple" = some (.type "tuple") := by decide +kernel
set_option genInjectivity false in
/-- what the top holds -/
structure Tx (K : PySem.W.Frag) (mg : Str → Option Value) where
  f_is_whole : Addr
  d_is_whole : FuncData
  o_is_whole : Own K mg "is_whole" s_is_whole ["thing"] f_is_whole d_is_whole
  f_is_short : Addr
  d_is_short : FuncData
  o_is_short : Own K mg "is_short" s_is_short ["thing"] f_is_short d_is_short
  f_is_any_spot : Addr
  d_is_any_spot : FuncData
  o_is_any_spot : Own K mg "is_any_spot" s_is_any_spot ["thing"] f_is_any_spot d_is_any_spot
  f_is_spot : Addr
  d_is_spot : FuncData
  o_is_spot : Own K mg "is_spot" s_is_spot ["thing"] f_is_spot d_is_spot
  f_is_box : Addr
  d_is_box : FuncData
  o_is_box : Own K mg "is_box" s_is_box ["thing"] f_is_box d_is_box
  f_has_spots : Addr
  d_has_spots : FuncData
  o_has_spots : Own K mg "has_spots" s_has_spots ["box"] f_has_spots d_has_spots
  f_steps_between : Addr
  d_steps_between : FuncData
  o_steps_between : Own K mg "steps_between" s_steps_between ["one", "other"] f_steps_between d_steps_between
  f_gap : Addr
  d_gap : FuncData
  o_gap : Own K mg "gap" s_gap ["one", "other", "way"] f_gap d_gap
  f_is_shape : Addr
  d_is_shape : FuncData
  o_is_shape : Own K mg "is_shape" s_is_shape ["thing"] f_is_shape d_is_shape
  f_is_chain : Addr
  d_is_chain : FuncData
  o_is_chain : Own K mg "is_chain" s_is_chain ["boxes"] f_is_chain d_is_chain
  f_is_name : Addr
  d_is_name : FuncData
  o_is_name : Own K mg "is_name" s_is_name ["thing"] f_is_name d_is_name
  f_is_time : Addr
  d_is_time : FuncData
  o_is_time : Own K mg "is_time" s_is_time ["thing"] f_is_time d_is_time
  f_is_telling : Addr
  d_is_telling : FuncData
  o_is_telling : Own K mg "is_telling" s_is_telling ["thing"] f_is_telling d_is_telling
  f_is_name_or_empty : Addr
  d_is_name_or_empty : FuncData
  o_is_name_or_empty : Own K mg "is_name_or_empty" s_is_name_or_empty ["thing"] f_is_name_or_empty d_is_name_or_empty
  f_is_wobble : Addr
  d_is_wobble : FuncData
  o_is_wobble : Own K mg "is_wobble" s_is_wobble ["thing"] f_is_wobble d_is_wobble
  f_take : Addr
  d_take : FuncData
  o_take : Own K mg "_law_take" s_take ["_law_pen", "_law_many"] f_take d_take
  f_wide : Addr
  d_wide : FuncData
  o_wide : Own K mg "_law_wide" s_wide ["_law_pen", "_law_many"] f_wide d_wide
  f_boxes : Addr
  d_boxes : FuncData
  o_boxes : Own K mg "_law_boxes" s_boxes ["_law_pen", "_law_most"] f_boxes d_boxes
  f_stretched : Addr
  d_stretched : FuncData
  o_stretched : Own K mg "_law_stretched" s_stretched ["_law_boxes_here", "_law_by", "_law_off"] f_stretched d_stretched
  f_stretch : Addr
  d_stretch : FuncData
  o_stretch : Own K mg "_law_stretch" s_stretch ["_law_pen"] f_stretch d_stretch
  f_names : Addr
  d_names : FuncData
  o_names : Own K mg "_law_names" s_names ["_law_pen", "_law_many"] f_names d_names
  f_world : Addr
  d_world : FuncData
  o_world : Own K mg "_law_world" s_world ["_law_pen"] f_world d_world
  f_spot : Addr
  d_spot : FuncData
  o_spot : Own K mg "_law_spot" s_spot ["_law_pen", "_law_world_here"] f_spot d_spot
  f_land : Addr
  d_land : FuncData
  o_land : Own K mg "_law_land" s_land ["_law_pen", "_law_world_here", "_law_time"] f_land d_land
  f_telling : Addr
  d_telling : FuncData
  o_telling : Own K mg "_law_telling" s_telling ["_law_pen", "_law_world_here"] f_telling d_telling
  f_marked : Addr
  d_marked : FuncData
  o_marked : Own K mg "_law_marked" s_marked ["_law_pen", "_law_world_here"] f_marked d_marked
  f_role : Addr
  d_role : FuncData
  o_role : Own K mg "_law_role" s_role ["_law_pen", "_law_marked_here", "_law_role_here"] f_role d_role
  f_drawn : Addr
  d_drawn : FuncData
  o_drawn : Own K mg "_law_drawn" s_drawn ["_law_pen", "_law_marked_here"] f_drawn d_drawn
  f_law : Addr
  d_law : FuncData
  o_law : Own K mg "law" s_law ["_law_script"] f_law d_law
  n_abs : mg "abs" = none
  n_all : mg "all" = none
  n_bool : mg "bool" = none
  n_int : mg "int" = none
  n_isinstance : mg "isinstance" = none
  n_len : mg "len" = none
  n_list : mg "list" = none
  n_max : mg "max" = none
  n_range : mg "range" = none
  n_repr : mg "repr" = none
  n_str : mg "str" = none
  n_tuple : mg "tuple" = none
  n_zip : mg "zip" = none
  t_MOST : Tok
  g_MOST : mg "MOST" = some (.int 999999999999 t_MOST)
  t_MOST_BOXES : Tok
  g_MOST_BOXES : mg "MOST_BOXES" = some (.int 6 t_MOST_BOXES)
  t_MOST_LETTERS : Tok
  g_MOST_LETTERS : mg "MOST_LETTERS" = some (.int 8 t_MOST_LETTERS)
  t_LAST_TIME : Tok
  g_LAST_TIME : mg "LAST_TIME" = some (.int 1000000000000 t_LAST_TIME)
local macro_rules | `(tactic| walk_at "hd") => `(tactic| (subst_vars; (try dsimp only); refine DL.seq_hide fun R hR => ?_))
/-! ### boxes -/
def gp (a b a' b' : Int) : Int := max 0 (max (a' - b) (a - b'))
def btw (x y X Y x' y' X' Y' : Int) : Int := max (gp x X x' X') (gp y Y y' Y')
structure B4 where
  x : Int
  y : Int
  X : Int
  Y : Int
def bD (b : B4) : PyData := .tuple [.tuple [.int b.x, .int b.y], .tuple [.int b.X, .int b.Y]]
def apartB (a b : B4) : Int := btw a.x a.y a.X a.Y b.x b.y b.X b.Y
def okB (b : B4) : Bool := decide (b.x ≤ b.X) && decide (b.y ≤ b.Y)
def strB (f ox oy : Int) (b : B4) : B4 := ⟨b.x * f + ox, b.y * f + oy, b.X * f + f - 1 + ox, b.Y * f + f - 1 + oy⟩
def toB : PyData → B4
  | .tuple [.tuple [.int x, .int y], .tuple [.int X, .int Y]] => ⟨x, y, X, Y⟩
  | _ => ⟨0, 0, 0, 0⟩
def onX (x : DV) (P : B4 → Prop) : Prop := ∃ b, x = .dat (bD b) ∧ P b
theorem onX_mk_q (b : B4) (P : B4 → Prop) : onX (.dat (bD b)) P = P b := propext ⟨fun ⟨c, e, h⟩ => by
  rw [DV.dat.injEq] at e
  rw [show b = c from congrArg toB e]
  exact h, fun h => ⟨b, rfl, h⟩⟩
theorem onX_m4_q (x y X Y : Int) (P : B4 → Prop) : onX (.dat (.tuple [.tuple [.int x, .int y], .tuple [.int X, .int Y]])) P = P ⟨x, y, X, Y⟩ := onX_mk_q ⟨x, y, X, Y⟩ P
theorem onX_ex {x : DV} {P : B4 → Prop} (h : onX x P) : ∃ b, x = .dat (bD b) ∧ P b := h
theorem onQ_bD_q (b : B4) (M : Mp) (P : List PyData → Prop) : onQ (.dat (bD b)) M P = P [.tuple [.int b.x, .int b.y], .tuple [.int b.X, .int b.Y]] := propext Iff.rfl
theorem onT_bD_q (b : B4) (P : List PyData → Prop) : onT (.dat (bD b)) P = P [.tuple [.int b.x, .int b.y], .tuple [.int b.X, .int b.Y]] := propext Iff.rfl
theorem map_toB : ∀ bs : List B4, (bs.map bD).map toB = bs
  | [] => rfl
  | b :: bs => by rw [List.map_cons, List.map_cons, map_toB bs]; rfl
def onBs (x : DV) (P : List B4 → Prop) : Prop := ∃ bs, x = .dat (.tuple (bs.map bD)) ∧ P bs
def onBl (x : DV) (P : List B4 → Prop) : Prop := ∃ bs, x = .dat (.list (bs.map bD)) ∧ P bs
theorem onBs_ex {x : DV} {P : List B4 → Prop} (h : onBs x P) : ∃ bs, x = .dat (.tuple (bs.map bD)) ∧ P bs := h
theorem onBl_ex {x : DV} {P : List B4 → Prop} (h : onBl x P) : ∃ bs, x = .dat (.list (bs.map bD)) ∧ P bs := h
theorem map_bD_inj {as bs : List B4} (h : as.map bD = bs.map bD) : as = bs := by
  rw [← map_toB as, h, map_toB]
theorem onBs_mk (bs : List B4) (P : List B4 → Prop) : onBs (.dat (.tuple (bs.map bD))) P = P bs := propext ⟨fun ⟨cs, e, h⟩ => by
  rw [DV.dat.injEq, PyData.tuple.injEq] at e
  rw [map_bD_inj e]
  exact h, fun h => ⟨bs, rfl, h⟩⟩
theorem onBl_mk (bs : List B4) (P : List B4 → Prop) : onBl (.dat (.list (bs.map bD))) P = P bs := propext ⟨fun ⟨cs, e, h⟩ => by
  rw [DV.dat.injEq, PyData.list.injEq] at e
  rw [map_bD_inj e]
  exact h, fun h => ⟨bs, rfl, h⟩⟩
/-! ### the program's own tests, by data -/
def isWholeD : PyData → Bool
  | .int _ => true
  | _ => false
def isShortD : PyData → Bool
  | .int i => decide (-999999999999 ≤ i) && decide (i ≤ 999999999999)
  | _ => false
def isAnyD : PyData → Bool
  | .tuple [a, b] => isWholeD a && isWholeD b
  | _ => false
def isSpotD : PyData → Bool
  | .tuple [a, b] => isShortD a && isShortD b
  | _ => false
def isBoxD : PyData → Bool
  | .tuple [a, b] => isSpotD a && (isSpotD b && okB (toB (.tuple [a, b])))
  | _ => false
def chB : List B4 → Bool
  | a :: b :: l => decide (apartB a b ≤ 1) && chB (b :: l)
  | _ => true
def isShapeD : PyData → Bool
  | .tuple ds => (decide (1 ≤ ds.length) && decide (ds.length ≤ 6)) && (ds.all isBoxD && chB (ds.map toB))
  | _ => false
def letB (c : Nat) : Bool := decide (97 ≤ c) && decide (c ≤ 122)
def isNameD : PyData → Bool
  | .str s => (decide (1 ≤ s.length) && decide (s.length ≤ 8)) && s.cps.toList.all letB
  | _ => false
def okTx : PyData → Bool
  | .str s => decide (s.length ≤ 1000)
  | _ => true
def isTimeD : PyData → Bool
  | .int i => decide (0 ≤ i) && decide (i ≤ 1000000000000)
  | _ => false
def isWobD : PyData → Bool
  | .int i => decide (0 ≤ i) && decide (i ≤ 999999999999)
  | _ => false
def landD : List PyData → Bool
  | [o, s, v] => (isS o (Str.ofString "") || isNameD o) && (isShapeD s && isWobD v)
  | _ => false
def spotD : List PyData → Bool
  | [s] => isSpotD s
  | _ => false
def restD (k : PyData) (l : List PyData) : Bool :=
  if isS k (Str.ofString "land") = true then landD l else if isS k (Str.ofString "spot") = true then spotD l else l.isEmpty && (isS k (Str.ofString "drop") || isS k (Str.ofString "free"))
def isTellingD : PyData → Bool
  | .tuple (k :: t :: n :: l) => isTimeD t && (isNameD n && restD k l)
  | _ => false
def okTl : PyData → Bool
  | .tuple ds => ds.all okTx
  | _ => true
def spW : DSp := fun xs M Φ => on1 xs fun x => onD x fun d => Φ (.dat (.bool (isWholeD d))) M
theorem spW_q (xs : List DV) (M : Mp) (Φ : DK) : spW xs M Φ = (on1 xs fun x => onD x fun d => Φ (.dat (.bool (isWholeD d))) M) := propext Iff.rfl
def spSh : DSp := fun xs M Φ => on1 xs fun x => onD x fun d => Φ (.dat (.bool (isShortD d))) M
theorem spSh_q (xs : List DV) (M : Mp) (Φ : DK) : spSh xs M Φ = (on1 xs fun x => onD x fun d => Φ (.dat (.bool (isShortD d))) M) := propext Iff.rfl
def spAs : DSp := fun xs M Φ => on1 xs fun x => onD x fun d => Φ (.dat (.bool (isAnyD d))) M
theorem spAs_q (xs : List DV) (M : Mp) (Φ : DK) : spAs xs M Φ = (on1 xs fun x => onD x fun d => Φ (.dat (.bool (isAnyD d))) M) := propext Iff.rfl
def spSp : DSp := fun xs M Φ => on1 xs fun x => onD x fun d => Φ (.dat (.bool (isSpotD d))) M
theorem spSp_q (xs : List DV) (M : Mp) (Φ : DK) : spSp xs M Φ = (on1 xs fun x => onD x fun d => Φ (.dat (.bool (isSpotD d))) M) := propext Iff.rfl
def spBx : DSp := fun xs M Φ => on1 xs fun x => onD x fun d => Φ (.dat (.bool (isBoxD d))) M
theorem spBx_q (xs : List DV) (M : Mp) (Φ : DK) : spBx xs M Φ = (on1 xs fun x => onD x fun d => Φ (.dat (.bool (isBoxD d))) M) := propext Iff.rfl
def spShape : DSp := fun xs M Φ => on1 xs fun x => onD x fun d => Φ (.dat (.bool (isShapeD d))) M
theorem spShape_q (xs : List DV) (M : Mp) (Φ : DK) : spShape xs M Φ = (on1 xs fun x => onD x fun d => Φ (.dat (.bool (isShapeD d))) M) := propext Iff.rfl
def spT : DSp := fun xs M Φ => on1 xs fun x => onD x fun d => Φ (.dat (.bool (isTimeD d))) M
theorem spT_q (xs : List DV) (M : Mp) (Φ : DK) : spT xs M Φ = (on1 xs fun x => onD x fun d => Φ (.dat (.bool (isTimeD d))) M) := propext Iff.rfl
def spWob : DSp := fun xs M Φ => on1 xs fun x => onD x fun d => Φ (.dat (.bool (isWobD d))) M
theorem spWob_q (xs : List DV) (M : Mp) (Φ : DK) : spWob xs M Φ = (on1 xs fun x => onD x fun d => Φ (.dat (.bool (isWobD d))) M) := propext Iff.rfl
def spN : DSp := fun xs M Φ => on1 xs fun x => onD x fun d => okTx d = true ∧ Φ (.dat (.bool (isNameD d))) M
theorem spN_q (xs : List DV) (M : Mp) (Φ : DK) : spN xs M Φ = (on1 xs fun x => onD x fun d => okTx d = true ∧ Φ (.dat (.bool (isNameD d))) M) := propext Iff.rfl
def spNe : DSp := fun xs M Φ => on1 xs fun x => onD x fun d => okTx d = true ∧ Φ (.dat (.bool (isS d (Str.ofString "") || isNameD d))) M
theorem spNe_q (xs : List DV) (M : Mp) (Φ : DK) : spNe xs M Φ = (on1 xs fun x => onD x fun d => okTx d = true ∧ Φ (.dat (.bool (isS d (Str.ofString "") || isNameD d))) M) := propext Iff.rfl
def spTell : DSp := fun xs M Φ => on1 xs fun x => onD x fun d => okTl d = true ∧ Φ (.dat (.bool (isTellingD d))) M
theorem spTell_q (xs : List DV) (M : Mp) (Φ : DK) : spTell xs M Φ = (on1 xs fun x => onD x fun d => okTl d = true ∧ Φ (.dat (.bool (isTellingD d))) M) := propext Iff.rfl
def spHas : DSp := fun xs M Φ => on1 xs fun x => onX x fun b => Φ (.dat (.bool (okB b))) M
theorem spHas_q (xs : List DV) (M : Mp) (Φ : DK) : spHas xs M Φ = (on1 xs fun x => onX x fun b => Φ (.dat (.bool (okB b))) M) := propext Iff.rfl
def spGap : DSp := fun xs M Φ => on3 xs fun x y z => onX x fun a => onX y fun b => onI z fun i => (i = 0 ∨ i = 1) ∧ Φ (.dat (.int (if i = 0 then gp a.x a.X b.x b.X else gp a.y a.Y b.y b.Y))) M
theorem spGap_q (xs : List DV) (M : Mp) (Φ : DK) : spGap xs M Φ = (on3 xs fun x y z => onX x fun a => onX y fun b => onI z fun i => (i = 0 ∨ i = 1) ∧ Φ (.dat (.int (if i = 0 then gp a.x a.X b.x b.X else gp a.y a.Y b.y b.Y))) M) := propext Iff.rfl
def spBetween : DSp := fun xs M Φ => on2 xs fun x y => onX x fun a => onX y fun b => Φ (.dat (.int (apartB a b))) M
theorem spBetween_q (xs : List DV) (M : Mp) (Φ : DK) : spBetween xs M Φ = (on2 xs fun x y => onX x fun a => onX y fun b => Φ (.dat (.int (apartB a b))) M) := propext Iff.rfl
def spChain : DSp := fun xs M Φ => on1 xs fun x => onBs x fun bs => bs.length ≤ 6 ∧ Φ (.dat (.bool (chB bs))) M
theorem spChain_q (xs : List DV) (M : Mp) (Φ : DK) : spChain xs M Φ = (on1 xs fun x => onBs x fun bs => bs.length ≤ 6 ∧ Φ (.dat (.bool (chB bs))) M) := propext Iff.rfl
local macro_rules | `(tactic| walk_at "rk") => `(tactic| try simp (config := { maxSteps := 10000000 }) only [↓onV_mk_q, ↓onI_mk_q, ↓onB_mk_q, ↓onS_mk_q, ↓onT_mk_q, ↓onL_mk_q, ↓onD_mk_q, ↓onO_mk_q, ↓onOL_mk_q, ↓onOC_mk_q, ↓onQ_t_q, ↓onQ_l_q, ↓onQ_o_q, ↓onK_l_q, ↓onK_o_q, ↓on1_mk_q, ↓on2_mk_q, ↓on3_mk_q, ↓on4_mk_q, ↓on5_mk_q, ↓on6_mk_q, ↓onDs_0_q, ↓onDs_1_q, ↓onDs_2_q, ↓onDs_3_q, ↓onDs_4_q, ↓onDs_5_q, ↓onDs_6_q, ↓onDs_7_q, ↓onDs_8_q, ↓onDs_9_q, ↓onDs_10_q, ↓onDs_11_q, ↓onDs_12_q, ↓dVar_q, ↓dC_q, ↓dTy_q, ↓dOp_q, ↓dB_q, ↓dChain_q, ↓dAnd_q, ↓dOr_q, ↓dNot_q, ↓dAndV_q, ↓dOrV_q, ↓dNotV_q, ↓dIf_q, ↓dUnI_q, ↓δI_q, ↓δI0_q, ↓δB_q, ↓δCatT_q, ↓δCatL_q, ↓δCatLO_q, ↓dNil_q, ↓dCons_q, ↓dTup_q, ↓dLst_q, ↓dLstO_q, ↓dFrz_q, ↓onAt_0_q, ↓onAt_1_q, ↓onAt_2_q, ↓onAt_3_q, ↓onAt_4_q, ↓onAt_5_q, ↓onAt_6_q, ↓onAt_7_q, ↓δIx_q, ↓dCB_q, ↓δLen_q, ↓δLenS_q, ↓δStrI_q, ↓δAbs_q, ↓δ2I_q, ↓δListOf_q, ↓δRepr_q, ↓δIsi_mk_q, ↓eqD_ii_q, ↓eqD_ss_q, ↓eqD_bb_q, ↓δEq_q, ↓δNe_q, ↓δNeS_q, ↓δEqS_q, ↓dNoPart_q, ↓dPart_q, ↓dSlT_q, ↓dNext_q, ↓dSeq_q, ↓dBreak_q, ↓dCont_q, ↓dDrop_q, ↓dRet_q, ↓dRetN_q, ↓dIfS_q, ↓dgName_q, ↓dgNil_mk_q, ↓dgCons_mk_q, ↓onNs_0_q, ↓onNs_s_q, ↓dgTup_q, ↓dgSub_q, ↓dAsg_q, ↓dAppend_q, ↓dForL_q, ↓dForT_q, ↓dForR1_q, ↓dForR2_q, ↓dCall_q, ↓dDict0_q, ↓onKey_i_q, ↓onKey_s_q, ↓dDict1_q, ↓dDict2_q, ↓dDict1T_q, ↓sp1_q, ↓srcL_q, ↓srcT_q, ↓srcR1_q, ↓srcR2_q, ↓dEnd_t_q, ↓dEnd_f_q, ↓dComp_q, ↓tcNo_q, ↓δSortI_q, ↓δMinI_q, ↓δMaxI_q, ↓δ3I_q, ↓δTupOf_q, ↓onW_t_q, ↓onW_l_q, ↓δIn_q, ↓dExtend_q, ↓dSlL_q, ↓δSumI_q, ↓δAllB_q, ↓δAnyB_q, ↓δIntB_q, ↓dPar_q, ↓δCatS_q, ↓dSlS_q, ↓dListR2_q, ↓dAug_q, ↓δMinP_q, ↓dDict0T_q, ↓dPutT_q, ↓onP_mk_q, ↓δInT_q, ↓dRevT_q, ↓dSlTW_q, ↓onFr_l_q, ↓onFr_o_q, ↓dFrzA_q, ↓srcM_q, ↓dWhile_q, ↓dPop_q, ↓onN_mk_q, ↓δIsN_q, ↓δNotIn_q, ↓δNotInT_q, CompRun_n, CompRun_c, TurnsU_n, TurnsU_c, dCompU_q, capD, startD, onAt_last, onKs, keysD, rngD_0, rngD_1, rngD_2, rngD_3, rngD_4, isNone_none, isNone_bool, isNone_int, isNone_str, isNone_list, isNone_tuple, isNone_dict,
  Option.bind_some, Option.bind_none, Option.join_some, Option.join_none, Option.getD_some, Option.map_some, Option.map_none, List.getElem?_cons_zero, List.getElem?_cons_succ, List.set_cons_zero, List.set_cons_succ, List.map_cons, List.map_nil, List.length_cons, List.length_nil, List.replicate, List.cons_append, List.nil_append, List.any_cons, List.any_nil,
  mset_same, mset_mset, ↓reduceIte, Bool.not_true, Bool.not_false, Bool.or_false, Bool.or_true, Bool.true_or, Bool.false_or, Bool.and_true, Bool.and_false, Bool.true_and, Bool.false_and, Bool.bne_true, Bool.bne_false, Bool.false_eq_true, eq_self, true_and, and_true, ixN_30, ixN_31, ixN_32, exists_eq_left', exists_eq_left, Option.some.injEq, Nat.reduceAdd, Nat.reduceSub, Nat.zero_add, Nat.reduceLT, Nat.reduceLeDiff, Int.reduceToNat, Int.reducePow, Int.reduceSub, Int.reduceMul, Int.reduceAdd, Int.reduceNeg,
  Int.reduceLT, Int.reduceLE, Int.reduceEq, Int.zero_add, Int.cast_ofNat_Int, decide_true, decide_false, sizeLine_eq, eqA_nil, eqA_cons, eqA_cn, eqA_nc, eq_tt, eq_ll, eq_nn, eq_ii, eq_ss, eq_bb, ty_int_none, ty_int_bool, ty_int_int, ty_int_str, ty_int_list, ty_int_tuple, ty_int_dict, ty_bool_none, ty_bool_bool, ty_bool_int, ty_bool_str, ty_bool_list, ty_bool_tuple, ty_bool_dict, ty_tuple_none, ty_tuple_bool, ty_tuple_int, ty_tuple_str, ty_tuple_list, ty_tuple_tuple, ty_tuple_dict, ty_list_none, ty_list_bool, ty_list_int, ty_list_str, ty_list_list, ty_list_tuple, ty_list_dict, ty_str_none, ty_str_bool, ty_str_int, ty_str_str, ty_str_list, ty_str_tuple, ty_str_dict, ty_dict_none, ty_dict_bool, ty_dict_int, ty_dict_str, ty_dict_list, ty_dict_tuple, ty_dict_dict, ↓onX_mk_q, ↓onX_m4_q, ↓onQ_bD_q, ↓onT_bD_q, onBs_mk, onBl_mk, ↓spW_q, ↓spSh_q, ↓spAs_q, ↓spSp_q, ↓spBx_q, ↓spShape_q, ↓spT_q, ↓spWob_q, ↓spN_q, ↓spNe_q, ↓spTell_q, ↓spHas_q, ↓spGap_q, ↓spBetween_q, ↓spChain_q, ↓dSlX_q, ↓δIxS_q, ↓δAddS_q, ↓δMulS_q, ↓δLeS_q, ↓srcX_q, ↓δListX_q, ↓δTupX_q, ↓dJoin_q, ↓dUpper_q, ↓onDs_13_q, ↓δEqX_q, ↓δInX_q, ↓dDict6_q, ↓dGetK_q, ↓δRep_q, ↓onDs_14_q, ↓δRepT_q, ↓δCatT0_q])
section
variable {P : Program} {w : World} {K : PySem.W.Frag} {mg : Str → Option Value} {base : Heap}
theorem ok_is_whole (T : Tx K mg) : FnOk P w K mg base CX0 1 T.f_is_whole T.d_is_whole ["thing"] (lift K spW) := by
  refine okD T.o_is_whole.F sc_is_whole (fun xs M Φ h => by obtain ⟨_, rfl, _⟩ := on1_ex h; rfl) fun cdv A outer s H E hr => ⟨_, (dss_one (ds_ret (de_and (de_callB (cd_isi (kit_int _)) rfl T.n_isinstance bt_isinstance (da_cons (de_var 0) (da_cons (de_ty rfl T.n_int bt_int) da_nil))) (de_one (de_not (de_callB (cd_isi (kit_bool _)) rfl T.n_isinstance bt_isinstance (da_cons (de_var 0) (da_cons (de_ty rfl T.n_bool bt_bool) da_nil)))))))), fun xs M Φ h => ?_⟩
  replace h := on1_ex h
  obtain ⟨x1, rfl, h⟩ := h
  replace h := onD_ex h
  obtain ⟨d, rfl, h⟩ := h
  walk_at "rk"
  cases d <;> simpa [isTyp, tyN, isWholeD] using h
theorem ok_is_short (T : Tx K mg) : FnOk P w K mg base CX0 2 T.f_is_short T.d_is_short ["thing"] (lift K spSh) := by
  have G_is_whole : FnOk P w K mg base CX0 1 T.f_is_whole T.d_is_whole ["thing"] (lift K spW) := ok_is_whole T
  refine okD T.o_is_short.F sc_is_short (fun xs M Φ h => by obtain ⟨_, rfl, _⟩ := on1_ex h; rfl) fun cdv A outer s H E hr => ⟨_, (dss_one (ds_ret (de_and (de_call G_is_whole (hr.mono (by first | decide | omega)) rfl T.o_is_whole.m T.o_is_whole.F.kp T.o_is_whole.b pass0 (da_cons (de_var 0) da_nil)) (de_one (de_chain od_le od_le (de_neg (de_globI rfl T.g_MOST)) (de_var 0) (de_globI rfl T.g_MOST)))))), fun xs M Φ h => ?_⟩
  replace h := on1_ex h
  obtain ⟨x1, rfl, h⟩ := h
  replace h := onD_ex h
  obtain ⟨d, rfl, h⟩ := h
  walk_at "rk"
  cases d with
  | int i =>
    walk_at "rk"
    simp only [isWholeD]
    walk_at "rk"
    refine cases_true (fun h1 => ?_) fun h1 => ?_
    · simpa [isShortD, h1] using h
    · simpa [isShortD, h1] using h
  | _ => simpa [isWholeD, isShortD] using h
theorem two_of {α : Type} {ds : List α} (h : ds.length = 2) : ∃ a b, ds = [a, b] := by
  match ds, h with
  | [a, b], _ => exact ⟨a, b, rfl⟩
theorem any_ne {ds : List PyData} (h : ds.length ≠ 2) : isAnyD (.tuple ds) = false ∧ isSpotD (.tuple ds) = false ∧ isBoxD (.tuple ds) = false := by
  match ds, h with
  | [], _ => exact ⟨rfl, rfl, rfl⟩
  | [_], _ => exact ⟨rfl, rfl, rfl⟩
  | [_, _], h => exact absurd rfl h
  | _ :: _ :: _ :: _, _ => exact ⟨rfl, rfl, rfl⟩
theorem whole_of {d : PyData} (h : isWholeD d = true) : ∃ i, d = .int i := by
  cases d <;> first | exact ⟨_, rfl⟩ | cases h
theorem short_whole {d : PyData} (h : isWholeD d = false) : isShortD d = false := by
  cases d <;> first | rfl | cases h
theorem len2 (n : Nat) : decide ((n : Int) = 2) = decide (n = 2) := decide_eq_decide.mpr (by omega)
theorem ok_is_any_spot (T : Tx K mg) : FnOk P w K mg base CX0 2 T.f_is_any_spot T.d_is_any_spot ["thing"] (lift K spAs) := by
  have G_is_whole : FnOk P w K mg base CX0 1 T.f_is_whole T.d_is_whole ["thing"] (lift K spW) := ok_is_whole T
  refine okD T.o_is_any_spot.F sc_is_any_spot (fun xs M Φ h => by obtain ⟨_, rfl, _⟩ := on1_ex h; rfl) fun cdv A outer s H E hr => ⟨_, (dss_one (ds_ret (de_and (de_callB (cd_isi (kit_tuple _)) rfl T.n_isinstance bt_isinstance (da_cons (de_var 0) (da_cons (de_ty rfl T.n_tuple bt_tuple) da_nil))) (de_and (de_cmp (od_eq hr) (de_callB cd_len rfl T.n_len bt_len (da_cons (de_var 0) da_nil)) de_int) (de_and (de_call G_is_whole (hr.mono (by first | decide | omega)) rfl T.o_is_whole.m T.o_is_whole.F.kp T.o_is_whole.b pass0 (da_cons (de_ix (de_var 0) de_int) da_nil)) (de_one (de_call G_is_whole (hr.mono (by first | decide | omega)) rfl T.o_is_whole.m T.o_is_whole.F.kp T.o_is_whole.b pass0 (da_cons (de_ix (de_var 0) de_int) da_nil)))))))), fun xs M Φ h => ?_⟩
  replace h := on1_ex h
  obtain ⟨x1, rfl, h⟩ := h
  replace h := onD_ex h
  obtain ⟨d, rfl, h⟩ := h
  cases d with
  | tuple ds =>
    walk_at "rk"
    rw [len2]
    refine cases_true (fun h1 => ?_) fun h1 => ?_
    · obtain ⟨a, b, rfl⟩ := two_of h1
      walk_at "rk"
      cases q : isWholeD a with
      | true =>
        walk_at "rk"
        simpa [isAnyD, q] using h
      | false =>
        walk_at "rk"
        simpa [isAnyD, q] using h
    · rw [(any_ne h1).1] at h
      exact h
  | _ =>
    walk_at "rk"
    exact h
theorem any_of {d : PyData} (h : isAnyD d = true) : ∃ x y, d = .tuple [.int x, .int y] := by
  cases d with
  | tuple ds =>
    by_cases hl : ds.length = 2
    · obtain ⟨a, b, rfl⟩ := two_of hl
      have h' : isWholeD a = true ∧ isWholeD b = true := by simpa [isAnyD] using h
      obtain ⟨x, rfl⟩ := whole_of h'.1
      obtain ⟨y, rfl⟩ := whole_of h'.2
      exact ⟨x, y, rfl⟩
    · rw [(any_ne hl).1] at h
      cases h
  | _ => cases h
theorem spot_any {d : PyData} (h : isAnyD d = false) : isSpotD d = false := by
  cases d with
  | tuple ds =>
    by_cases hl : ds.length = 2
    · obtain ⟨a, b, rfl⟩ := two_of hl
      have h' : isWholeD a = false ∨ isWholeD b = false := by
        have : (isWholeD a && isWholeD b) = false := h
        exact Bool.and_eq_false_iff.mp this
      show (isShortD a && isShortD b) = false
      rcases h' with h' | h'
      · rw [short_whole h']
        rfl
      · rw [short_whole h', Bool.and_false]
    · exact (any_ne hl).2.1
  | _ => rfl
theorem spot_of {d : PyData} (h : isSpotD d = true) : ∃ x y : Int, d = .tuple [.int x, .int y] ∧ isShortD (.int x) = true ∧ isShortD (.int y) = true := by
  cases q : isAnyD d with
  | false => rw [spot_any q] at h; cases h
  | true =>
    obtain ⟨x, y, rfl⟩ := any_of q
    exact ⟨x, y, rfl, Bool.and_eq_true_iff.mp h⟩
theorem ok_is_spot (T : Tx K mg) : FnOk P w K mg base CX0 3 T.f_is_spot T.d_is_spot ["thing"] (lift K spSp) := by
  have G_is_any_spot : FnOk P w K mg base CX0 2 T.f_is_any_spot T.d_is_any_spot ["thing"] (lift K spAs) := ok_is_any_spot T
  have G_is_short : FnOk P w K mg base CX0 2 T.f_is_short T.d_is_short ["thing"] (lift K spSh) := ok_is_short T
  refine okD T.o_is_spot.F sc_is_spot (fun xs M Φ h => by obtain ⟨_, rfl, _⟩ := on1_ex h; rfl) fun cdv A outer s H E hr => ⟨_, (dss_one (ds_ret (de_and (de_call G_is_any_spot (hr.mono (by first | decide | omega)) rfl T.o_is_any_spot.m T.o_is_any_spot.F.kp T.o_is_any_spot.b pass0 (da_cons (de_var 0) da_nil)) (de_and (de_call G_is_short (hr.mono (by first | decide | omega)) rfl T.o_is_short.m T.o_is_short.F.kp T.o_is_short.b pass0 (da_cons (de_ix (de_var 0) de_int) da_nil)) (de_one (de_call G_is_short (hr.mono (by first | decide | omega)) rfl T.o_is_short.m T.o_is_short.F.kp T.o_is_short.b pass0 (da_cons (de_ix (de_var 0) de_int) da_nil))))))), fun xs M Φ h => ?_⟩
  replace h := on1_ex h
  obtain ⟨x1, rfl, h⟩ := h
  replace h := onD_ex h
  obtain ⟨d, rfl, h⟩ := h
  walk_at "rk"
  cases q : isAnyD d with
  | false =>
    walk_at "rk"
    rw [spot_any q] at h
    exact h
  | true =>
    obtain ⟨x, y, rfl⟩ := any_of q
    walk_at "rk"
    replace h : Φ (.dat (.bool (isShortD (.int x) && isShortD (.int y)))) M := h
    cases q1 : isShortD (.int x) with
    | false =>
      rw [q1] at h
      walk_at "rk"
      exact h
    | true =>
      rw [q1] at h
      walk_at "rk"
      exact h
theorem ok_has_spots (T : Tx K mg) : FnOk P w K mg base CX0 1 T.f_has_spots T.d_has_spots ["box"] (lift K spHas) := by
  refine okD T.o_has_spots.F sc_has_spots (fun xs M Φ h => by obtain ⟨_, rfl, _⟩ := on1_ex h; rfl) fun cdv A outer s H E hr => ⟨_, (dss_one (ds_ret (de_and (de_cmp od_le (de_ix (de_ix (de_var 0) de_int) de_int) (de_ix (de_ix (de_var 0) de_int) de_int)) (de_one (de_cmp od_le (de_ix (de_ix (de_var 0) de_int) de_int) (de_ix (de_ix (de_var 0) de_int) de_int)))))), fun xs M Φ h => ?_⟩
  replace h := on1_ex h
  obtain ⟨x1, rfl, h⟩ := h
  replace h := onX_ex h
  obtain ⟨b, rfl, h⟩ := h
  walk_at "rk"
  refine cases_true (fun h1 => ?_) (fun h1 => ?_)
  · unfold okB at h
    simpa [h1] using h
  · unfold okB at h
    simpa [h1] using h
theorem box_of {d : PyData} (h : isBoxD d = true) : ∃ b, d = bD b ∧ okB b = true := by
  cases d with
  | tuple ds =>
    by_cases hl : ds.length = 2
    · obtain ⟨a, b, rfl⟩ := two_of hl
      have h' : isSpotD a = true ∧ isSpotD b = true ∧ okB (toB (.tuple [a, b])) = true := by simpa [isBoxD] using h
      obtain ⟨x, y, rfl, _⟩ := spot_of h'.1
      obtain ⟨x', y', rfl, _⟩ := spot_of h'.2.1
      exact ⟨⟨x, y, x', y'⟩, rfl, h'.2.2⟩
    · rw [(any_ne hl).2.2] at h
      cases h
  | _ => cases h
theorem ok_is_box (T : Tx K mg) : FnOk P w K mg base CX0 4 T.f_is_box T.d_is_box ["thing"] (lift K spBx) := by
  have G_is_spot : FnOk P w K mg base CX0 3 T.f_is_spot T.d_is_spot ["thing"] (lift K spSp) := ok_is_spot T
  have G_has_spots : FnOk P w K mg base CX0 1 T.f_has_spots T.d_has_spots ["box"] (lift K spHas) := ok_has_spots T
  refine okD T.o_is_box.F sc_is_box (fun xs M Φ h => by obtain ⟨_, rfl, _⟩ := on1_ex h; rfl) fun cdv A outer s H E hr => ⟨_, (dss_cons (ds_if (DW.dt (dw_or (dt_not (dt_val (de_callB (cd_isi (kit_tuple _)) rfl T.n_isinstance bt_isinstance (da_cons (de_var 0) (da_cons (de_ty rfl T.n_tuple bt_tuple) da_nil))))) (dw_or1 (dt_cmp (od_ne hr) (de_callB cd_len rfl T.n_len bt_len (da_cons (de_var 0) da_nil)) de_int)))) (dss_one (ds_ret de_bl)) dss_nil)
  (dss_one (ds_ret (de_and (de_call G_is_spot (hr.mono (by first | decide | omega)) rfl T.o_is_spot.m T.o_is_spot.F.kp T.o_is_spot.b pass0 (da_cons (de_ix (de_var 0) de_int) da_nil)) (de_and (de_call G_is_spot (hr.mono (by first | decide | omega)) rfl T.o_is_spot.m T.o_is_spot.F.kp T.o_is_spot.b pass0 (da_cons (de_ix (de_var 0) de_int) da_nil)) (de_one (de_call G_has_spots (hr.mono (by first | decide | omega)) rfl T.o_has_spots.m T.o_has_spots.F.kp T.o_has_spots.b pass0 (da_cons (de_var 0) da_nil)))))))), fun xs M Φ h => ?_⟩
  replace h := on1_ex h
  obtain ⟨x1, rfl, h⟩ := h
  replace h := onD_ex h
  obtain ⟨d, rfl, h⟩ := h
  cases d with
  | tuple ds =>
    walk_at "hd"
    walk_at "rk"
    rw [len2]
    by_cases h1 : ds.length = 2
    · obtain ⟨a, b, rfl⟩ := two_of h1
      replace h : Φ (.dat (.bool (isSpotD a && (isSpotD b && okB (toB (.tuple [a, b])))))) M := h
      subst_vars
      walk_at "rk"
      cases q : isSpotD a with
      | false =>
        rw [q] at h
        walk_at "rk"
        exact h
      | true =>
        rw [q] at h
        walk_at "rk"
        cases q2 : isSpotD b with
        | false =>
          rw [q2] at h
          walk_at "rk"
          exact h
        | true =>
          rw [q2] at h
          obtain ⟨x, y, rfl, _⟩ := spot_of q
          obtain ⟨x', y', rfl, _⟩ := spot_of q2
          walk_at "rk"
          exact h
    · rw [decide_eq_false h1]
      rw [(any_ne h1).2.2] at h
      walk_at "rk"
      exact h
  | _ =>
    walk_at "rk"
    exact h
theorem ok_gap (T : Tx K mg) : FnOk P w K mg base CX0 1 T.f_gap T.d_gap ["one", "other", "way"] (lift K spGap) := by
  refine okD T.o_gap.F sc_gap (fun xs M Φ h => by obtain ⟨_, _, _, rfl, _⟩ := on3_ex h; rfl) fun cdv A outer s H E hr => ⟨_, (dss_one (ds_ret (de_callB (cd_max3 rfl) rfl T.n_max bt_max (da_cons de_int (da_cons (de_op od_sub (de_ix (de_ix (de_var 1) de_int) (de_var 2)) (de_ix (de_ix (de_var 0) de_int) (de_var 2))) (da_cons (de_op od_sub (de_ix (de_ix (de_var 0) de_int) (de_var 2)) (de_ix (de_ix (de_var 1) de_int) (de_var 2))) da_nil)))))), fun xs M Φ h => ?_⟩
  replace h := on3_ex h
  obtain ⟨x1, x2, x3, rfl, h⟩ := h
  replace h := onX_ex h
  obtain ⟨a, rfl, h⟩ := h
  replace h := onX_ex h
  obtain ⟨b, rfl, h⟩ := h
  replace h := onI_ex h
  obtain ⟨i, rfl, hi, h⟩ := h
  rcases hi with rfl | rfl
  · walk_at "rk"
    exact h
  · walk_at "rk"
    exact h
theorem ok_steps_between (T : Tx K mg) : FnOk P w K mg base CX0 2 T.f_steps_between T.d_steps_between ["one", "other"] (lift K spBetween) := by
  have G_gap : FnOk P w K mg base CX0 1 T.f_gap T.d_gap ["one", "other", "way"] (lift K spGap) := ok_gap T
  refine okD T.o_steps_between.F sc_steps_between (fun xs M Φ h => by obtain ⟨_, _, rfl, _⟩ := on2_ex h; rfl) fun cdv A outer s H E hr => ⟨_, (dss_one (ds_ret (de_callB (cd_max2 rfl) rfl T.n_max bt_max (da_cons (de_call G_gap (hr.mono (by first | decide | omega)) rfl T.o_gap.m T.o_gap.F.kp T.o_gap.b pass0 (da_cons (de_var 0) (da_cons (de_var 1) (da_cons de_int da_nil)))) (da_cons (de_call G_gap (hr.mono (by first | decide | omega)) rfl T.o_gap.m T.o_gap.F.kp T.o_gap.b pass0 (da_cons (de_var 0) (da_cons (de_var 1) (da_cons de_int da_nil)))) da_nil))))), fun xs M Φ h => ?_⟩
  replace h := on2_ex h
  obtain ⟨x1, x2, rfl, h⟩ := h
  replace h := onX_ex h
  obtain ⟨a, rfl, h⟩ := h
  replace h := onX_ex h
  obtain ⟨b, rfl, h⟩ := h
  walk_at "rk"
  exact ⟨.inl trivial, .inr trivial, h⟩
def stB (bs : List B4) (j : Nat) : Bool := match bs[j]?, bs[j + 1]? with
  | some a, some b => decide (apartB a b ≤ 1)
  | _, _ => true
theorem chB_all : ∀ bs : List B4, chB bs = (List.range (bs.length - 1)).all (stB bs)
  | [] => rfl
  | [_] => rfl
  | a :: b :: l => by
    have ih := chB_all (b :: l)
    show (decide (apartB a b ≤ 1) && chB (b :: l)) = (List.range (l.length + 1)).all (stB (a :: b :: l))
    rw [ih, List.range_succ_eq_map, List.all_cons, List.all_map]
    rfl
theorem ok_is_chain (T : Tx K mg) : FnOk P w K mg base CX0 3 T.f_is_chain T.d_is_chain ["boxes"] (lift K spChain) := by
  have G_steps_between : FnOk P w K mg base CX0 2 T.f_steps_between T.d_steps_between ["one", "other"] (lift K spBetween) := ok_steps_between T
  refine okD T.o_is_chain.F sc_is_chain (fun xs M Φ h => by obtain ⟨_, rfl, _⟩ := on1_ex h; rfl) fun cdv A outer s H E hr => ⟨_, (dss_one (ds_ret (de_callB (cd_all rfl) rfl T.n_all bt_all (da_cons (de_comp false (compOk_of (sc := defScope s_is_chain) (XN := ["boxes"]) (N := ["k", "boxes"]) (ix := [none, some 0]) rfl rfl (by decide +kernel)) (di_range2 rfl T.n_range (da_cons de_int (da_cons (de_callB cd_len rfl T.n_len bt_len (da_cons (de_var 0) da_nil)) da_nil))) (fun C ex s H => (dg_name 0 (show List.Nodup (["k", "boxes"] : List Str) by decide +kernel))) (fun C ex s H => dts_nil) (fun C ex s H => (de_cmp od_le (de_call G_steps_between (hr.mono (by first | decide | omega)) rfl T.o_steps_between.m T.o_steps_between.F.kp T.o_steps_between.b pass0 (da_cons (de_ix (de_var 1) (de_op od_sub (de_var 0) de_int)) (da_cons (de_ix (de_var 1) (de_var 0)) da_nil))) de_int)) rfl) da_nil)))), fun xs M Φ h => ?_⟩
  replace h := on1_ex h
  obtain ⟨x1, rfl, h⟩ := h
  replace h := onBs_ex h
  obtain ⟨bs, rfl, hl, h⟩ := h
  walk_at "rk"
  rw [List.length_map]
  refine ⟨⟨⟨by decide, by decide⟩, ⟨by omega, by omega⟩⟩, by rw [rngD_len]; omega, fun i acc M' => acc = ((List.range i).map (stB bs)).map PyData.bool ∧ M' = M, ⟨rfl, rfl⟩, ?_, ?_⟩
  · rintro i d acc M' hd ⟨rfl, rfl⟩
    have hi : i < ((bs.length : Int) - 1).toNat := by have := (List.getElem?_eq_some_iff.mp hd).1; rw [rngD_len] at this; exact this
    rw [rngD_get hi] at hd
    cases hd
    walk_at "rk"
    have hi' : i + 1 < bs.length := by omega
    have e1 : L2.atI (bs.map bD) (1 + (i : Int) - 1) = some (bD bs[i]) := by
      rw [show 1 + (i : Int) - 1 = (i : Int) by omega]
      exact atI_nat (by rw [List.getElem?_map, List.getElem?_eq_getElem (by omega)]; rfl)
    have e2 : L2.atI (bs.map bD) (1 + (i : Int)) = some (bD bs[i + 1]) := by
      rw [show 1 + (i : Int) = ((i + 1 : Nat) : Int) by omega]
      exact atI_nat (by rw [List.getElem?_map, List.getElem?_eq_getElem (by omega)]; rfl)
    refine onAt_of e1 (onAt_of e2 ?_)
    walk_at "rk"
    rw [List.range_succ, List.map_append, List.map_append]
    unfold stB
    simp [List.getElem?_eq_getElem, hi', show i < bs.length by omega]
  · rintro acc M' ⟨rfl, rfl⟩
    refine ⟨_, rfl, ?_⟩
    rw [rngD_len, List.all_map, show ((bs.length : Int) - 1).toNat = bs.length - 1 by omega]
    rw [chB_all] at h
    exact h
theorem cases_not {p : Prop} [Decidable p] {A B : Prop} (h1 : ¬ p → A) (h2 : p → B) : if (!decide p) = true then A else B := by
  by_cases h : p
  · rw [decide_eq_true h, if_neg (by decide)]
    exact h2 h
  · rw [decide_eq_false h, if_pos (by decide)]
    exact h1 h
theorem boxes_of : ∀ {ds : List PyData}, ds.all isBoxD = true → ∃ bs : List B4, ds = bs.map bD
  | [], _ => ⟨[], rfl⟩
  | d :: ds, h => by
    rw [List.all_cons, Bool.and_eq_true] at h
    obtain ⟨b, rfl, _⟩ := box_of h.1
    obtain ⟨bs, rfl⟩ := boxes_of h.2
    exact ⟨b :: bs, rfl⟩
theorem shape_len {ds : List PyData} (h : ¬ 1 ≤ (ds.length : Int) ∨ ¬ (ds.length : Int) ≤ 6) : isShapeD (.tuple ds) = false := by
  show ((decide (1 ≤ ds.length) && decide (ds.length ≤ 6)) && _) = false
  rcases h with h | h
  · rw [decide_eq_false (show ¬ 1 ≤ ds.length by omega)]
    rfl
  · rw [decide_eq_false (show ¬ ds.length ≤ 6 by omega), Bool.and_false]
    rfl
theorem ok_is_shape (T : Tx K mg) : FnOk P w K mg base CX0 5 T.f_is_shape T.d_is_shape ["thing"] (lift K spShape) := by
  have G_is_chain : FnOk P w K mg base CX0 3 T.f_is_chain T.d_is_chain ["boxes"] (lift K spChain) := ok_is_chain T
  have G_is_box : FnOk P w K mg base CX0 4 T.f_is_box T.d_is_box ["thing"] (lift K spBx) := ok_is_box T
  refine okD T.o_is_shape.F sc_is_shape (fun xs M Φ h => by obtain ⟨_, rfl, _⟩ := on1_ex h; rfl) fun cdv A outer s H E hr => ⟨_, (dss_cons (ds_if (DW.dt (dw_or (dt_not (dt_val (de_callB (cd_isi (kit_tuple _)) rfl T.n_isinstance bt_isinstance (da_cons (de_var 0) (da_cons (de_ty rfl T.n_tuple bt_tuple) da_nil))))) (dw_or1 (dt_not (dt_chain od_le od_le de_int (de_callB cd_len rfl T.n_len bt_len (da_cons (de_var 0) da_nil)) (de_globI rfl T.g_MOST_BOXES)))))) (dss_one (ds_ret de_bl)) dss_nil)
  (dss_one (ds_ret (de_and (de_callB (cd_all rfl) rfl T.n_all bt_all (da_cons (de_comp false (compOk_of (sc := defScope s_is_shape) (XN := ["thing"]) (N := ["box"]) (ix := [none]) rfl rfl (by decide +kernel)) (di_tup (de_var 0)) (fun C ex s H => (dg_name 0 (show List.Nodup (["box"] : List Str) by decide +kernel))) (fun C ex s H => dts_nil) (fun C ex s H => (de_call G_is_box (hr.mono (by first | decide | omega)) rfl T.o_is_box.m T.o_is_box.F.kp T.o_is_box.b pass0 (da_cons (de_var 0) da_nil))) rfl) da_nil)) (de_one (de_call G_is_chain (hr.mono (by first | decide | omega)) rfl T.o_is_chain.m T.o_is_chain.F.kp T.o_is_chain.b pass0 (da_cons (de_var 0) da_nil))))))), fun xs M Φ h => ?_⟩
  replace h := on1_ex h
  obtain ⟨x1, rfl, h⟩ := h
  replace h := onD_ex h
  obtain ⟨d, rfl, h⟩ := h
  cases d with
  | tuple ds =>
    walk_at "hd"
    walk_at "rk"
    refine cases_true (fun h1 => cases_not (fun h2 => ?_) fun h2 => ?_) fun h1 => ?_
    · rw [shape_len (.inr h2)] at h
      exact h
    · have e : isShapeD (.tuple ds) = (ds.all isBoxD && chB (ds.map toB)) := by
        show ((decide (1 ≤ ds.length) && decide (ds.length ≤ 6)) && _) = _
        rw [decide_eq_true (show 1 ≤ ds.length by omega), decide_eq_true (show ds.length ≤ 6 by omega)]
        rfl
      rw [e] at h
      subst_vars
      walk_at "rk"
      refine ⟨by omega, fun i acc M' => acc = ((ds.take i).map isBoxD).map PyData.bool ∧ M' = M, ⟨rfl, rfl⟩, ?_, ?_⟩
      · rintro i d acc M' hd ⟨rfl, rfl⟩
        walk_at "rk"
        rw [← take_snoc _ hd, List.map_append]
        rfl
      · rintro acc M' ⟨rfl, rfl⟩
        refine ⟨_, rfl, ?_⟩
        rw [List.take_length, List.all_map]
        show if ds.all isBoxD = true then _ else _
        cases q : ds.all isBoxD with
        | false =>
          rw [q] at h
          walk_at "rk"
          exact h
        | true =>
          rw [q] at h
          obtain ⟨bs, rfl⟩ := boxes_of q
          rw [map_toB] at h
          walk_at "rk"
          rw [List.length_map] at h2
          exact ⟨by omega, h⟩
    · rw [shape_len (.inl h1)] at h
      exact h
  | _ =>
    walk_at "rk"
    exact h
theorem ok_is_time (T : Tx K mg) : FnOk P w K mg base CX0 2 T.f_is_time T.d_is_time ["thing"] (lift K spT) := by
  have G_is_whole : FnOk P w K mg base CX0 1 T.f_is_whole T.d_is_whole ["thing"] (lift K spW) := ok_is_whole T
  refine okD T.o_is_time.F sc_is_time (fun xs M Φ h => by obtain ⟨_, rfl, _⟩ := on1_ex h; rfl) fun cdv A outer s H E hr => ⟨_, (dss_one (ds_ret (de_and (de_call G_is_whole (hr.mono (by first | decide | omega)) rfl T.o_is_whole.m T.o_is_whole.F.kp T.o_is_whole.b pass0 (da_cons (de_var 0) da_nil)) (de_one (de_chain od_le od_le de_int (de_var 0) (de_globI rfl T.g_LAST_TIME)))))), fun xs M Φ h => ?_⟩
  replace h := on1_ex h
  obtain ⟨x1, rfl, h⟩ := h
  replace h := onD_ex h
  obtain ⟨d, rfl, h⟩ := h
  walk_at "rk"
  cases d with
  | int i =>
    walk_at "rk"
    simp only [isWholeD]
    walk_at "rk"
    refine cases_true (fun h1 => ?_) fun h1 => ?_
    · simpa [isTimeD, h1] using h
    · simpa [isTimeD, h1] using h
  | _ => simpa [isWholeD, isTimeD] using h
theorem sg_lo (c : Nat) : (!decide ((⟨#[c]⟩ : Str).cps.toList < (Str.ofString "a").cps.toList)) = decide (97 ≤ c) := by
  rw [one_list, show (Str.ofString "a").cps.toList = [97] by decide +kernel]
  by_cases h : 97 ≤ c
  · rw [decide_eq_true h, decide_eq_false (fun z => by simp [List.cons_lt_cons_iff] at z; omega)]
    rfl
  · rw [decide_eq_false h, decide_eq_true (by simp [List.cons_lt_cons_iff]; omega)]
    rfl
theorem sg_hi (c : Nat) : (!decide ((Str.ofString "z").cps.toList < (⟨#[c]⟩ : Str).cps.toList)) = decide (c ≤ 122) := by
  rw [one_list, show (Str.ofString "z").cps.toList = [122] by decide +kernel]
  by_cases h : c ≤ 122
  · rw [decide_eq_true h, decide_eq_false (fun z => by simp [List.cons_lt_cons_iff] at z; omega)]
    rfl
  · rw [decide_eq_false h, decide_eq_true (by simp [List.cons_lt_cons_iff]; omega)]
    rfl
theorem isName_no {s : Str} (h : ¬ 1 ≤ (s.length : Int) ∨ ¬ (s.length : Int) ≤ 8) : isNameD (.str s) = false := by
  show ((decide (1 ≤ s.length) && decide (s.length ≤ 8)) && s.cps.toList.all letB) = false
  rcases h with h | h
  · rw [decide_eq_false (show ¬ 1 ≤ s.length by omega)]
    rfl
  · rw [decide_eq_false (show ¬ s.length ≤ 8 by omega), Bool.and_false]
    rfl
theorem ok_is_name (T : Tx K mg) : FnOk P w K mg base CX0 1 T.f_is_name T.d_is_name ["thing"] (lift K spN) := by
  refine okD T.o_is_name.F sc_is_name (fun xs M Φ h => by obtain ⟨_, rfl, _⟩ := on1_ex h; rfl) fun cdv A outer s H E hr => ⟨_, (dss_cons (ds_if (DW.dt (dw_or (dt_not (dt_val (de_callB (cd_isi (kit_str _)) rfl T.n_isinstance bt_isinstance (da_cons (de_var 0) (da_cons (de_ty rfl T.n_str bt_str) da_nil))))) (dw_or1 (dt_not (dt_chain od_le od_le de_int (de_callB cd_lenS rfl T.n_len bt_len (da_cons (de_var 0) da_nil)) (de_globI rfl T.g_MOST_LETTERS)))))) (dss_one (ds_ret de_bl)) dss_nil)
  (dss_one (ds_ret (de_callB (cd_all rfl) rfl T.n_all bt_all (da_cons (de_comp false (compOk_of (sc := defScope s_is_name) (XN := ["thing"]) (N := ["sign"]) (ix := [none]) rfl rfl (by decide +kernel)) (di_str (de_var 0)) (fun C ex s H => (dg_name 0 (show List.Nodup (["sign"] : List Str) by decide +kernel))) (fun C ex s H => dts_nil) (fun C ex s H => (de_chain od_leS od_leS de_str (de_var 0) de_str)) rfl) da_nil))))), fun xs M Φ h => ?_⟩
  replace h := on1_ex h
  obtain ⟨x1, rfl, h⟩ := h
  replace h := onD_ex h
  obtain ⟨d, rfl, hk, h⟩ := h
  cases d with
  | str s =>
    have hl : s.length ≤ 1000 := by simpa [okTx] using hk
    walk_at "hd"
    walk_at "rk"
    refine ⟨by omega, cases_true (fun h1 => cases_not (fun h2 => ?_) fun h2 => ?_) fun h1 => ?_⟩
    · rw [isName_no (.inr h2)] at h
      exact h
    · have e : isNameD (.str s) = s.cps.toList.all letB := by
        show ((decide (1 ≤ s.length) && decide (s.length ≤ 8)) && s.cps.toList.all letB) = _
        rw [decide_eq_true (show 1 ≤ s.length by omega), decide_eq_true (show s.length ≤ 8 by omega)]
        rfl
      rw [e] at h
      subst_vars
      walk_at "rk"
      refine ⟨by rw [List.length_map, str_len]; omega, fun i acc M' => acc = ((s.cps.toList.take i).map letB).map PyData.bool ∧ M' = M, ⟨rfl, rfl⟩, ?_, ?_⟩
      · rintro i d acc M' hd ⟨rfl, rfl⟩
        obtain ⟨c, ec, rfl⟩ := map_get hd
        unfold sgnD
        walk_at "rk"
        rw [sg_lo, sg_hi]
        refine cases_true (fun h3 => ?_) fun h3 => ?_
        · rw [← take_snoc _ ec, List.map_append]
          simp [letB, h3]
        · rw [← take_snoc _ ec, List.map_append]
          simp [letB, h3]
      · rintro acc M' ⟨rfl, rfl⟩
        refine ⟨_, rfl, ?_⟩
        rw [List.length_map, List.take_length, List.all_map]
        exact h
    · rw [isName_no (.inl h1)] at h
      exact h
  | _ =>
    walk_at "rk"
    simpa [isNameD] using h
theorem ok_is_name_or_empty (T : Tx K mg) : FnOk P w K mg base CX0 2 T.f_is_name_or_empty T.d_is_name_or_empty ["thing"] (lift K spNe) := by
  have G_is_name : FnOk P w K mg base CX0 1 T.f_is_name T.d_is_name ["thing"] (lift K spN) := ok_is_name T
  refine okD T.o_is_name_or_empty.F sc_is_name_or_empty (fun xs M Φ h => by obtain ⟨_, rfl, _⟩ := on1_ex h; rfl) fun cdv A outer s H E hr => ⟨_, (dss_one (ds_ret (de_or (de_cmp (od_eqX hr) (de_var 0) de_str) (de_one (de_call G_is_name (hr.mono (by first | decide | omega)) rfl T.o_is_name.m T.o_is_name.F.kp T.o_is_name.b pass0 (da_cons (de_var 0) da_nil)))))), fun xs M Φ h => ?_⟩
  replace h := on1_ex h
  obtain ⟨x1, rfl, h⟩ := h
  replace h := onD_ex h
  obtain ⟨d, rfl, hk, h⟩ := h
  walk_at "rk"
  cases q : isS d (Str.ofString "") with
  | true =>
    rw [q] at h
    walk_at "rk"
    exact h
  | false =>
    rw [q] at h
    walk_at "rk"
    exact ⟨hk, h⟩
theorem ok_is_wobble (T : Tx K mg) : FnOk P w K mg base CX0 3 T.f_is_wobble T.d_is_wobble ["thing"] (lift K spWob) := by
  have G_is_short : FnOk P w K mg base CX0 2 T.f_is_short T.d_is_short ["thing"] (lift K spSh) := ok_is_short T
  refine okD T.o_is_wobble.F sc_is_wobble (fun xs M Φ h => by obtain ⟨_, rfl, _⟩ := on1_ex h; rfl) fun cdv A outer s H E hr => ⟨_, (dss_one (ds_ret (de_and (de_call G_is_short (hr.mono (by first | decide | omega)) rfl T.o_is_short.m T.o_is_short.F.kp T.o_is_short.b pass0 (da_cons (de_var 0) da_nil)) (de_one (de_cmp od_ge (de_var 0) de_int))))), fun xs M Φ h => ?_⟩
  replace h := on1_ex h
  obtain ⟨x1, rfl, h⟩ := h
  replace h := onD_ex h
  obtain ⟨d, rfl, h⟩ := h
  walk_at "rk"
  cases d with
  | int i =>
    replace h : Φ (.dat (.bool (decide (0 ≤ i) && decide (i ≤ 999999999999)))) M := h
    walk_at "rk"
    show if (decide (-999999999999 ≤ i) && decide (i ≤ 999999999999)) = true then _ else _
    by_cases h1 : i ≤ 999999999999
    · by_cases h2 : 0 ≤ i
      · rw [decide_eq_true h1, decide_eq_true h2] at h
        rw [decide_eq_true h1, decide_eq_true (show -999999999999 ≤ i by omega)]
        walk_at "rk"
        rw [decide_eq_true h2]
        exact h
      · rw [decide_eq_false h2] at h
        rw [decide_eq_true h1, Bool.and_true]
        refine cases_true (fun h3 => ?_) fun h3 => ?_
        · walk_at "rk"
          rw [decide_eq_false h2]
          exact h
        · exact h
    · rw [decide_eq_false h1, Bool.and_false] at h
      rw [decide_eq_false h1, Bool.and_false]
      exact h
  | _ =>
    walk_at "rk"
    exact h
theorem tel_short {ds : List PyData} (h : ds.length < 3) : isTellingD (.tuple ds) = false := by
  match ds, h with
  | [], _ => rfl
  | [_], _ => rfl
  | [_, _], _ => rfl
theorem three_of {α : Type} {ds : List α} (h : ¬ ds.length < 3) : ∃ a b c l, ds = a :: b :: c :: l := by
  match ds, h with
  | [], h => exact absurd (by simp) h
  | [_], h => exact absurd (by simp) h
  | [_, _], h => exact absurd (by simp) h
  | a :: b :: c :: l, _ => exact ⟨a, b, c, l, rfl⟩
theorem three_is {α : Type} {ds : List α} (h : ds.length = 3) : ∃ a b c, ds = [a, b, c] := by
  match ds, h with
  | [a, b, c], _ => exact ⟨a, b, c, rfl⟩
theorem one_is {α : Type} {ds : List α} (h : ds.length = 1) : ∃ a, ds = [a] := by
  match ds, h with
  | [a], _ => exact ⟨a, rfl⟩
theorem land_ne {l : List PyData} (h : l.length ≠ 3) : landD l = false := by
  match l, h with
  | [], _ => rfl
  | [_], _ => rfl
  | [_, _], _ => rfl
  | [_, _, _], h => exact absurd rfl h
  | _ :: _ :: _ :: _ :: _, _ => rfl
theorem spot_ne {l : List PyData} (h : l.length ≠ 1) : spotD l = false := by
  match l, h with
  | [], _ => rfl
  | [_], h => exact absurd rfl h
  | _ :: _ :: _, _ => rfl
theorem ok_is_telling (T : Tx K mg) : FnOk P w K mg base CX0 6 T.f_is_telling T.d_is_telling ["thing"] (lift K spTell) := by
  have G_is_time : FnOk P w K mg base CX0 2 T.f_is_time T.d_is_time ["thing"] (lift K spT) := ok_is_time T
  have G_is_name : FnOk P w K mg base CX0 1 T.f_is_name T.d_is_name ["thing"] (lift K spN) := ok_is_name T
  have G_is_name_or_empty : FnOk P w K mg base CX0 2 T.f_is_name_or_empty T.d_is_name_or_empty ["thing"] (lift K spNe) := ok_is_name_or_empty T
  have G_is_shape : FnOk P w K mg base CX0 5 T.f_is_shape T.d_is_shape ["thing"] (lift K spShape) := ok_is_shape T
  have G_is_wobble : FnOk P w K mg base CX0 3 T.f_is_wobble T.d_is_wobble ["thing"] (lift K spWob) := ok_is_wobble T
  have G_is_spot : FnOk P w K mg base CX0 3 T.f_is_spot T.d_is_spot ["thing"] (lift K spSp) := ok_is_spot T
  refine okD T.o_is_telling.F sc_is_telling (fun xs M Φ h => by obtain ⟨_, rfl, _⟩ := on1_ex h; rfl) fun cdv A outer s H E hr => ⟨_, (dss_cons (ds_if (DW.dt (dw_or (dt_not (dt_val (de_callB (cd_isi (kit_tuple _)) rfl T.n_isinstance bt_isinstance (da_cons (de_var 0) (da_cons (de_ty rfl T.n_tuple bt_tuple) da_nil))))) (dw_or1 (dt_cmp od_lt (de_callB cd_len rfl T.n_len bt_len (da_cons (de_var 0) da_nil)) de_int)))) (dss_one (ds_ret de_bl)) dss_nil)
  (dss_cons (ds_if (DW.dt (dw_or (dt_not (dt_val (de_call G_is_time (hr.mono (by first | decide | omega)) rfl T.o_is_time.m T.o_is_time.F.kp T.o_is_time.b pass0 (da_cons (de_ix (de_var 0) de_int) da_nil)))) (dw_or1 (dt_not (dt_val (de_call G_is_name (hr.mono (by first | decide | omega)) rfl T.o_is_name.m T.o_is_name.F.kp T.o_is_name.b pass0 (da_cons (de_ix (de_var 0) de_int) da_nil))))))) (dss_one (ds_ret de_bl)) dss_nil)
  (dss_cons (ds_if (dt_cmp (od_eqX hr) (de_ix (de_var 0) de_int) de_str) (dss_one (ds_ret (de_and (de_cmp (od_eq hr) (de_callB cd_len rfl T.n_len bt_len (da_cons (de_var 0) da_nil)) de_int) (de_and (de_call G_is_name_or_empty (hr.mono (by first | decide | omega)) rfl T.o_is_name_or_empty.m T.o_is_name_or_empty.F.kp T.o_is_name_or_empty.b pass0 (da_cons (de_ix (de_var 0) de_int) da_nil)) (de_and (de_call G_is_shape (hr.mono (by first | decide | omega)) rfl T.o_is_shape.m T.o_is_shape.F.kp T.o_is_shape.b pass0 (da_cons (de_ix (de_var 0) de_int) da_nil)) (de_one (de_call G_is_wobble (hr.mono (by first | decide | omega)) rfl T.o_is_wobble.m T.o_is_wobble.F.kp T.o_is_wobble.b pass0 (da_cons (de_ix (de_var 0) de_int) da_nil)))))))) dss_nil)
  (dss_cons (ds_if (dt_cmp (od_eqX hr) (de_ix (de_var 0) de_int) de_str) (dss_one (ds_ret (de_and (de_cmp (od_eq hr) (de_callB cd_len rfl T.n_len bt_len (da_cons (de_var 0) da_nil)) de_int) (de_one (de_call G_is_spot (hr.mono (by first | decide | omega)) rfl T.o_is_spot.m T.o_is_spot.F.kp T.o_is_spot.b pass0 (da_cons (de_ix (de_var 0) de_int) da_nil)))))) dss_nil)
  (dss_one (ds_ret (de_and (de_cmp (od_eq hr) (de_callB cd_len rfl T.n_len bt_len (da_cons (de_var 0) da_nil)) de_int) (de_one (de_cmp (od_inX hr) (de_ix (de_var 0) de_int) (de_tup (da_cons de_str (da_cons de_str da_nil)))))))))))), fun xs M Φ h => ?_⟩
  replace h := on1_ex h
  obtain ⟨x1, rfl, h⟩ := h
  replace h := onD_ex h
  obtain ⟨d, rfl, hk, h⟩ := h
  cases d with
  | tuple ds =>
    walk_at "hd"
    walk_at "rk"
    refine cases_true (fun h1 => ?_) fun h1 => ?_
    · rw [tel_short (by omega)] at h
      exact h
    · obtain ⟨k, t, n, l, rfl⟩ := three_of (ds := ds) (by omega)
      replace hk : (okTx k && (okTx t && (okTx n && l.all okTx))) = true := hk
      simp only [Bool.and_eq_true] at hk
      obtain ⟨_, _, hn, hl⟩ := hk
      replace h : Φ (.dat (.bool (isTimeD t && (isNameD n && restD k l)))) M := h
      walk_at "hd"
      walk_at "rk"
      cases q1 : isTimeD t with
      | false =>
        rw [q1] at h
        walk_at "rk"
        exact h
      | true =>
        rw [q1] at h
        walk_at "rk"
        refine ⟨hn, ?_⟩
        cases q2 : isNameD n with
        | false =>
          rw [q2] at h
          walk_at "rk"
          exact h
        | true =>
          rw [q2] at h
          unfold restD at h
          walk_at "rk"
          walk_at "hd"
          walk_at "rk"
          cases q3 : isS k (Str.ofString "land") with
          | true =>
            rw [q3] at h
            walk_at "rk"
            refine cases_true (fun h2 => ?_) fun h2 => ?_
            · obtain ⟨o, v, z, rfl⟩ := three_is (ds := l) (by omega)
              replace h : Φ (.dat (.bool ((isS o (Str.ofString "") || isNameD o) && (isShapeD v && isWobD z)))) M := h
              replace hl : (okTx o && _) = true := hl
              walk_at "rk"
              refine ⟨(Bool.and_eq_true_iff.mp hl).1, ?_⟩
              cases q4 : (isS o (Str.ofString "") || isNameD o) with
              | false =>
                rw [q4] at h
                exact h
              | true =>
                rw [q4] at h
                walk_at "rk"
                cases q5 : isShapeD v with
                | false =>
                  rw [q5] at h
                  exact h
                | true =>
                  rw [q5] at h
                  exact h
            · rw [if_pos rfl, land_ne (show l.length ≠ 3 by omega)] at h
              exact h
          | false =>
            rw [q3, if_neg Bool.false_ne_true] at h
            walk_at "rk"
            walk_at "hd"
            walk_at "rk"
            cases q4 : isS k (Str.ofString "spot") with
            | true =>
              rw [q4] at h
              walk_at "rk"
              refine cases_true (fun h2 => ?_) fun h2 => ?_
              · obtain ⟨v, rfl⟩ := one_is (ds := l) (by omega)
                exact h
              · rw [if_pos rfl, spot_ne (show l.length ≠ 1 by omega)] at h
                exact h
            | false =>
              rw [q4, if_neg Bool.false_ne_true] at h
              subst_vars
              walk_at "rk"
              refine cases_true (fun h2 => ?_) fun h2 => ?_
              · obtain rfl : l = [] := List.length_eq_zero_iff.mp (by omega)
                refine ⟨[Str.ofString "drop", Str.ofString "free"], rfl, ?_⟩
                simp only [List.any_cons, List.any_nil, Bool.or_false]
                exact h
              · have e : l.isEmpty = false := by
                  cases l with
                  | nil => exact absurd rfl h2
                  | cons _ _ => rfl
                rw [e] at h
                exact h
  | _ =>
    walk_at "rk"
    exact h
/-! ### the pen -/
def PenO (o : OO) : Prop := ∃ (ns : List Int) (i b : Int), 0 ≤ i ∧ o = .lst [.list (ns.map PyData.int), .int i, .int b]
def Pen (M : Mp) (p : Addr) : Prop := ∃ o, PenO o ∧ M p = some o
theorem Pen.mset {M : Mp} {p : Addr} {o : OO} (h : PenO o) : Pen (mset M p o) p := ⟨o, h, mset_same⟩
theorem Pen.ne {M : Mp} {p q : Addr} (h : Pen M p) (hq : M q = none) : p ≠ q := fun e => by
  obtain ⟨o, _, ho⟩ := h
  rw [e, hq] at ho
  cases ho
theorem Pen.put {M : Mp} {p q : Addr} {o : OO} (h : Pen M p) (hq : p ≠ q) : Pen (DL.mset M q o) p := by
  obtain ⟨o', h1, h2⟩ := h
  exact ⟨o', h1, by rw [mset_ne hq]; exact h2⟩
theorem Pen.del {M : Mp} {p q : Addr} (h : Pen M p) (hq : p ≠ q) : Pen (DL.mdel M q) p := by
  obtain ⟨o', h1, h2⟩ := h
  exact ⟨o', h1, by rw [mdel_ne hq]; exact h2⟩
/-- a list of ints -/
def onZs (x : DV) (P : List Int → Prop) : Prop := ∃ ns, x = .dat (.list (ns.map PyData.int)) ∧ P ns
theorem map_int_inj : ∀ {as bs : List Int}, as.map PyData.int = bs.map PyData.int → as = bs
  | [], [], _ => rfl
  | [], _ :: _, h => by simp at h
  | _ :: _, [], h => by simp at h
  | a :: as, b :: bs, h => by
    rw [List.map_cons, List.map_cons, List.cons.injEq, PyData.int.injEq] at h
    rw [h.1, map_int_inj h.2]
theorem onZs_mk (bs : List Int) (P : List Int → Prop) : onZs (.dat (.list (bs.map PyData.int))) P = P bs := propext ⟨fun ⟨cs, e, h⟩ => by
  rw [DV.dat.injEq, PyData.list.injEq] at e
  rw [map_int_inj e]
  exact h, fun h => ⟨bs, rfl, h⟩⟩
theorem tab {l : List Int} {r : Int} (P : Int → Prop) (h0 : 0 ≤ r) (h1 : r < l.length) (hl : ∀ w ∈ l, P w) {Q : PyData → Prop} (k : ∀ w, P w → Q (.int w)) : onAt (l.map PyData.int) r Q := by
  obtain ⟨w, hw, e⟩ := atI_int h0 h1
  exact onAt_of e (k w (hl w hw))
/-- the pen stays a pen, and what else was owned stays as it was -/
def Fr (p : Addr) (M M' : Mp) : Prop := Pen M' p ∧ ∀ a, a ≠ p → M a ≠ none → M' a = M a
theorem Fr.refl {p : Addr} {M : Mp} (h : Pen M p) : Fr p M M := ⟨h, fun _ _ _ => rfl⟩
theorem Fr.trans {p : Addr} {M M1 M2 : Mp} (h : Fr p M M1) (k : Fr p M1 M2) : Fr p M M2 := ⟨k.1, fun a ha hn => by
  have e := h.2 a ha hn
  rw [← e]
  exact k.2 a ha (by rw [e]; exact hn)⟩
theorem Fr.mset {p : Addr} {M : Mp} {o : OO} (h : PenO o) : Fr p M (mset M p o) := ⟨Pen.mset h, fun a ha _ => mset_ne ha⟩
theorem Fr.own {p q : Addr} {M M' : Mp} {o : OO} (h : Fr p M M') (hq : M q = some o) (hne : q ≠ p) : M' q = some o := by
  rw [h.2 q hne (by rw [hq]; exact Option.some_ne_none _)]
  exact hq
theorem Fr.new {p q : Addr} {M M' : Mp} {o : OO} (h : Fr p M M') (hq : M q = none) (hne : q ≠ p) : Fr p M (DL.mset M' q o) := ⟨h.1.put (Ne.symm hne), fun a ha hn => by
  rw [mset_ne (fun e => hn (by rw [e]; exact hq))]
  exact h.2 a ha hn⟩
def spTake : DSp := fun xs M Φ => on2 xs fun x y => onO x fun p => onI y fun m => (0 < m ∧ m < 10 ^ 60) ∧ Pen M p ∧ ∀ r M', 0 ≤ r → r < m → Fr p M M' → Φ (.dat (.int r)) M'
theorem spTake_q (xs : List DV) (M : Mp) (Φ : DK) : spTake xs M Φ = (on2 xs fun x y => onO x fun p => onI y fun m => (0 < m ∧ m < 10 ^ 60) ∧ Pen M p ∧ ∀ r M', 0 ≤ r → r < m → Fr p M M' → Φ (.dat (.int r)) M') := propext Iff.rfl
theorem Pen.get {M : Mp} {p : Addr} (h : Pen M p) : ∃ (ns : List Int) (i b : Int), 0 ≤ i ∧ M p = some (.lst [.list (ns.map PyData.int), .int i, .int b]) := by
  obtain ⟨o, ⟨ns, i, b, hi, eo⟩, hp⟩ := h
  exact ⟨ns, i, b, hi, by rw [hp, eo]⟩
local macro_rules | `(tactic| walk_at "r3") => `(tactic| try simp (config := { maxSteps := 10000000 }) only [↓onV_mk_q, ↓onI_mk_q, ↓onB_mk_q, ↓onS_mk_q, ↓onT_mk_q, ↓onL_mk_q, ↓onD_mk_q, ↓onO_mk_q, ↓onOL_mk_q, ↓onOC_mk_q, ↓onQ_t_q, ↓onQ_l_q, ↓onQ_o_q, ↓onK_l_q, ↓onK_o_q, ↓on1_mk_q, ↓on2_mk_q, ↓on3_mk_q, ↓on4_mk_q, ↓on5_mk_q, ↓on6_mk_q, ↓onDs_0_q, ↓onDs_1_q, ↓onDs_2_q, ↓onDs_3_q, ↓onDs_4_q, ↓onDs_5_q, ↓onDs_6_q, ↓onDs_7_q, ↓onDs_8_q, ↓onDs_9_q, ↓onDs_10_q, ↓onDs_11_q, ↓onDs_12_q, ↓dVar_q, ↓dC_q, ↓dTy_q, ↓dOp_q, ↓dB_q, ↓dChain_q, ↓dAnd_q, ↓dOr_q, ↓dNot_q, ↓dAndV_q, ↓dOrV_q, ↓dNotV_q, ↓dIf_q, ↓dUnI_q, ↓δI_q, ↓δI0_q, ↓δB_q, ↓δCatT_q, ↓δCatL_q, ↓δCatLO_q, ↓dNil_q, ↓dCons_q, ↓dTup_q, ↓dLst_q, ↓dLstO_q, ↓dFrz_q, ↓onAt_0_q, ↓onAt_1_q, ↓onAt_2_q, ↓onAt_3_q, ↓onAt_4_q, ↓onAt_5_q, ↓onAt_6_q, ↓onAt_7_q, ↓δIx_q, ↓dCB_q, ↓δLen_q, ↓δLenS_q, ↓δStrI_q, ↓δAbs_q, ↓δ2I_q, ↓δListOf_q, ↓δRepr_q, ↓δIsi_mk_q, ↓eqD_ii_q, ↓eqD_ss_q, ↓eqD_bb_q, ↓δEq_q, ↓δNe_q, ↓δNeS_q, ↓δEqS_q, ↓dNoPart_q, ↓dPart_q, ↓dSlT_q, ↓dNext_q, ↓dSeq_q, ↓dBreak_q, ↓dCont_q, ↓dDrop_q, ↓dRet_q, ↓dRetN_q, ↓dIfS_q, ↓dgName_q, ↓dgNil_mk_q, ↓dgCons_mk_q, ↓onNs_0_q, ↓onNs_s_q, ↓dgTup_q, ↓dgSub_q, ↓dAsg_q, ↓dAppend_q, ↓dForL_q, ↓dForT_q, ↓dForR1_q, ↓dForR2_q, ↓dCall_q, ↓dDict0_q, ↓onKey_i_q, ↓onKey_s_q, ↓dDict1_q, ↓dDict2_q, ↓dDict1T_q, ↓sp1_q, ↓srcL_q, ↓srcT_q, ↓srcR1_q, ↓srcR2_q, ↓dEnd_t_q, ↓dEnd_f_q, ↓dComp_q, ↓tcNo_q, ↓δSortI_q, ↓δMinI_q, ↓δMaxI_q, ↓δ3I_q, ↓δTupOf_q, ↓onW_t_q, ↓onW_l_q, ↓δIn_q, ↓dExtend_q, ↓dSlL_q, ↓δSumI_q, ↓δAllB_q, ↓δAnyB_q, ↓δIntB_q, ↓dPar_q, ↓δCatS_q, ↓dSlS_q, ↓dListR2_q, ↓dAug_q, ↓δMinP_q, ↓dDict0T_q, ↓dPutT_q, ↓onP_mk_q, ↓δInT_q, ↓dRevT_q, ↓dSlTW_q, ↓onFr_l_q, ↓onFr_o_q, ↓dFrzA_q, ↓srcM_q, ↓dWhile_q, ↓dPop_q, ↓onN_mk_q, ↓δIsN_q, ↓δNotIn_q, ↓δNotInT_q, CompRun_n, CompRun_c, TurnsU_n, TurnsU_c, dCompU_q, capD, startD, onAt_last, onKs, keysD, rngD_0, rngD_1, rngD_2, rngD_3, rngD_4, isNone_none, isNone_bool, isNone_int, isNone_str, isNone_list, isNone_tuple, isNone_dict,
  Option.bind_some, Option.bind_none, Option.join_some, Option.join_none, Option.getD_some, Option.map_some, Option.map_none, List.getElem?_cons_zero, List.getElem?_cons_succ, List.set_cons_zero, List.set_cons_succ, List.map_cons, List.map_nil, List.length_cons, List.length_nil, List.replicate, List.cons_append, List.nil_append, List.any_cons, List.any_nil,
  mset_same, mset_mset, ↓reduceIte, Bool.not_true, Bool.not_false, Bool.or_false, Bool.or_true, Bool.true_or, Bool.false_or, Bool.and_true, Bool.and_false, Bool.true_and, Bool.false_and, Bool.bne_true, Bool.bne_false, Bool.false_eq_true, eq_self, true_and, and_true, ixN_30, ixN_31, ixN_32, exists_eq_left', exists_eq_left, Option.some.injEq, Nat.reduceAdd, Nat.reduceSub, Nat.zero_add, Nat.reduceLT, Nat.reduceLeDiff, Int.reduceToNat, Int.reducePow, Int.reduceSub, Int.reduceMul, Int.reduceAdd, Int.reduceNeg,
  Int.reduceLT, Int.reduceLE, Int.reduceEq, Int.zero_add, Int.cast_ofNat_Int, decide_true, decide_false, sizeLine_eq, eqA_nil, eqA_cons, eqA_cn, eqA_nc, eq_tt, eq_ll, eq_nn, eq_ii, eq_ss, eq_bb, ty_int_none, ty_int_bool, ty_int_int, ty_int_str, ty_int_list, ty_int_tuple, ty_int_dict, ty_bool_none, ty_bool_bool, ty_bool_int, ty_bool_str, ty_bool_list, ty_bool_tuple, ty_bool_dict, ty_tuple_none, ty_tuple_bool, ty_tuple_int, ty_tuple_str, ty_tuple_list, ty_tuple_tuple, ty_tuple_dict, ty_list_none, ty_list_bool, ty_list_int, ty_list_str, ty_list_list, ty_list_tuple, ty_list_dict, ty_str_none, ty_str_bool, ty_str_int, ty_str_str, ty_str_list, ty_str_tuple, ty_str_dict, ty_dict_none, ty_dict_bool, ty_dict_int, ty_dict_str, ty_dict_list, ty_dict_tuple, ty_dict_dict, ↓onX_mk_q, ↓onX_m4_q, ↓onQ_bD_q, ↓onT_bD_q, onBs_mk, onBl_mk, ↓spW_q, ↓spSh_q, ↓spAs_q, ↓spSp_q, ↓spBx_q, ↓spShape_q, ↓spT_q, ↓spWob_q, ↓spN_q, ↓spNe_q, ↓spTell_q, ↓spHas_q, ↓spGap_q, ↓spBetween_q, ↓spChain_q, ↓dSlX_q, ↓δIxS_q, ↓δAddS_q, ↓δMulS_q, ↓δLeS_q, ↓srcX_q, ↓δListX_q, ↓δTupX_q, ↓dJoin_q, ↓dUpper_q, ↓onDs_13_q, ↓δEqX_q, ↓δInX_q, ↓dDict6_q, ↓dGetK_q, ↓δRep_q, ↓onDs_14_q, ↓δRepT_q, ↓δCatT0_q, ↓spTake_q, onZs_mk])
local macro_rules | `(tactic| walk_at "mix") => `(tactic| ((walk_at "hd"); (walk_at "r3"); refine ⟨.inl (by decide), .inr (by decide), ?_⟩; (walk_at "hd"); (walk_at "r3"); refine ⟨.inl (by omega), .inl (by decide), .inl (by decide), ?_⟩; subst_vars; (walk_at "r3"); refine ⟨.inl (by omega), ⟨by decide, by decide⟩, by assumption, ?_⟩))
theorem ok_take (T : Tx K mg) : FnOk P w K mg base CX0 1 T.f_take T.d_take ["_law_pen", "_law_many"] (lift K spTake) := by
  refine okD T.o_take.F sc_take (fun xs M Φ h => by obtain ⟨_, _, rfl, _⟩ := on2_ex h; rfl) fun cdv A outer s H E hr => ⟨_, (dss_cons (ds_if (dt_cmp od_gt (de_ix (de_var 0) de_int) de_int) (dss_cons (ds_set 6 sc_take.nd (de_op od_mod (de_ix (de_var 0) de_int) (de_var 1)))
  (dss_cons (ds_asg (de_op od_fdivB (de_ix (de_var 0) de_int) (de_var 1)) (dg_sub (de_var 0) de_int))
  (dss_one (ds_ret (de_var 6))))) dss_nil)
  (dss_cons (ds_set 2 sc_take.nd (de_ix (de_var 0) de_int))
  (dss_cons (ds_asg (de_op od_add (de_var 2) de_int) (dg_sub (de_var 0) de_int))
  (dss_cons (ds_set 3 sc_take.nd de_int)
  (dss_cons (ds_if (dt_cmp od_gt (de_callB cd_len rfl T.n_len bt_len (da_cons (de_ix (de_var 0) de_int) da_nil)) de_int) (dss_one (ds_set 3 sc_take.nd (de_ix (de_ix (de_var 0) de_int) (de_op od_mod (de_var 2) (de_callB cd_len rfl T.n_len bt_len (da_cons (de_ix (de_var 0) de_int) da_nil)))))) dss_nil)
  (dss_cons (ds_if (DW.dt (dw_and (dt_cmp od_lt (de_var 2) (de_callB cd_len rfl T.n_len bt_len (da_cons (de_ix (de_var 0) de_int) da_nil))) (dw_and1 (dt_cmp od_ge (de_callB cd_abs rfl T.n_abs bt_abs (da_cons (de_var 3) da_nil)) (de_op od_pow de_int de_int))))) (dss_cons (ds_asg (de_op od_fdivB (de_callB cd_abs rfl T.n_abs bt_abs (da_cons (de_var 3) da_nil)) (de_var 1)) (dg_sub (de_var 0) de_int))
  (dss_one (ds_ret (de_op od_mod (de_callB cd_abs rfl T.n_abs bt_abs (da_cons (de_var 3) da_nil)) (de_var 1))))) dss_nil)
  (dss_cons (ds_set 4 sc_take.nd (de_op od_mod (de_op od_mul (de_op od_add (de_op od_add (de_op od_mod (de_var 3) de_int) (de_op od_mul de_int (de_var 2))) de_int) de_int) de_int))
  (dss_cons (ds_set 5 sc_take.nd (de_op od_mod (de_op od_add (de_op od_add (de_op od_mul (de_var 4) (de_var 4)) (de_op od_mul de_int (de_var 4))) (de_op od_mul de_int (de_var 2))) de_int))
  (dss_one (ds_ret (de_op od_mod (de_op od_fdiv (de_op od_mod (de_op od_mul (de_var 5) (de_op od_add (de_op od_mod (de_var 5) de_int) de_int)) de_int) de_int) (de_var 1)))))))))))), fun xs M Φ h => ?_⟩
  replace h := on2_ex h
  obtain ⟨x1, x2, rfl, h⟩ := h
  replace h := onO_ex h
  obtain ⟨p, rfl, h⟩ := h
  replace h := onI_ex h
  obtain ⟨m, rfl, ⟨h0, h1⟩, hp, h⟩ := h
  obtain ⟨ns, i, b, hi, hp⟩ := hp.get
  have lg : m.natAbs.log2 < 9000 := Nat.lt_of_lt_of_le (log2_lt' (k := 200) (by omega) (by decide)) (by decide)
  have fin : ∀ (x j c : Int), 0 ≤ j → Φ (.dat (.int (x % m))) (mset M p (.lst [.list (ns.map PyData.int), .int j, .int c])) := fun x j c hj => h _ _ (mod_b x h0).1 (mod_b x h0).2 (Fr.mset ⟨ns, j, c, hj, rfl⟩)
  walk_at "hd"
  walk_at "r3"
  simp only [hp]
  walk_at "r3"
  refine cases_true (fun h2 => ?_) fun h2 => ?_
  · exact ⟨h0, ⟨h0, lg⟩, fin _ _ _ hi⟩
  · walk_at "hd"
    walk_at "r3"
    simp only [hp]
    walk_at "r3"
    walk_at "hd"
    walk_at "r3"
    simp only [hp]
    walk_at "r3"
    walk_at "hd"
    walk_at "r3"
    walk_at "hd"
    walk_at "r3"
    rw [List.length_map]
    refine cases_true (fun hl => ?_) fun hl => ?_
    · have hm := mod_b i hl
      obtain ⟨c, hc⟩ := at_ints (ns := ns) hm.1 hm.2
      refine ⟨hl, onAt_of hc ?_⟩
      walk_at "hd"
      walk_at "r3"
      rw [List.length_map]
      refine cases_true (fun h2 => ⟨cp10 _ (by decide), cases_true (fun h3 => ⟨⟨h0, lg⟩, h0, fin _ _ _ (by omega)⟩) fun h3 => ?_⟩) fun h2 => ?_
      · walk_at "mix"
        exact fin _ _ _ (by omega)
      · walk_at "mix"
        exact fin _ _ _ (by omega)
    · walk_at "hd"
      walk_at "r3"
      rw [List.length_map]
      refine cases_true (fun h2 => absurd h2 (by omega)) fun h2 => ?_
      walk_at "mix"
      exact fin _ _ _ (by omega)
def spWide : DSp := fun xs M Φ => on2 xs fun x y => onO x fun p => onI y fun m => (0 < m ∧ m < 10 ^ 60) ∧ Pen M p ∧ ∀ r M', 0 ≤ r → r < m → Fr p M M' → Φ (.dat (.int r)) M'
theorem spWide_q (xs : List DV) (M : Mp) (Φ : DK) : spWide xs M Φ = (on2 xs fun x y => onO x fun p => onI y fun m => (0 < m ∧ m < 10 ^ 60) ∧ Pen M p ∧ ∀ r M', 0 ≤ r → r < m → Fr p M M' → Φ (.dat (.int r)) M') := propext Iff.rfl
local macro_rules | `(tactic| walk_at "r4") => `(tactic| try simp (config := { maxSteps := 10000000 }) only [↓onV_mk_q, ↓onI_mk_q, ↓onB_mk_q, ↓onS_mk_q, ↓onT_mk_q, ↓onL_mk_q, ↓onD_mk_q, ↓onO_mk_q, ↓onOL_mk_q, ↓onOC_mk_q, ↓onQ_t_q, ↓onQ_l_q, ↓onQ_o_q, ↓onK_l_q, ↓onK_o_q, ↓on1_mk_q, ↓on2_mk_q, ↓on3_mk_q, ↓on4_mk_q, ↓on5_mk_q, ↓on6_mk_q, ↓onDs_0_q, ↓onDs_1_q, ↓onDs_2_q, ↓onDs_3_q, ↓onDs_4_q, ↓onDs_5_q, ↓onDs_6_q, ↓onDs_7_q, ↓onDs_8_q, ↓onDs_9_q, ↓onDs_10_q, ↓onDs_11_q, ↓onDs_12_q, ↓dVar_q, ↓dC_q, ↓dTy_q, ↓dOp_q, ↓dB_q, ↓dChain_q, ↓dAnd_q, ↓dOr_q, ↓dNot_q, ↓dAndV_q, ↓dOrV_q, ↓dNotV_q, ↓dIf_q, ↓dUnI_q, ↓δI_q, ↓δI0_q, ↓δB_q, ↓δCatT_q, ↓δCatL_q, ↓δCatLO_q, ↓dNil_q, ↓dCons_q, ↓dTup_q, ↓dLst_q, ↓dLstO_q, ↓dFrz_q, ↓onAt_0_q, ↓onAt_1_q, ↓onAt_2_q, ↓onAt_3_q, ↓onAt_4_q, ↓onAt_5_q, ↓onAt_6_q, ↓onAt_7_q, ↓δIx_q, ↓dCB_q, ↓δLen_q, ↓δLenS_q, ↓δStrI_q, ↓δAbs_q, ↓δ2I_q, ↓δListOf_q, ↓δRepr_q, ↓δIsi_mk_q, ↓eqD_ii_q, ↓eqD_ss_q, ↓eqD_bb_q, ↓δEq_q, ↓δNe_q, ↓δNeS_q, ↓δEqS_q, ↓dNoPart_q, ↓dPart_q, ↓dSlT_q, ↓dNext_q, ↓dSeq_q, ↓dBreak_q, ↓dCont_q, ↓dDrop_q, ↓dRet_q, ↓dRetN_q, ↓dIfS_q, ↓dgName_q, ↓dgNil_mk_q, ↓dgCons_mk_q, ↓onNs_0_q, ↓onNs_s_q, ↓dgTup_q, ↓dgSub_q, ↓dAsg_q, ↓dAppend_q, ↓dForL_q, ↓dForT_q, ↓dForR1_q, ↓dForR2_q, ↓dCall_q, ↓dDict0_q, ↓onKey_i_q, ↓onKey_s_q, ↓dDict1_q, ↓dDict2_q, ↓dDict1T_q, ↓sp1_q, ↓srcL_q, ↓srcT_q, ↓srcR1_q, ↓srcR2_q, ↓dEnd_t_q, ↓dEnd_f_q, ↓dComp_q, ↓tcNo_q, ↓δSortI_q, ↓δMinI_q, ↓δMaxI_q, ↓δ3I_q, ↓δTupOf_q, ↓onW_t_q, ↓onW_l_q, ↓δIn_q, ↓dExtend_q, ↓dSlL_q, ↓δSumI_q, ↓δAllB_q, ↓δAnyB_q, ↓δIntB_q, ↓dPar_q, ↓δCatS_q, ↓dSlS_q, ↓dListR2_q, ↓dAug_q, ↓δMinP_q, ↓dDict0T_q, ↓dPutT_q, ↓onP_mk_q, ↓δInT_q, ↓dRevT_q, ↓dSlTW_q, ↓onFr_l_q, ↓onFr_o_q, ↓dFrzA_q, ↓srcM_q, ↓dWhile_q, ↓dPop_q, ↓onN_mk_q, ↓δIsN_q, ↓δNotIn_q, ↓δNotInT_q, CompRun_n, CompRun_c, TurnsU_n, TurnsU_c, dCompU_q, capD, startD, onAt_last, onKs, keysD, rngD_0, rngD_1, rngD_2, rngD_3, rngD_4, isNone_none, isNone_bool, isNone_int, isNone_str, isNone_list, isNone_tuple, isNone_dict,
  Option.bind_some, Option.bind_none, Option.join_some, Option.join_none, Option.getD_some, Option.map_some, Option.map_none, List.getElem?_cons_zero, List.getElem?_cons_succ, List.set_cons_zero, List.set_cons_succ, List.map_cons, List.map_nil, List.length_cons, List.length_nil, List.replicate, List.cons_append, List.nil_append, List.any_cons, List.any_nil,
  mset_same, mset_mset, ↓reduceIte, Bool.not_true, Bool.not_false, Bool.or_false, Bool.or_true, Bool.true_or, Bool.false_or, Bool.and_true, Bool.and_false, Bool.true_and, Bool.false_and, Bool.bne_true, Bool.bne_false, Bool.false_eq_true, eq_self, true_and, and_true, ixN_30, ixN_31, ixN_32, exists_eq_left', exists_eq_left, Option.some.injEq, Nat.reduceAdd, Nat.reduceSub, Nat.zero_add, Nat.reduceLT, Nat.reduceLeDiff, Int.reduceToNat, Int.reducePow, Int.reduceSub, Int.reduceMul, Int.reduceAdd, Int.reduceNeg,
  Int.reduceLT, Int.reduceLE, Int.reduceEq, Int.zero_add, Int.cast_ofNat_Int, decide_true, decide_false, sizeLine_eq, eqA_nil, eqA_cons, eqA_cn, eqA_nc, eq_tt, eq_ll, eq_nn, eq_ii, eq_ss, eq_bb, ty_int_none, ty_int_bool, ty_int_int, ty_int_str, ty_int_list, ty_int_tuple, ty_int_dict, ty_bool_none, ty_bool_bool, ty_bool_int, ty_bool_str, ty_bool_list, ty_bool_tuple, ty_bool_dict, ty_tuple_none, ty_tuple_bool, ty_tuple_int, ty_tuple_str, ty_tuple_list, ty_tuple_tuple, ty_tuple_dict, ty_list_none, ty_list_bool, ty_list_int, ty_list_str, ty_list_list, ty_list_tuple, ty_list_dict, ty_str_none, ty_str_bool, ty_str_int, ty_str_str, ty_str_list, ty_str_tuple, ty_str_dict, ty_dict_none, ty_dict_bool, ty_dict_int, ty_dict_str, ty_dict_list, ty_dict_tuple, ty_dict_dict, ↓onX_mk_q, ↓onX_m4_q, ↓onQ_bD_q, ↓onT_bD_q, onBs_mk, onBl_mk, ↓spW_q, ↓spSh_q, ↓spAs_q, ↓spSp_q, ↓spBx_q, ↓spShape_q, ↓spT_q, ↓spWob_q, ↓spN_q, ↓spNe_q, ↓spTell_q, ↓spHas_q, ↓spGap_q, ↓spBetween_q, ↓spChain_q, ↓dSlX_q, ↓δIxS_q, ↓δAddS_q, ↓δMulS_q, ↓δLeS_q, ↓srcX_q, ↓δListX_q, ↓δTupX_q, ↓dJoin_q, ↓dUpper_q, ↓onDs_13_q, ↓δEqX_q, ↓δInX_q, ↓dDict6_q, ↓dGetK_q, ↓δRep_q, ↓onDs_14_q, ↓δRepT_q, ↓δCatT0_q, ↓spTake_q, onZs_mk, ↓spWide_q])
theorem ok_wide (T : Tx K mg) : FnOk P w K mg base CX0 2 T.f_wide T.d_wide ["_law_pen", "_law_many"] (lift K spWide) := by
  have G_take : FnOk P w K mg base CX0 1 T.f_take T.d_take ["_law_pen", "_law_many"] (lift K spTake) := ok_take T
  refine okD T.o_wide.F sc_wide (fun xs M Φ h => by obtain ⟨_, _, rfl, _⟩ := on2_ex h; rfl) fun cdv A outer s H E hr => ⟨_, (dss_cons (ds_if (dt_cmp od_lt (de_var 1) (de_op od_pow de_int de_int)) (dss_one (ds_ret (de_call G_take (hr.mono (by first | decide | omega)) rfl T.o_take.m T.o_take.F.kp T.o_take.b pass0 (da_cons (de_var 0) (da_cons (de_var 1) da_nil))))) dss_nil)
  (dss_cons (ds_set 2 sc_wide.nd de_int)
  (dss_cons (ds_forR1 rfl T.n_range (da_cons (de_op od_add (de_op od_fdiv (de_callB cd_lenS rfl T.n_len bt_len (da_cons (de_callTy cd_strI rfl T.n_str bt_str (da_cons (de_var 1) da_nil)) da_nil)) de_int) de_int) da_nil) (dg_name 3 sc_wide.nd) (dss_one (ds_set 2 sc_wide.nd (de_op od_add (de_op od_mul (de_var 2) (de_op od_pow de_int de_int)) (de_call G_take (hr.mono (by first | decide | omega)) rfl T.o_take.m T.o_take.F.kp T.o_take.b pass0 (da_cons (de_var 0) (da_cons (de_op od_pow de_int de_int) da_nil)))))) PassesOwn.never rfl)
  (dss_one (ds_ret (de_op od_mod (de_var 2) (de_var 1))))))), fun xs M Φ h => ?_⟩
  replace h := on2_ex h
  obtain ⟨x1, x2, rfl, h⟩ := h
  replace h := onO_ex h
  obtain ⟨p, rfl, h⟩ := h
  replace h := onI_ex h
  obtain ⟨m, rfl, ⟨h0, h1⟩, hp, h⟩ := h
  have lg : m.natAbs.log2 < 1920 := Nat.lt_of_lt_of_le (log2_lt' (k := 200) (by omega) (by decide)) (by decide)
  walk_at "hd"
  walk_at "r4"
  refine ⟨cp10 _ (by decide), cases_true (fun h2 => ⟨⟨h0, h1⟩, hp, h⟩) fun h2 => ?_⟩
  have hz := int_text_len_1921 lg
  walk_at "hd"
  walk_at "r4"
  walk_at "hd"
  walk_at "r4"
  refine ⟨lg, by omega, ⟨by decide, by decide⟩, ⟨by omega, by omega⟩, fun i Δ M' => ∃ (v : Int) (kk : Option DV), Δ = [some (.own p), some (.dat (.int m)), some (.dat (.int v)), kk] ∧ Fr p M M', ⟨0, none, rfl, Fr.refl hp⟩, ?_, ?_⟩
  · rintro i Δ M' hi ⟨v, kk, rfl, hf⟩
    walk_at "r4"
    refine ⟨cp10 _ (by decide), .inr (by decide), cp10 _ (by decide), hf.1, fun r M2 h3 h4 f2 => ?_⟩
    exact ⟨_, _, rfl, hf.trans f2⟩
  · rintro Δ M' ⟨v, kk, rfl, hf⟩
    subst_vars
    walk_at "r4"
    exact ⟨h0, h _ _ (mod_b v h0).1 (mod_b v h0).2 hf⟩
/-! ### what the law draws -/
def NameS (s : Str) : Prop := (1 ≤ s.length ∧ s.length ≤ 8) ∧ ∀ c ∈ s.cps.toList, 97 ≤ c ∧ c ≤ 122
def Nml (n : Nat) (ss : List Str) : Prop := (1 ≤ ss.length ∧ ss.length ≤ n) ∧ ∀ s ∈ ss, NameS s
def Grb (n : Int) (b : B4) : Prop := (b.x ≤ b.X ∧ b.y ≤ b.Y) ∧ (-(4 * n) ≤ b.x ∧ b.X ≤ 15 + 4 * n) ∧ (-(4 * n) ≤ b.y ∧ b.Y ≤ 15 + 4 * n)
def Grd (bs : List B4) : Prop := (1 ≤ bs.length ∧ bs.length ≤ 6) ∧ chB bs = true ∧ ∀ b ∈ bs, Grb 5 b
def Frm (f ox oy : Int) : Prop := (1 ≤ f ∧ f ≤ 10000000000) ∧ (-100000000000 ≤ ox ∧ ox ≤ 100000000000) ∧ (-100000000000 ≤ oy ∧ oy ≤ 100000000000)
def wldO (f ox oy bg sp : Int) (ts ls : List Str) : OO := .dkv [(.inr (Str.ofString "by"), .int f), (.inr (Str.ofString "off"), .tuple [.int ox, .int oy]), (.inr (Str.ofString "begin"), .int bg), (.inr (Str.ofString "span"), .int sp), (.inr (Str.ofString "things"), .list (ts.map PyData.str)), (.inr (Str.ofString "lands"), .list (ls.map PyData.str))]
def Wd (M : Mp) (q : Addr) : Prop := ∃ f ox oy bg sp ts ls, M q = some (wldO f ox oy bg sp ts ls) ∧ Frm f ox oy ∧ (0 ≤ bg ∧ bg ≤ 999999999992) ∧ (1 ≤ sp ∧ sp ≤ 9) ∧ Nml 4 ts ∧ Nml 5 ls
theorem Wd.fr {p q : Addr} {M M' : Mp} (h : Wd M q) (k : Fr p M M') (hne : q ≠ p) : Wd M' q := by
  obtain ⟨f, ox, oy, bg, sp, ts, ls, hq, hh⟩ := h
  exact ⟨f, ox, oy, bg, sp, ts, ls, k.own hq hne, hh⟩
def Sh (x : Int) : Prop := -999999999999 ≤ x ∧ x ≤ 999999999999
def spNames : DSp := fun xs M Φ => on2 xs fun x y => onO x fun p => onI y fun m => (1 ≤ m ∧ m ≤ 8) ∧ Pen M p ∧ ∀ (ss : List Str) (M' : Mp), ss.length = m.toNat → (∀ s ∈ ss, NameS s) → Fr p M M' → Φ (.dat (.list (ss.map PyData.str))) M'
theorem spNames_q (xs : List DV) (M : Mp) (Φ : DK) : spNames xs M Φ = (on2 xs fun x y => onO x fun p => onI y fun m => (1 ≤ m ∧ m ≤ 8) ∧ Pen M p ∧ ∀ (ss : List Str) (M' : Mp), ss.length = m.toNat → (∀ s ∈ ss, NameS s) → Fr p M M' → Φ (.dat (.list (ss.map PyData.str))) M') := propext Iff.rfl
def spBoxes : DSp := fun xs M Φ => on2 xs fun x y => onO x fun p => onI y fun m => (1 ≤ m ∧ m ≤ 6) ∧ Pen M p ∧ ∀ bs M', Grd bs → Fr p M M' → Φ (.dat (.list (bs.map bD))) M'
theorem spBoxes_q (xs : List DV) (M : Mp) (Φ : DK) : spBoxes xs M Φ = (on2 xs fun x y => onO x fun p => onI y fun m => (1 ≤ m ∧ m ≤ 6) ∧ Pen M p ∧ ∀ bs M', Grd bs → Fr p M M' → Φ (.dat (.list (bs.map bD))) M') := propext Iff.rfl
def spStretched : DSp := fun xs M Φ => on3 xs fun x y z => onBl x fun bs => onI y fun f => onP z fun ox oy => Grd bs ∧ Φ (.dat (.tuple ((bs.map (strB f ox oy)).map bD))) M
theorem spStretched_q (xs : List DV) (M : Mp) (Φ : DK) : spStretched xs M Φ = (on3 xs fun x y z => onBl x fun bs => onI y fun f => onP z fun ox oy => Grd bs ∧ Φ (.dat (.tuple ((bs.map (strB f ox oy)).map bD))) M) := propext Iff.rfl
def spStretch : DSp := fun xs M Φ => on1 xs fun x => onO x fun p => Pen M p ∧ ∀ f ox oy M', Frm f ox oy → Fr p M M' → Φ (.dat (.tuple [.int f, .tuple [.int ox, .int oy]])) M'
theorem spStretch_q (xs : List DV) (M : Mp) (Φ : DK) : spStretch xs M Φ = (on1 xs fun x => onO x fun p => Pen M p ∧ ∀ f ox oy M', Frm f ox oy → Fr p M M' → Φ (.dat (.tuple [.int f, .tuple [.int ox, .int oy]])) M') := propext Iff.rfl
def spWorld : DSp := fun xs M Φ => on1 xs fun x => onO x fun p => Pen M p ∧ ∀ q M', Wd M' q → q ≠ p → Fr p M M' → Φ (.own q) M'
theorem spWorld_q (xs : List DV) (M : Mp) (Φ : DK) : spWorld xs M Φ = (on1 xs fun x => onO x fun p => Pen M p ∧ ∀ q M', Wd M' q → q ≠ p → Fr p M M' → Φ (.own q) M') := propext Iff.rfl
def spSpot : DSp := fun xs M Φ => on2 xs fun x y => onO x fun p => onO y fun q => Wd M q ∧ q ≠ p ∧ Pen M p ∧ ∀ u v M', Sh u → Sh v → Fr p M M' → Φ (.dat (.tuple [.int u, .int v])) M'
theorem spSpot_q (xs : List DV) (M : Mp) (Φ : DK) : spSpot xs M Φ = (on2 xs fun x y => onO x fun p => onO y fun q => Wd M q ∧ q ≠ p ∧ Pen M p ∧ ∀ u v M', Sh u → Sh v → Fr p M M' → Φ (.dat (.tuple [.int u, .int v])) M') := propext Iff.rfl
def landT (t : Int) (nm ou : Str) (bs : List B4) (wb : Int) : PyData := .tuple [.str (Str.ofString "land"), .int t, .str nm, .str ou, .tuple (bs.map bD), .int wb]
def spLand : DSp := fun xs M Φ => on3 xs fun x y z => onO x fun p => onO y fun q => onI z fun t => Wd M q ∧ q ≠ p ∧ Pen M p ∧
  ∀ nm ou bs f ox oy wb M', NameS nm → (ou = Str.ofString "" ∨ NameS ou) → Grd bs → Frm f ox oy → (0 ≤ wb ∧ wb ≤ 30000000000) → Fr p M M' → Φ (.dat (landT t nm ou (bs.map (strB f ox oy)) wb)) M'
theorem spLand_q (xs : List DV) (M : Mp) (Φ : DK) : spLand xs M Φ = (on3 xs fun x y z => onO x fun p => onO y fun q => onI z fun t => Wd M q ∧ q ≠ p ∧ Pen M p ∧ ∀ nm ou bs f ox oy wb M', NameS nm → (ou = Str.ofString "" ∨ NameS ou) → Grd bs → Frm f ox oy → (0 ≤ wb ∧ wb ≤ 30000000000) → Fr p M M' → Φ (.dat (landT t nm ou (bs.map (strB f ox oy)) wb)) M') := propext Iff.rfl
local macro_rules | `(tactic| walk_at "r5") => `(tactic| try simp (config := { maxSteps := 10000000 }) only [↓onV_mk_q, ↓onI_mk_q, ↓onB_mk_q, ↓onS_mk_q, ↓onT_mk_q, ↓onL_mk_q, ↓onD_mk_q, ↓onO_mk_q, ↓onOL_mk_q, ↓onOC_mk_q, ↓onQ_t_q, ↓onQ_l_q, ↓onQ_o_q, ↓onK_l_q, ↓onK_o_q, ↓on1_mk_q, ↓on2_mk_q, ↓on3_mk_q, ↓on4_mk_q, ↓on5_mk_q, ↓on6_mk_q, ↓onDs_0_q, ↓onDs_1_q, ↓onDs_2_q, ↓onDs_3_q, ↓onDs_4_q, ↓onDs_5_q, ↓onDs_6_q, ↓onDs_7_q, ↓onDs_8_q, ↓onDs_9_q, ↓onDs_10_q, ↓onDs_11_q, ↓onDs_12_q, ↓dVar_q, ↓dC_q, ↓dTy_q, ↓dOp_q, ↓dB_q, ↓dChain_q, ↓dAnd_q, ↓dOr_q, ↓dNot_q, ↓dAndV_q, ↓dOrV_q, ↓dNotV_q, ↓dIf_q, ↓dUnI_q, ↓δI_q, ↓δI0_q, ↓δB_q, ↓δCatT_q, ↓δCatL_q, ↓δCatLO_q, ↓dNil_q, ↓dCons_q, ↓dTup_q, ↓dLst_q, ↓dLstO_q, ↓dFrz_q, ↓onAt_0_q, ↓onAt_1_q, ↓onAt_2_q, ↓onAt_3_q, ↓onAt_4_q, ↓onAt_5_q, ↓onAt_6_q, ↓onAt_7_q, ↓δIx_q, ↓dCB_q, ↓δLen_q, ↓δLenS_q, ↓δStrI_q, ↓δAbs_q, ↓δ2I_q, ↓δListOf_q, ↓δRepr_q, ↓δIsi_mk_q, ↓eqD_ii_q, ↓eqD_ss_q, ↓eqD_bb_q, ↓δEq_q, ↓δNe_q, ↓δNeS_q, ↓δEqS_q, ↓dNoPart_q, ↓dPart_q, ↓dSlT_q, ↓dNext_q, ↓dSeq_q, ↓dBreak_q, ↓dCont_q, ↓dDrop_q, ↓dRet_q, ↓dRetN_q, ↓dIfS_q, ↓dgName_q, ↓dgNil_mk_q, ↓dgCons_mk_q, ↓onNs_0_q, ↓onNs_s_q, ↓dgTup_q, ↓dgSub_q, ↓dAsg_q, ↓dAppend_q, ↓dForL_q, ↓dForT_q, ↓dForR1_q, ↓dForR2_q, ↓dCall_q, ↓dDict0_q, ↓onKey_i_q, ↓onKey_s_q, ↓dDict1_q, ↓dDict2_q, ↓dDict1T_q, ↓sp1_q, ↓srcL_q, ↓srcT_q, ↓srcR1_q, ↓srcR2_q, ↓dEnd_t_q, ↓dEnd_f_q, ↓dComp_q, ↓tcNo_q, ↓δSortI_q, ↓δMinI_q, ↓δMaxI_q, ↓δ3I_q, ↓δTupOf_q, ↓onW_t_q, ↓onW_l_q, ↓δIn_q, ↓dExtend_q, ↓dSlL_q, ↓δSumI_q, ↓δAllB_q, ↓δAnyB_q, ↓δIntB_q, ↓dPar_q, ↓δCatS_q, ↓dSlS_q, ↓dListR2_q, ↓dAug_q, ↓δMinP_q, ↓dDict0T_q, ↓dPutT_q, ↓onP_mk_q, ↓δInT_q, ↓dRevT_q, ↓dSlTW_q, ↓onFr_l_q, ↓onFr_o_q, ↓dFrzA_q, ↓srcM_q, ↓dWhile_q, ↓dPop_q, ↓onN_mk_q, ↓δIsN_q, ↓δNotIn_q, ↓δNotInT_q, CompRun_n, CompRun_c, TurnsU_n, TurnsU_c, dCompU_q, capD, startD, onAt_last, onKs, keysD, rngD_0, rngD_1, rngD_2, rngD_3, rngD_4, isNone_none, isNone_bool, isNone_int, isNone_str, isNone_list, isNone_tuple, isNone_dict,
  Option.bind_some, Option.bind_none, Option.join_some, Option.join_none, Option.getD_some, Option.map_some, Option.map_none, List.getElem?_cons_zero, List.getElem?_cons_succ, List.set_cons_zero, List.set_cons_succ, List.map_cons, List.map_nil, List.length_cons, List.length_nil, List.replicate, List.cons_append, List.nil_append, List.any_cons, List.any_nil,
  mset_same, mset_mset, ↓reduceIte, Bool.not_true, Bool.not_false, Bool.or_false, Bool.or_true, Bool.true_or, Bool.false_or, Bool.and_true, Bool.and_false, Bool.true_and, Bool.false_and, Bool.bne_true, Bool.bne_false, Bool.false_eq_true, eq_self, true_and, and_true, ixN_30, ixN_31, ixN_32, exists_eq_left', exists_eq_left, Option.some.injEq, Nat.reduceAdd, Nat.reduceSub, Nat.zero_add, Nat.reduceLT, Nat.reduceLeDiff, Int.reduceToNat, Int.reducePow, Int.reduceSub, Int.reduceMul, Int.reduceAdd, Int.reduceNeg,
  Int.reduceLT, Int.reduceLE, Int.reduceEq, Int.zero_add, Int.cast_ofNat_Int, decide_true, decide_false, sizeLine_eq, eqA_nil, eqA_cons, eqA_cn, eqA_nc, eq_tt, eq_ll, eq_nn, eq_ii, eq_ss, eq_bb, ty_int_none, ty_int_bool, ty_int_int, ty_int_str, ty_int_list, ty_int_tuple, ty_int_dict, ty_bool_none, ty_bool_bool, ty_bool_int, ty_bool_str, ty_bool_list, ty_bool_tuple, ty_bool_dict, ty_tuple_none, ty_tuple_bool, ty_tuple_int, ty_tuple_str, ty_tuple_list, ty_tuple_tuple, ty_tuple_dict, ty_list_none, ty_list_bool, ty_list_int, ty_list_str, ty_list_list, ty_list_tuple, ty_list_dict, ty_str_none, ty_str_bool, ty_str_int, ty_str_str, ty_str_list, ty_str_tuple, ty_str_dict, ty_dict_none, ty_dict_bool, ty_dict_int, ty_dict_str, ty_dict_list, ty_dict_tuple, ty_dict_dict, ↓onX_mk_q, ↓onX_m4_q, ↓onQ_bD_q, ↓onT_bD_q, onBs_mk, onBl_mk, ↓spW_q, ↓spSh_q, ↓spAs_q, ↓spSp_q, ↓spBx_q, ↓spShape_q, ↓spT_q, ↓spWob_q, ↓spN_q, ↓spNe_q, ↓spTell_q, ↓spHas_q, ↓spGap_q, ↓spBetween_q, ↓spChain_q, ↓dSlX_q, ↓δIxS_q, ↓δAddS_q, ↓δMulS_q, ↓δLeS_q, ↓srcX_q, ↓δListX_q, ↓δTupX_q, ↓dJoin_q, ↓dUpper_q, ↓onDs_13_q, ↓δEqX_q, ↓δInX_q, ↓dDict6_q, ↓dGetK_q, ↓δRep_q, ↓onDs_14_q, ↓δRepT_q, ↓δCatT0_q, ↓spTake_q, onZs_mk, ↓spWide_q, ↓spNames_q, ↓spBoxes_q, ↓spStretched_q, ↓spStretch_q, ↓spWorld_q, ↓spSpot_q, ↓spLand_q])
theorem NameS.is {s : Str} (h : NameS s) : isNameD (.str s) = true := by
  show ((decide (1 ≤ s.length) && decide (s.length ≤ 8)) && s.cps.toList.all letB) = true
  rw [decide_eq_true h.1.1, decide_eq_true h.1.2]
  exact List.all_eq_true.mpr fun c hc => by unfold letB; rw [decide_eq_true (h.2 c hc).1, decide_eq_true (h.2 c hc).2]; rfl
def LetS (s : Str) : Prop := ∃ c, s = ⟨#[c]⟩ ∧ 97 ≤ c ∧ c ≤ 122
theorem abc : (Str.ofString "abcdefghijklmnopqrstuvwxyz").cps.toList = (List.range 26).map fun k => 97 + k := by decide +kernel
theorem abc_len : (Str.ofString "abcdefghijklmnopqrstuvwxyz").length = 26 := by decide +kernel
theorem abc_at {i : Int} (h0 : 0 ≤ i) (h1 : i < 26) : ∃ c, L2.atI (Str.ofString "abcdefghijklmnopqrstuvwxyz").cps.toList i = some c ∧ 97 ≤ c ∧ c ≤ 122 := by
  obtain ⟨k, rfl⟩ := Int.eq_ofNat_of_zero_le h0
  refine ⟨97 + k, ?_, by omega, by omega⟩
  rw [abc]
  refine atI_nat ?_
  rw [List.getElem?_map, List.getElem?_range (by omega)]
  rfl
theorem flat_ones : ∀ {ss : List Str}, (∀ s ∈ ss, LetS s) → ((ss.map (·.cps.toList)).flatten).length = ss.length ∧ ∀ c ∈ (ss.map (·.cps.toList)).flatten, 97 ≤ c ∧ c ≤ 122
  | [], _ => ⟨rfl, fun c hc => (nomatch hc)⟩
  | s :: ss, h => by
    obtain ⟨c, rfl, hc⟩ := h s List.mem_cons_self
    obtain ⟨i1, i2⟩ := flat_ones fun t ht => h t (List.mem_cons_of_mem _ ht)
    rw [List.map_cons, List.flatten_cons, one_list]
    refine ⟨by rw [List.length_append, i1, List.length_cons]; simp; omega, fun d hd => ?_⟩
    rcases List.mem_append.mp hd with hd | hd
    · rw [List.mem_singleton.mp hd]
      exact hc
    · exact i2 d hd
theorem base_name {ss : List Str} (h8 : ss.length = 8) (h : ∀ s ∈ ss, LetS s) : (Txt.join (Str.ofString "") ss).length = 8 ∧ ∀ c ∈ (Txt.join (Str.ofString "") ss).cps.toList, 97 ≤ c ∧ c ≤ 122 := by
  obtain ⟨i1, i2⟩ := flat_ones h
  rw [← str_len, DL.join_list]
  exact ⟨by omega, i2⟩
theorem tabS {l : List Str} {r : Int} (P : Str → Prop) (h0 : 0 ≤ r) (h1 : r < l.length) (hl : ∀ s ∈ l, P s) {Q : PyData → Prop} (k : ∀ s, P s → Q (.str s)) : onAt (l.map PyData.str) r Q := by
  obtain ⟨n, rfl⟩ := Int.eq_ofNat_of_zero_le h0
  have hn : n < l.length := by omega
  refine onAt_of (d := .str l[n]) (atI_nat (by rw [List.getElem?_map, List.getElem?_eq_getElem hn]; rfl)) (k _ (hl _ (List.getElem_mem hn)))
theorem words_are : ∀ s ∈ (["land", "drop", "free", "spot", "comes", "goes", "in", "out", "stays", "wait", "none", "a", "z"] : List Str), NameS s := by
  unfold NameS
  decide +kernel
/-- a list of names, grown -/
def Nms (i : Nat) (acc : List PyData) : Prop := ∃ ss : List Str, acc = ss.map PyData.str ∧ ss.length = i ∧ ∀ s ∈ ss, NameS s
theorem Nms.snoc {i : Nat} {acc : List PyData} {s : Str} (h : Nms i acc) (hs : NameS s) : Nms (i + 1) (acc ++ [.str s]) := by
  obtain ⟨ss, rfl, hl, ha⟩ := h
  refine ⟨ss ++ [s], by rw [List.map_append]; rfl, by rw [List.length_append, hl]; rfl, fun t ht => ?_⟩
  rcases List.mem_append.mp ht with ht | ht
  · exact ha t ht
  · rw [List.mem_singleton.mp ht]
    exact hs
theorem ok_names (T : Tx K mg) : FnOk P w K mg base CX0 2 T.f_names T.d_names ["_law_pen", "_law_many"] (lift K spNames) := by
  have G_take : FnOk P w K mg base CX0 1 T.f_take T.d_take ["_law_pen", "_law_many"] (lift K spTake) := ok_take T
  refine okD T.o_names.F sc_names (fun xs M Φ h => by obtain ⟨_, _, rfl, _⟩ := on2_ex h; rfl) fun cdv A outer s H E hr => ⟨_, (dss_cons (ds_set 2 sc_names.nd de_str)
  (dss_cons (ds_set 3 sc_names.nd (de_lst (da_cons de_str (da_cons de_str (da_cons de_str (da_cons de_str (da_cons de_str (da_cons de_str (da_cons de_str (da_cons de_str (da_cons de_str (da_cons de_str (da_cons de_str (da_cons de_str (da_cons de_str da_nil)))))))))))))))
  (dss_cons (ds_set 4 sc_names.nd (de_join de_str (de_comp false (compOk_of (sc := defScope s_names) (XN := ["_law_pen", "_law_many", "_law_letters", "_law_words", "_law_base", "_law_start", "_law_manner", "_law_long", "_law_at", "_law_signs"]) (N := ["_law_k", "_law_letters", "_law_pen"]) (ix := [none, some 2, some 0]) rfl rfl (by decide +kernel)) (di_range1 rfl T.n_range (da_cons de_int da_nil)) (fun C ex s H => (dg_name 0 (show List.Nodup (["_law_k", "_law_letters", "_law_pen"] : List Str) by decide +kernel))) (fun C ex s H => dts_nil) (fun C ex s H => (de_ixS (de_var 1) (de_call G_take (hr.mono (by first | decide | omega)) rfl T.o_take.m T.o_take.F.kp T.o_take.b pass0 (da_cons (de_var 2) (da_cons de_int da_nil))))) rfl)))
  (dss_cons (ds_set 5 sc_names.nd (de_call G_take (hr.mono (by first | decide | omega)) rfl T.o_take.m T.o_take.F.kp T.o_take.b pass0 (da_cons (de_var 0) (da_cons de_int da_nil))))
  (dss_cons (ds_set 6 sc_names.nd (de_call G_take (hr.mono (by first | decide | omega)) rfl T.o_take.m T.o_take.F.kp T.o_take.b pass0 (da_cons (de_var 0) (da_cons de_int da_nil))))
  (dss_cons (ds_if (dt_cmp (od_eq hr) (de_var 6) de_int) (dss_one (ds_ret (de_comp false (compOk_of (sc := defScope s_names) (XN := ["_law_pen", "_law_many", "_law_letters", "_law_words", "_law_base", "_law_start", "_law_manner", "_law_long", "_law_at", "_law_signs"]) (N := ["_law_k", "_law_base", "_law_start"]) (ix := [none, some 4, some 5]) rfl rfl (by decide +kernel)) (di_range1 rfl T.n_range (da_cons (de_var 1) da_nil)) (fun C ex s H => (dg_name 0 (show List.Nodup (["_law_k", "_law_base", "_law_start"] : List Str) by decide +kernel))) (fun C ex s H => dts_nil) (fun C ex s H => (de_sliceX (de_var 1) do_none (do_some (de_op od_add (de_op od_mod (de_op od_add (de_var 2) (de_op od_mul de_int (de_var 0))) de_int) de_int)))) rfl))) dss_nil)
  (dss_cons (ds_if (dt_cmp (od_eq hr) (de_var 6) de_int) (dss_one (ds_ret (de_comp false (compOk_of (sc := defScope s_names) (XN := ["_law_pen", "_law_many", "_law_letters", "_law_words", "_law_base", "_law_start", "_law_manner", "_law_long", "_law_at", "_law_signs"]) (N := ["_law_k", "_law_words", "_law_start"]) (ix := [none, some 3, some 5]) rfl rfl (by decide +kernel)) (di_range1 rfl T.n_range (da_cons (de_var 1) da_nil)) (fun C ex s H => (dg_name 0 (show List.Nodup (["_law_k", "_law_words", "_law_start"] : List Str) by decide +kernel))) (fun C ex s H => dts_nil) (fun C ex s H => (de_ix (de_var 1) (de_op od_mod (de_op od_add (de_var 2) (de_var 0)) de_int))) rfl))) dss_nil)
  (dss_cons (ds_set 7 sc_names.nd (de_op od_add de_int (de_call G_take (hr.mono (by first | decide | omega)) rfl T.o_take.m T.o_take.F.kp T.o_take.b pass0 (da_cons (de_var 0) (da_cons de_int da_nil)))))
  (dss_cons (ds_set 8 sc_names.nd (de_call G_take (hr.mono (by first | decide | omega)) rfl T.o_take.m T.o_take.F.kp T.o_take.b pass0 (da_cons (de_var 0) (da_cons (de_var 7) da_nil))))
  (dss_cons (ds_setC 9 false sc_names.nd (compOk_of (sc := defScope s_names) (XN := ["_law_pen", "_law_many", "_law_letters", "_law_words", "_law_base", "_law_start", "_law_manner", "_law_long", "_law_at", "_law_signs"]) (N := ["_law_k", "_law_letters", "_law_start"]) (ix := [none, some 2, some 5]) rfl rfl (by decide +kernel)) (di_range1 rfl T.n_range (da_cons (de_var 1) da_nil)) (fun C ex s H => (dg_name 0 (show List.Nodup (["_law_k", "_law_letters", "_law_start"] : List Str) by decide +kernel))) (fun C ex s H => dts_nil) (fun C ex s H => (de_ixS (de_var 1) (de_op od_mod (de_op od_add (de_var 2) (de_op od_mul de_int (de_var 0))) de_int))) rfl)
  (dss_one (ds_ret (de_comp false (compOk_of (sc := defScope s_names) (XN := ["_law_pen", "_law_many", "_law_letters", "_law_words", "_law_base", "_law_start", "_law_manner", "_law_long", "_law_at", "_law_signs"]) (N := ["_law_sign", "_law_base", "_law_long", "_law_at"]) (ix := [none, some 4, some 7, some 8]) rfl rfl (by decide +kernel)) (di_list (de_var 9)) (fun C ex s H => (dg_name 0 (show List.Nodup (["_law_sign", "_law_base", "_law_long", "_law_at"] : List Str) by decide +kernel))) (fun C ex s H => dts_nil) (fun C ex s H => (de_op od_addS (de_op od_addS (de_sliceX (de_var 1) do_none (do_some (de_var 3))) (de_var 0)) (de_sliceX (de_var 1) (do_some (de_op od_add (de_var 3) de_int)) (do_some (de_var 2))))) rfl))))))))))))), fun xs M Φ h => ?_⟩
  replace h := on2_ex h
  obtain ⟨x1, x2, rfl, h⟩ := h
  replace h := onO_ex h
  obtain ⟨p, rfl, h⟩ := h
  replace h := onI_ex h
  obtain ⟨m, rfl, ⟨hm0, hm8⟩, hp, h⟩ := h
  walk_at "hd"
  walk_at "r5"
  walk_at "hd"
  walk_at "r5"
  walk_at "hd"
  walk_at "r5"
  refine ⟨⟨by decide, by decide⟩, by rw [rngD_len]; decide, fun i acc M' => ∃ ss : List Str, acc = ss.map PyData.str ∧ ss.length = i ∧ (∀ s ∈ ss, LetS s) ∧ Fr p M M', ⟨[], rfl, rfl, fun s hs => (nomatch hs), Fr.refl hp⟩, ?_, ?_⟩
  · rintro i d acc M' hd ⟨ss, rfl, hl, ha, hf⟩
    refine ⟨hf.1, fun r M2 h0 h1 f2 => ⟨by rw [abc_len]; decide, ?_⟩⟩
    obtain ⟨c, hc, c1⟩ := abc_at h0 h1
    refine ⟨c, hc, ss ++ [⟨#[c]⟩], by rw [List.map_append]; rfl, by rw [List.length_append, hl]; rfl, fun s hs => ?_, hf.trans f2⟩
    rcases List.mem_append.mp hs with hs | hs
    · exact ha s hs
    · rw [List.mem_singleton.mp hs]
      exact ⟨c, rfl, c1⟩
  · rintro acc M1 ⟨ss, rfl, hl, ha, hf⟩
    rw [rngD_len] at hl
    refine ⟨ss, rfl, join_ok (B := 1) (fun y hy => by obtain ⟨c, rfl, _⟩ := ha y hy; exact Nat.le_refl 1) (by rw [hl]; decide), ?_⟩
    obtain ⟨bl, bc⟩ := base_name hl ha
    generalize Txt.join (Str.ofString "") ss = b at *
    walk_at "hd"
    walk_at "r5"
    refine ⟨hf.1, fun st M2 s0 s1 f2 => ?_⟩
    walk_at "hd"
    walk_at "r5"
    refine ⟨f2.1, fun mn M3 m0 m1 f3 => ?_⟩
    have fin : ∀ (ds : List PyData) (M' : Mp), Nms m.toNat ds → Fr p M3 M' → Φ (.dat (.list ds)) M' := fun ds M' hn hm => by
      obtain ⟨ss, rfl, h8, ha⟩ := hn
      exact h ss M' h8 ha (((hf.trans f2).trans f3).trans hm)
    walk_at "hd"
    walk_at "r5"
    refine cases_true (fun z => ?_) fun z => ?_
    · refine ⟨⟨by omega, by omega⟩, by rw [rngD_len]; omega, fun i acc M' => Nms i acc ∧ M' = M3, ⟨⟨[], rfl, rfl, fun s hs => (nomatch hs)⟩, rfl⟩, ?_, ?_⟩
      · rintro i d acc M' hd ⟨hn, rfl⟩
        have hi : i < m.toNat := by have := (List.getElem?_eq_some_iff.mp hd).1; rw [rngD_len] at this; exact this
        rw [rngD_get hi] at hd
        cases hd
        walk_at "r5"
        refine ⟨.inl (by decide), by omega, hn.snoc ⟨?_, fun c hc => bc c (cut_mem hc)⟩⟩
        have hm := mod_b (st + 3 * (i : Int)) (show (0 : Int) < 8 by decide)
        rw [cut_len, sIx_at (by omega), bl]
        show 1 ≤ _ - 0 ∧ _ - 0 ≤ 8
        omega
      · rintro acc M' ⟨hn, rfl⟩
        rw [rngD_len] at hn
        exact fin _ _ hn (Fr.refl f3.1)
    · walk_at "hd"
      walk_at "r5"
      refine cases_true (fun z => ?_) fun z => ?_
      · refine ⟨⟨by omega, by omega⟩, by rw [rngD_len]; omega, fun i acc M' => Nms i acc ∧ M' = M3, ⟨⟨[], rfl, rfl, fun s hs => (nomatch hs)⟩, rfl⟩, ?_, ?_⟩
        · rintro i d acc M' hd ⟨hn, rfl⟩
          have hi : i < m.toNat := by have := (List.getElem?_eq_some_iff.mp hd).1; rw [rngD_len] at this; exact this
          rw [rngD_get hi] at hd
          cases hd
          walk_at "r5"
          have hm := mod_b (st + (i : Int)) (show (0 : Int) < 13 by decide)
          exact tabS (l := ["land", "drop", "free", "spot", "comes", "goes", "in", "out", "stays", "wait", "none", "a", "z"]) NameS hm.1 hm.2 words_are fun s hs => hn.snoc hs
        · rintro acc M' ⟨hn, rfl⟩
          rw [rngD_len] at hn
          exact fin _ _ hn (Fr.refl f3.1)
      · walk_at "hd"
        walk_at "r5"
        refine ⟨f3.1, fun lg M4 l0 l1 f4 => ?_⟩
        walk_at "hd"
        walk_at "r5"
        refine ⟨⟨by omega, by omega⟩, f4.1, fun at' M5 t0 t1 f5 => ?_⟩
        walk_at "hd"
        walk_at "r5"
        refine ⟨⟨by omega, by omega⟩, by rw [rngD_len]; omega, fun i acc M' => (∃ ss : List Str, acc = ss.map PyData.str ∧ ss.length = i ∧ ∀ s ∈ ss, LetS s) ∧ M' = M5, ⟨⟨[], rfl, rfl, fun s hs => (nomatch hs)⟩, rfl⟩, ?_, ?_⟩
        · rintro i d acc M' hd ⟨⟨ss, rfl, hl, ha⟩, rfl⟩
          have hi : i < m.toNat := by have := (List.getElem?_eq_some_iff.mp hd).1; rw [rngD_len] at this; exact this
          rw [rngD_get hi] at hd
          cases hd
          walk_at "r5"
          have hm := mod_b (st + 5 * (i : Int)) (show (0 : Int) < 26 by decide)
          obtain ⟨c, hc, c1⟩ := abc_at hm.1 hm.2
          refine ⟨.inl (by decide), by rw [abc_len]; decide, c, by simpa using hc, ss ++ [⟨#[c]⟩], by rw [List.map_append]; rfl, by rw [List.length_append, hl]; rfl, fun s hs => ?_⟩
          rcases List.mem_append.mp hs with hs | hs
          · exact ha s hs
          · rw [List.mem_singleton.mp hs]
            exact ⟨c, rfl, c1⟩
        · rintro acc M' ⟨⟨ss2, rfl, h8, ha2⟩, rfl⟩
          rw [rngD_len] at h8
          subst_vars
          walk_at "r5"
          refine ⟨by rw [List.length_map, h8]; omega, fun i acc M2 => Nms i acc ∧ M2 = M', ⟨⟨[], rfl, rfl, fun s hs => (nomatch hs)⟩, rfl⟩, ?_, ?_⟩
          · rintro i d acc M' hd ⟨hn, rfl⟩
            obtain ⟨s, es, rfl⟩ := map_get hd
            obtain ⟨c, rfl, c1⟩ := ha2 s (List.mem_of_getElem? es)
            walk_at "r5"
            have k1 : (cutS b none (some at')).length = at'.toNat := by
              rw [cut_len, sIx_at t0, bl]
              show _ - 0 = _
              omega
            have k2 : (cutS b (some (at' + 1)) (some (1 + lg))).length = (lg - at').toNat := by
              rw [cut_len, sIx_at (by omega), sIx_at (by omega), bl]
              omega
            refine ⟨by omega, by rw [k1, one_len]; omega, by omega, by rw [add_len, k1, k2, one_len]; omega, hn.snoc ⟨?_, fun d hd => ?_⟩⟩
            · rw [add_len, add_len, k1, k2, one_len]
              omega
            · rw [add_list, add_list, one_list] at hd
              rcases List.mem_append.mp hd with hd | hd
              · rcases List.mem_append.mp hd with hd | hd
                · exact bc d (cut_mem hd)
                · rw [List.mem_singleton.mp hd]
                  exact c1
              · exact bc d (cut_mem hd)
          · rintro acc M' ⟨hn, rfl⟩
            rw [List.length_map, h8] at hn
            exact fin _ _ hn (f4.trans f5)
theorem Fr.fresh {p q : Addr} {M M' : Mp} (h : Fr p M M') (hq : M' q = none) : M q = none := by
  cases e : M q with
  | none => rfl
  | some o =>
    have hn : q ≠ p := Ne.symm (h.1.ne hq)
    rw [h.own e hn] at hq
    cases hq
theorem Fr.gone {p q : Addr} {M M' : Mp} (h : Fr p M M') (hq : M q = none) (hne : q ≠ p) : Fr p M (DL.mdel M' q) := ⟨h.1.del (Ne.symm hne), fun a ha hn => by
  rw [mdel_ne (fun e => hn (by rw [e]; exact hq))]
  exact h.2 a ha hn⟩
theorem chB_snoc : ∀ (l : List B4) (b c : B4), chB (l ++ [b, c]) = (chB (l ++ [b]) && decide (apartB b c ≤ 1))
  | [], b, c => by
    show (decide (apartB b c ≤ 1) && true) = (true && decide (apartB b c ≤ 1))
    rw [Bool.and_true, Bool.true_and]
  | [a], b, c => by
    show (decide (apartB a b ≤ 1) && (decide (apartB b c ≤ 1) && true)) = ((decide (apartB a b ≤ 1) && true) && decide (apartB b c ≤ 1))
    rw [Bool.and_true, Bool.and_true]
  | a :: a' :: l, b, c => by
    have ih := chB_snoc (a' :: l) b c
    show (decide (apartB a a' ≤ 1) && chB (a' :: l ++ [b, c])) = ((decide (apartB a a' ≤ 1) && chB (a' :: l ++ [b])) && decide (apartB b c ≤ 1))
    rw [ih, Bool.and_assoc]
theorem gp_le {a b a' b' : Int} (h1 : a' - b ≤ 1) (h2 : a - b' ≤ 1) : gp a b a' b' ≤ 1 := by
  unfold gp
  omega
theorem apart_le {a b : B4} (h1 : b.x - a.X ≤ 1) (h2 : a.x - b.X ≤ 1) (h3 : b.y - a.Y ≤ 1) (h4 : a.y - b.Y ≤ 1) : apartB a b ≤ 1 := Int.max_le.mpr ⟨gp_le h1 h2, gp_le h3 h4⟩
theorem ok_boxes (T : Tx K mg) : FnOk P w K mg base CX0 2 T.f_boxes T.d_boxes ["_law_pen", "_law_most"] (lift K spBoxes) := by
  have G_take : FnOk P w K mg base CX0 1 T.f_take T.d_take ["_law_pen", "_law_many"] (lift K spTake) := ok_take T
  refine okD T.o_boxes.F sc_boxes (fun xs M Φ h => by obtain ⟨_, _, rfl, _⟩ := on2_ex h; rfl) fun cdv A outer s H E hr => ⟨_, (dss_cons (ds_set 2 sc_boxes.nd (de_lst (da_cons (de_call G_take (hr.mono (by first | decide | omega)) rfl T.o_take.m T.o_take.F.kp T.o_take.b pass0 (da_cons (de_var 0) (da_cons de_int da_nil))) (da_cons (de_call G_take (hr.mono (by first | decide | omega)) rfl T.o_take.m T.o_take.F.kp T.o_take.b pass0 (da_cons (de_var 0) (da_cons de_int da_nil))) da_nil))))
  (dss_cons (ds_set 3 sc_boxes.nd (de_lstO (da_cons (de_tup (da_cons (de_callTy cd_tupleOf rfl T.n_tuple bt_tuple (da_cons (de_var 2) da_nil)) (da_cons (de_tup (da_cons (de_op od_add (de_ix (de_var 2) de_int) (de_call G_take (hr.mono (by first | decide | omega)) rfl T.o_take.m T.o_take.F.kp T.o_take.b pass0 (da_cons (de_var 0) (da_cons de_int da_nil)))) (da_cons (de_op od_add (de_ix (de_var 2) de_int) (de_call G_take (hr.mono (by first | decide | omega)) rfl T.o_take.m T.o_take.F.kp T.o_take.b pass0 (da_cons (de_var 0) (da_cons de_int da_nil)))) da_nil))) da_nil))) da_nil)))
  (dss_cons (ds_forR1 rfl T.n_range (da_cons (de_call G_take (hr.mono (by first | decide | omega)) rfl T.o_take.m T.o_take.F.kp T.o_take.b pass0 (da_cons (de_var 0) (da_cons (de_var 1) da_nil))) da_nil) (dg_name 4 sc_boxes.nd) (dss_cons (ds_asg (de_ix (de_var 3) (de_neg de_int)) (dg_tup (n := 2) rfl (dgs_cons (dg_name 6 sc_boxes.nd) (dgs_cons (dg_name 7 sc_boxes.nd) dgs_nil))))
  (dss_cons (ds_set 5 sc_boxes.nd (de_lst (da_cons (de_call G_take (hr.mono (by first | decide | omega)) rfl T.o_take.m T.o_take.F.kp T.o_take.b pass0 (da_cons (de_var 0) (da_cons de_int da_nil))) (da_cons (de_call G_take (hr.mono (by first | decide | omega)) rfl T.o_take.m T.o_take.F.kp T.o_take.b pass0 (da_cons (de_var 0) (da_cons de_int da_nil))) da_nil))))
  (dss_cons (ds_setCU 2 false sc_boxes.nd (compOk_of (sc := defScope s_boxes) (XN := ["_law_pen", "_law_most", "_law_low", "_law_found", "_law_k", "_law_wide_here", "_law_first", "_law_last"]) (N := ["_law_w", "_law_pen", "_law_first", "_law_wide_here", "_law_last"]) (ix := [none, some 0, some 6, some 5, some 7]) rfl rfl (by decide +kernel)) (di_range1 rfl T.n_range (da_cons de_int da_nil)) (fun C ex s H => (dg_name 0 (show List.Nodup (["_law_w", "_law_pen", "_law_first", "_law_wide_here", "_law_last"] : List Str) by decide +kernel))) (fun C ex s H => dts_nil) (fun C ex s H => (de_op od_add (de_op od_sub (de_op od_sub (de_ix (de_var 2) (de_var 0)) (de_ix (de_var 3) (de_var 0))) de_int) (de_call G_take (hr.mono (by first | decide | omega)) rfl T.o_take.m T.o_take.F.kp T.o_take.b pass0 (da_cons (de_var 1) (da_cons (de_op od_add (de_op od_add (de_op od_sub (de_ix (de_var 4) (de_var 0)) (de_ix (de_var 2) (de_var 0))) (de_ix (de_var 3) (de_var 0))) de_int) da_nil))))) rfl)
  (dss_one (ds_expr (de_append (de_var 3) (de_tup (da_cons (de_callTy cd_tupleOf rfl T.n_tuple bt_tuple (da_cons (de_var 2) da_nil)) (da_cons (de_tup (da_cons (de_op od_add (de_ix (de_var 2) de_int) (de_ix (de_var 5) de_int)) (da_cons (de_op od_add (de_ix (de_var 2) de_int) (de_ix (de_var 5) de_int)) da_nil))) da_nil))))))))) PassesOwn.never rfl)
  (dss_one (ds_ret (de_frz (de_var 3))))))), fun xs M Φ h => ?_⟩
  replace h := on2_ex h
  obtain ⟨x1, x2, rfl, h⟩ := h
  replace h := onO_ex h
  obtain ⟨p, rfl, h⟩ := h
  replace h := onI_ex h
  obtain ⟨m, rfl, hm, hp, h⟩ := h
  walk_at "hd"
  walk_at "r5"
  refine ⟨hp, fun x1 M1 a1 b1 f1 => ⟨f1.1, fun y1 M2 a2 b2 f2 => ?_⟩⟩
  walk_at "hd"
  walk_at "r5"
  refine ⟨f2.1, fun x2 M3 a3 b3 f3 => ⟨f3.1, fun y2 M4 a4 b4 f4 q hq => ?_⟩⟩
  have F0 := ((f1.trans f2).trans f3).trans f4
  have n1 : q ≠ p := Ne.symm (f4.1.ne hq)
  have q0 : M q = none := F0.fresh hq
  walk_at "hd"
  walk_at "r5"
  refine ⟨⟨by omega, by omega⟩, f4.1.put (Ne.symm n1), fun r M5 a5 b5 f5 => ⟨⟨by omega, by omega⟩, ?_⟩⟩
  refine ⟨fun i Δ M' => ∃ (cs : List B4) (b : B4) (k2 k4 k5 k6 k7 : Option DV), Δ = [some (.own p), some (.dat (.int m)), k2, some (.own q), k4, k5, k6, k7] ∧ cs.length = i ∧ chB (cs ++ [b]) = true ∧ (∀ c ∈ cs ++ [b], Grb i c) ∧ M' q = some (.lst (cs.map bD ++ [bD b])) ∧ Fr p M M',
    ⟨[], ⟨x1, y1, x1 + x2, y1 + y2⟩, _, _, _, _, _, rfl, rfl, rfl, ?_, f5.own mset_same n1, (F0.new q0 n1).trans f5⟩, ?_, ?_⟩
  · intro c hc
    rw [List.mem_singleton.mp hc]
    unfold Grb
    dsimp only
    omega
  · rintro i Δ M' hi ⟨cs, b, k2, k4, k5, k6, k7, rfl, hl, hch, hcs, hq', hF⟩
    have hb := hcs b (List.mem_append_right _ (List.mem_singleton.mpr rfl))
    unfold Grb at hb
    rw [dgName_q]
    walk_at "hd"
    walk_at "r5"
    simp only [hq']
    walk_at "r5"
    walk_at "hd"
    walk_at "r5"
    refine ⟨hF.1, fun w1 M6 a6 b6 f6 => ⟨f6.1, fun w2 M7 a7 b7 f7 => ?_⟩⟩
    walk_at "hd"
    walk_at "r5"
    refine ⟨⟨by decide, by decide⟩, ⟨by omega, by omega⟩, f7.1, fun u1 M8 a8 b8 f8 => ⟨⟨by omega, by omega⟩, f8.1, fun u2 M9 a9 b9 f9 => ?_⟩⟩
    have F1 := ((f6.trans f7).trans f8).trans f9
    subst_vars
    walk_at "r5"
    simp only [F1.own hq' n1]
    walk_at "r5"
    refine ⟨by rw [List.length_append, List.length_map, List.length_singleton]; omega, cs ++ [b], ⟨b.x - w1 - 1 + u1, b.y - w2 - 1 + u2, b.x - w1 - 1 + u1 + w1, b.y - w2 - 1 + u2 + w2⟩, _, _, _, _, _, rfl, by rw [List.length_append]; rfl, ?_, fun c hc => ?_, ?_, (hF.trans F1).new q0 n1⟩
    · rw [List.append_assoc]
      show chB (cs ++ [b, _]) = true
      rw [chB_snoc, hch, decide_eq_true (apart_le (by dsimp only; omega) (by dsimp only; omega) (by dsimp only; omega) (by dsimp only; omega))]
      rfl
    · rcases List.mem_append.mp hc with hc | hc
      · have := hcs c hc
        unfold Grb at this ⊢
        omega
      · rw [List.mem_singleton.mp hc]
        unfold Grb
        dsimp only
        omega
    · rw [List.map_append]
      rfl
  · rintro Δ M' ⟨cs, b, k2, k4, k5, k6, k7, rfl, hl, hch, hcs, hq', hF⟩
    subst_vars
    walk_at "r5"
    simp only [hq']
    walk_at "r5"
    rw [show cs.map bD ++ [bD b] = (cs ++ [b]).map bD by rw [List.map_append]; rfl]
    refine h _ _ ⟨by rw [List.length_append, List.length_singleton]; omega, hch, fun c hc => ?_⟩ (hF.gone q0 n1)
    have := hcs c hc
    unfold Grb at this ⊢
    omega
theorem ok_stretched (T : Tx K mg) : FnOk P w K mg base CX0 1 T.f_stretched T.d_stretched ["_law_boxes_here", "_law_by", "_law_off"] (lift K spStretched) := by
  refine okG T.o_stretched.F sc_stretched (fun xs M Φ h => by obtain ⟨_, _, _, rfl, _⟩ := on3_ex h; rfl) fun cdv A outer s H E hr => ⟨_, (dss_cons (ds_set 3 sc_stretched.nd (de_lstO da_nil))
  (dss_cons (ds_forL (de_var 0) (dg_tup (n := 2) rfl (dgs_cons (dg_name 4 sc_stretched.nd) (dgs_cons (dg_name 5 sc_stretched.nd) dgs_nil))) (dss_cons (ds_set 6 sc_stretched.nd (de_tup (da_cons (de_op od_add (de_op od_mul (de_ix (de_var 4) de_int) (de_var 1)) (de_ix (de_var 2) de_int)) (da_cons (de_op od_add (de_op od_mul (de_ix (de_var 4) de_int) (de_var 1)) (de_ix (de_var 2) de_int)) da_nil))))
  (dss_one (ds_expr (de_append (de_var 3) (de_tup (da_cons (de_var 6) (da_cons (de_tup (da_cons (de_op od_add (de_op od_sub (de_op od_add (de_op od_mul (de_ix (de_var 5) de_int) (de_var 1)) (de_var 1)) de_int) (de_ix (de_var 2) de_int)) (da_cons (de_op od_add (de_op od_sub (de_op od_add (de_op od_mul (de_ix (de_var 5) de_int) (de_var 1)) (de_var 1)) de_int) (de_ix (de_var 2) de_int)) da_nil))) da_nil))))))) PassesOwn.never rfl)
  (dss_one (ds_ret (de_callTy cd_tupleOf rfl T.n_tuple bt_tuple (da_cons (de_var 3) da_nil)))))), fun xs M Φ h => ?_⟩
  replace h := on3_ex h
  obtain ⟨x1, x2, x3, rfl, h⟩ := h
  replace h := onBl_ex h
  obtain ⟨bs, rfl, h⟩ := h
  replace h := onI_ex h
  obtain ⟨f, rfl, h⟩ := h
  replace h := onP_ex h
  obtain ⟨ox, oy, rfl, hs, h⟩ := h
  walk_at "hd"
  walk_at "r5"
  intro q hq
  walk_at "hd"
  walk_at "r5"
  refine ⟨fun i Δ M' => ∃ k4 k5 k6, Δ = [some (.dat (.list (bs.map bD))), some (.dat (.int f)), some (.dat (.tuple [.int ox, .int oy])), some (.own q), k4, k5, k6] ∧ M' = mset M q (.lst (((bs.take i).map (strB f ox oy)).map bD)), ⟨none, none, none, rfl, rfl⟩, ?_, ?_⟩
  · rintro i d Δ M' hd ⟨k4, k5, k6, rfl, rfl⟩
    obtain ⟨b, eb, rfl⟩ := map_get hd
    have hb := hs.2.2 _ (List.mem_of_getElem? eb)
    unfold Grb at hb
    walk_at "r5"
    refine ⟨.inl (by omega), .inl (by omega), .inl (by omega), .inl (by omega), by rw [List.length_map, List.length_map, List.length_take]; have := hs.1.2; omega, _, _, _, rfl, ?_⟩
    rw [← take_snoc (strB f ox oy) eb, List.map_append]
    rfl
  · rintro Δ M' ⟨k4, k5, k6, rfl, rfl⟩
    rw [List.length_map, List.take_length]
    subst_vars
    walk_at "r5"
    exact gc_one hq h
theorem ok_stretch (T : Tx K mg) : FnOk P w K mg base CX0 3 T.f_stretch T.d_stretch ["_law_pen"] (lift K spStretch) := by
  have G_take : FnOk P w K mg base CX0 1 T.f_take T.d_take ["_law_pen", "_law_many"] (lift K spTake) := ok_take T
  have G_wide : FnOk P w K mg base CX0 2 T.f_wide T.d_wide ["_law_pen", "_law_many"] (lift K spWide) := ok_wide T
  refine okD T.o_stretch.F sc_stretch (fun xs M Φ h => by obtain ⟨_, rfl, _⟩ := on1_ex h; rfl) fun cdv A outer s H E hr => ⟨_, (dss_cons (ds_set 1 sc_stretch.nd (de_ix (de_lst (da_cons de_int (da_cons de_int (da_cons de_int (da_cons de_int (da_cons de_int (da_cons (de_op od_pow de_int de_int) da_nil))))))) (de_call G_take (hr.mono (by first | decide | omega)) rfl T.o_take.m T.o_take.F.kp T.o_take.b pass0 (da_cons (de_var 0) (da_cons de_int da_nil)))))
  (dss_cons (ds_set 2 sc_stretch.nd (de_ix (de_lst (da_cons (de_tup (da_cons de_int (da_cons de_int da_nil))) (da_cons (de_tup (da_cons (de_op od_sub (de_call G_take (hr.mono (by first | decide | omega)) rfl T.o_take.m T.o_take.F.kp T.o_take.b pass0 (da_cons (de_var 0) (da_cons de_int da_nil))) de_int) (da_cons (de_op od_sub (de_call G_take (hr.mono (by first | decide | omega)) rfl T.o_take.m T.o_take.F.kp T.o_take.b pass0 (da_cons (de_var 0) (da_cons de_int da_nil))) de_int) da_nil))) da_nil))) (de_call G_take (hr.mono (by first | decide | omega)) rfl T.o_take.m T.o_take.F.kp T.o_take.b pass0 (da_cons (de_var 0) (da_cons de_int da_nil)))))
  (dss_cons (ds_if (dt_cmp (od_eq hr) (de_var 1) (de_op od_pow de_int de_int)) (dss_one (ds_set 2 sc_stretch.nd (de_tup (da_cons (de_call G_wide (hr.mono (by first | decide | omega)) rfl T.o_wide.m T.o_wide.F.kp T.o_wide.b pass0 (da_cons (de_var 0) (da_cons (de_op od_pow de_int de_int) da_nil))) (da_cons (de_op od_sub de_int (de_call G_wide (hr.mono (by first | decide | omega)) rfl T.o_wide.m T.o_wide.F.kp T.o_wide.b pass0 (da_cons (de_var 0) (da_cons (de_op od_pow de_int de_int) da_nil)))) da_nil))))) dss_nil)
  (dss_one (ds_ret (de_tup (da_cons (de_var 1) (da_cons (de_var 2) da_nil)))))))), fun xs M Φ h => ?_⟩
  replace h := on1_ex h
  obtain ⟨x1, rfl, h⟩ := h
  replace h := onO_ex h
  obtain ⟨p, rfl, hp, h⟩ := h
  walk_at "hd"
  walk_at "r5"
  refine ⟨cp10 _ (by decide), hp, fun r1 M1 a1 b1 f1 => tab (l := [1, 1, 1, 2, 1000, 10000000000]) (fun t => 1 ≤ t ∧ t ≤ 10000000000) a1 (by simp only [List.length_cons, List.length_nil]; omega) (by decide) fun f hf => ?_⟩
  walk_at "hd"
  walk_at "r5"
  refine ⟨f1.1, fun x M2 a2 b2 f2 => ⟨f2.1, fun y M3 a3 b3 f3 => ⟨f3.1, fun r4 M4 a4 b4 f4 => ?_⟩⟩⟩
  have F := ((f1.trans f2).trans f3).trans f4
  have two : ∃ ox oy : Int, (-20 ≤ ox ∧ ox ≤ 20) ∧ (-20 ≤ oy ∧ oy ≤ 20) ∧ ∀ P : PyData → Prop, onAt [.tuple [.int 0, .int 0], .tuple [.int (x - 20), .int (y - 20)]] r4 P = P (.tuple [.int ox, .int oy]) := by
    have : r4 = 0 ∨ r4 = 1 := by omega
    rcases this with rfl | rfl
    · exact ⟨0, 0, by omega, by omega, fun P => rfl⟩
    · exact ⟨x - 20, y - 20, by omega, by omega, fun P => rfl⟩
  obtain ⟨ox, oy, hx, hy, e⟩ := two
  rw [e]
  clear e
  walk_at "hd"
  walk_at "r5"
  refine ⟨cp10 _ (by decide), cases_true (fun z => ?_) fun z => ?_⟩
  · walk_at "r5"
    refine ⟨cp10 _ (by decide), f4.1, fun u M5 a5 b5 f5 => ⟨cp10 _ (by decide), f5.1, fun v M6 a6 b6 f6 => ?_⟩⟩
    subst_vars
    walk_at "r5"
    exact h _ _ _ _ ⟨by omega, by omega, by omega⟩ ((F.trans f5).trans f6)
  · subst_vars
    walk_at "r5"
    exact h _ _ _ _ ⟨hf, by omega, by omega⟩ F
theorem ok_world (T : Tx K mg) : FnOk P w K mg base CX0 4 T.f_world T.d_world ["_law_pen"] (lift K spWorld) := by
  have G_stretch : FnOk P w K mg base CX0 3 T.f_stretch T.d_stretch ["_law_pen"] (lift K spStretch) := ok_stretch T
  have G_names : FnOk P w K mg base CX0 2 T.f_names T.d_names ["_law_pen", "_law_many"] (lift K spNames) := ok_names T
  have G_take : FnOk P w K mg base CX0 1 T.f_take T.d_take ["_law_pen", "_law_many"] (lift K spTake) := ok_take T
  have G_wide : FnOk P w K mg base CX0 2 T.f_wide T.d_wide ["_law_pen", "_law_many"] (lift K spWide) := ok_wide T
  refine okD T.o_world.F sc_world (fun xs M Φ h => by obtain ⟨_, rfl, _⟩ := on1_ex h; rfl) fun cdv A outer s H E hr => ⟨_, (dss_cons (ds_asg (de_call G_stretch (hr.mono (by first | decide | omega)) rfl T.o_stretch.m T.o_stretch.F.kp T.o_stretch.b pass0 (da_cons (de_var 0) da_nil)) (dg_tup (n := 2) rfl (dgs_cons (dg_name 6 sc_world.nd) (dgs_cons (dg_name 7 sc_world.nd) dgs_nil))))
  (dss_cons (ds_set 1 sc_world.nd (de_op od_pow de_int de_int))
  (dss_cons (ds_set 2 sc_world.nd (de_ix (de_lst (da_cons de_int (da_cons de_int (da_cons (de_op od_sub (de_var 1) de_int) (da_cons (de_call G_wide (hr.mono (by first | decide | omega)) rfl T.o_wide.m T.o_wide.F.kp T.o_wide.b pass0 (da_cons (de_var 0) (da_cons (de_op od_sub (de_var 1) de_int) da_nil))) da_nil))))) (de_call G_take (hr.mono (by first | decide | omega)) rfl T.o_take.m T.o_take.F.kp T.o_take.b pass0 (da_cons (de_var 0) (da_cons de_int da_nil)))))
  (dss_cons (ds_set 3 sc_world.nd (de_op od_add de_int (de_call G_take (hr.mono (by first | decide | omega)) rfl T.o_take.m T.o_take.F.kp T.o_take.b pass0 (da_cons (de_var 0) (da_cons de_int da_nil)))))
  (dss_cons (ds_set 4 sc_world.nd (de_call G_names (hr.mono (by first | decide | omega)) rfl T.o_names.m T.o_names.F.kp T.o_names.b pass0 (da_cons (de_var 0) (da_cons (de_op od_add de_int (de_call G_take (hr.mono (by first | decide | omega)) rfl T.o_take.m T.o_take.F.kp T.o_take.b pass0 (da_cons (de_var 0) (da_cons de_int da_nil)))) da_nil))))
  (dss_cons (ds_set 5 sc_world.nd (de_call G_names (hr.mono (by first | decide | omega)) rfl T.o_names.m T.o_names.F.kp T.o_names.b pass0 (da_cons (de_var 0) (da_cons (de_op od_add de_int (de_call G_take (hr.mono (by first | decide | omega)) rfl T.o_take.m T.o_take.F.kp T.o_take.b pass0 (da_cons (de_var 0) (da_cons de_int da_nil)))) da_nil))))
  (dss_one (ds_ret (de_dict6 at_str (at_var 6) at_str (at_var 7) at_str (at_var 2) at_str (at_var 3) at_str (at_var 4) at_str (at_var 5)))))))))), fun xs M Φ h => ?_⟩
  replace h := on1_ex h
  obtain ⟨x1, rfl, h⟩ := h
  replace h := onO_ex h
  obtain ⟨p, rfl, hp, h⟩ := h
  walk_at "hd"
  walk_at "r5"
  refine ⟨hp, fun f ox oy M1 hf f1 => ?_⟩
  walk_at "hd"
  walk_at "r5"
  refine ⟨cp10 _ (by decide), ?_⟩
  walk_at "hd"
  walk_at "r5"
  refine ⟨f1.1, fun r2 M2 a2 b2 f2 => ⟨f2.1, fun r3 M3 a3 b3 f3 => tab (l := [0, 3, 999999999992, r2]) (fun t => 0 ≤ t ∧ t ≤ 999999999992) a3 (by simp only [List.length_cons, List.length_nil]; omega) (fun w hw => ?_) fun bg hb => ?_⟩⟩
  · simp only [List.mem_cons, List.not_mem_nil, or_false] at hw
    omega
  walk_at "hd"
  walk_at "r5"
  refine ⟨f3.1, fun r4 M4 a4 b4 f4 => ?_⟩
  walk_at "hd"
  walk_at "r5"
  refine ⟨f4.1, fun r5 M5 a5 b5 f5 => ⟨⟨by omega, by omega⟩, f5.1, fun ts M6 tl th f6 => ?_⟩⟩
  walk_at "hd"
  walk_at "r5"
  refine ⟨f6.1, fun r7 M7 a7 b7 f7 => ⟨⟨by omega, by omega⟩, f7.1, fun ls M8 ll lh f8 => ?_⟩⟩
  have F := ((((((f1.trans f2).trans f3).trans f4).trans f5).trans f6).trans f7).trans f8
  subst_vars
  walk_at "r5"
  refine ⟨by decide +kernel, fun q hq => ?_⟩
  have n1 : q ≠ p := Ne.symm (f8.1.ne hq)
  exact h q _ ⟨f, ox, oy, bg, 1 + r4, ts, ls, mset_same, hf, hb, by omega, ⟨by omega, th⟩, ⟨by omega, lh⟩⟩ n1 (F.new (F.fresh hq) n1)
theorem dv_hd (k : Key) (d : PyData) (ps : List (Key × PyData)) : dvalD ((k, d) :: ps) k = some d := by
  unfold dvalD
  rw [List.find?_cons_of_pos (by simp)]
  rfl
theorem dv_tl {k k' : Key} (d : PyData) (ps : List (Key × PyData)) (h : k' ≠ k) : dvalD ((k', d) :: ps) k = dvalD ps k := by
  unfold dvalD
  rw [List.find?_cons_of_neg (by simpa using h)]
theorem onW_get {ps : List (Key × PyData)} {k : Key} {d : PyData} (e : dvalD ps k = some d) (Q : PyData → Prop) : (onOK (some (.dkv ps)) fun ps => ∃ d, dvalD ps k = some d ∧ Q d) = Q d := propext ⟨fun ⟨d', e', h⟩ => by
  rw [e, Option.some.injEq] at e'
  rw [e']
  exact h, fun h => ⟨d, e, h⟩⟩
theorem w_by (f ox oy bg sp : Int) (ts ls : List Str) (Q : PyData → Prop) : (onOK (some (wldO f ox oy bg sp ts ls)) fun ps => ∃ d, dvalD ps (.inr (Str.ofString "by")) = some d ∧ Q d) = Q (.int f) := onW_get (dv_hd _ _ _) Q
theorem w_off (f ox oy bg sp : Int) (ts ls : List Str) (Q : PyData → Prop) : (onOK (some (wldO f ox oy bg sp ts ls)) fun ps => ∃ d, dvalD ps (.inr (Str.ofString "off")) = some d ∧ Q d) = Q (.tuple [.int ox, .int oy]) := onW_get ((dv_tl _ _ (by decide +kernel)).trans (dv_hd _ _ _)) Q
theorem w_begin (f ox oy bg sp : Int) (ts ls : List Str) (Q : PyData → Prop) : (onOK (some (wldO f ox oy bg sp ts ls)) fun ps => ∃ d, dvalD ps (.inr (Str.ofString "begin")) = some d ∧ Q d) = Q (.int bg) := onW_get ((dv_tl _ _ (by decide +kernel)).trans ((dv_tl _ _ (by decide +kernel)).trans (dv_hd _ _ _))) Q
theorem w_span (f ox oy bg sp : Int) (ts ls : List Str) (Q : PyData → Prop) : (onOK (some (wldO f ox oy bg sp ts ls)) fun ps => ∃ d, dvalD ps (.inr (Str.ofString "span")) = some d ∧ Q d) = Q (.int sp) := onW_get ((dv_tl _ _ (by decide +kernel)).trans ((dv_tl _ _ (by decide +kernel)).trans ((dv_tl _ _ (by decide +kernel)).trans (dv_hd _ _ _)))) Q
theorem w_things (f ox oy bg sp : Int) (ts ls : List Str) (Q : PyData → Prop) : (onOK (some (wldO f ox oy bg sp ts ls)) fun ps => ∃ d, dvalD ps (.inr (Str.ofString "things")) = some d ∧ Q d) = Q (.list (ts.map PyData.str)) := onW_get ((dv_tl _ _ (by decide +kernel)).trans ((dv_tl _ _ (by decide +kernel)).trans ((dv_tl _ _ (by decide +kernel)).trans ((dv_tl _ _ (by decide +kernel)).trans (dv_hd _ _ _))))) Q
theorem w_lands (f ox oy bg sp : Int) (ts ls : List Str) (Q : PyData → Prop) : (onOK (some (wldO f ox oy bg sp ts ls)) fun ps => ∃ d, dvalD ps (.inr (Str.ofString "lands")) = some d ∧ Q d) = Q (.list (ls.map PyData.str)) := onW_get ((dv_tl _ _ (by decide +kernel)).trans ((dv_tl _ _ (by decide +kernel)).trans ((dv_tl _ _ (by decide +kernel)).trans ((dv_tl _ _ (by decide +kernel)).trans ((dv_tl _ _ (by decide +kernel)).trans (dv_hd _ _ _)))))) Q
theorem mul_b {a f lo hi : Int} (h1 : lo ≤ a) (h2 : a ≤ hi) (hf : 1 ≤ f) : lo * f ≤ a * f ∧ a * f ≤ hi * f := ⟨Int.mul_le_mul_of_nonneg_right h1 (by omega), Int.mul_le_mul_of_nonneg_right h2 (by omega)⟩
theorem ok_spot (T : Tx K mg) : FnOk P w K mg base CX0 3 T.f_spot T.d_spot ["_law_pen", "_law_world_here"] (lift K spSpot) := by
  have G_wide : FnOk P w K mg base CX0 2 T.f_wide T.d_wide ["_law_pen", "_law_many"] (lift K spWide) := ok_wide T
  have G_take : FnOk P w K mg base CX0 1 T.f_take T.d_take ["_law_pen", "_law_many"] (lift K spTake) := ok_take T
  refine okD T.o_spot.F sc_spot (fun xs M Φ h => by obtain ⟨_, _, rfl, _⟩ := on2_ex h; rfl) fun cdv A outer s H E hr => ⟨_, (dss_cons (ds_set 2 sc_spot.nd ((de_getK hr) (de_var 1) de_str))
  (dss_one (ds_ret (de_callTy cd_tupleOf rfl T.n_tuple bt_tuple (da_cons (de_compU false (compOk_of (sc := defScope s_spot) (XN := ["_law_pen", "_law_world_here", "_law_by"]) (N := ["_law_w", "_law_by", "_law_pen", "_law_world_here"]) (ix := [none, some 2, some 0, some 1]) rfl rfl (by decide +kernel)) (di_range1 rfl T.n_range (da_cons de_int da_nil)) (fun C ex s H => (dg_name 0 (show List.Nodup (["_law_w", "_law_by", "_law_pen", "_law_world_here"] : List Str) by decide +kernel))) (fun C ex s H => dts_nil) (fun C ex s H => (de_op od_add (de_op od_add (de_op od_mul (de_op od_sub (de_call G_take (hr.mono (by first | decide | omega)) rfl T.o_take.m T.o_take.F.kp T.o_take.b pass0 (da_cons (de_var 2) (da_cons de_int da_nil))) de_int) (de_var 1)) (de_call G_wide (hr.mono (by first | decide | omega)) rfl T.o_wide.m T.o_wide.F.kp T.o_wide.b pass0 (da_cons (de_var 2) (da_cons (de_var 1) da_nil)))) (de_ix ((de_getK hr) (de_var 3) de_str) (de_var 0)))) rfl) da_nil))))), fun xs M Φ h => ?_⟩
  replace h := on2_ex h
  obtain ⟨x1, x2, rfl, h⟩ := h
  replace h := onO_ex h
  obtain ⟨p, rfl, h⟩ := h
  replace h := onO_ex h
  obtain ⟨q, rfl, hw, n1, hp, h⟩ := h
  obtain ⟨f, ox, oy, bg, sp, ts, ls, hq, ⟨hf, hx, hy⟩, hw⟩ := hw
  walk_at "hd"
  walk_at "r5"
  simp only [hq, w_by]
  subst_vars
  walk_at "r5"
  refine ⟨⟨by decide, by decide⟩, hp, fun r1 M1 a1 b1 f1 => ⟨.inl (by omega), ⟨by omega, by omega⟩, f1.1, fun r2 M2 a2 b2 f2 => ?_⟩⟩
  simp only [(f1.trans f2).own hq n1, w_off]
  walk_at "r5"
  refine ⟨f2.1, fun r3 M3 a3 b3 f3 => ⟨.inl (by omega), ⟨by omega, by omega⟩, f3.1, fun r4 M4 a4 b4 f4 => ?_⟩⟩
  have F := ((f1.trans f2).trans f3).trans f4
  simp only [F.own hq n1, w_off]
  walk_at "r5"
  have e1 := mul_b (a := r1 - 2) (lo := -2) (hi := 14) (by omega) (by omega) hf.1
  have e2 := mul_b (a := r3 - 2) (lo := -2) (hi := 14) (by omega) (by omega) hf.1
  exact h _ _ _ ⟨by omega, by omega⟩ ⟨by omega, by omega⟩ F
theorem rep_tx (n : Nat) (ls : List Str) : (List.replicate n [PyData.str (Str.ofString "")]).flatten ++ ls.map PyData.str = (List.replicate n (Str.ofString "") ++ ls).map PyData.str := by
  rw [List.map_append, List.map_replicate]
  congr 1
  induction n with
  | zero => rfl
  | succ n ih => rw [List.replicate_succ, List.flatten_cons, ih]; rfl
theorem half_b {x f r2 : Int} (h0 : 0 ≤ x) (h3 : x ≤ 3) (hf : 1 ≤ f ∧ f ≤ 10000000000) (hr : r2 = 1 ∨ r2 = 2) : 0 ≤ x * f / r2 ∧ x * f / r2 ≤ 30000000000 := by
  have e := mul_b h0 h3 hf.1
  rcases hr with rfl | rfl <;> omega
theorem ok_land (T : Tx K mg) : FnOk P w K mg base CX0 3 T.f_land T.d_land ["_law_pen", "_law_world_here", "_law_time"] (lift K spLand) := by
  have G_boxes : FnOk P w K mg base CX0 2 T.f_boxes T.d_boxes ["_law_pen", "_law_most"] (lift K spBoxes) := ok_boxes T
  have G_take : FnOk P w K mg base CX0 1 T.f_take T.d_take ["_law_pen", "_law_many"] (lift K spTake) := ok_take T
  have G_stretched : FnOk P w K mg base CX0 1 T.f_stretched T.d_stretched ["_law_boxes_here", "_law_by", "_law_off"] (lift K spStretched) := ok_stretched T
  refine okD T.o_land.F sc_land (fun xs M Φ h => by obtain ⟨_, _, _, rfl, _⟩ := on3_ex h; rfl) fun cdv A outer s H E hr => ⟨_, (dss_cons (ds_set 3 sc_land.nd ((de_getK hr) (de_var 1) de_str))
  (dss_cons (ds_set 4 sc_land.nd ((de_getK hr) (de_var 1) de_str))
  (dss_cons (ds_set 5 sc_land.nd (de_ix (de_op od_catS (de_op od_rep (de_lstO (da_cons de_str da_nil)) (de_callB cd_len rfl T.n_len bt_len (da_cons (de_var 3) da_nil))) (de_var 3)) (de_call G_take (hr.mono (by first | decide | omega)) rfl T.o_take.m T.o_take.F.kp T.o_take.b pass0 (da_cons (de_var 0) (da_cons (de_op od_mul de_int (de_callB cd_len rfl T.n_len bt_len (da_cons (de_var 3) da_nil))) da_nil)))))
  (dss_cons (ds_set 6 sc_land.nd (de_call G_boxes (hr.mono (by first | decide | omega)) rfl T.o_boxes.m T.o_boxes.F.kp T.o_boxes.b pass0 (da_cons (de_var 0) (da_cons (de_ix (de_lst (da_cons de_int (da_cons de_int (da_cons de_int (da_cons de_int da_nil))))) (de_call G_take (hr.mono (by first | decide | omega)) rfl T.o_take.m T.o_take.F.kp T.o_take.b pass0 (da_cons (de_var 0) (da_cons de_int da_nil)))) da_nil))))
  (dss_cons (ds_set 7 sc_land.nd (de_op od_fdiv (de_op od_mul (de_ix (de_lst (da_cons de_int (da_cons de_int (da_cons de_int (da_cons de_int (da_cons de_int da_nil)))))) (de_call G_take (hr.mono (by first | decide | omega)) rfl T.o_take.m T.o_take.F.kp T.o_take.b pass0 (da_cons (de_var 0) (da_cons de_int da_nil)))) (de_var 4)) (de_ix (de_lst (da_cons de_int (da_cons de_int da_nil))) (de_call G_take (hr.mono (by first | decide | omega)) rfl T.o_take.m T.o_take.F.kp T.o_take.b pass0 (da_cons (de_var 0) (da_cons de_int da_nil))))))
  (dss_cons (ds_set 8 sc_land.nd (de_ix (de_var 3) (de_call G_take (hr.mono (by first | decide | omega)) rfl T.o_take.m T.o_take.F.kp T.o_take.b pass0 (da_cons (de_var 0) (da_cons (de_callB cd_len rfl T.n_len bt_len (da_cons (de_var 3) da_nil)) da_nil)))))
  (dss_one (ds_ret (de_tup (da_cons de_str (da_cons (de_var 2) (da_cons (de_var 8) (da_cons (de_var 5) (da_cons (de_call G_stretched (hr.mono (by first | decide | omega)) rfl T.o_stretched.m T.o_stretched.F.kp T.o_stretched.b pass0 (da_cons (de_var 6) (da_cons (de_var 4) (da_cons ((de_getK hr) (de_var 1) de_str) da_nil)))) (da_cons (de_var 7) da_nil))))))))))))))), fun xs M Φ h => ?_⟩
  replace h := on3_ex h
  obtain ⟨x1, x2, x3, rfl, h⟩ := h
  replace h := onO_ex h
  obtain ⟨p, rfl, h⟩ := h
  replace h := onO_ex h
  obtain ⟨q, rfl, h⟩ := h
  replace h := onI_ex h
  obtain ⟨t, rfl, hw, n1, hp, h⟩ := h
  obtain ⟨f, ox, oy, bg, sp, ts, ls, hq, hf, hw⟩ := hw
  obtain ⟨_, _, _, hl, hn⟩ := hw
  walk_at "hd"
  walk_at "r5"
  simp only [hq, w_lands]
  walk_at "hd"
  walk_at "r5"
  simp only [hq, w_by]
  walk_at "hd"
  walk_at "r5"
  intro g hg
  have ng : g ≠ p := Ne.symm (hp.ne hg)
  rw [rep_tx, ← List.length_append, rep_tx, List.length_map, List.length_map, List.length_append, List.length_replicate]
  refine ⟨by omega, by omega, .inl (by decide), ⟨by omega, by omega⟩, hp.put (Ne.symm ng), fun r1 M1 a1 b1 f1 => ?_⟩
  replace f1 := (Fr.new (Fr.refl hp) hg ng).trans f1
  refine tabS (fun s => s = Str.ofString "" ∨ NameS s) a1 (by rw [List.length_append, List.length_replicate]; omega) (fun s hs => ?_) fun ou ho => ?_
  · rcases List.mem_append.mp hs with hs | hs
    · exact .inl (List.eq_of_mem_replicate hs)
    · exact .inr (hn s hs)
  walk_at "hd"
  walk_at "r5"
  refine ⟨f1.1, fun r2 M2 a2 b2 f2 => tab (l := [3, 3, 3, 6]) (fun t => 1 ≤ t ∧ t ≤ 6) a2 (by simp only [List.length_cons, List.length_nil]; omega) (by decide) fun m hm => ?_⟩
  walk_at "r5"
  refine ⟨hm, f2.1, fun bs M3 hb f3 => ?_⟩
  walk_at "hd"
  walk_at "r5"
  refine ⟨f3.1, fun r4 M4 a4 b4 f4 => tab (l := [0, 0, 1, 2, 3]) (fun t => 0 ≤ t ∧ t ≤ 3) a4 (by simp only [List.length_cons, List.length_nil]; omega) (by decide) fun wb hwb => ?_⟩
  walk_at "r5"
  refine ⟨.inl (by omega), f4.1, fun r5 M5 a5 b5 f5 => tab (l := [1, 2]) (fun t => t = 1 ∨ t = 2) a5 (by simp only [List.length_cons, List.length_nil]; omega) (by decide) fun dv hdv => ?_⟩
  walk_at "r5"
  replace hdv : dv = 1 ∨ dv = 2 := hdv
  refine ⟨⟨by omega, by omega⟩, ?_⟩
  walk_at "hd"
  walk_at "r5"
  rw [List.length_map]
  refine ⟨⟨by omega, by omega⟩, f5.1, fun r6 M6 a6 b6 f6 => ?_⟩
  have F := ((((f1.trans f2).trans f3).trans f4).trans f5).trans f6
  refine tabS NameS a6 b6 hn fun nm hnm => ?_
  subst_vars
  walk_at "r5"
  simp only [F.own hq n1, w_off]
  walk_at "r5"
  exact ⟨hb, h nm ou bs f ox oy _ _ hnm ho hb hf (half_b hwb.1 hwb.2 hf.1 hdv) F⟩
/-! ### what can be shown -/
structure Pl (k n : Nat) (d : PyData) : Prop where
  s : d.showable = true
  nd : d.hasDict = false
  nl : hasLst d = false
  dp : d.depth ≤ k
  z : cost d ≤ n
structure Pls (k n : Nat) (l : List PyData) : Prop where
  s : PyData.showableAll l = true
  nd : PyData.hasDictAll l = false
  nl : hasLstAll l = false
  dp : PyData.depthAll l ≤ k
  z : costAll l ≤ n
structure Od (k n : Nat) (d : PyData) : Prop where
  s : d.showable = true
  m : (d.hasDict && hasLst d) = false
  dp : d.depth ≤ k
  z : cost d ≤ n
theorem Pl.od {k n : Nat} {d : PyData} (h : Pl k n d) : Od k n d := ⟨h.s, by rw [h.nd]; rfl, h.dp, h.z⟩
theorem Od.le {k n k' n' : Nat} {d : PyData} (h : Od k n d) (hk : k ≤ k') (hn : n ≤ n') : Od k' n' d := ⟨h.s, h.m, Nat.le_trans h.dp hk, Nat.le_trans h.z hn⟩
theorem Pl.le {k n k' n' : Nat} {d : PyData} (h : Pl k n d) (hk : k ≤ k') (hn : n ≤ n') : Pl k' n' d := ⟨h.s, h.nd, h.nl, Nat.le_trans h.dp hk, Nat.le_trans h.z hn⟩
theorem Od.shw {k n : Nat} {d : PyData} (h : Od k n d) (hk : k ≤ 64) (hn : n ≤ 1000000) : Shw d := Shw.of h.s h.m (Nat.le_trans h.dp hk) (Nat.le_trans h.z hn)
theorem Pls.nil : Pls 0 0 [] := ⟨by simp [PyData.showableAll], by simp [PyData.hasDictAll], by simp [hasLstAll], by simp [PyData.depthAll], by simp [costAll]⟩
theorem Pls.cons {k n k' m : Nat} {d : PyData} {l : List PyData} (h : Pl k n d) (t : Pls k' m l) : Pls (max k k') (n + 2 + m) (d :: l) :=
  ⟨by simp only [PyData.showableAll, h.s, t.s, Bool.and_self], by simp only [PyData.hasDictAll, h.nd, t.nd, Bool.or_self], by simp only [hasLstAll, h.nl, t.nl, Bool.or_self],
    by simp only [PyData.depthAll]; have := h.dp; have := t.dp; omega, by simp only [costAll]; have := h.z; have := t.z; omega⟩
theorem Pls.le {k n k' n' : Nat} {l : List PyData} (h : Pls k n l) (hk : k ≤ k') (hn : n ≤ n') : Pls k' n' l := ⟨h.s, h.nd, h.nl, Nat.le_trans h.dp hk, Nat.le_trans h.z hn⟩
theorem Pls.all {k n m : Nat} : ∀ {l : List PyData}, l.length ≤ m → (∀ d ∈ l, Pl k n d) → Pls k ((n + 2) * m) l
  | [], _, _ => Pls.nil.le (Nat.zero_le _) (Nat.zero_le _)
  | d :: l, hm, h => by
    obtain ⟨m, rfl⟩ : ∃ m', m = m' + 1 := ⟨m - 1, by rw [List.length_cons] at hm; omega⟩
    refine (Pls.cons (h d List.mem_cons_self) (Pls.all (m := m) (by rw [List.length_cons] at hm; omega) fun e he => h e (List.mem_cons_of_mem _ he))).le (by omega) ?_
    rw [Nat.mul_succ]
    omega
theorem Pls.app {k n m : Nat} : ∀ {l l' : List PyData}, Pls k n l → Pls k m l' → Pls k (n + m) (l ++ l')
  | [], l', _, h => h.le (Nat.le_refl _) (by omega)
  | d :: l, l', g, h => by
    have gs := g.s
    have gd := g.nd
    have gl := g.nl
    have gp := g.dp
    have gz := g.z
    simp only [PyData.showableAll, Bool.and_eq_true] at gs
    simp only [PyData.hasDictAll, Bool.or_eq_false_iff] at gd
    simp only [hasLstAll, Bool.or_eq_false_iff] at gl
    simp only [PyData.depthAll] at gp
    simp only [costAll] at gz
    have t := Pls.app (k := k) (l := l) (n := n - (cost d + 2)) ⟨gs.2, gd.2, gl.2, by omega, by omega⟩ h
    exact (Pls.cons (k := k) (d := d) ⟨gs.1, gd.1, gl.1, by omega, Nat.le_refl _⟩ t).le (by omega) (by omega)
theorem Pl.tup {k n : Nat} {l : List PyData} (h : Pls k n l) : Pl (k + 1) (n + 3) (.tuple l) :=
  ⟨by simp only [PyData.showable.eq_6, h.s], by simp only [PyData.hasDict, h.nd], by simp only [hasLst, h.nl], by simp only [PyData.depth]; have := h.dp; omega, by simp only [cost]; have := h.z; omega⟩
theorem Od.lst {k n : Nat} {l : List PyData} (h : Pls k n l) : Od (k + 1) (n + 2) (.list l) :=
  ⟨by simp only [PyData.showable, h.s], by simp only [PyData.hasDict, h.nd]; rfl, by simp only [PyData.depth]; have := h.dp; omega, by simp only [cost]; have := h.z; omega⟩
theorem Od.dct : Od 1 2 (.dict []) := ⟨by simp [PyData.showable, PyData.showableKv], by simp [hasLst, hasLstKv], by simp [PyData.depth, PyData.depthKv], by simp [cost, costKv]⟩
theorem Od.tup {k n a b : Nat} {e : PyData} : ∀ {l l' : List PyData}, Pls k a l → Od k n e → Pls k b l' → PyData.showableAll (l ++ e :: l') = true ∧ PyData.hasDictAll (l ++ e :: l') = e.hasDict ∧ hasLstAll (l ++ e :: l') = hasLst e ∧ PyData.depthAll (l ++ e :: l') ≤ k ∧ costAll (l ++ e :: l') ≤ a + (n + 2 + b)
  | [], l', g, h, g' => by
    have := g'.dp
    have := h.dp
    have := g'.z
    have := h.z
    refine ⟨?_, ?_, ?_, ?_, ?_⟩
    · simp only [List.nil_append, PyData.showableAll, h.s, g'.s, Bool.and_self]
    · simp only [List.nil_append, PyData.hasDictAll, g'.nd, Bool.or_false]
    · simp only [List.nil_append, hasLstAll, g'.nl, Bool.or_false]
    · simp only [List.nil_append, PyData.depthAll]; omega
    · simp only [List.nil_append, costAll]; omega
  | d :: l, l', g, h, g' => by
    have gs := g.s
    have gd := g.nd
    have gl := g.nl
    have gp := g.dp
    have gz := g.z
    simp only [PyData.showableAll, Bool.and_eq_true] at gs
    simp only [PyData.hasDictAll, Bool.or_eq_false_iff] at gd
    simp only [hasLstAll, Bool.or_eq_false_iff] at gl
    simp only [PyData.depthAll] at gp
    simp only [costAll] at gz
    obtain ⟨t1, t2, t3, t4, t5⟩ := Od.tup (l := l) (a := a - (cost d + 2)) ⟨gs.2, gd.2, gl.2, by omega, by omega⟩ h g'
    refine ⟨?_, ?_, ?_, ?_, ?_⟩
    · simp only [List.cons_append, PyData.showableAll, gs.1, t1, Bool.and_self]
    · simp only [List.cons_append, PyData.hasDictAll, gd.1, t2, Bool.false_or]
    · simp only [List.cons_append, hasLstAll, gl.1, t3, Bool.false_or]
    · simp only [List.cons_append, PyData.depthAll]; omega
    · simp only [List.cons_append, costAll]; omega
theorem Od.put {k n a b : Nat} {e : PyData} {l l' : List PyData} (g : Pls k a l) (h : Od k n e) (g' : Pls k b l') : Od (k + 1) (a + (n + 2 + b) + 3) (.tuple (l ++ e :: l')) := by
  obtain ⟨t1, t2, t3, t4, t5⟩ := Od.tup g h g'
  exact ⟨by simp only [PyData.showable.eq_6, t1], by simp only [PyData.hasDict, hasLst, t2, t3, h.m], by simp only [PyData.depth]; omega, by simp only [cost]; omega⟩
theorem pInt {i : Int} (h : -(10 ^ 60) ≤ i ∧ i ≤ 10 ^ 60) : Pl 0 1921 (.int i) := ⟨Mid.show ⟨by omega, by omega⟩, by simp [PyData.hasDict], by simp [hasLst], by simp [PyData.depth], by simp [cost]⟩
theorem pBl (b : Bool) : Pl 0 5 (.bool b) := ⟨by simp [PyData.showable], by simp [PyData.hasDict], by simp [hasLst], by simp [PyData.depth], by simp [cost]⟩
theorem pNon : Pl 0 4 .none := ⟨by simp [PyData.showable], by simp [PyData.hasDict], by simp [hasLst], by simp [PyData.depth], by simp [cost]⟩
theorem pStr {s : Str} (h : ∀ c ∈ s.cps.toList, c < 16 ^ 8) {n : Nat} (hn : s.length ≤ n) : Pl 0 (10 * n + 2) (.str s) := ⟨by simp [PyData.showable], by simp [PyData.hasDict], by simp [hasLst], by simp [PyData.depth], by
  simp only [cost]
  have := StrLaws.reprText_len s h
  omega⟩
theorem of_small (t : String) : ∀ c ∈ (Str.ofString t).cps.toList, c < 16 ^ 8 := by
  intro c hc
  rw [PySem.Str.ofString_eq_toList] at hc
  simp at hc
  obtain ⟨a, _, rfl⟩ := hc
  have h := a.valid
  show a.val.toNat < 16 ^ 8
  unfold UInt32.isValidChar Nat.isValidChar at h
  omega
theorem pLit (t : String) {n : Nat} (hn : (Str.ofString t).length ≤ n) : Pl 0 (10 * n + 2) (.str (Str.ofString t)) := pStr (of_small t) hn
theorem pNm {s : Str} (h : NameS s) : Pl 0 82 (.str s) := pStr (n := 8) (fun c hc => by have := h.2 c hc; omega) h.1.2
theorem pSp {x y : Int} (hx : Sh x) (hy : Sh y) : Pl 1 3849 (.tuple [.int x, .int y]) :=
  (Pl.tup (Pls.cons (pInt (by unfold Sh at hx; omega)) (Pls.cons (pInt (by unfold Sh at hy; omega)) Pls.nil))).le (by decide) (by decide)
theorem fc {Q : PyData → Prop} {a : PyData} {l : List PyData} (h : Q a) (k : ∀ d ∈ l, Q d) : ∀ d ∈ a :: l, Q d := fun d hd => by
  rcases List.mem_cons.mp hd with rfl | hd
  · exact h
  · exact k d hd
theorem fn {Q : PyData → Prop} : ∀ d ∈ ([] : List PyData), Q d := fun _ h => (nomatch h)
/-- an odd thing: its texts are short, it can be shown -/
structure Thg (d : PyData) : Prop where
  t : okTx d = true
  o : Od 20 90000 d
theorem Od.th {k n : Nat} {d : PyData} (h : Od k n d) (t : okTx d = true) (hk : k ≤ 20 := by decide) (hn : n ≤ 90000 := by decide) : Thg d := ⟨t, h.le hk hn⟩
theorem Pl.th {k n : Nat} {d : PyData} (h : Pl k n d) (t : okTx d = true) (hk : k ≤ 20 := by decide) (hn : n ≤ 90000 := by decide) : Thg d := h.od.th t hk hn
/-! ### tellings -/
def ShpK (bs : List B4) : Prop := (1 ≤ bs.length ∧ bs.length ≤ 6) ∧ chB bs = true ∧ ∀ b ∈ bs, okB b = true ∧ (Sh b.x ∧ Sh b.y) ∧ (Sh b.X ∧ Sh b.Y)
def LandK (w : Str) (l : List PyData) : Prop := w = Str.ofString "land" ∧ ∃ (ou : Str) (bs : List B4) (wb : Int), l = [.str ou, .tuple (bs.map bD), .int wb] ∧ (ou = Str.ofString "" ∨ NameS ou) ∧ ShpK bs ∧ (0 ≤ wb ∧ wb ≤ 30000000000)
def SpotK (w : Str) (l : List PyData) : Prop := w = Str.ofString "spot" ∧ ∃ u v : Int, l = [.tuple [.int u, .int v]] ∧ Sh u ∧ Sh v
def DropK (w : Str) (l : List PyData) : Prop := (w = Str.ofString "drop" ∨ w = Str.ofString "free") ∧ l = []
def Tel (ds : List PyData) : Prop := ∃ (w : Str) (t : Int) (nm : Str) (l : List PyData), ds = .str w :: .int t :: .str nm :: l ∧ (0 ≤ t ∧ t ≤ 1000000000000) ∧ NameS nm ∧ (LandK w l ∨ SpotK w l ∨ DropK w l)
def Gw (M M' : Mp) : Prop := ∀ a, M a ≠ none → M' a = M a
theorem Gw.refl {M : Mp} : Gw M M := fun _ _ => rfl
theorem Gw.trans {M M1 M2 : Mp} (h : Gw M M1) (k : Gw M1 M2) : Gw M M2 := fun a ha => by
  rw [k a (by rw [h a ha]; exact ha), h a ha]
theorem Gw.new {M M' : Mp} {q : Addr} {o : OO} (h : Gw M M') (hq : M' q = none) : Gw M (mset M' q o) := fun a ha => by
  have e := h a ha
  rw [mset_ne (fun z => ha (by rw [← e, z]; exact hq)), e]
def Knd (w : Str) (l : List PyData) : Prop := LandK w l ∨ SpotK w l ∨ DropK w l
theorem nm_tx {s : Str} (h : NameS s) : okTx (.str s) = true := decide_eq_true (by have := h.1; omega)
theorem shape_fit {bs : List B4} (hs : ShpK bs) : Pl 3 46245 (.tuple (bs.map bD)) := by
  refine (Pl.tup (Pls.all (k := 2) (n := 7705) (m := 6) (by rw [List.length_map]; exact hs.1.2) fun d hd => ?_)).le (by decide) (by decide)
  obtain ⟨c, hc, rfl⟩ := List.mem_map.mp hd
  have hc := hs.2.2 c hc
  exact (Pl.tup (Pls.cons (pSp hc.2.1.1 hc.2.1.2) (Pls.cons (pSp hc.2.2.1 hc.2.2.2) Pls.nil))).le (by decide) (by decide)
theorem knd_fit {w : Str} {l : List PyData} (h : Knd w l) : Pls 19 60000 l ∧ l.all okTx = true ∧ l.length ≤ 3 ∧ Pl 0 102 (.str w) ∧ okTx (.str w) = true := by
  rcases h with ⟨rfl, ou, bs, wb, rfl, ho, hs, hw⟩ | ⟨rfl, u, v, rfl, hu, hv⟩ | ⟨hw, rfl⟩
  · have po : Pl 0 102 (.str ou) ∧ okTx (.str ou) = true := by
      rcases ho with rfl | ho
      · exact ⟨pLit "" (n := 10) (by decide +kernel), by decide +kernel⟩
      · exact ⟨(pNm ho).le (by decide) (by decide), nm_tx ho⟩
    refine ⟨(Pls.cons po.1 (Pls.cons (shape_fit hs) (Pls.cons (pInt (by omega)) Pls.nil))).le (by decide) (by decide), ?_, by simp, pLit "land" (n := 10) (by decide +kernel), by decide +kernel⟩
    show (okTx (.str ou) && _) = true
    rw [po.2]
    rfl
  · exact ⟨(Pls.cons (pSp hu hv) Pls.nil).le (by decide) (by decide), rfl, by simp, pLit "spot" (n := 10) (by decide +kernel), by decide +kernel⟩
  · refine ⟨Pls.nil.le (by decide) (by decide), rfl, by simp, ?_⟩
    rcases hw with rfl | rfl
    · exact ⟨pLit "drop" (n := 10) (by decide +kernel), by decide +kernel⟩
    · exact ⟨pLit "free" (n := 10) (by decide +kernel), by decide +kernel⟩
theorem s_ll : isS (.str (Str.ofString "land")) (Str.ofString "land") = true := by decide +kernel
theorem s_sl : isS (.str (Str.ofString "spot")) (Str.ofString "land") = false := by decide +kernel
theorem s_ss : isS (.str (Str.ofString "spot")) (Str.ofString "spot") = true := by decide +kernel
theorem s_dl : isS (.str (Str.ofString "drop")) (Str.ofString "land") = false ∧ isS (.str (Str.ofString "drop")) (Str.ofString "spot") = false := by decide +kernel
theorem s_fl : isS (.str (Str.ofString "free")) (Str.ofString "land") = false ∧ isS (.str (Str.ofString "free")) (Str.ofString "spot") = false := by decide +kernel
theorem r_land (l : List PyData) : restD (.str (Str.ofString "land")) l = landD l := by unfold restD; rw [if_pos s_ll]
theorem r_spot (l : List PyData) : restD (.str (Str.ofString "spot")) l = spotD l := by unfold restD; rw [s_sl, if_neg (by decide), if_pos s_ss]
theorem r_drop (a : PyData) (l : List PyData) : restD (.str (Str.ofString "drop")) (a :: l) = false := by unfold restD; rw [s_dl.1, s_dl.2]; rfl
theorem r_free (a : PyData) (l : List PyData) : restD (.str (Str.ofString "free")) (a :: l) = false := by unfold restD; rw [s_fl.1, s_fl.2]; rfl
theorem tel_rest {w t n : PyData} {l : List PyData} (h : restD w l = false) : isTellingD (.tuple (w :: t :: n :: l)) = false := by
  show (_ && (_ && restD w l)) = false
  rw [h, Bool.and_false, Bool.and_false]
theorem sh_is {x : Int} (h : Sh x) : isShortD (.int x) = true := by
  show (decide (-999999999999 ≤ x) && decide (x ≤ 999999999999)) = true
  rw [decide_eq_true h.1, decide_eq_true h.2]
  rfl
theorem shape_is {bs : List B4} (h : ShpK bs) : isShapeD (.tuple (bs.map bD)) = true := by
  show ((decide (1 ≤ (bs.map bD).length) && decide ((bs.map bD).length ≤ 6)) && ((bs.map bD).all isBoxD && chB ((bs.map bD).map toB))) = true
  rw [map_toB, h.2.1, List.length_map, decide_eq_true h.1.1, decide_eq_true h.1.2, List.all_eq_true.mpr fun d hd => ?_]
  · rfl
  · obtain ⟨b, hb, rfl⟩ := List.mem_map.mp hd
    obtain ⟨h1, ⟨h2, h3⟩, h4, h5⟩ := h.2.2 b hb
    show ((isShortD (.int b.x) && isShortD (.int b.y)) && ((isShortD (.int b.X) && isShortD (.int b.Y)) && okB b)) = true
    rw [sh_is h2, sh_is h3, sh_is h4, sh_is h5, h1]
    rfl
theorem knd_is {w : Str} {l : List PyData} (h : Knd w l) : restD (.str w) l = true := by
  rcases h with ⟨rfl, ou, bs, wb, rfl, ho, hs, hw⟩ | ⟨rfl, u, v, rfl, hu, hv⟩ | ⟨hw, rfl⟩
  · rw [r_land]
    show ((isS (.str ou) (Str.ofString "") || isNameD (.str ou)) && (isShapeD (.tuple (bs.map bD)) && (decide (0 ≤ wb) && decide (wb ≤ 999999999999)))) = true
    rw [shape_is hs, decide_eq_true hw.1, decide_eq_true (show wb ≤ 999999999999 by omega)]
    rcases ho with rfl | ho
    · decide +kernel
    · rw [ho.is, Bool.or_true]
      rfl
  · rw [r_spot]
    show (isShortD (.int u) && isShortD (.int v)) = true
    rw [sh_is hu, sh_is hv]
    rfl
  · rcases hw with rfl | rfl <;> decide +kernel
theorem tel_is {D : List PyData} (h : Tel D) : isTellingD (.tuple D) = true ∧ okTl (.tuple D) = true := by
  obtain ⟨w, t, nm, l, rfl, ht, hn, hk⟩ := h
  obtain ⟨_, lt, _, _, wt⟩ := knd_fit hk
  constructor
  · show ((decide (0 ≤ t) && decide (t ≤ 1000000000000)) && (isNameD (.str nm) && restD (.str w) l)) = true
    rw [decide_eq_true ht.1, decide_eq_true ht.2, hn.is, knd_is hk]
    rfl
  · show (okTx (.str w) && (true && (okTx (.str nm) && l.all okTx))) = true
    rw [wt, nm_tx hn, lt]
    rfl
theorem gp_str {a b a' b' f o : Int} (hf : 1 ≤ f) (h : gp a b a' b' ≤ 1) : gp (a * f + o) (b * f + f - 1 + o) (a' * f + o) (b' * f + f - 1 + o) ≤ 1 := by
  have h1 : a' - b ≤ 1 := by unfold gp at h; omega
  have h2 : a - b' ≤ 1 := by unfold gp at h; omega
  have e1 : a' * f ≤ (b + 1) * f := Int.mul_le_mul_of_nonneg_right (by omega) (by omega)
  have e2 : a * f ≤ (b' + 1) * f := Int.mul_le_mul_of_nonneg_right (by omega) (by omega)
  rw [Int.add_mul, Int.one_mul] at e1 e2
  exact gp_le (by omega) (by omega)
theorem ch_str {f ox oy : Int} (hf : 1 ≤ f) : ∀ bs : List B4, chB bs = true → chB (bs.map (strB f ox oy)) = true
  | [], _ => rfl
  | [_], _ => rfl
  | a :: b :: l, h => by
    have h' : decide (apartB a b ≤ 1) = true ∧ chB (b :: l) = true := Bool.and_eq_true_iff.mp h
    show (decide (apartB (strB f ox oy a) (strB f ox oy b) ≤ 1) && chB ((b :: l).map (strB f ox oy))) = true
    rw [ch_str hf (b :: l) h'.2]
    have k := Int.max_le.mp (of_decide_eq_true h'.1)
    rw [decide_eq_true (show apartB (strB f ox oy a) (strB f ox oy b) ≤ 1 from Int.max_le.mpr ⟨gp_str hf k.1, gp_str hf k.2⟩)]
    rfl
theorem grd_shp {bs : List B4} {f ox oy : Int} (h : Grd bs) (hf : Frm f ox oy) : ShpK (bs.map (strB f ox oy)) := by
  obtain ⟨⟨f1, f2⟩, hx, hy⟩ := hf
  refine ⟨by rw [List.length_map]; exact h.1, ch_str f1 bs h.2.1, fun c hc => ?_⟩
  obtain ⟨b, hb, rfl⟩ := List.mem_map.mp hc
  obtain ⟨⟨g1, g2⟩, ⟨g3, g4⟩, g5, g6⟩ := h.2.2 b hb
  have a1 := mul_b (a := b.x) (lo := -20) (hi := 35) (by omega) (by omega) f1
  have a2 := mul_b (a := b.y) (lo := -20) (hi := 35) (by omega) (by omega) f1
  have a3 := mul_b (a := b.X) (lo := -20) (hi := 35) (by omega) (by omega) f1
  have a4 := mul_b (a := b.Y) (lo := -20) (hi := 35) (by omega) (by omega) f1
  have c1 : b.x * f ≤ b.X * f := Int.mul_le_mul_of_nonneg_right g1 (by omega)
  have c2 : b.y * f ≤ b.Y * f := Int.mul_le_mul_of_nonneg_right g2 (by omega)
  unfold strB okB Sh
  dsimp only
  refine ⟨?_, ⟨⟨by omega, by omega⟩, by omega, by omega⟩, ⟨by omega, by omega⟩, by omega, by omega⟩
  rw [decide_eq_true (show b.x * f + ox ≤ b.X * f + f - 1 + ox by omega), decide_eq_true (show b.y * f + oy ≤ b.Y * f + f - 1 + oy by omega)]
  rfl
theorem Wd.put {M : Mp} {q g : Addr} {o : OO} (h : Wd M q) (hq : q ≠ g) : Wd (DL.mset M g o) q := by
  obtain ⟨f, ox, oy, bg, sp, ts, ls, h1, hh⟩ := h
  exact ⟨f, ox, oy, bg, sp, ts, ls, by rw [mset_ne hq]; exact h1, hh⟩
theorem Wd.del {M : Mp} {q g : Addr} (h : Wd M q) (hq : q ≠ g) : Wd (DL.mdel M g) q := by
  obtain ⟨f, ox, oy, bg, sp, ts, ls, h1, hh⟩ := h
  exact ⟨f, ox, oy, bg, sp, ts, ls, by rw [mdel_ne hq]; exact h1, hh⟩
theorem list_no (D : List PyData) : isTellingD (.list D) = false := rfl
theorem tel_shw {D : List PyData} (h : Tel D) : Shw (.tuple D) := by
  obtain ⟨w, t, nm, l, rfl, ht, hn, hk⟩ := h
  obtain ⟨lp, _, _, wp, _⟩ := knd_fit hk
  exact ((Pl.tup (Pls.cons wp (Pls.cons (pInt (by omega)) (Pls.cons (pNm hn) lp)))).od).shw (by decide) (by decide)
def spTelling : DSp := fun xs M Φ => on2 xs fun x y => onO x fun p => onO y fun q => Wd M q ∧ q ≠ p ∧ Pen M p ∧ ∀ D M', Tel D → Fr p M M' → Φ (.dat (.tuple D)) M'
theorem spTelling_q (xs : List DV) (M : Mp) (Φ : DK) : spTelling xs M Φ = (on2 xs fun x y => onO x fun p => onO y fun q => Wd M q ∧ q ≠ p ∧ Pen M p ∧ ∀ D M', Tel D → Fr p M M' → Φ (.dat (.tuple D)) M') := propext Iff.rfl
local macro_rules | `(tactic| walk_at "r6") => `(tactic| try simp (config := { maxSteps := 10000000 }) only [↓onV_mk_q, ↓onI_mk_q, ↓onB_mk_q, ↓onS_mk_q, ↓onT_mk_q, ↓onL_mk_q, ↓onD_mk_q, ↓onO_mk_q, ↓onOL_mk_q, ↓onOC_mk_q, ↓onQ_t_q, ↓onQ_l_q, ↓onQ_o_q, ↓onK_l_q, ↓onK_o_q, ↓on1_mk_q, ↓on2_mk_q, ↓on3_mk_q, ↓on4_mk_q, ↓on5_mk_q, ↓on6_mk_q, ↓onDs_0_q, ↓onDs_1_q, ↓onDs_2_q, ↓onDs_3_q, ↓onDs_4_q, ↓onDs_5_q, ↓onDs_6_q, ↓onDs_7_q, ↓onDs_8_q, ↓onDs_9_q, ↓onDs_10_q, ↓onDs_11_q, ↓onDs_12_q, ↓dVar_q, ↓dC_q, ↓dTy_q, ↓dOp_q, ↓dB_q, ↓dChain_q, ↓dAnd_q, ↓dOr_q, ↓dNot_q, ↓dAndV_q, ↓dOrV_q, ↓dNotV_q, ↓dIf_q, ↓dUnI_q, ↓δI_q, ↓δI0_q, ↓δB_q, ↓δCatT_q, ↓δCatL_q, ↓δCatLO_q, ↓dNil_q, ↓dCons_q, ↓dTup_q, ↓dLst_q, ↓dLstO_q, ↓dFrz_q, ↓onAt_0_q, ↓onAt_1_q, ↓onAt_2_q, ↓onAt_3_q, ↓onAt_4_q, ↓onAt_5_q, ↓onAt_6_q, ↓onAt_7_q, ↓δIx_q, ↓dCB_q, ↓δLen_q, ↓δLenS_q, ↓δStrI_q, ↓δAbs_q, ↓δ2I_q, ↓δListOf_q, ↓δRepr_q, ↓δIsi_mk_q, ↓eqD_ii_q, ↓eqD_ss_q, ↓eqD_bb_q, ↓δEq_q, ↓δNe_q, ↓δNeS_q, ↓δEqS_q, ↓dNoPart_q, ↓dPart_q, ↓dSlT_q, ↓dNext_q, ↓dSeq_q, ↓dBreak_q, ↓dCont_q, ↓dDrop_q, ↓dRet_q, ↓dRetN_q, ↓dIfS_q, ↓dgName_q, ↓dgNil_mk_q, ↓dgCons_mk_q, ↓onNs_0_q, ↓onNs_s_q, ↓dgTup_q, ↓dgSub_q, ↓dAsg_q, ↓dAppend_q, ↓dForL_q, ↓dForT_q, ↓dForR1_q, ↓dForR2_q, ↓dCall_q, ↓dDict0_q, ↓onKey_i_q, ↓onKey_s_q, ↓dDict1_q, ↓dDict2_q, ↓dDict1T_q, ↓sp1_q, ↓srcL_q, ↓srcT_q, ↓srcR1_q, ↓srcR2_q, ↓dEnd_t_q, ↓dEnd_f_q, ↓dComp_q, ↓tcNo_q, ↓δSortI_q, ↓δMinI_q, ↓δMaxI_q, ↓δ3I_q, ↓δTupOf_q, ↓onW_t_q, ↓onW_l_q, ↓δIn_q, ↓dExtend_q, ↓dSlL_q, ↓δSumI_q, ↓δAllB_q, ↓δAnyB_q, ↓δIntB_q, ↓dPar_q, ↓δCatS_q, ↓dSlS_q, ↓dListR2_q, ↓dAug_q, ↓δMinP_q, ↓dDict0T_q, ↓dPutT_q, ↓onP_mk_q, ↓δInT_q, ↓dRevT_q, ↓dSlTW_q, ↓onFr_l_q, ↓onFr_o_q, ↓dFrzA_q, ↓srcM_q, ↓dWhile_q, ↓dPop_q, ↓onN_mk_q, ↓δIsN_q, ↓δNotIn_q, ↓δNotInT_q, CompRun_n, CompRun_c, TurnsU_n, TurnsU_c, dCompU_q, capD, startD, onAt_last, onKs, keysD, rngD_0, rngD_1, rngD_2, rngD_3, rngD_4, isNone_none, isNone_bool, isNone_int, isNone_str, isNone_list, isNone_tuple, isNone_dict,
  Option.bind_some, Option.bind_none, Option.join_some, Option.join_none, Option.getD_some, Option.map_some, Option.map_none, List.getElem?_cons_zero, List.getElem?_cons_succ, List.set_cons_zero, List.set_cons_succ, List.map_cons, List.map_nil, List.length_cons, List.length_nil, List.replicate, List.cons_append, List.nil_append, List.any_cons, List.any_nil,
  mset_same, mset_mset, ↓reduceIte, Bool.not_true, Bool.not_false, Bool.or_false, Bool.or_true, Bool.true_or, Bool.false_or, Bool.and_true, Bool.and_false, Bool.true_and, Bool.false_and, Bool.bne_true, Bool.bne_false, Bool.false_eq_true, eq_self, true_and, and_true, ixN_30, ixN_31, ixN_32, exists_eq_left', exists_eq_left, Option.some.injEq, Nat.reduceAdd, Nat.reduceSub, Nat.zero_add, Nat.reduceLT, Nat.reduceLeDiff, Int.reduceToNat, Int.reducePow, Int.reduceSub, Int.reduceMul, Int.reduceAdd, Int.reduceNeg,
  Int.reduceLT, Int.reduceLE, Int.reduceEq, Int.zero_add, Int.cast_ofNat_Int, decide_true, decide_false, sizeLine_eq, eqA_nil, eqA_cons, eqA_cn, eqA_nc, eq_tt, eq_ll, eq_nn, eq_ii, eq_ss, eq_bb, ty_int_none, ty_int_bool, ty_int_int, ty_int_str, ty_int_list, ty_int_tuple, ty_int_dict, ty_bool_none, ty_bool_bool, ty_bool_int, ty_bool_str, ty_bool_list, ty_bool_tuple, ty_bool_dict, ty_tuple_none, ty_tuple_bool, ty_tuple_int, ty_tuple_str, ty_tuple_list, ty_tuple_tuple, ty_tuple_dict, ty_list_none, ty_list_bool, ty_list_int, ty_list_str, ty_list_list, ty_list_tuple, ty_list_dict, ty_str_none, ty_str_bool, ty_str_int, ty_str_str, ty_str_list, ty_str_tuple, ty_str_dict, ty_dict_none, ty_dict_bool, ty_dict_int, ty_dict_str, ty_dict_list, ty_dict_tuple, ty_dict_dict, ↓onX_mk_q, ↓onX_m4_q, ↓onQ_bD_q, ↓onT_bD_q, onBs_mk, onBl_mk, ↓spW_q, ↓spSh_q, ↓spAs_q, ↓spSp_q, ↓spBx_q, ↓spShape_q, ↓spT_q, ↓spWob_q, ↓spN_q, ↓spNe_q, ↓spTell_q, ↓spHas_q, ↓spGap_q, ↓spBetween_q, ↓spChain_q, ↓dSlX_q, ↓δIxS_q, ↓δAddS_q, ↓δMulS_q, ↓δLeS_q, ↓srcX_q, ↓δListX_q, ↓δTupX_q, ↓dJoin_q, ↓dUpper_q, ↓onDs_13_q, ↓δEqX_q, ↓δInX_q, ↓dDict6_q, ↓dGetK_q, ↓δRep_q, ↓onDs_14_q, ↓δRepT_q, ↓δCatT0_q, ↓spTake_q, onZs_mk, ↓spWide_q, ↓spNames_q, ↓spBoxes_q, ↓spStretched_q, ↓spStretch_q, ↓spWorld_q, ↓spSpot_q, ↓spLand_q, ↓spTelling_q])
theorem ok_telling (T : Tx K mg) : FnOk P w K mg base CX0 4 T.f_telling T.d_telling ["_law_pen", "_law_world_here"] (lift K spTelling) := by
  have G_take : FnOk P w K mg base CX0 1 T.f_take T.d_take ["_law_pen", "_law_many"] (lift K spTake) := ok_take T
  have G_land : FnOk P w K mg base CX0 3 T.f_land T.d_land ["_law_pen", "_law_world_here", "_law_time"] (lift K spLand) := ok_land T
  have G_spot : FnOk P w K mg base CX0 3 T.f_spot T.d_spot ["_law_pen", "_law_world_here"] (lift K spSpot) := ok_spot T
  refine okD T.o_telling.F sc_telling (fun xs M Φ h => by obtain ⟨_, _, rfl, _⟩ := on2_ex h; rfl) fun cdv A outer s H E hr => ⟨_, (dss_cons (ds_set 2 sc_telling.nd (de_call G_take (hr.mono (by first | decide | omega)) rfl T.o_take.m T.o_take.F.kp T.o_take.b pass0 (da_cons (de_var 0) (da_cons de_int da_nil))))
  (dss_cons (ds_set 3 sc_telling.nd (de_op od_add ((de_getK hr) (de_var 1) de_str) (de_call G_take (hr.mono (by first | decide | omega)) rfl T.o_take.m T.o_take.F.kp T.o_take.b pass0 (da_cons (de_var 0) (da_cons ((de_getK hr) (de_var 1) de_str) da_nil)))))
  (dss_cons (ds_set 4 sc_telling.nd (de_ix ((de_getK hr) (de_var 1) de_str) (de_call G_take (hr.mono (by first | decide | omega)) rfl T.o_take.m T.o_take.F.kp T.o_take.b pass0 (da_cons (de_var 0) (da_cons (de_callB cd_len rfl T.n_len bt_len (da_cons ((de_getK hr) (de_var 1) de_str) da_nil)) da_nil)))))
  (dss_cons (ds_if (dt_cmp od_lt (de_var 2) de_int) (dss_one (ds_ret (de_call G_land (hr.mono (by first | decide | omega)) rfl T.o_land.m T.o_land.F.kp T.o_land.b pass0 (da_cons (de_var 0) (da_cons (de_var 1) (da_cons (de_var 3) da_nil)))))) dss_nil)
  (dss_cons (ds_if (dt_cmp (od_eq hr) (de_var 2) de_int) (dss_one (ds_ret (de_tup (da_cons de_str (da_cons (de_var 3) (da_cons (de_ix ((de_getK hr) (de_var 1) de_str) (de_call G_take (hr.mono (by first | decide | omega)) rfl T.o_take.m T.o_take.F.kp T.o_take.b pass0 (da_cons (de_var 0) (da_cons (de_callB cd_len rfl T.n_len bt_len (da_cons ((de_getK hr) (de_var 1) de_str) da_nil)) da_nil)))) da_nil)))))) dss_nil)
  (dss_cons (ds_if (dt_cmp (od_eq hr) (de_var 2) de_int) (dss_one (ds_ret (de_tup (da_cons de_str (da_cons (de_var 3) (da_cons (de_var 4) da_nil)))))) dss_nil)
  (dss_one (ds_ret (de_tup (da_cons de_str (da_cons (de_var 3) (da_cons (de_var 4) (da_cons (de_call G_spot (hr.mono (by first | decide | omega)) rfl T.o_spot.m T.o_spot.F.kp T.o_spot.b pass0 (da_cons (de_var 0) (da_cons (de_var 1) da_nil))) da_nil))))))))))))), fun xs M Φ h => ?_⟩
  replace h := on2_ex h
  obtain ⟨x1, x2, rfl, h⟩ := h
  replace h := onO_ex h
  obtain ⟨p, rfl, h⟩ := h
  replace h := onO_ex h
  obtain ⟨q, rfl, hw, n1, hp, h⟩ := h
  obtain ⟨f, ox, oy, bg, sp, ts, ls, hq, hf, hbg, hsp, hts, hls⟩ := id hw
  walk_at "hd"
  walk_at "r6"
  refine ⟨hp, fun r M1 a1 b1 f1 => ?_⟩
  have hq1 := f1.own hq n1
  walk_at "hd"
  walk_at "r6"
  simp only [hq1, w_begin, w_span]
  walk_at "r6"
  refine ⟨⟨by omega, by omega⟩, f1.1, fun r2 M2 a2 b2 f2 => ?_⟩
  have hq2 := f2.own hq1 n1
  have hl1 := hts.1
  have hl2 := hls.1
  walk_at "hd"
  walk_at "r6"
  simp only [hq2, w_things]
  walk_at "r6"
  rw [List.length_map]
  refine ⟨⟨by omega, by omega⟩, f2.1, fun r3 M3 a3 b3 f3 => tabS (l := ts) NameS a3 b3 hts.2 fun nm hnm => ?_⟩
  have hq3 := f3.own hq2 n1
  have F3 := (f1.trans f2).trans f3
  have hw3 := hw.fr F3 n1
  have ht : 0 ≤ bg + r2 ∧ bg + r2 ≤ 1000000000000 := by omega
  walk_at "hd"
  walk_at "r6"
  refine cases_true (fun z => ?_) fun z => ?_
  · refine ⟨hw3, n1, f3.1, fun ln ou bs f' ox' oy' wb M4 hln hou hbs hf' hwb f4 => ?_⟩
    exact h _ M4 ⟨_, _, ln, _, rfl, ht, hln, .inl ⟨rfl, ou, _, wb, rfl, hou, grd_shp hbs hf', hwb⟩⟩ (F3.trans f4)
  · walk_at "hd"
    walk_at "r6"
    refine cases_true (fun z1 => ?_) fun z1 => ?_
    · simp only [hq3, w_lands]
      walk_at "r6"
      rw [List.length_map]
      refine ⟨⟨by omega, by omega⟩, f3.1, fun r4 M4 a4 b4 f4 => tabS (l := ls) NameS a4 b4 hls.2 fun ln hln => ?_⟩
      exact h _ M4 ⟨_, _, ln, [], rfl, ht, hln, .inr (.inr ⟨.inl rfl, rfl⟩)⟩ (F3.trans f4)
    · walk_at "hd"
      walk_at "r6"
      refine cases_true (fun z2 => ?_) fun z2 => ?_
      · exact h _ M3 ⟨_, _, nm, [], rfl, ht, hnm, .inr (.inr ⟨.inr rfl, rfl⟩)⟩ F3
      · subst_vars
        walk_at "r6"
        refine ⟨hw3, n1, f3.1, fun u v M4 hu hv f4 => ?_⟩
        exact h _ M4 ⟨_, _, nm, _, rfl, ht, hnm, .inr (.inl ⟨rfl, u, v, rfl, hu, hv⟩)⟩ (F3.trans f4)
/-! ### things with their marks -/
inductive Rl where
  | time
  | wobble
  | name
  | outer
  | spot
  | shape
  deriving DecidableEq
def rS : Rl → Str
  | .time => Str.ofString "time"
  | .wobble => Str.ofString "wobble"
  | .name => Str.ofString "name"
  | .outer => Str.ofString "outer"
  | .spot => Str.ofString "spot"
  | .shape => Str.ofString "shape"
def rD (r : Rl) : PyData := .str (rS r)
def okR : Rl → PyData → Bool
  | .time, d => isTimeD d
  | .wobble, d => isWobD d
  | .name, d => isNameD d
  | .outer, d => isS d (Str.ofString "") || isNameD d
  | .spot, d => isSpotD d
  | .shape, d => isShapeD d
def mkD (d : PyData) (ms : List Rl) : PyData := .tuple [d, .tuple (ms.map rD)]
structure Mk (d : PyData) (ms : List Rl) : Prop where
  th : Thg d
  ok : ∀ r, ms.contains r = okR r d
def Mkd (e : PyData) : Prop := ∃ d ms, e = mkD d ms ∧ Mk d ms
theorem rS_inj : ∀ {a b : Rl}, decide (rS a = rS b) = decide (a = b) := by
  intro a b
  cases a <;> cases b <;> decide +kernel
theorem mk_any (r : Rl) : ∀ ms : List Rl, ((ms.map rD).any fun e => PyData.eqv e (rD r)) = ms.contains r
  | [] => rfl
  | a :: l => by
    rw [List.map_cons, List.any_cons, mk_any r l, List.contains_cons]
    congr 1
    show (PyData.str (rS a)).eqv (PyData.str (rS r)) = (r == a)
    rw [eq_ss, rS_inj]
    cases a <;> cases r <;> rfl
theorem noN_sign {s : Str} {c : Nat} (h : c ∈ s.cps.toList) (hc : letB c = false) : isNameD (.str s) = false := by
  show ((decide (1 ≤ s.length) && decide (s.length ≤ 8)) && s.cps.toList.all letB) = false
  have : s.cps.toList.all letB = false := by
    refine Bool.eq_false_iff.mpr fun z => ?_
    rw [List.all_eq_true.mp z c h] at hc
    cases hc
  rw [this, Bool.and_false]
theorem isS_mem {s : Str} {c : Nat} (h : c ∈ s.cps.toList) : isS (.str s) (Str.ofString "") = false := by
  show decide (s = Str.ofString "") = false
  refine decide_eq_false fun e => ?_
  rw [e, show (Str.ofString "").cps.toList = [] by decide +kernel] at h
  cases h
theorem cut_last (l : List PyData) (a : PyData) : DL.cutD (l ++ [a]) none (some (-1)) = l ∧ DL.cutD (l ++ [a]) (some (-1)) none = [a] := by
  have hl : (l ++ [a]).length = l.length + 1 := by simp
  have e : HT.sIx (l ++ [a]).length (l ++ [a]).length (some (-1)) = l.length := by
    rw [hl]
    unfold HT.sIx
    simp only [show ((-1 : Int) < 0) = True by decide, if_true]
    omega
  have e' : HT.sIx (l ++ [a]).length 0 (some (-1)) = l.length := e
  unfold DL.cutD
  rw [e, e', HT.sIx_none, HT.sIx_none, List.drop_zero, Nat.sub_zero, hl, List.take_left, List.drop_left]
  refine ⟨rfl, ?_⟩
  rw [show l.length + 1 - l.length = 1 by omega]
  rfl
theorem Mk.any {d : PyData} {ms : List Rl} (h : Mk d ms) (r : Rl) : ((ms.map rD).any fun e => PyData.eqv e (rD r)) = okR r d := (mk_any r ms).trans (h.ok r)
theorem mk_tw {i : Int} (h : 0 ≤ i ∧ i ≤ 999999999999) : Mk (.int i) [.time, .wobble] := by
  refine ⟨(pInt (by omega)).th rfl, fun r => ?_⟩
  cases r
  · show true = (decide (0 ≤ i) && decide (i ≤ 1000000000000))
    rw [decide_eq_true h.1, decide_eq_true (show i ≤ 1000000000000 by omega)]
    rfl
  · show true = (decide (0 ≤ i) && decide (i ≤ 999999999999))
    rw [decide_eq_true h.1, decide_eq_true h.2]
    rfl
  all_goals rfl
theorem mk_t : Mk (.int 1000000000000) [.time] := ⟨(pInt (by omega)).th rfl, fun r => by cases r <;> rfl⟩
theorem mk_ni {i : Int} (h : i < 0 ∨ 1000000000000 < i) (h2 : -(10 ^ 60) ≤ i ∧ i ≤ 10 ^ 60) : Mk (.int i) [] := by
  refine ⟨(pInt h2).th rfl, fun r => ?_⟩
  have no : ∀ m : Int, m ≤ 1000000000000 → (decide (0 ≤ i) && decide (i ≤ m)) = false := fun m hm => by
    rcases h with h | h
    · rw [decide_eq_false (show ¬ 0 ≤ i by omega)]
      rfl
    · rw [decide_eq_false (show ¬ i ≤ m by omega), Bool.and_false]
  cases r
  · exact (no 1000000000000 (by omega)).symm
  · exact (no 999999999999 (by omega)).symm
  all_goals rfl
theorem mk_no {d : PyData} (h : Thg d) (k : ∀ r, okR r d = false) : Mk d [] := ⟨h, fun r => (k r).symm⟩
theorem mk_name {s : Str} (h : NameS s) : Mk (.str s) [.name, .outer] := by
  refine ⟨(pNm h).th (decide_eq_true (by have := h.1; omega)), fun r => ?_⟩
  cases r
  · rfl
  · rfl
  · exact h.is.symm
  · show true = (isS (.str s) (Str.ofString "") || isNameD (.str s))
    rw [h.is, Bool.or_true]
  · rfl
  · rfl
theorem mk_sign {t : Str} {c : Nat} (h1 : c ∈ t.cps.toList) (h2 : letB c = false) (h3 : ∀ c ∈ t.cps.toList, c < 16 ^ 8) (h4 : t.length ≤ 100) : Mk (.str t) [] := by
  refine mk_no ((pStr h3 h4).th (decide_eq_true (by omega))) fun r => ?_
  cases r
  · rfl
  · rfl
  · exact noN_sign h1 h2
  · show (isS (.str t) (Str.ofString "") || isNameD (.str t)) = false
    rw [isS_mem h1, noN_sign h1 h2]
    rfl
  · rfl
  · rfl
theorem mk_nz {s : Str} (h : NameS s) : Mk (.str (s ++ Str.ofString "Z")) [] := by
  refine mk_sign (c := 90) (by rw [add_list]; exact List.mem_append_right _ (by decide +kernel)) (by decide) (fun c hc => ?_) (by rw [add_len, show (Str.ofString "Z").length = 1 by decide +kernel]; have := h.1; omega)
  rw [add_list] at hc
  rcases List.mem_append.mp hc with hc | hc
  · have := h.2 c hc
    omega
  · exact of_small _ c hc
theorem mk_spot {u v : Int} (hu : Sh u) (hv : Sh v) : Mk (.tuple [.int u, .int v]) [.spot] := by
  refine ⟨(pSp hu hv).th rfl, fun r => ?_⟩
  cases r
  case spot =>
    show true = (isShortD (.int u) && isShortD (.int v))
    rw [sh_is hu, sh_is hv]
    rfl
  all_goals rfl
theorem spot_no (bs : List B4) : isSpotD (.tuple (bs.map bD)) = false := by
  match bs with
  | [] => rfl
  | [_] => rfl
  | [_, _] => rfl
  | _ :: _ :: _ :: _ => rfl
theorem box1_no {b : PyData} (h : isBoxD b = false) : isShapeD (.tuple [b]) = false := by
  show ((true && true) && ((isBoxD b && true) && _)) = false
  rw [h]
  rfl
theorem mk_shape {bs : List B4} (h : ShpK bs) : Mk (.tuple (bs.map bD)) [.shape] := by
  refine ⟨(shape_fit h).th rfl, fun r => ?_⟩
  cases r
  case shape => exact (shape_is h).symm
  case spot => exact (spot_no bs).symm
  all_goals rfl
def Has (r : Rl) (es : List PyData) : Prop := ∃ d ms, mkD d ms ∈ es ∧ ms.contains r = true
theorem Has.left {r : Rl} {es fs : List PyData} (h : Has r es) : Has r (es ++ fs) := by
  obtain ⟨d, ms, h1, h2⟩ := h
  exact ⟨d, ms, List.mem_append_left _ h1, h2⟩
theorem Has.right {r : Rl} {es fs : List PyData} (h : Has r fs) : Has r (es ++ fs) := by
  obtain ⟨d, ms, h1, h2⟩ := h
  exact ⟨d, ms, List.mem_append_right _ h1, h2⟩
def Mks (n : Nat) (rs : List Rl) (es : List PyData) : Prop := (∀ e ∈ es, Mkd e) ∧ es.length ≤ n ∧ ∀ r ∈ rs, Has r es
theorem Mks.app {n m : Nat} {rs ss : List Rl} {es fs : List PyData} (h : Mks n rs es) (k : Mks m ss fs) : Mks (n + m) (rs ++ ss) (es ++ fs) := by
  refine ⟨fun e he => ?_, by rw [List.length_append]; have := h.2.1; have := k.2.1; omega, fun r hr => ?_⟩
  · rcases List.mem_append.mp he with he | he
    · exact h.1 e he
    · exact k.1 e he
  · rcases List.mem_append.mp hr with hr | hr
    · exact (h.2.2 r hr).left
    · exact (k.2.2 r hr).right
theorem Mks.nil : Mks 0 [] [] := ⟨fun _ h => (nomatch h), Nat.le_refl _, fun _ h => (nomatch h)⟩
theorem Mks.cons {n : Nat} {rs ms : List Rl} {d : PyData} {es : List PyData} (h : Mk d ms) (k : Mks n rs es) : Mks (n + 1) (ms ++ rs) (mkD d ms :: es) := by
  refine ⟨fun e he => ?_, by rw [List.length_cons]; have := k.2.1; omega, fun r hr => ?_⟩
  · rcases List.mem_cons.mp he with rfl | he
    · exact ⟨d, ms, rfl, h⟩
    · exact k.1 e he
  · rcases List.mem_append.mp hr with hr | hr
    · exact ⟨d, ms, List.mem_cons_self, by simpa using hr⟩
    · obtain ⟨d', ms', h1, h2⟩ := k.2.2 r hr
      exact ⟨d', ms', List.mem_cons_of_mem _ h1, h2⟩
theorem Mks.le {n m : Nat} {rs ss : List Rl} {es : List PyData} (h : Mks n rs es) (k : n ≤ m) (l : ∀ r ∈ ss, r ∈ rs) : Mks m ss es := ⟨h.1, Nat.le_trans h.2.1 k, fun r hr => h.2.2 r (l r hr)⟩
def spMarked : DSp := fun xs M Φ => on2 xs fun x y => onO x fun p => onO y fun q => Wd M q ∧ q ≠ p ∧ Pen M p ∧ ∀ es M', Mks 200 [.time, .wobble, .name, .outer, .spot, .shape] es → Fr p M M' → Φ (.dat (.list es)) M'
theorem spMarked_q (xs : List DV) (M : Mp) (Φ : DK) : spMarked xs M Φ = (on2 xs fun x y => onO x fun p => onO y fun q => Wd M q ∧ q ≠ p ∧ Pen M p ∧ ∀ es M', Mks 200 [.time, .wobble, .name, .outer, .spot, .shape] es → Fr p M M' → Φ (.dat (.list es)) M') := propext Iff.rfl
local macro_rules | `(tactic| walk_at "r7") => `(tactic| try simp (config := { maxSteps := 10000000 }) only [↓onV_mk_q, ↓onI_mk_q, ↓onB_mk_q, ↓onS_mk_q, ↓onT_mk_q, ↓onL_mk_q, ↓onD_mk_q, ↓onO_mk_q, ↓onOL_mk_q, ↓onOC_mk_q, ↓onQ_t_q, ↓onQ_l_q, ↓onQ_o_q, ↓onK_l_q, ↓onK_o_q, ↓on1_mk_q, ↓on2_mk_q, ↓on3_mk_q, ↓on4_mk_q, ↓on5_mk_q, ↓on6_mk_q, ↓onDs_0_q, ↓onDs_1_q, ↓onDs_2_q, ↓onDs_3_q, ↓onDs_4_q, ↓onDs_5_q, ↓onDs_6_q, ↓onDs_7_q, ↓onDs_8_q, ↓onDs_9_q, ↓onDs_10_q, ↓onDs_11_q, ↓onDs_12_q, ↓dVar_q, ↓dC_q, ↓dTy_q, ↓dOp_q, ↓dB_q, ↓dChain_q, ↓dAnd_q, ↓dOr_q, ↓dNot_q, ↓dAndV_q, ↓dOrV_q, ↓dNotV_q, ↓dIf_q, ↓dUnI_q, ↓δI_q, ↓δI0_q, ↓δB_q, ↓δCatT_q, ↓δCatL_q, ↓δCatLO_q, ↓dNil_q, ↓dCons_q, ↓dTup_q, ↓dLst_q, ↓dLstO_q, ↓dFrz_q, ↓onAt_0_q, ↓onAt_1_q, ↓onAt_2_q, ↓onAt_3_q, ↓onAt_4_q, ↓onAt_5_q, ↓onAt_6_q, ↓onAt_7_q, ↓δIx_q, ↓dCB_q, ↓δLen_q, ↓δLenS_q, ↓δStrI_q, ↓δAbs_q, ↓δ2I_q, ↓δListOf_q, ↓δRepr_q, ↓δIsi_mk_q, ↓eqD_ii_q, ↓eqD_ss_q, ↓eqD_bb_q, ↓δEq_q, ↓δNe_q, ↓δNeS_q, ↓δEqS_q, ↓dNoPart_q, ↓dPart_q, ↓dSlT_q, ↓dNext_q, ↓dSeq_q, ↓dBreak_q, ↓dCont_q, ↓dDrop_q, ↓dRet_q, ↓dRetN_q, ↓dIfS_q, ↓dgName_q, ↓dgNil_mk_q, ↓dgCons_mk_q, ↓onNs_0_q, ↓onNs_s_q, ↓dgTup_q, ↓dgSub_q, ↓dAsg_q, ↓dAppend_q, ↓dForL_q, ↓dForT_q, ↓dForR1_q, ↓dForR2_q, ↓dCall_q, ↓dDict0_q, ↓onKey_i_q, ↓onKey_s_q, ↓dDict1_q, ↓dDict2_q, ↓dDict1T_q, ↓sp1_q, ↓srcL_q, ↓srcT_q, ↓srcR1_q, ↓srcR2_q, ↓dEnd_t_q, ↓dEnd_f_q, ↓dComp_q, ↓tcNo_q, ↓δSortI_q, ↓δMinI_q, ↓δMaxI_q, ↓δ3I_q, ↓δTupOf_q, ↓onW_t_q, ↓onW_l_q, ↓δIn_q, ↓dExtend_q, ↓dSlL_q, ↓δSumI_q, ↓δAllB_q, ↓δAnyB_q, ↓δIntB_q, ↓dPar_q, ↓δCatS_q, ↓dSlS_q, ↓dListR2_q, ↓dAug_q, ↓δMinP_q, ↓dDict0T_q, ↓dPutT_q, ↓onP_mk_q, ↓δInT_q, ↓dRevT_q, ↓dSlTW_q, ↓onFr_l_q, ↓onFr_o_q, ↓dFrzA_q, ↓srcM_q, ↓dWhile_q, ↓dPop_q, ↓onN_mk_q, ↓δIsN_q, ↓δNotIn_q, ↓δNotInT_q, CompRun_n, CompRun_c, TurnsU_n, TurnsU_c, dCompU_q, capD, startD, onAt_last, onKs, keysD, rngD_0, rngD_1, rngD_2, rngD_3, rngD_4, isNone_none, isNone_bool, isNone_int, isNone_str, isNone_list, isNone_tuple, isNone_dict,
  Option.bind_some, Option.bind_none, Option.join_some, Option.join_none, Option.getD_some, Option.map_some, Option.map_none, List.getElem?_cons_zero, List.getElem?_cons_succ, List.set_cons_zero, List.set_cons_succ, List.map_cons, List.map_nil, List.length_cons, List.length_nil, List.replicate, List.cons_append, List.nil_append, List.any_cons, List.any_nil,
  mset_same, mset_mset, ↓reduceIte, Bool.not_true, Bool.not_false, Bool.or_false, Bool.or_true, Bool.true_or, Bool.false_or, Bool.and_true, Bool.and_false, Bool.true_and, Bool.false_and, Bool.bne_true, Bool.bne_false, Bool.false_eq_true, eq_self, true_and, and_true, ixN_30, ixN_31, ixN_32, exists_eq_left', exists_eq_left, Option.some.injEq, Nat.reduceAdd, Nat.reduceSub, Nat.zero_add, Nat.reduceLT, Nat.reduceLeDiff, Int.reduceToNat, Int.reducePow, Int.reduceSub, Int.reduceMul, Int.reduceAdd, Int.reduceNeg,
  Int.reduceLT, Int.reduceLE, Int.reduceEq, Int.zero_add, Int.cast_ofNat_Int, decide_true, decide_false, sizeLine_eq, eqA_nil, eqA_cons, eqA_cn, eqA_nc, eq_tt, eq_ll, eq_nn, eq_ii, eq_ss, eq_bb, ty_int_none, ty_int_bool, ty_int_int, ty_int_str, ty_int_list, ty_int_tuple, ty_int_dict, ty_bool_none, ty_bool_bool, ty_bool_int, ty_bool_str, ty_bool_list, ty_bool_tuple, ty_bool_dict, ty_tuple_none, ty_tuple_bool, ty_tuple_int, ty_tuple_str, ty_tuple_list, ty_tuple_tuple, ty_tuple_dict, ty_list_none, ty_list_bool, ty_list_int, ty_list_str, ty_list_list, ty_list_tuple, ty_list_dict, ty_str_none, ty_str_bool, ty_str_int, ty_str_str, ty_str_list, ty_str_tuple, ty_str_dict, ty_dict_none, ty_dict_bool, ty_dict_int, ty_dict_str, ty_dict_list, ty_dict_tuple, ty_dict_dict, ↓onX_mk_q, ↓onX_m4_q, ↓onQ_bD_q, ↓onT_bD_q, onBs_mk, onBl_mk, ↓spW_q, ↓spSh_q, ↓spAs_q, ↓spSp_q, ↓spBx_q, ↓spShape_q, ↓spT_q, ↓spWob_q, ↓spN_q, ↓spNe_q, ↓spTell_q, ↓spHas_q, ↓spGap_q, ↓spBetween_q, ↓spChain_q, ↓dSlX_q, ↓δIxS_q, ↓δAddS_q, ↓δMulS_q, ↓δLeS_q, ↓srcX_q, ↓δListX_q, ↓δTupX_q, ↓dJoin_q, ↓dUpper_q, ↓onDs_13_q, ↓δEqX_q, ↓δInX_q, ↓dDict6_q, ↓dGetK_q, ↓δRep_q, ↓onDs_14_q, ↓δRepT_q, ↓δCatT0_q, ↓spTake_q, onZs_mk, ↓spWide_q, ↓spNames_q, ↓spBoxes_q, ↓spStretched_q, ↓spStretch_q, ↓spWorld_q, ↓spSpot_q, ↓spLand_q, ↓spTelling_q, ↓spMarked_q])
theorem ok_marked (T : Tx K mg) : FnOk P w K mg base CX0 4 T.f_marked T.d_marked ["_law_pen", "_law_world_here"] (lift K spMarked) := by
  have G_wide : FnOk P w K mg base CX0 2 T.f_wide T.d_wide ["_law_pen", "_law_many"] (lift K spWide) := ok_wide T
  have G_spot : FnOk P w K mg base CX0 3 T.f_spot T.d_spot ["_law_pen", "_law_world_here"] (lift K spSpot) := ok_spot T
  have G_land : FnOk P w K mg base CX0 3 T.f_land T.d_land ["_law_pen", "_law_world_here", "_law_time"] (lift K spLand) := ok_land T
  refine okD T.o_marked.F sc_marked (fun xs M Φ h => by obtain ⟨_, _, rfl, _⟩ := on2_ex h; rfl) fun cdv A outer s H E hr => ⟨_, (dss_cons (ds_set 2 sc_marked.nd (de_op od_pow de_int de_int))
  (dss_cons (ds_set 3 sc_marked.nd (de_lstO da_nil))
  (dss_cons (ds_forL (de_lst (da_cons de_int (da_cons de_int (da_cons ((de_getK hr) (de_var 1) de_str) (da_cons (de_call G_wide (hr.mono (by first | decide | omega)) rfl T.o_wide.m T.o_wide.F.kp T.o_wide.b pass0 (da_cons (de_var 0) (da_cons (de_var 2) da_nil))) (da_cons (de_op od_sub (de_var 2) de_int) da_nil)))))) (dg_name 4 sc_marked.nd) (dss_one (ds_expr (de_append (de_var 3) (de_tup (da_cons (de_var 4) (da_cons (de_tup (da_cons de_str (da_cons de_str da_nil))) da_nil)))))) PassesOwn.never rfl)
  (dss_cons (ds_set 3 sc_marked.nd (de_op od_catS (de_var 3) (de_lst (da_cons (de_tup (da_cons (de_var 2) (da_cons (de_tup (da_cons de_str da_nil)) da_nil))) (da_cons (de_tup (da_cons (de_op od_add (de_var 2) de_int) (da_cons (de_tup da_nil) da_nil))) (da_cons (de_tup (da_cons (de_neg de_int) (da_cons (de_tup da_nil) da_nil))) (da_cons (de_tup (da_cons (de_op od_sub de_int (de_var 2)) (da_cons (de_tup da_nil) da_nil))) (da_cons (de_tup (da_cons de_bl (da_cons (de_tup da_nil) da_nil))) (da_cons (de_tup (da_cons de_bl (da_cons (de_tup da_nil) da_nil))) (da_cons (de_tup (da_cons de_non (da_cons (de_tup da_nil) da_nil))) da_nil))))))))))
  (dss_cons (ds_forL (de_op od_catS ((de_getK hr) (de_var 1) de_str) ((de_getK hr) (de_var 1) de_str)) (dg_name 5 sc_marked.nd) (dss_one (ds_set 3 sc_marked.nd (de_op od_catS (de_var 3) (de_lst (da_cons (de_tup (da_cons (de_var 5) (da_cons (de_tup (da_cons de_str (da_cons de_str da_nil))) da_nil))) (da_cons (de_tup (da_cons (de_op od_addS (de_var 5) de_str) (da_cons (de_tup da_nil) da_nil))) (da_cons (de_tup (da_cons (de_lst (da_cons (de_var 5) da_nil)) (da_cons (de_tup da_nil) da_nil))) (da_cons (de_tup (da_cons (de_tup (da_cons (de_var 5) da_nil)) (da_cons (de_tup da_nil) da_nil))) da_nil)))))))) PassesOwn.never rfl)
  (dss_cons (ds_set 3 sc_marked.nd (de_op od_catS (de_var 3) (de_lst (da_cons (de_tup (da_cons de_str (da_cons (de_tup (da_cons de_str da_nil)) da_nil))) (da_cons (de_tup (da_cons de_str (da_cons (de_tup da_nil) da_nil))) (da_cons (de_tup (da_cons de_str (da_cons (de_tup da_nil) da_nil))) (da_cons (de_tup (da_cons de_str (da_cons (de_tup da_nil) da_nil))) da_nil)))))))
  (dss_cons (ds_set 6 sc_marked.nd (de_lst (da_cons (de_call G_spot (hr.mono (by first | decide | omega)) rfl T.o_spot.m T.o_spot.F.kp T.o_spot.b pass0 (da_cons (de_var 0) (da_cons (de_var 1) da_nil))) (da_cons (de_tup (da_cons de_int (da_cons (de_op od_sub (de_var 2) de_int) da_nil))) (da_cons (de_tup (da_cons (de_op od_sub de_int (de_var 2)) (da_cons de_int da_nil))) da_nil)))))
  (dss_cons (ds_forL (de_var 6) (dg_name 7 sc_marked.nd) (dss_cons (ds_set 3 sc_marked.nd (de_op od_catS (de_var 3) (de_lst (da_cons (de_tup (da_cons (de_var 7) (da_cons (de_tup (da_cons de_str da_nil)) da_nil))) (da_cons (de_tup (da_cons (de_callTy cd_listOf rfl T.n_list bt_list (da_cons (de_var 7) da_nil)) (da_cons (de_tup da_nil) da_nil))) (da_cons (de_tup (da_cons (de_op od_catT0 (de_var 7) (de_tup (da_cons de_int da_nil))) (da_cons (de_tup da_nil) da_nil))) (da_cons (de_tup (da_cons (de_tup (da_cons (de_ix (de_var 7) de_int) (da_cons (de_var 2) da_nil))) (da_cons (de_tup da_nil) da_nil))) (da_cons (de_tup (da_cons (de_sliceTW (de_var 7) do_none (do_some de_int)) (da_cons (de_tup da_nil) da_nil))) da_nil))))))))
  (dss_one (ds_set 3 sc_marked.nd (de_op od_catS (de_var 3) (de_lst (da_cons (de_tup (da_cons (de_tup (da_cons de_bl (da_cons (de_ix (de_var 7) de_int) da_nil))) (da_cons (de_tup da_nil) da_nil))) (da_cons (de_tup (da_cons (de_tup (da_cons (de_ix (de_var 7) de_int) (da_cons de_non da_nil))) (da_cons (de_tup da_nil) da_nil))) (da_cons (de_tup (da_cons (de_tup (da_cons (de_var 7) (da_cons (de_var 7) da_nil))) (da_cons (de_tup da_nil) da_nil))) da_nil)))))))) PassesOwn.never rfl)
  (dss_cons (ds_forR1 rfl T.n_range (da_cons de_int da_nil) (dg_name 8 sc_marked.nd) (dss_cons (ds_set 9 sc_marked.nd (de_ix (de_call G_land (hr.mono (by first | decide | omega)) rfl T.o_land.m T.o_land.F.kp T.o_land.b pass0 (da_cons (de_var 0) (da_cons (de_var 1) (da_cons de_int da_nil)))) de_int))
  (dss_cons (ds_set 3 sc_marked.nd (de_op od_catS (de_var 3) (de_lst (da_cons (de_tup (da_cons (de_var 9) (da_cons (de_tup (da_cons de_str da_nil)) da_nil))) (da_cons (de_tup (da_cons (de_callTy cd_listOf rfl T.n_list bt_list (da_cons (de_var 9) da_nil)) (da_cons (de_tup da_nil) da_nil))) (da_cons (de_tup (da_cons (de_ix (de_var 9) de_int) (da_cons (de_tup da_nil) da_nil))) (da_cons (de_tup (da_cons (de_op od_repT (de_sliceTW (de_var 9) (do_some (de_neg de_int)) do_none) de_int) (da_cons (de_tup da_nil) da_nil))) (da_cons (de_tup (da_cons (de_tup da_nil) (da_cons (de_tup da_nil) da_nil))) da_nil))))))))
  (dss_cons (ds_asg (de_ix (de_var 9) de_int) (dg_tup (n := 2) rfl (dgs_cons (dg_name 10 sc_marked.nd) (dgs_cons (dg_name 11 sc_marked.nd) dgs_nil))))
  (dss_one (ds_set 3 sc_marked.nd (de_op od_catS (de_var 3) (de_lst (da_cons (de_tup (da_cons (de_tup (da_cons (de_tup (da_cons (de_var 11) (da_cons (de_tup (da_cons (de_op od_sub (de_ix (de_var 10) de_int) de_int) (da_cons (de_ix (de_var 10) de_int) da_nil))) da_nil))) da_nil)) (da_cons (de_tup da_nil) da_nil))) (da_cons (de_tup (da_cons (de_tup (da_cons (de_tup (da_cons (de_tup (da_cons (de_ix (de_var 10) de_int) (da_cons (de_op od_sub de_int (de_var 2)) da_nil))) (da_cons (de_var 11) da_nil))) da_nil)) (da_cons (de_tup da_nil) da_nil))) da_nil))))))))) PassesOwn.never rfl)
  (dss_one (ds_ret (de_op od_catS (de_var 3) (de_lst (da_cons (de_tup (da_cons de_dict0 (da_cons (de_tup da_nil) da_nil))) (da_cons (de_tup (da_cons (de_lst da_nil) (da_cons (de_tup da_nil) da_nil))) (da_cons (de_tup (da_cons (de_op od_sub de_int (de_op od_pow de_int de_int)) (da_cons (de_tup da_nil) da_nil))) da_nil)))))))))))))))), fun xs M Φ h => ?_⟩
  replace h := on2_ex h
  obtain ⟨x1, x2, rfl, h⟩ := h
  replace h := onO_ex h
  obtain ⟨p, rfl, h⟩ := h
  replace h := onO_ex h
  obtain ⟨q, rfl, hw, n1, hp, h⟩ := h
  obtain ⟨f, ox, oy, bg, sp, ts, ls, hq, hf, hbg, hsp, hts, hls⟩ := id hw
  walk_at "hd"
  walk_at "r7"
  refine ⟨cp10 _ (by decide), ?_⟩
  walk_at "hd"
  walk_at "r7"
  intro g hg
  walk_at "hd"
  walk_at "r7"
  have n2 : q ≠ g := fun e => by rw [← e, hq] at hg; cases hg
  have n3 : p ≠ g := hp.ne hg
  rw [mset_ne n2]
  simp only [hq, w_begin]
  refine ⟨hp.put n3, fun r M1 a1 b1 f1 => ?_⟩
  have g1 : M1 g = some (.lst []) := f1.own mset_same (Ne.symm n3)
  have F1 : Fr p M M1 := ((Fr.refl hp).new hg (Ne.symm n3)).trans f1
  have hq1 : M1 q = some (wldO f ox oy bg sp ts ls) := F1.own hq n1
  refine ⟨fun i Δ M' => ∃ k4 k5 k6 k7 k8 k9 k10 k11 L, Δ = [some (.own p), some (.own q), some (.dat (.int 1000000000000)), some (.own g), k4, k5, k6, k7, k8, k9, k10, k11] ∧ M' g = some (.lst L) ∧ Fr p M M' ∧ Mks i (if i = 0 then [] else [.time, .wobble]) L, ⟨_, _, _, _, _, _, _, _, [], rfl, g1, F1, Mks.nil⟩, ?_, ?_⟩
  · rintro i d Δ M' hd ⟨k4, k5, k6, k7, k8, k9, k10, k11, L, rfl, hL, F, hM⟩
    have hm := List.mem_of_getElem? hd
    obtain ⟨z, rfl, hz⟩ : ∃ z, d = .int z ∧ 0 ≤ z ∧ z ≤ 999999999999 := by
      simp only [List.mem_cons, List.not_mem_nil, or_false] at hm
      rcases hm with rfl | rfl | rfl | rfl | rfl
      · exact ⟨_, rfl, by omega⟩
      · exact ⟨_, rfl, by omega⟩
      · exact ⟨_, rfl, by omega⟩
      · exact ⟨_, rfl, by omega⟩
      · exact ⟨_, rfl, by omega⟩
    have hlen := hM.2.1
    have hi := (List.getElem?_eq_some_iff.mp hd).1
    simp only [List.length_cons, List.length_nil] at hi
    walk_at "r7"
    rw [hL]
    walk_at "r7"
    refine ⟨by omega, _, _, _, _, _, _, _, _, _, rfl, rfl, F.new hg (Ne.symm n3), ?_⟩
    rw [if_neg (Nat.succ_ne_zero i)]
    exact (hM.app ((Mks.nil).cons (mk_tw hz))).le (Nat.le_refl _) fun r hr => List.mem_append_right _ hr
  · rintro Δ M2 ⟨k4, k5, k6, k7, k8, k9, k10, k11, L, rfl, hL, F, hM⟩
    have hM : Mks 5 [.time, .wobble] L := hM
    have hlen := hM.2.1
    have hq2 : M2 q = some (wldO f ox oy bg sp ts ls) := F.own hq n1
    walk_at "hd"
    walk_at "r7"
    rw [hL]
    walk_at "r7"
    refine ⟨by omega, ?_⟩
    have hM1 := (hM.app (Mks.nil.cons (mk_no (pNon.th rfl) fun r => by cases r <;> rfl) |>.cons (mk_no ((pBl false).th rfl) fun r => by cases r <;> rfl) |>.cons (mk_no ((pBl true).th rfl) fun r => by cases r <;> rfl) |>.cons (mk_ni (i := -1000000000000) (by omega) (by omega)) |>.cons (mk_ni (i := -1) (by omega) (by omega)) |>.cons (mk_ni (i := 1000000000001) (by omega) (by omega)) |>.cons mk_t)).le (m := 12) (ss := [.time, .wobble]) (by decide) fun r hr => List.mem_append_left _ hr
    walk_at "hd"
    walk_at "r7"
    simp only [hq2, w_things, w_lands]
    walk_at "r7"
    have l1 := hts.1
    have l2 := hls.1
    refine ⟨by rw [List.length_map, List.length_map]; omega, fun i Δ M' => ∃ k4 k5 L, Δ = [some (.own p), some (.own q), some (.dat (.int 1000000000000)), some (.dat (.list L)), k4, k5, k6, k7, k8, k9, k10, k11] ∧ M' = M2 ∧ Mks (12 + 4 * i) (if i = 0 then [.time, .wobble] else [.time, .wobble, .name, .outer]) L, ⟨_, _, _, rfl, rfl, hM1⟩, ?_, ?_⟩
    · rintro i d Δ M' hd ⟨k4, k5, L, rfl, rfl, hM⟩
      have hm := List.mem_of_getElem? hd
      have hi := (List.getElem?_eq_some_iff.mp hd).1
      rw [List.length_append, List.length_map, List.length_map] at hi
      obtain ⟨s, rfl, hs⟩ : ∃ s, d = .str s ∧ NameS s := by
        rcases List.mem_append.mp hm with hm | hm
        · obtain ⟨s, h1, rfl⟩ := List.mem_map.mp hm
          exact ⟨s, rfl, hts.2 s h1⟩
        · obtain ⟨s, h1, rfl⟩ := List.mem_map.mp hm
          exact ⟨s, rfl, hls.2 s h1⟩
      have hlen := hM.2.1
      have hsl := hs.1
      have zl : (Str.ofString "Z").length = 1 := by decide +kernel
      walk_at "r7"
      refine ⟨by omega, by omega, _, _, _, rfl, ?_⟩
      rw [if_neg (Nat.succ_ne_zero i)]
      refine (hM.app (Mks.nil.cons (mk_no ((Pl.tup (Pls.cons (pNm hs) Pls.nil)).th rfl) fun r => by cases r <;> rfl) |>.cons (mk_no ((Od.lst (Pls.cons (pNm hs) Pls.nil)).th rfl) fun r => by cases r <;> rfl) |>.cons (mk_nz hs) |>.cons (mk_name hs))).le (by omega) fun r hr => ?_
      simp only [List.mem_cons, List.not_mem_nil, or_false] at hr
      rw [List.mem_append]
      rcases hr with rfl | rfl | rfl | rfl
      · exact .inl (by split <;> simp)
      · exact .inl (by split <;> simp)
      · exact .inr (by simp)
      · exact .inr (by simp)
    · rintro Δ M' ⟨k4, k5, L, rfl, rfl, hM⟩
      rw [List.length_append, List.length_map, List.length_map, if_neg (by omega)] at hM
      replace hM : Mks 48 [.time, .wobble, .name, .outer] L := hM.le (by omega) fun _ h => h
      have hlen := hM.2.1
      walk_at "hd"
      walk_at "r7"
      refine ⟨by omega, ?_⟩
      have hM1 := (hM.app (Mks.nil.cons (mk_sign (t := Str.ofString "0") (c := 48) (by decide +kernel) (by decide) (of_small _) (by decide +kernel)) |>.cons (mk_no ((pLit "abcdefghi" (n := 10) (by decide +kernel)).th (by decide +kernel)) fun r => by cases r <;> decide +kernel) |>.cons (mk_sign (t := Str.ofString "-") (c := 45) (by decide +kernel) (by decide) (of_small _) (by decide +kernel)) |>.cons (⟨(pLit "" (n := 10) (by decide +kernel)).th (by decide +kernel), fun r => by cases r <;> decide +kernel⟩ : Mk (.str (Str.ofString "")) [.outer]))).le (m := 52) (ss := [.time, .wobble, .name, .outer]) (by decide) fun r hr => List.mem_append_left _ hr
      walk_at "hd"
      walk_at "r7"
      refine ⟨hw.fr F n1, n1, F.1, fun u v M3 hu hv f3 => ?_⟩
      have F3 := F.trans f3
      walk_at "hd"
      walk_at "r7"
      refine ⟨fun i Δ M' => ∃ k4 k5 k7 L, Δ = [some (.own p), some (.own q), some (.dat (.int 1000000000000)), some (.dat (.list L)), k4, k5, some (.dat (.list [.tuple [.int u, .int v], .tuple [.int 0, .int 999999999999], .tuple [.int (-999999999999), .int 0]])), k7, k8, k9, k10, k11] ∧ M' = M3 ∧ Mks (52 + 8 * i) (if i = 0 then [.time, .wobble, .name, .outer] else [.time, .wobble, .name, .outer, .spot]) L, ⟨_, _, _, _, rfl, rfl, hM1⟩, ?_, ?_⟩
      · rintro i d Δ M' hd ⟨k4, k5, k7, L, rfl, rfl, hM⟩
        have hm := List.mem_of_getElem? hd
        have hi := (List.getElem?_eq_some_iff.mp hd).1
        simp only [List.length_cons, List.length_nil] at hi
        obtain ⟨x, y, rfl, hx, hy⟩ : ∃ x y : Int, d = .tuple [.int x, .int y] ∧ Sh x ∧ Sh y := by
          simp only [List.mem_cons, List.not_mem_nil, or_false] at hm
          rcases hm with rfl | rfl | rfl
          · exact ⟨_, _, rfl, hu, hv⟩
          · exact ⟨_, _, rfl, ⟨by omega, by omega⟩, by omega, by omega⟩
          · exact ⟨_, _, rfl, ⟨by omega, by omega⟩, by omega, by omega⟩
        have hlen := hM.2.1
        rw [dgName_q]
        walk_at "hd"
        walk_at "r7"
        have px : Pl 0 1921 (.int x) := pInt (by unfold Sh at hx; omega)
        have py : Pl 0 1921 (.int y) := pInt (by unfold Sh at hy; omega)
        refine ⟨by omega, ?_⟩
        have hM1 := hM.app (Mks.nil.cons (mk_no ((Pl.tup (Pls.cons px Pls.nil)).th rfl) fun r => by cases r <;> rfl) |>.cons (mk_no ((Pl.tup (Pls.cons px (Pls.cons (pInt (i := 1000000000000) (by omega)) Pls.nil))).th rfl) fun r => by cases r <;> first | rfl | exact Bool.and_false _) |>.cons (mk_no ((Pl.tup (Pls.cons px (Pls.cons py (Pls.cons (pInt (i := 0) (by omega)) Pls.nil)))).th rfl) fun r => by cases r <;> rfl) |>.cons (mk_no ((Od.lst (Pls.cons px (Pls.cons py Pls.nil))).th rfl) fun r => by cases r <;> rfl) |>.cons (mk_spot hx hy))
        have hM2 := hM1.app (Mks.nil.cons (mk_no ((Pl.tup (Pls.cons (pSp hx hy) (Pls.cons (pSp hx hy) Pls.nil))).th rfl) fun r => by cases r <;> rfl) |>.cons (mk_no ((Pl.tup (Pls.cons px (Pls.cons pNon Pls.nil))).th rfl) fun r => by cases r <;> first | rfl | exact Bool.and_false _) |>.cons (mk_no ((Pl.tup (Pls.cons (pBl true) (Pls.cons py Pls.nil))).th rfl) fun r => by cases r <;> rfl))
        have hlen1 := hM1.2.1
        subst_vars
        walk_at "r7"
        refine ⟨Nat.le_trans hlen1 (by omega), _, _, _, _, rfl, ?_⟩
        rw [if_neg (Nat.succ_ne_zero i)]
        refine hM2.le (by omega) fun r hr => ?_
        simp only [List.mem_cons, List.not_mem_nil, or_false] at hr
        rw [List.mem_append, List.mem_append]
        rcases hr with rfl | rfl | rfl | rfl | rfl
        · exact .inl (.inl (by split <;> simp))
        · exact .inl (.inl (by split <;> simp))
        · exact .inl (.inl (by split <;> simp))
        · exact .inl (.inl (by split <;> simp))
        · exact .inl (.inr (by simp))
      · rintro Δ M' ⟨k4, k5, k7, L, rfl, rfl, hM⟩
        replace hM : Mks 76 [.time, .wobble, .name, .outer, .spot] L := hM.le (Nat.le_refl 76) fun _ h => h
        walk_at "hd"
        walk_at "r7"
        refine ⟨⟨by decide, by decide⟩, fun i Δ M' => ∃ k4 k5 k7 k8 k9 k10 k11 L, Δ = [some (.own p), some (.own q), some (.dat (.int 1000000000000)), some (.dat (.list L)), k4, k5, some (.dat (.list [.tuple [.int u, .int v], .tuple [.int 0, .int 999999999999], .tuple [.int (-999999999999), .int 0]])), k7, k8, k9, k10, k11] ∧ Fr p M M' ∧ Mks (76 + 7 * i) (if i = 0 then [.time, .wobble, .name, .outer, .spot] else [.time, .wobble, .name, .outer, .spot, .shape]) L, ⟨_, _, _, _, _, _, _, _, rfl, F3, hM⟩, ?_, ?_⟩
        · rintro i Δ M4 hi ⟨k4, k5, k7, k8, k9, k10, k11, L, rfl, F4, hM⟩
          have hlen := hM.2.1
          rw [dgName_q]
          walk_at "hd"
          walk_at "r7"
          refine ⟨hw.fr F4 n1, n1, F4.1, fun ln ou bs f' ox' oy' wb M5 hln hou hbs hf' hwb f5 => ?_⟩
          have sk := grd_shp hbs hf'
          generalize bs.map (strB f' ox' oy') = cs at *
          have F5 := F4.trans f5
          unfold landT
          walk_at "r7"
          walk_at "hd"
          walk_at "r7"
          have hb3 : ∀ b ∈ cs, Pl 2 7705 (bD b) := fun b hb => by
            have hc := sk.2.2 b hb
            exact (Pl.tup (Pls.cons (pSp hc.2.1.1 hc.2.1.2) (Pls.cons (pSp hc.2.2.1 hc.2.2.2) Pls.nil))).le (by decide) (by decide)
          obtain ⟨c0, rest, e0⟩ : ∃ c0 rest, cs = c0 :: rest := by
            cases cs with
            | nil => exact absurd sk.1.1 (by decide)
            | cons a l => exact ⟨a, l, rfl⟩
          obtain ⟨ini, cl, e1⟩ : ∃ ini cl, cs = ini ++ [cl] := by
            rcases List.eq_nil_or_concat cs with h | ⟨a, b, h⟩
            · rw [h] at e0
              cases e0
            · exact ⟨a, b, by rw [h, List.concat_eq_append]⟩
          have ec : DL.cutD (cs.map bD) (some (-1)) none = [bD cl] := by
            rw [e1, List.map_append]
            exact (cut_last _ _).2
          have m0 : c0 ∈ cs := by rw [e0]; exact List.mem_cons_self
          have ml : cl ∈ cs := by rw [e1]; exact List.mem_append_right _ List.mem_cons_self
          have a0 : atI (cs.map bD) ((0 : Nat) : Int) = some (bD c0) := atI_nat (by rw [e0]; rfl)
          refine onAt_of (d := bD c0) a0 ?_
          rw [ec]
          clear ec e0 e1
          obtain ⟨o0, ⟨x1, y1⟩, X1, Y1⟩ := sk.2.2 c0 m0
          have px : ∀ {z : Int}, Sh z → Pl 0 1921 (.int z) := fun hz => pInt (by unfold Sh at hz; omega)
          refine ⟨⟨Nat.le_refl 1, (by decide : 1 ≤ 1000)⟩, by omega, ?_⟩
          have hM1 := hM.app (Mks.nil.cons (mk_no ((Pl.tup Pls.nil).th rfl) fun r => by cases r <;> rfl) |>.cons (mk_no (d := .tuple (List.replicate 7 [bD cl]).flatten) ((Pl.tup (Pls.all (k := 2) (n := 7705) (m := 7) (l := (List.replicate 7 [bD cl]).flatten) (Nat.le_refl 7) fun d hd => by
              obtain ⟨l', h1, h2⟩ := List.mem_flatten.mp hd
              rw [List.eq_of_mem_replicate h1, List.mem_singleton] at h2
              rw [h2]
              exact hb3 cl ml)).th rfl) fun r => by cases r <;> rfl) |>.cons (mk_no ((hb3 c0 m0).th rfl) fun r => by cases r <;> rfl) |>.cons (mk_no ((Od.lst (Pls.all (k := 2) (n := 7705) (m := 6) (l := cs.map bD) (by rw [List.length_map]; exact sk.1.2) fun d hd => by
              obtain ⟨b, h1, rfl⟩ := List.mem_map.mp hd
              exact hb3 b h1)).th rfl) fun r => by cases r <;> rfl) |>.cons (mk_shape sk))
          walk_at "hd"
          walk_at "r7"
          refine onAt_of (d := bD c0) a0 ?_
          walk_at "r7"
          have hlen1 := hM1.2.1
          have sA : isBoxD (.tuple [.tuple [.int c0.X, .int c0.Y], .tuple [.int (c0.x - 1), .int c0.y]]) = false := by
            show (isSpotD _ && (isSpotD _ && (decide (c0.X ≤ c0.x - 1) && _))) = false
            have : c0.x ≤ c0.X := by
              unfold okB at o0
              rw [Bool.and_eq_true, decide_eq_true_eq] at o0
              exact o0.1
            rw [decide_eq_false (show ¬ c0.X ≤ c0.x - 1 by omega), Bool.false_and, Bool.and_false, Bool.and_false]
          have sB : isBoxD (.tuple [.tuple [.int c0.x, .int (-1000000000000)], .tuple [.int c0.X, .int c0.Y]]) = false := by
            show ((isShortD (.int c0.x) && false) && _) = false
            rw [Bool.and_false, Bool.false_and]
          have hM2 := hM1.app (Mks.nil.cons (mk_no ((Pl.tup (Pls.cons (Pl.tup (Pls.cons (Pl.tup (Pls.cons (px x1) (Pls.cons (pInt (i := -1000000000000) (by omega)) Pls.nil))) (Pls.cons (pSp X1 Y1) Pls.nil))) Pls.nil)).th rfl) fun r => by cases r <;> first | rfl | exact box1_no sB) |>.cons (mk_no ((Pl.tup (Pls.cons (Pl.tup (Pls.cons (pSp X1 Y1) (Pls.cons (Pl.tup (Pls.cons (pInt (i := c0.x - 1) (by unfold Sh at x1; omega)) (Pls.cons (px y1) Pls.nil))) Pls.nil))) Pls.nil)).th rfl) fun r => by cases r <;> first | rfl | exact box1_no sA))
          subst_vars
          walk_at "r7"
          refine ⟨Nat.le_trans hlen1 (by omega), _, _, _, _, _, _, _, _, rfl, F5, ?_⟩
          rw [if_neg (Nat.succ_ne_zero i)]
          refine hM2.le (by omega) fun r hr => ?_
          simp only [List.mem_cons, List.not_mem_nil, or_false] at hr
          rw [List.mem_append, List.mem_append]
          rcases hr with rfl | rfl | rfl | rfl | rfl | rfl
          · exact .inl (.inl (by split <;> simp))
          · exact .inl (.inl (by split <;> simp))
          · exact .inl (.inl (by split <;> simp))
          · exact .inl (.inl (by split <;> simp))
          · exact .inl (.inl (by split <;> simp))
          · exact .inl (.inr (by simp))
        · rintro Δ M4 ⟨k4, k5, k7, k8, k9, k10, k11, L, rfl, F4, hM⟩
          replace hM : Mks 90 [.time, .wobble, .name, .outer, .spot, .shape] L := hM.le (by decide) fun _ h => h
          have hlen := hM.2.1
          subst_vars
          walk_at "r7"
          refine ⟨cp10 _ (by decide), by omega, h _ M4 ?_ F4⟩
          exact (hM.app (Mks.nil.cons (mk_ni (i := -10000000000000000000000000000000000000000) (by omega) (by omega)) |>.cons (mk_no ((Od.lst Pls.nil).th rfl) fun r => by cases r <;> rfl) |>.cons (mk_no (Od.dct.th rfl) fun r => by cases r <;> rfl))).le (by decide) fun r hr => List.mem_append_left _ hr
theorem tabD {l : List PyData} {r : Int} (P : PyData → Prop) (h0 : 0 ≤ r) (h1 : r < l.length) (hl : ∀ w ∈ l, P w) {Q : PyData → Prop} (k : ∀ w, P w → Q w) : onAt l r Q := by
  obtain ⟨j, rfl⟩ := Int.eq_ofNat_of_zero_le h0
  have hj : j < l.length := by omega
  exact onAt_of (d := l[j]) (atI_nat (List.getElem?_eq_getElem hj)) (k _ (hl _ (List.getElem_mem hj)))
def fR (r : Rl) : PyData → Bool
  | .tuple [_, .tuple ms] => ms.any fun e => PyData.eqv e (rD r)
  | _ => false
theorem mk_lay : ∀ ms : List Rl, PyData.canLayAll0 (ms.map rD) = true
  | [] => by simp [PyData.canLayAll0]
  | r :: l => by
    rw [List.map_cons, PyData.canLayAll0, mk_lay l, Bool.and_true]
    cases r <;> decide +kernel
theorem mk_okIn (r : Rl) (ms : List Rl) : okIn (rD r) (ms.map rD) = true := by
  unfold okIn
  rw [mk_lay]
  cases r <;> decide +kernel
def spRole : DSp := fun xs M Φ => on3 xs fun x y z => onO x fun p => onL y fun es => onD z fun d => ((∃ r, d = rD r) ∧ Mks 200 [.time, .wobble, .name, .outer, .spot, .shape] es) ∧ Pen M p ∧ ∀ e M', Mkd e → Fr p M M' → Φ (.dat e) M'
theorem spRole_q (xs : List DV) (M : Mp) (Φ : DK) : spRole xs M Φ = (on3 xs fun x y z => onO x fun p => onL y fun es => onD z fun d => ((∃ r, d = rD r) ∧ Mks 200 [.time, .wobble, .name, .outer, .spot, .shape] es) ∧ Pen M p ∧ ∀ e M', Mkd e → Fr p M M' → Φ (.dat e) M') := propext Iff.rfl
local macro_rules | `(tactic| walk_at "r8") => `(tactic| try simp (config := { maxSteps := 10000000 }) only [↓onV_mk_q, ↓onI_mk_q, ↓onB_mk_q, ↓onS_mk_q, ↓onT_mk_q, ↓onL_mk_q, ↓onD_mk_q, ↓onO_mk_q, ↓onOL_mk_q, ↓onOC_mk_q, ↓onQ_t_q, ↓onQ_l_q, ↓onQ_o_q, ↓onK_l_q, ↓onK_o_q, ↓on1_mk_q, ↓on2_mk_q, ↓on3_mk_q, ↓on4_mk_q, ↓on5_mk_q, ↓on6_mk_q, ↓onDs_0_q, ↓onDs_1_q, ↓onDs_2_q, ↓onDs_3_q, ↓onDs_4_q, ↓onDs_5_q, ↓onDs_6_q, ↓onDs_7_q, ↓onDs_8_q, ↓onDs_9_q, ↓onDs_10_q, ↓onDs_11_q, ↓onDs_12_q, ↓dVar_q, ↓dC_q, ↓dTy_q, ↓dOp_q, ↓dB_q, ↓dChain_q, ↓dAnd_q, ↓dOr_q, ↓dNot_q, ↓dAndV_q, ↓dOrV_q, ↓dNotV_q, ↓dIf_q, ↓dUnI_q, ↓δI_q, ↓δI0_q, ↓δB_q, ↓δCatT_q, ↓δCatL_q, ↓δCatLO_q, ↓dNil_q, ↓dCons_q, ↓dTup_q, ↓dLst_q, ↓dLstO_q, ↓dFrz_q, ↓onAt_0_q, ↓onAt_1_q, ↓onAt_2_q, ↓onAt_3_q, ↓onAt_4_q, ↓onAt_5_q, ↓onAt_6_q, ↓onAt_7_q, ↓δIx_q, ↓dCB_q, ↓δLen_q, ↓δLenS_q, ↓δStrI_q, ↓δAbs_q, ↓δ2I_q, ↓δListOf_q, ↓δRepr_q, ↓δIsi_mk_q, ↓eqD_ii_q, ↓eqD_ss_q, ↓eqD_bb_q, ↓δEq_q, ↓δNe_q, ↓δNeS_q, ↓δEqS_q, ↓dNoPart_q, ↓dPart_q, ↓dSlT_q, ↓dNext_q, ↓dSeq_q, ↓dBreak_q, ↓dCont_q, ↓dDrop_q, ↓dRet_q, ↓dRetN_q, ↓dIfS_q, ↓dgName_q, ↓dgNil_mk_q, ↓dgCons_mk_q, ↓onNs_0_q, ↓onNs_s_q, ↓dgTup_q, ↓dgSub_q, ↓dAsg_q, ↓dAppend_q, ↓dForL_q, ↓dForT_q, ↓dForR1_q, ↓dForR2_q, ↓dCall_q, ↓dDict0_q, ↓onKey_i_q, ↓onKey_s_q, ↓dDict1_q, ↓dDict2_q, ↓dDict1T_q, ↓sp1_q, ↓srcL_q, ↓srcT_q, ↓srcR1_q, ↓srcR2_q, ↓dEnd_t_q, ↓dEnd_f_q, ↓dComp_q, ↓tcNo_q, ↓δSortI_q, ↓δMinI_q, ↓δMaxI_q, ↓δ3I_q, ↓δTupOf_q, ↓onW_t_q, ↓onW_l_q, ↓δIn_q, ↓dExtend_q, ↓dSlL_q, ↓δSumI_q, ↓δAllB_q, ↓δAnyB_q, ↓δIntB_q, ↓dPar_q, ↓δCatS_q, ↓dSlS_q, ↓dListR2_q, ↓dAug_q, ↓δMinP_q, ↓dDict0T_q, ↓dPutT_q, ↓onP_mk_q, ↓δInT_q, ↓dRevT_q, ↓dSlTW_q, ↓onFr_l_q, ↓onFr_o_q, ↓dFrzA_q, ↓srcM_q, ↓dWhile_q, ↓dPop_q, ↓onN_mk_q, ↓δIsN_q, ↓δNotIn_q, ↓δNotInT_q, CompRun_n, CompRun_c, TurnsU_n, TurnsU_c, dCompU_q, capD, startD, onAt_last, onKs, keysD, rngD_0, rngD_1, rngD_2, rngD_3, rngD_4, isNone_none, isNone_bool, isNone_int, isNone_str, isNone_list, isNone_tuple, isNone_dict,
  Option.bind_some, Option.bind_none, Option.join_some, Option.join_none, Option.getD_some, Option.map_some, Option.map_none, List.getElem?_cons_zero, List.getElem?_cons_succ, List.set_cons_zero, List.set_cons_succ, List.map_cons, List.map_nil, List.length_cons, List.length_nil, List.replicate, List.cons_append, List.nil_append, List.any_cons, List.any_nil,
  mset_same, mset_mset, ↓reduceIte, Bool.not_true, Bool.not_false, Bool.or_false, Bool.or_true, Bool.true_or, Bool.false_or, Bool.and_true, Bool.and_false, Bool.true_and, Bool.false_and, Bool.bne_true, Bool.bne_false, Bool.false_eq_true, eq_self, true_and, and_true, ixN_30, ixN_31, ixN_32, exists_eq_left', exists_eq_left, Option.some.injEq, Nat.reduceAdd, Nat.reduceSub, Nat.zero_add, Nat.reduceLT, Nat.reduceLeDiff, Int.reduceToNat, Int.reducePow, Int.reduceSub, Int.reduceMul, Int.reduceAdd, Int.reduceNeg,
  Int.reduceLT, Int.reduceLE, Int.reduceEq, Int.zero_add, Int.cast_ofNat_Int, decide_true, decide_false, sizeLine_eq, eqA_nil, eqA_cons, eqA_cn, eqA_nc, eq_tt, eq_ll, eq_nn, eq_ii, eq_ss, eq_bb, ty_int_none, ty_int_bool, ty_int_int, ty_int_str, ty_int_list, ty_int_tuple, ty_int_dict, ty_bool_none, ty_bool_bool, ty_bool_int, ty_bool_str, ty_bool_list, ty_bool_tuple, ty_bool_dict, ty_tuple_none, ty_tuple_bool, ty_tuple_int, ty_tuple_str, ty_tuple_list, ty_tuple_tuple, ty_tuple_dict, ty_list_none, ty_list_bool, ty_list_int, ty_list_str, ty_list_list, ty_list_tuple, ty_list_dict, ty_str_none, ty_str_bool, ty_str_int, ty_str_str, ty_str_list, ty_str_tuple, ty_str_dict, ty_dict_none, ty_dict_bool, ty_dict_int, ty_dict_str, ty_dict_list, ty_dict_tuple, ty_dict_dict, ↓onX_mk_q, ↓onX_m4_q, ↓onQ_bD_q, ↓onT_bD_q, onBs_mk, onBl_mk, ↓spW_q, ↓spSh_q, ↓spAs_q, ↓spSp_q, ↓spBx_q, ↓spShape_q, ↓spT_q, ↓spWob_q, ↓spN_q, ↓spNe_q, ↓spTell_q, ↓spHas_q, ↓spGap_q, ↓spBetween_q, ↓spChain_q, ↓dSlX_q, ↓δIxS_q, ↓δAddS_q, ↓δMulS_q, ↓δLeS_q, ↓srcX_q, ↓δListX_q, ↓δTupX_q, ↓dJoin_q, ↓dUpper_q, ↓onDs_13_q, ↓δEqX_q, ↓δInX_q, ↓dDict6_q, ↓dGetK_q, ↓δRep_q, ↓onDs_14_q, ↓δRepT_q, ↓δCatT0_q, ↓spTake_q, onZs_mk, ↓spWide_q, ↓spNames_q, ↓spBoxes_q, ↓spStretched_q, ↓spStretch_q, ↓spWorld_q, ↓spSpot_q, ↓spLand_q, ↓spTelling_q, ↓spMarked_q, ↓spRole_q])
theorem ok_role (T : Tx K mg) : FnOk P w K mg base CX0 2 T.f_role T.d_role ["_law_pen", "_law_marked_here", "_law_role_here"] (lift K spRole) := by
  have G_take : FnOk P w K mg base CX0 1 T.f_take T.d_take ["_law_pen", "_law_many"] (lift K spTake) := ok_take T
  refine okD T.o_role.F sc_role (fun xs M Φ h => by obtain ⟨_, _, _, rfl, _⟩ := on3_ex h; rfl) fun cdv A outer s H E hr => ⟨_, (dss_cons (ds_if (dt_cmp od_gt (de_call G_take (hr.mono (by first | decide | omega)) rfl T.o_take.m T.o_take.F.kp T.o_take.b pass0 (da_cons (de_var 0) (da_cons de_int da_nil))) de_int) (dss_cons (ds_setC 3 false sc_role.nd (compOk_of (sc := defScope s_role) (XN := ["_law_pen", "_law_marked_here", "_law_role_here", "_law_some"]) (N := ["_law_thing", "_law_role_here"]) (ix := [none, some 2]) rfl rfl (by decide +kernel)) (di_list (de_var 1)) (fun C ex s H => (dg_name 0 (show List.Nodup (["_law_thing", "_law_role_here"] : List Str) by decide +kernel))) (fun C ex s H => (dts_one (dt_cmp (od_in hr) (de_var 1) (de_ix (de_var 0) de_int)))) (fun C ex s H => (de_var 0)) rfl)
  (dss_one (ds_ret (de_ix (de_var 3) (de_call G_take (hr.mono (by first | decide | omega)) rfl T.o_take.m T.o_take.F.kp T.o_take.b pass0 (da_cons (de_var 0) (da_cons (de_callB cd_len rfl T.n_len bt_len (da_cons (de_var 3) da_nil)) da_nil))))))) dss_nil)
  (dss_one (ds_ret (de_ix (de_var 1) (de_call G_take (hr.mono (by first | decide | omega)) rfl T.o_take.m T.o_take.F.kp T.o_take.b pass0 (da_cons (de_var 0) (da_cons (de_callB cd_len rfl T.n_len bt_len (da_cons (de_var 1) da_nil)) da_nil))))))), fun xs M Φ h => ?_⟩
  replace h := on3_ex h
  obtain ⟨x1, x2, x3, rfl, h⟩ := h
  replace h := onO_ex h
  obtain ⟨p, rfl, h⟩ := h
  replace h := onL_ex h
  obtain ⟨es, rfl, h⟩ := h
  replace h := onD_ex h
  obtain ⟨d, rfl, ⟨⟨r, rfl⟩, hM⟩, hp, h⟩ := h
  walk_at "hd"
  walk_at "r8"
  refine ⟨hp, fun k M1 a1 b1 f1 => cases_true (fun z => ?_) fun z => ?_⟩
  · have hl2 := hM.2.1
    refine ⟨by omega, fun i acc M' => M' = M1 ∧ acc = (es.take i).filter (fR r), ⟨rfl, rfl⟩, ?_, ?_⟩
    · rintro i e acc M' he ⟨rfl, rfl⟩
      obtain ⟨d, ms, rfl, hm⟩ := hM.1 e (List.mem_of_getElem? he)
      have ef : fR r (mkD d ms) = ((ms.map rD).any fun e => PyData.eqv e (rD r)) := rfl
      have et : es.take (i + 1) = es.take i ++ [mkD d ms] := by rw [List.take_succ, he]; rfl
      dsimp only
      rw [et, List.filter_append, List.filter_cons, List.filter_nil, ef]
      have a1 : onQ (.dat (mkD d ms)) M' = fun Q => Q [d, .tuple (ms.map rD)] := rfl
      rw [a1]
      walk_at "r8"
      refine ⟨mk_okIn r ms, ?_⟩
      split
      · exact rfl
      · rw [List.append_nil]
    · rintro acc M' ⟨rfl, rfl⟩
      rw [List.take_length]
      have hp2 : 0 < (es.filter (fR r)).length := by
        obtain ⟨d, ms, h1, h2⟩ := hM.2.2 r (by cases r <;> simp)
        refine List.length_pos_of_mem (List.mem_filter.mpr ⟨h1, ?_⟩)
        show ((ms.map rD).any fun e => PyData.eqv e (rD r)) = true
        rw [mk_any, h2]
      have hl3 := List.length_filter_le (fR r) es
      exact ⟨⟨by omega, by omega⟩, f1.1, fun k2 M2 a2 b2 f2 => tabD Mkd a2 b2 (fun e he => hM.1 e (List.mem_filter.mp he).1) fun e he => h e M2 he (f1.trans f2)⟩
  · have hl : 0 < es.length := by
      obtain ⟨d, ms, h1, _⟩ := hM.2.2 .time (by simp)
      exact List.length_pos_of_mem h1
    have hl2 := hM.2.1
    subst_vars
    walk_at "r8"
    exact ⟨⟨by omega, by omega⟩, f1.1, fun k2 M2 a2 b2 f2 => tabD Mkd a2 b2 hM.1 fun e he => h e M2 he (f1.trans f2)⟩
def fL : List (Key × PyData) := [(.inr (Str.ofString "land"), .list ([Rl.time, .name, .outer, .shape, .wobble].map rD)), (.inr (Str.ofString "drop"), .list ([Rl.time, .name].map rD)), (.inr (Str.ofString "free"), .list ([Rl.time, .name].map rD)), (.inr (Str.ofString "spot"), .list ([Rl.time, .name, .spot].map rD))]
def okAll (rs : List Rl) (ds : List PyData) : Bool := (List.zipWith okR rs ds).all id
structure WOk (w : Str) (rs : List Rl) (good : Bool) : Prop where
  get : (dvalD fL (.inr w)).getD (.list ([Rl.time, .name, .spot].map rD)) = .list (rs.map rD)
  isin : (dvalD fL (.inr w)).isSome = good
  tx : okTx (.str w) = true
  pl : Pl 0 102 (.str w)
  len : 2 ≤ rs.length ∧ rs.length ≤ 5
  same : ∀ ds : List PyData, ds.length = rs.length → isTellingD (.tuple (.str w :: ds)) = (good && okAll rs ds)
  more : ∀ (ds : List PyData) (x : PyData), ds.length = rs.length → isTellingD (.tuple (.str w :: (ds ++ [x]))) = false
  less : ∀ ds : List PyData, ds.length + 1 = rs.length → isTellingD (.tuple (.str w :: ds)) = false
theorem ln2 {ds : List PyData} (h : ds.length = 2) : ∃ a b, ds = [a, b] := by
  match ds, h with
  | [a, b], _ => exact ⟨a, b, rfl⟩
theorem ln3 {ds : List PyData} (h : ds.length = 3) : ∃ a b c, ds = [a, b, c] := by
  match ds, h with
  | [a, b, c], _ => exact ⟨a, b, c, rfl⟩
theorem ln4 {ds : List PyData} (h : ds.length = 4) : ∃ a b c d, ds = [a, b, c, d] := by
  match ds, h with
  | [a, b, c, d], _ => exact ⟨a, b, c, d, rfl⟩
theorem ln5 {ds : List PyData} (h : ds.length = 5) : ∃ a b c d e, ds = [a, b, c, d, e] := by
  match ds, h with
  | [a, b, c, d, e], _ => exact ⟨a, b, c, d, e, rfl⟩
theorem w_land17 : WOk (Str.ofString "land") [.time, .name, .outer, .shape, .wobble] true where
  get := by unfold fL; rw [dv_hd _ _ _]; rfl
  isin := by unfold fL; rw [dv_hd _ _ _]; rfl
  tx := by decide +kernel
  pl := pLit "land" (n := 10) (by decide +kernel)
  len := by decide
  same := fun ds h => by
    obtain ⟨a, b, c, d, e, rfl⟩ := ln5 h
    show (isTimeD a && (isNameD b && restD _ [c, d, e])) = (true && (isTimeD a && (isNameD b && ((isS c (Str.ofString "") || isNameD c) && (isShapeD d && (isWobD e && true))))))
    rw [r_land, Bool.true_and, Bool.and_true]
    rfl
  more := fun ds x h => by
    obtain ⟨a, b, c, d, e, rfl⟩ := ln5 h
    exact tel_rest (by rw [r_land]; rfl)
  less := fun ds h => by
    obtain ⟨a, b, c, d, rfl⟩ := ln4 (Nat.succ.inj h)
    exact tel_rest (by rw [r_land]; rfl)
theorem r_two {w : Str} (h : w = Str.ofString "drop" ∨ w = Str.ofString "free") : restD (.str w) [] = true := by
  rcases h with rfl | rfl <;> decide +kernel
theorem w_two {w : Str} (h : w = Str.ofString "drop" ∨ w = Str.ofString "free") : WOk w [.time, .name] true where
  get := by
    rcases h with rfl | rfl
    · unfold fL; rw [dv_tl _ _ (by decide +kernel), dv_hd _ _ _]; rfl
    · unfold fL; rw [dv_tl _ _ (by decide +kernel), dv_tl _ _ (by decide +kernel), dv_hd _ _ _]; rfl
  isin := by
    rcases h with rfl | rfl
    · unfold fL; rw [dv_tl _ _ (by decide +kernel), dv_hd _ _ _]; rfl
    · unfold fL; rw [dv_tl _ _ (by decide +kernel), dv_tl _ _ (by decide +kernel), dv_hd _ _ _]; rfl
  tx := by rcases h with rfl | rfl <;> decide +kernel
  pl := by
    rcases h with rfl | rfl
    · exact pLit "drop" (n := 10) (by decide +kernel)
    · exact pLit "free" (n := 10) (by decide +kernel)
  len := by decide
  same := fun ds hl => by
    obtain ⟨a, b, rfl⟩ := ln2 hl
    show (isTimeD a && (isNameD b && restD _ [])) = (true && (isTimeD a && (isNameD b && true)))
    rw [r_two h, Bool.true_and]
  more := fun ds x hl => by
    obtain ⟨a, b, rfl⟩ := ln2 hl
    refine tel_rest ?_
    rcases h with rfl | rfl
    · exact r_drop x []
    · exact r_free x []
  less := fun ds hl => by
    match ds, hl with
    | [a], _ => rfl
theorem w_spot17 : WOk (Str.ofString "spot") [.time, .name, .spot] true where
  get := by unfold fL; rw [dv_tl _ _ (by decide +kernel), dv_tl _ _ (by decide +kernel), dv_tl _ _ (by decide +kernel), dv_hd _ _ _]; rfl
  isin := by unfold fL; rw [dv_tl _ _ (by decide +kernel), dv_tl _ _ (by decide +kernel), dv_tl _ _ (by decide +kernel), dv_hd _ _ _]; rfl
  tx := by decide +kernel
  pl := pLit "spot" (n := 10) (by decide +kernel)
  len := by decide
  same := fun ds h => by
    obtain ⟨a, b, c, rfl⟩ := ln3 h
    show (isTimeD a && (isNameD b && restD _ [c])) = (true && (isTimeD a && (isNameD b && (isSpotD c && true))))
    rw [r_spot, Bool.true_and, Bool.and_true]
    rfl
  more := fun ds x h => by
    obtain ⟨a, b, c, rfl⟩ := ln3 h
    exact tel_rest (by rw [r_spot]; rfl)
  less := fun ds h => by
    obtain ⟨a, b, rfl⟩ := ln2 (Nat.succ.inj h)
    exact tel_rest (by rw [r_spot]; rfl)
theorem w_odd {w : Str} (h1 : isS (.str w) (Str.ofString "land") = false) (h2 : isS (.str w) (Str.ofString "spot") = false) (h3 : isS (.str w) (Str.ofString "drop") = false) (h4 : isS (.str w) (Str.ofString "free") = false)
    (ht : okTx (.str w) = true) (hp : Pl 0 102 (.str w)) : WOk w [.time, .name, .spot] false := by
  have ne : ∀ {t : Str}, isS (.str w) t = false → (Sum.inr t : Key) ≠ Sum.inr w := fun {t} h e => by
    have : w = t := (Sum.inr.inj e).symm
    exact of_decide_eq_false h this
  have no : dvalD fL (.inr w) = none := by unfold fL; rw [dv_tl _ _ (ne h1), dv_tl _ _ (ne h3), dv_tl _ _ (ne h4), dv_tl _ _ (ne h2)]; rfl
  have nr : ∀ l, restD (.str w) l = false := fun l => by
    unfold restD
    rw [h1, h2, h3, h4]
    cases l <;> rfl
  refine ⟨by rw [no]; rfl, by rw [no]; rfl, ht, hp, by decide, fun ds h => ?_, fun ds x h => ?_, fun ds h => ?_⟩
  · obtain ⟨a, b, c, rfl⟩ := ln3 h
    exact tel_rest (nr _)
  · obtain ⟨a, b, c, rfl⟩ := ln3 h
    exact tel_rest (nr _)
  · obtain ⟨a, b, rfl⟩ := ln2 (Nat.succ.inj h)
    exact tel_rest (nr _)
theorem w_all : ∀ w ∈ [Str.ofString "land", Str.ofString "land", Str.ofString "drop", Str.ofString "free", Str.ofString "spot", Str.ofString "spot", Str.ofString "Land", Str.ofString "spots", Str.ofString "", Str.ofString "free "], ∃ rs good, WOk w rs good := by
  intro w hw
  simp only [List.mem_cons, List.not_mem_nil, or_false] at hw
  rcases hw with rfl | rfl | rfl | rfl | rfl | rfl | rfl | rfl | rfl | rfl
  · exact ⟨_, _, w_land17⟩
  · exact ⟨_, _, w_land17⟩
  · exact ⟨_, _, w_two (.inl rfl)⟩
  · exact ⟨_, _, w_two (.inr rfl)⟩
  · exact ⟨_, _, w_spot17⟩
  · exact ⟨_, _, w_spot17⟩
  · exact ⟨_, _, w_odd (by decide +kernel) (by decide +kernel) (by decide +kernel) (by decide +kernel) (by decide +kernel) (pLit _ (n := 10) (by decide +kernel))⟩
  · exact ⟨_, _, w_odd (by decide +kernel) (by decide +kernel) (by decide +kernel) (by decide +kernel) (by decide +kernel) (pLit _ (n := 10) (by decide +kernel))⟩
  · exact ⟨_, _, w_odd (by decide +kernel) (by decide +kernel) (by decide +kernel) (by decide +kernel) (by decide +kernel) (pLit _ (n := 10) (by decide +kernel))⟩
  · exact ⟨_, _, w_odd (by decide +kernel) (by decide +kernel) (by decide +kernel) (by decide +kernel) (by decide +kernel) (pLit _ (n := 10) (by decide +kernel))⟩
theorem dput_new {ps : List (Key × PyData)} {k : Key} {d : PyData} (h : (ps.any fun kv => decide (kv.1 = k)) = false) : dputD ps k d = ps ++ [(k, d)] := by
  unfold dputD
  rw [h]
  rfl
theorem abs3 {R : DTS} {D : DEnds} {Δ : DSt} {M1 : Mp} (M0 : Mp) (e : M1 = M0) (h : R D Δ M0) : R D Δ M1 := e ▸ h
theorem mkd_list : ∀ {ps : List PyData}, (∀ e ∈ ps, Mkd e) → ∃ qs : List (PyData × List Rl), ps = qs.map (fun q => mkD q.1 q.2) ∧ ∀ q ∈ qs, Mk q.1 q.2
  | [], _ => ⟨[], rfl, fun _ h => (nomatch h)⟩
  | e :: l, h => by
    obtain ⟨d, ms, rfl, hm⟩ := h e List.mem_cons_self
    obtain ⟨qs, rfl, hq⟩ := mkd_list fun x hx => h x (List.mem_cons_of_mem _ hx)
    refine ⟨(d, ms) :: qs, rfl, fun q hq' => ?_⟩
    rcases List.mem_cons.mp hq' with rfl | hq'
    · exact hm
    · exact hq q hq'
theorem zip_at {rs : List Rl} {qs : List (PyData × List Rl)} {i : Nat} {d : PyData} (h : (zipD (rs.map rD) (qs.map fun q => mkD q.1 q.2))[i]? = some d) : ∃ r q, rs[i]? = some r ∧ qs[i]? = some q ∧ d = .tuple [rD r, mkD q.1 q.2] := by
  unfold zipD at h
  rw [List.getElem?_zipWith, List.getElem?_map, List.getElem?_map] at h
  cases e1 : rs[i]? with
  | none => rw [e1] at h; cases h
  | some r =>
    cases e2 : qs[i]? with
    | none => rw [e1, e2] at h; cases h
    | some q =>
      rw [e1, e2] at h
      cases h
      exact ⟨r, q, rfl, rfl, rfl⟩
theorem ods_shw {k n : Nat} : ∀ {l : List PyData}, (∀ d ∈ l, Od k n d) → PyData.showableAll l = true ∧ PyData.depthAll l ≤ k ∧ costAll l ≤ (n + 2) * l.length
  | [], _ => ⟨by simp [PyData.showableAll], by simp [PyData.depthAll], by simp [costAll]⟩
  | d :: l, h => by
    have hd := h d List.mem_cons_self
    obtain ⟨t1, t2, t3⟩ := ods_shw fun x hx => h x (List.mem_cons_of_mem _ hx)
    refine ⟨by simp only [PyData.showableAll, hd.s, t1, Bool.and_self], by simp only [PyData.depthAll]; have := hd.dp; omega, ?_⟩
    simp only [costAll, List.length_cons, Nat.mul_succ]
    have := hd.z
    omega
theorem thg_tup {w : Str} {ts : List PyData} (h1 : okTx (.str w) = true) (h2 : Pl 0 102 (.str w)) (h3 : ∀ d ∈ ts, Thg d) (h4 : ts.length ≤ 6) :
    okTl (.tuple (.str w :: ts)) = true ∧ (∀ d ∈ PyData.str w :: ts, Shw d) ∧ (PyData.tuple (.str w :: ts)).depth ≤ 64 ∧ (PyData.tuple (.str w :: ts)).shown.length ≤ sizeLine := by
  have all : ∀ d ∈ PyData.str w :: ts, Thg d := fun d hd => by
    rcases List.mem_cons.mp hd with rfl | hd
    · exact h2.th h1
    · exact h3 d hd
  obtain ⟨a1, a2, a3⟩ := ods_shw fun d hd => (all d hd).o
  refine ⟨?_, fun d hd => (all d hd).o.shw (by decide) (by decide), ?_, ?_⟩
  · show (okTx (.str w) && ts.all okTx) = true
    rw [h1, List.all_eq_true.mpr fun d hd => (h3 d hd).t]
    rfl
  · simp only [PyData.depth]
    omega
  · refine Nat.le_trans (shown_cost _ (by simp only [PyData.showable.eq_6]; exact a1)) ?_
    simp only [cost]
    rw [sizeLine_eq]
    rw [List.length_cons] at a3
    have : (90000 + 2) * (ts.length + 1) ≤ (90000 + 2) * 7 := Nat.mul_le_mul_left _ (by omega)
    omega
def spDrawn : DSp := fun xs M Φ => on2 xs fun x y => onO x fun p => onL y fun es => Mks 200 [.time, .wobble, .name, .outer, .spot, .shape] es ∧ Pen M p ∧ ∀ D M', (okTl (.tuple D) = true ∧ (∀ d ∈ D, Shw d) ∧ (PyData.tuple D).depth ≤ 64 ∧ (PyData.tuple D).shown.length ≤ sizeLine) → Fr p M M' → Φ (.dat (.tuple [.tuple D, .bool (isTellingD (.tuple D))])) M'
theorem spDrawn_q (xs : List DV) (M : Mp) (Φ : DK) : spDrawn xs M Φ = (on2 xs fun x y => onO x fun p => onL y fun es => Mks 200 [.time, .wobble, .name, .outer, .spot, .shape] es ∧ Pen M p ∧ ∀ D M', (okTl (.tuple D) = true ∧ (∀ d ∈ D, Shw d) ∧ (PyData.tuple D).depth ≤ 64 ∧ (PyData.tuple D).shown.length ≤ sizeLine) → Fr p M M' → Φ (.dat (.tuple [.tuple D, .bool (isTellingD (.tuple D))])) M') := propext Iff.rfl
local macro_rules | `(tactic| walk_at "r9") => `(tactic| try simp (config := { maxSteps := 10000000 }) only [↓onV_mk_q, ↓onI_mk_q, ↓onB_mk_q, ↓onS_mk_q, ↓onT_mk_q, ↓onL_mk_q, ↓onD_mk_q, ↓onO_mk_q, ↓onOL_mk_q, ↓onOC_mk_q, ↓onQ_t_q, ↓onQ_l_q, ↓onQ_o_q, ↓onK_l_q, ↓onK_o_q, ↓on1_mk_q, ↓on2_mk_q, ↓on3_mk_q, ↓on4_mk_q, ↓on5_mk_q, ↓on6_mk_q, ↓onDs_0_q, ↓onDs_1_q, ↓onDs_2_q, ↓onDs_3_q, ↓onDs_4_q, ↓onDs_5_q, ↓onDs_6_q, ↓onDs_7_q, ↓onDs_8_q, ↓onDs_9_q, ↓onDs_10_q, ↓onDs_11_q, ↓onDs_12_q, ↓dVar_q, ↓dC_q, ↓dTy_q, ↓dOp_q, ↓dB_q, ↓dChain_q, ↓dAnd_q, ↓dOr_q, ↓dNot_q, ↓dAndV_q, ↓dOrV_q, ↓dNotV_q, ↓dIf_q, ↓dUnI_q, ↓δI_q, ↓δI0_q, ↓δB_q, ↓δCatT_q, ↓δCatL_q, ↓δCatLO_q, ↓dNil_q, ↓dCons_q, ↓dTup_q, ↓dLst_q, ↓dLstO_q, ↓dFrz_q, ↓onAt_0_q, ↓onAt_1_q, ↓onAt_2_q, ↓onAt_3_q, ↓onAt_4_q, ↓onAt_5_q, ↓onAt_6_q, ↓onAt_7_q, ↓δIx_q, ↓dCB_q, ↓δLen_q, ↓δLenS_q, ↓δStrI_q, ↓δAbs_q, ↓δ2I_q, ↓δListOf_q, ↓δRepr_q, ↓δIsi_mk_q, ↓eqD_ii_q, ↓eqD_ss_q, ↓eqD_bb_q, ↓δEq_q, ↓δNe_q, ↓δNeS_q, ↓δEqS_q, ↓dNoPart_q, ↓dPart_q, ↓dSlT_q, ↓dNext_q, ↓dSeq_q, ↓dBreak_q, ↓dCont_q, ↓dDrop_q, ↓dRet_q, ↓dRetN_q, ↓dIfS_q, ↓dgName_q, ↓dgNil_mk_q, ↓dgCons_mk_q, ↓onNs_0_q, ↓onNs_s_q, ↓dgTup_q, ↓dgSub_q, ↓dAsg_q, ↓dAppend_q, ↓dForL_q, ↓dForT_q, ↓dForR1_q, ↓dForR2_q, ↓dCall_q, ↓dDict0_q, ↓onKey_i_q, ↓onKey_s_q, ↓dDict1_q, ↓dDict2_q, ↓dDict1T_q, ↓sp1_q, ↓srcL_q, ↓srcT_q, ↓srcR1_q, ↓srcR2_q, ↓dEnd_t_q, ↓dEnd_f_q, ↓dComp_q, ↓tcNo_q, ↓δSortI_q, ↓δMinI_q, ↓δMaxI_q, ↓δ3I_q, ↓δTupOf_q, ↓onW_t_q, ↓onW_l_q, ↓δIn_q, ↓dExtend_q, ↓dSlL_q, ↓δSumI_q, ↓δAllB_q, ↓δAnyB_q, ↓δIntB_q, ↓dPar_q, ↓δCatS_q, ↓dSlS_q, ↓dListR2_q, ↓dAug_q, ↓δMinP_q, ↓dDict0T_q, ↓dPutT_q, ↓onP_mk_q, ↓δInT_q, ↓dRevT_q, ↓dSlTW_q, ↓onFr_l_q, ↓onFr_o_q, ↓dFrzA_q, ↓srcM_q, ↓dWhile_q, ↓dPop_q, ↓onN_mk_q, ↓δIsN_q, ↓δNotIn_q, ↓δNotInT_q, CompRun_n, CompRun_c, TurnsU_n, TurnsU_c, dCompU_q, capD, startD, onAt_last, onKs, keysD, rngD_0, rngD_1, rngD_2, rngD_3, rngD_4, isNone_none, isNone_bool, isNone_int, isNone_str, isNone_list, isNone_tuple, isNone_dict,
  Option.bind_some, Option.bind_none, Option.join_some, Option.join_none, Option.getD_some, Option.map_some, Option.map_none, List.getElem?_cons_zero, List.getElem?_cons_succ, List.set_cons_zero, List.set_cons_succ, List.map_cons, List.map_nil, List.length_cons, List.length_nil, List.replicate, List.cons_append, List.nil_append, List.any_cons, List.any_nil,
  mset_same, mset_mset, ↓reduceIte, Bool.not_true, Bool.not_false, Bool.or_false, Bool.or_true, Bool.true_or, Bool.false_or, Bool.and_true, Bool.and_false, Bool.true_and, Bool.false_and, Bool.bne_true, Bool.bne_false, Bool.false_eq_true, eq_self, true_and, and_true, ixN_30, ixN_31, ixN_32, exists_eq_left', exists_eq_left, Option.some.injEq, Nat.reduceAdd, Nat.reduceSub, Nat.zero_add, Nat.reduceLT, Nat.reduceLeDiff, Int.reduceToNat, Int.reducePow, Int.reduceSub, Int.reduceMul, Int.reduceAdd, Int.reduceNeg,
  Int.reduceLT, Int.reduceLE, Int.reduceEq, Int.zero_add, Int.cast_ofNat_Int, decide_true, decide_false, sizeLine_eq, eqA_nil, eqA_cons, eqA_cn, eqA_nc, eq_tt, eq_ll, eq_nn, eq_ii, eq_ss, eq_bb, ty_int_none, ty_int_bool, ty_int_int, ty_int_str, ty_int_list, ty_int_tuple, ty_int_dict, ty_bool_none, ty_bool_bool, ty_bool_int, ty_bool_str, ty_bool_list, ty_bool_tuple, ty_bool_dict, ty_tuple_none, ty_tuple_bool, ty_tuple_int, ty_tuple_str, ty_tuple_list, ty_tuple_tuple, ty_tuple_dict, ty_list_none, ty_list_bool, ty_list_int, ty_list_str, ty_list_list, ty_list_tuple, ty_list_dict, ty_str_none, ty_str_bool, ty_str_int, ty_str_str, ty_str_list, ty_str_tuple, ty_str_dict, ty_dict_none, ty_dict_bool, ty_dict_int, ty_dict_str, ty_dict_list, ty_dict_tuple, ty_dict_dict, ↓onX_mk_q, ↓onX_m4_q, ↓onQ_bD_q, ↓onT_bD_q, onBs_mk, onBl_mk, ↓spW_q, ↓spSh_q, ↓spAs_q, ↓spSp_q, ↓spBx_q, ↓spShape_q, ↓spT_q, ↓spWob_q, ↓spN_q, ↓spNe_q, ↓spTell_q, ↓spHas_q, ↓spGap_q, ↓spBetween_q, ↓spChain_q, ↓dSlX_q, ↓δIxS_q, ↓δAddS_q, ↓δMulS_q, ↓δLeS_q, ↓srcX_q, ↓δListX_q, ↓δTupX_q, ↓dJoin_q, ↓dUpper_q, ↓onDs_13_q, ↓δEqX_q, ↓δInX_q, ↓dDict6_q, ↓dGetK_q, ↓δRep_q, ↓onDs_14_q, ↓δRepT_q, ↓δCatT0_q, ↓spTake_q, onZs_mk, ↓spWide_q, ↓spNames_q, ↓spBoxes_q, ↓spStretched_q, ↓spStretch_q, ↓spWorld_q, ↓spSpot_q, ↓spLand_q, ↓spTelling_q, ↓spMarked_q, ↓spRole_q, ↓spDrawn_q, ↓δReprT_q, ↓dPutK_q, ↓δInK_q, ↓onOK_mk_q, ↓dDisp_q, ↓dPcons_q, ↓dPnil_q, ↓onKvs_cons_q, ↓onKvs_nil_q, ↓onKey_s_q, ↓dGetD_q, ↓srcZ_q, ↓dPop_q])
theorem ok_drawn (T : Tx K mg) : FnOk P w K mg base CX0 3 T.f_drawn T.d_drawn ["_law_pen", "_law_marked_here"] (lift K spDrawn) := by
  have G_take : FnOk P w K mg base CX0 1 T.f_take T.d_take ["_law_pen", "_law_many"] (lift K spTake) := ok_take T
  have G_role : FnOk P w K mg base CX0 2 T.f_role T.d_role ["_law_pen", "_law_marked_here", "_law_role_here"] (lift K spRole) := ok_role T
  refine okD T.o_drawn.F sc_drawn (fun xs M Φ h => by obtain ⟨_, _, rfl, _⟩ := on2_ex h; rfl) fun cdv A outer s H E hr => ⟨_, (dss_cons (ds_set 2 sc_drawn.nd (de_disp (dps_cons de_str (de_lst (da_cons de_str (da_cons de_str (da_cons de_str (da_cons de_str (da_cons de_str da_nil)))))) (dps_cons de_str (de_lst (da_cons de_str (da_cons de_str da_nil))) dps_nil))))
  (dss_cons (ds_putK hr (de_var 2) de_str (de_lst (da_cons de_str (da_cons de_str da_nil))))
  (dss_cons (ds_putK hr (de_var 2) de_str (de_lst (da_cons de_str (da_cons de_str (da_cons de_str da_nil)))))
  (dss_cons (ds_set 3 sc_drawn.nd (de_ix (de_lst (da_cons de_str (da_cons de_str (da_cons de_str (da_cons de_str (da_cons de_str (da_cons de_str (da_cons de_str (da_cons de_str (da_cons de_str (da_cons de_str da_nil))))))))))) (de_call G_take (hr.mono (by first | decide | omega)) rfl T.o_take.m T.o_take.F.kp T.o_take.b pass0 (da_cons (de_var 0) (da_cons de_int da_nil)))))
  (dss_cons (ds_set 4 sc_drawn.nd (de_getD hr (de_var 2) (de_var 3) (de_lst (da_cons de_str (da_cons de_str (da_cons de_str da_nil))))))
  (dss_cons (ds_setC 5 false sc_drawn.nd (compOk_of (sc := defScope s_drawn) (XN := ["_law_pen", "_law_marked_here", "_law_forms", "_law_word", "_law_roles", "_law_parts", "_law_is_good", "_law_things", "_law_kind"]) (N := ["_law_role_here", "_law_pen", "_law_marked_here"]) (ix := [none, some 0, some 1]) rfl rfl (by decide +kernel)) (di_list (de_var 4)) (fun C ex s H => (dg_name 0 (show List.Nodup (["_law_role_here", "_law_pen", "_law_marked_here"] : List Str) by decide +kernel))) (fun C ex s H => dts_nil) (fun C ex s H => (de_call G_role (hr.mono (by first | decide | omega)) rfl T.o_role.m T.o_role.F.kp T.o_role.b pass0 (da_cons (de_var 1) (da_cons (de_var 2) (da_cons (de_var 0) da_nil))))) rfl)
  (dss_cons (ds_set 6 sc_drawn.nd (de_and (de_cmp (od_inK hr) (de_var 3) (de_var 2)) (de_one (de_callB (cd_all rfl) rfl T.n_all bt_all (da_cons (de_comp false (compOk_of (sc := defScope s_drawn) (XN := ["_law_pen", "_law_marked_here", "_law_forms", "_law_word", "_law_roles", "_law_parts", "_law_is_good", "_law_things", "_law_kind"]) (N := ["_law_role_here", "_law_part"]) (ix := [none, none]) rfl rfl (by decide +kernel)) (di_zip rfl T.n_zip (da_cons (de_var 4) (da_cons (de_var 5) da_nil))) (fun C ex s H => (dg_tup (n := 2) rfl (dgs_cons (dg_name 0 (show List.Nodup (["_law_role_here", "_law_part"] : List Str) by decide +kernel)) (dgs_cons (dg_name 1 (show List.Nodup (["_law_role_here", "_law_part"] : List Str) by decide +kernel)) dgs_nil)))) (fun C ex s H => dts_nil) (fun C ex s H => (de_cmp (od_in hr) (de_var 0) (de_ix (de_var 1) de_int))) rfl) da_nil)))))
  (dss_cons (ds_setC 7 true sc_drawn.nd (compOk_of (sc := defScope s_drawn) (XN := ["_law_pen", "_law_marked_here", "_law_forms", "_law_word", "_law_roles", "_law_parts", "_law_is_good", "_law_things", "_law_kind"]) (N := ["_law_part"]) (ix := [none]) rfl rfl (by decide +kernel)) (di_list (de_var 5)) (fun C ex s H => (dg_name 0 (show List.Nodup (["_law_part"] : List Str) by decide +kernel))) (fun C ex s H => dts_nil) (fun C ex s H => (de_ix (de_var 0) de_int)) rfl)
  (dss_cons (ds_set 8 sc_drawn.nd (de_call G_take (hr.mono (by first | decide | omega)) rfl T.o_take.m T.o_take.F.kp T.o_take.b pass0 (da_cons (de_var 0) (da_cons de_int da_nil))))
  (dss_cons (ds_if (dt_cmp (od_eq hr) (de_var 8) de_int) (dss_one (ds_expr (de_append (de_var 7) (de_ix (de_lst (da_cons de_non (da_cons de_int (da_cons de_str da_nil)))) (de_call G_take (hr.mono (by first | decide | omega)) rfl T.o_take.m T.o_take.F.kp T.o_take.b pass0 (da_cons (de_var 0) (da_cons de_int da_nil))))))) dss_nil)
  (dss_cons (ds_if (dt_cmp (od_eq hr) (de_var 8) de_int) (dss_one (ds_expr (de_pop (de_var 7)))) dss_nil)
  (dss_one (ds_ret (de_tup (da_cons (de_op od_catT0 (de_tup (da_cons (de_var 3) da_nil)) (de_callTy cd_tupleOf rfl T.n_tuple bt_tuple (da_cons (de_var 7) da_nil))) (da_cons (de_and (de_var 6) (de_one (de_cmp od_gt (de_var 8) de_int))) da_nil)))))))))))))))), fun xs M Φ h => ?_⟩
  replace h := on2_ex h
  obtain ⟨x1, x2, rfl, h⟩ := h
  replace h := onO_ex h
  obtain ⟨p, rfl, h⟩ := h
  replace h := onL_ex h
  obtain ⟨es, rfl, hM, hp, h⟩ := h
  walk_at "hd"
  walk_at "r9"
  intro g hg
  have n1 : p ≠ g := hp.ne hg
  refine ⟨by decide +kernel, ?_⟩
  walk_at "hd"
  walk_at "r9"
  rw [dput_new (by decide +kernel)]
  walk_at "hd"
  walk_at "r9"
  refine abs3 (mset M g (.dkv fL)) (by rw [dput_new (by decide +kernel)]; rfl) ?_
  have hg0 : mset M g (.dkv fL) g = some (.dkv fL) := mset_same
  have F0 : Fr p M (mset M g (.dkv fL)) := (Fr.refl hp).new hg (Ne.symm n1)
  generalize mset M g (.dkv fL) = M0 at *
  walk_at "hd"
  walk_at "r9"
  refine ⟨F0.1, fun r M1 a1 b1 f1 => tabS (l := [Str.ofString "land", Str.ofString "land", Str.ofString "drop", Str.ofString "free", Str.ofString "spot", Str.ofString "spot", Str.ofString "Land", Str.ofString "spots", Str.ofString "", Str.ofString "free "]) (fun w => ∃ rs good, WOk w rs good) a1 (by exact b1) w_all fun w hw => ?_⟩
  obtain ⟨rs, good, hw⟩ := hw
  have F1 := F0.trans f1
  have hg1 := f1.own hg0 (Ne.symm n1)
  walk_at "hd"
  walk_at "r9"
  rw [hg1]
  walk_at "r9"
  rw [show (dvalD fL (Sum.inr w)).getD (PyData.list [PyData.str (Str.ofString "time"), PyData.str (Str.ofString "name"), PyData.str (Str.ofString "spot")]) = .list (rs.map rD) from hw.get]
  have ln := hw.len
  walk_at "hd"
  walk_at "r9"
  refine ⟨by rw [List.length_map]; omega, fun i acc M' => Fr p M1 M' ∧ acc.length = i ∧ ∀ e ∈ acc, Mkd e, ⟨Fr.refl f1.1, rfl, fun _ h => (nomatch h)⟩, ?_, ?_⟩
  · rintro i d acc M' hd ⟨f2, ha, hm⟩
    obtain ⟨r, _, rfl⟩ := List.mem_map.mp (List.mem_of_getElem? hd)
    walk_at "r9"
    refine ⟨⟨⟨r, rfl⟩, hM⟩, f2.1, fun e M3 he f3 => ⟨f2.trans f3, by rw [List.length_append, ha]; rfl, fun x hx => ?_⟩⟩
    rcases List.mem_append.mp hx with hx | hx
    · exact hm x hx
    · rw [List.mem_singleton.mp hx]
      exact he
  · rintro ps M2 ⟨f2, hl, hm⟩
    rw [List.length_map] at hl
    have F2 := F1.trans f2
    have hg2 := f2.own hg1 (Ne.symm n1)
    walk_at "hd"
    walk_at "r9"
    rename_i R hR
    rw [hg2]
    walk_at "r9"
    rw [hw.isin]
    obtain ⟨qs, rfl, hq⟩ := mkd_list hm
    rw [List.length_map] at hl
    have rest : ∀ b, b = (good && okAll rs (qs.map (·.1))) → R { nx := fun x M' => Φ (DV.dat PyData.none) M', rt := Φ } [some (.own p), some (.dat (.list es)), some (.own g), some (.dat (.str w)), some (.dat (.list (rs.map rD))), some (.dat (.list (qs.map fun q => mkD q.1 q.2))), some (.dat (.bool b)), none, none] M2 := by
      rintro b rfl
      subst hR
      walk_at "hd"
      walk_at "r9"
      refine ⟨by rw [List.length_map]; omega, fun i acc M' => M' = M2 ∧ acc = (qs.take i).map (·.1), ⟨rfl, rfl⟩, ?_, ?_⟩
      · rintro i d acc M' hd ⟨rfl, rfl⟩
        rw [List.getElem?_map] at hd
        cases e2 : qs[i]? with
        | none => rw [e2] at hd; cases hd
        | some q =>
          rw [e2] at hd
          cases hd
          unfold mkD
          walk_at "r9"
          rw [List.take_succ, e2, List.map_append]
          rfl
      · rintro acc M' ⟨rfl, rfl⟩
        rw [List.length_map, List.take_length]
        intro u hu
        have n3 : p ≠ u := F2.1.ne hu
        have hds : (qs.map (·.1)).length = rs.length := by rw [List.length_map, hl]
        have hth : ∀ d ∈ qs.map (·.1), Thg d := fun d hd => by
          obtain ⟨q, h1, rfl⟩ := List.mem_map.mp hd
          exact (hq q h1).th
        generalize qs.map (·.1) = ds at *
        have fresh : M u = none := F2.fresh hu
        walk_at "hd"
        walk_at "r9"
        refine ⟨F2.1.put n3, fun k M3 a3 b3 f3 => ?_⟩
        have hu3 : M3 u = some (.lst ds) := f3.own mset_same (Ne.symm n3)
        have F3 : Fr p M M3 := (F2.new fresh (Ne.symm n3)).trans f3
        walk_at "hd"
        walk_at "r9"
        refine cases_true (fun z => ?_) fun z => ?_
        · rw [hu3]
          walk_at "r9"
          refine ⟨f3.1, fun r4 M4 a4 b4 f4 => tabD Thg a4 (by exact b4) ?_ fun x hx => ?_⟩
          · exact fc (pNon.th rfl) <| fc ((pInt (by omega)).th rfl) <| fc ((pLit "a" (n := 10) (by decide +kernel)).th (by decide +kernel)) fn
          have hu4 := f4.own hu3 (Ne.symm n3)
          rw [hu4]
          walk_at "r9"
          refine ⟨by omega, ?_⟩
          walk_at "hd"
          walk_at "r9"
          have F4 : Fr p M (mset M4 u (OO.lst (ds ++ [x]))) := (F3.trans f4).new fresh (Ne.symm n3)
          subst_vars
          walk_at "r9"
          have fin := h _ _ (thg_tup hw.tx hw.pl (ts := ds ++ [x]) (fun d hd => by
            rcases List.mem_append.mp hd with hd | hd
            · exact hth d hd
            · rw [List.mem_singleton.mp hd]
              exact hx) (by rw [List.length_append, hds, List.length_singleton]; omega)) F4
          rw [hw.more ds x hds] at fin
          refine ⟨by rw [List.length_append, hds, List.length_singleton]; omega, ?_⟩
          split
          · exact fin
          · exact fin
        · walk_at "hd"
          walk_at "r9"
          refine cases_true (fun z1 => ?_) fun z1 => ?_
          · obtain ⟨ini, x, e⟩ : ∃ ini x, ds = ini ++ [x] := by
              rcases List.eq_nil_or_concat ds with e | ⟨a, b, e⟩
              · rw [e] at hds
                rw [List.length_nil] at hds
                omega
              · exact ⟨a, b, by rw [e, List.concat_eq_append]⟩
            refine ⟨ini, x, by rw [hu3, e], ?_⟩
            have F4 : Fr p M (mset M3 u (OO.lst ini)) := F3.new fresh (Ne.symm n3)
            have hl5 : ini.length + 1 = rs.length := by rw [← hds, e, List.length_append]; rfl
            have ht5 : ∀ d ∈ ini, Thg d := fun d hd => hth d (by rw [e]; exact List.mem_append_left _ hd)
            clear e
            subst_vars
            walk_at "r9"
            have fin := h _ _ (thg_tup hw.tx hw.pl ht5 (by omega)) F4
            rw [hw.less ini hl5] at fin
            refine ⟨by omega, ?_⟩
            split
            · exact fin
            · exact fin
          · subst_vars
            walk_at "r9"
            rw [hu3]
            walk_at "r9"
            have fin := h _ _ (thg_tup hw.tx hw.pl hth (by omega)) F3
            rw [hw.same ds hds] at fin
            refine ⟨by omega, ?_⟩
            cases hb : (good && okAll rs ds) with
            | true =>
              rw [hb] at fin
              walk_at "r9"
              rw [decide_eq_true (show (1 : Int) < k by omega)]
              exact fin
            | false =>
              rw [hb] at fin
              walk_at "r9"
              exact fin
    cases good with
    | false =>
      walk_at "r9"
      exact rest _ rfl
    | true =>
      walk_at "r9"
      have zl : (zipD (rs.map rD) (qs.map fun q => mkD q.1 q.2)).length = rs.length := by
        unfold zipD
        rw [List.length_zipWith, List.length_map, List.length_map, hl, Nat.min_self]
      refine ⟨by rw [zl]; omega, fun i acc M' => M' = M2 ∧ acc = ((List.zipWith okR rs (qs.map (·.1))).take i).map PyData.bool, ⟨rfl, rfl⟩, ?_, ?_⟩
      · rintro i d acc M' hd ⟨rfl, rfl⟩
        obtain ⟨r, q, h1, h2, rfl⟩ := zip_at hd
        walk_at "r9"
        unfold mkD
        walk_at "r9"
        refine ⟨mk_okIn _ _, ?_⟩
        rw [(hq q (List.mem_of_getElem? h2)).any r, List.take_succ, List.getElem?_zipWith, h1, List.getElem?_map, h2, List.map_append]
        rfl
      · rintro acc M' ⟨rfl, rfl⟩
        refine ⟨_, rfl, rest _ ?_⟩
        rw [zl, List.take_of_length_le (by rw [List.length_zipWith]; omega)]
        rfl
theorem ok_law (T : Tx K mg) : FnOk P w K mg base CX0 7 T.f_law T.d_law ["_law_script"] (lift K spLaw) := by
  have G_world : FnOk P w K mg base CX0 4 T.f_world T.d_world ["_law_pen"] (lift K spWorld) := ok_world T
  have G_marked : FnOk P w K mg base CX0 4 T.f_marked T.d_marked ["_law_pen", "_law_world_here"] (lift K spMarked) := ok_marked T
  have G_telling : FnOk P w K mg base CX0 4 T.f_telling T.d_telling ["_law_pen", "_law_world_here"] (lift K spTelling) := ok_telling T
  have G_drawn : FnOk P w K mg base CX0 3 T.f_drawn T.d_drawn ["_law_pen", "_law_marked_here"] (lift K spDrawn) := ok_drawn T
  have G_is_telling : FnOk P w K mg base CX0 6 T.f_is_telling T.d_is_telling ["thing"] (lift K spTell) := ok_is_telling T
  refine okD T.o_law.F sc_law (fun xs M Φ ⟨ns, e, _⟩ => by rw [e]; rfl) fun cdv A outer s H E hr => ⟨_, (dss_cons (ds_set 1 sc_law.nd (de_lstO (da_cons (de_var 0) (da_cons de_int (da_cons de_int da_nil)))))
  (dss_cons (ds_set 2 sc_law.nd (de_call G_world (hr.mono (by first | decide | omega)) rfl T.o_world.m T.o_world.F.kp T.o_world.b pass0 (da_cons (de_var 1) da_nil)))
  (dss_cons (ds_forR1 rfl T.n_range (da_cons de_int da_nil) (dg_name 3 sc_law.nd) (dss_cons (ds_set 5 sc_law.nd (de_call G_telling (hr.mono (by first | decide | omega)) rfl T.o_telling.m T.o_telling.F.kp T.o_telling.b pass0 (da_cons (de_var 1) (da_cons (de_var 2) da_nil))))
  (dss_cons (ds_set 6 sc_law.nd (de_callB (cd_repr hr) rfl T.n_repr bt_repr (da_cons (de_var 5) da_nil)))
  (dss_one (ds_if (DW.dt (dw_or (dt_cmp od_isnotB (de_call G_is_telling (hr.mono (by first | decide | omega)) rfl T.o_is_telling.m T.o_is_telling.F.kp T.o_is_telling.b pass0 (da_cons (de_var 5) da_nil)) de_bl) (dw_or (dt_cmp od_isnotB (de_call G_is_telling (hr.mono (by first | decide | omega)) rfl T.o_is_telling.m T.o_is_telling.F.kp T.o_is_telling.b pass0 (da_cons (de_callTy cd_listOf rfl T.n_list bt_list (da_cons (de_var 5) da_nil)) da_nil)) de_bl) (dw_or1 (dt_cmp od_neS (de_callB (cd_repr hr) rfl T.n_repr bt_repr (da_cons (de_var 5) da_nil)) (de_var 6)))))) (dss_one (ds_ret de_bl)) dss_nil)))) PassesOwn.never rfl)
  (dss_cons (ds_set 4 sc_law.nd (de_call G_marked (hr.mono (by first | decide | omega)) rfl T.o_marked.m T.o_marked.F.kp T.o_marked.b pass0 (da_cons (de_var 1) (da_cons (de_var 2) da_nil))))
  (dss_cons (ds_forR1 rfl T.n_range (da_cons de_int da_nil) (dg_name 3 sc_law.nd) (dss_cons (ds_asg (de_call G_drawn (hr.mono (by first | decide | omega)) rfl T.o_drawn.m T.o_drawn.F.kp T.o_drawn.b pass0 (da_cons (de_var 1) (da_cons (de_var 4) da_nil))) (dg_tup (n := 2) rfl (dgs_cons (dg_name 8 sc_law.nd) (dgs_cons (dg_name 9 sc_law.nd) dgs_nil))))
  (dss_cons (ds_set 6 sc_law.nd (de_callB (cd_reprT hr) rfl T.n_repr bt_repr (da_cons (de_var 8) da_nil)))
  (dss_cons (ds_set 7 sc_law.nd (de_call G_is_telling (hr.mono (by first | decide | omega)) rfl T.o_is_telling.m T.o_is_telling.F.kp T.o_is_telling.b pass0 (da_cons (de_var 8) da_nil)))
  (dss_one (ds_if (DW.dt (dw_or (dt_not (dt_val (de_callB (cd_isi (kit_bool _)) rfl T.n_isinstance bt_isinstance (da_cons (de_var 7) (da_cons (de_ty rfl T.n_bool bt_bool) da_nil))))) (dw_or (dt_cmp (od_ne hr) (de_var 7) (de_var 9)) (dw_or1 (dt_cmp od_neS (de_callB (cd_reprT hr) rfl T.n_repr bt_repr (da_cons (de_var 8) da_nil)) (de_var 6)))))) (dss_one (ds_ret de_bl)) dss_nil))))) PassesOwn.never rfl)
  (dss_one (ds_ret de_bl))))))), fun xs M Φ ⟨ns, e, hn, h⟩ => ?_⟩
  subst e
  walk_at "hd"
  walk_at "r9"
  intro p hp
  walk_at "hd"
  walk_at "r9"
  refine ⟨Pen.mset ⟨ns, 0, 0, Int.le_refl 0, rfl⟩, fun q M1 hw hne f1 => ?_⟩
  walk_at "hd"
  walk_at "r9"
  refine ⟨⟨by decide, by decide⟩, fun i Δ M' => ∃ k3 k4 k5 k6 k7 k8 k9, Δ = [some (.dat (.list (ns.map PyData.int))), some (.own p), some (.own q), k3, k4, k5, k6, k7, k8, k9] ∧ Pen M' p ∧ Wd M' q, ⟨_, _, _, _, _, _, _, rfl, f1.1, hw⟩, ?_, ?_⟩
  · rintro i Δ M2 hi ⟨k3, k4, k5, k6, k7, k8, k9, rfl, hP, hW⟩
    rw [dgName_q]
    walk_at "hd"
    walk_at "r9"
    refine ⟨hW, hne, hP, fun D M3 hT f3 => ?_⟩
    obtain ⟨y1, y2⟩ := tel_is hT
    have sw := tel_shw hT
    walk_at "hd"
    walk_at "r9"
    refine ⟨sw, ?_⟩
    subst_vars
    walk_at "r9"
    refine ⟨y2, ?_⟩
    rw [y1]
    walk_at "r9"
    refine ⟨rfl, ?_⟩
    rw [list_no]
    walk_at "r9"
    exact ⟨sw, _, _, _, _, _, _, _, rfl, f3.1, hW.fr f3 hne⟩
  · rintro Δ M2 ⟨k3, k4, k5, k6, k7, k8, k9, rfl, hP, hW⟩
    walk_at "hd"
    walk_at "r9"
    refine ⟨hW, hne, hP, fun es M3 hM f3 => ?_⟩
    walk_at "hd"
    walk_at "r9"
    refine ⟨⟨by decide, by decide⟩, fun i Δ M' => ∃ k3 k5 k6 k7 k8 k9, Δ = [some (.dat (.list (ns.map PyData.int))), some (.own p), some (.own q), k3, some (.dat (.list es)), k5, k6, k7, k8, k9] ∧ Pen M' p, ⟨_, _, _, _, _, _, rfl, f3.1⟩, ?_, ?_⟩
    · rintro i Δ M4 hi ⟨k3, k5, k6, k7, k8, k9, rfl, hP4⟩
      rw [dgName_q]
      walk_at "hd"
      walk_at "r9"
      refine ⟨hM, hP4, fun D M5 hD f5 => ?_⟩
      walk_at "hd"
      walk_at "r9"
      refine ⟨hD.2, ?_⟩
      walk_at "hd"
      walk_at "r9"
      refine ⟨hD.1, ?_⟩
      subst_vars
      walk_at "r9"
      rw [show (!isTellingD (PyData.tuple D) == isTellingD (PyData.tuple D)) = false by cases isTellingD (PyData.tuple D) <;> rfl]
      walk_at "r9"
      exact ⟨⟨hD.2.1, hD.2.2.1, by rw [← sizeLine_eq]; exact hD.2.2.2⟩, _, _, _, _, _, _, rfl, f5.1⟩
    · rintro Δ M4 ⟨k3, k5, k6, k7, k8, k9, rfl, hP4⟩
      subst_vars
      walk_at "r9"
      exact h _
end
theorem len_1 {α : Type} {l : List α} (h : l.length = 1) : ∃ a0, l = [a0] := by
  match l, h with
  | [a0], _ => exact ⟨a0, rfl⟩
theorem len_2 {α : Type} {l : List α} (h : l.length = 2) : ∃ a0 a1, l = [a0, a1] := by
  match l, h with
  | [a0, a1], _ => exact ⟨a0, a1, rfl⟩
theorem len_3 {α : Type} {l : List α} (h : l.length = 3) : ∃ a0 a1 a2, l = [a0, a1, a2] := by
  match l, h with
  | [a0, a1, a2], _ => exact ⟨a0, a1, a2, rfl⟩
theorem all_mk {l : PySem.W.OpenLaw} {w : World} {K : PySem.W.Frag} {h : Heap} {mg : Str → Option Value} {fa : Addr} (X : K.In h) (G : h.Ns mainGlobals mg) (hfa : mg "law" = some (.ref fa))
    {f0 : Addr} {od0 an0 : Option Addr} {sl0 : Array (Option Value)} {oc0 kV0 dc0 pm0 cd0 ct0 : Value} {f1 : Addr} {od1 an1 : Option Addr} {sl1 : Array (Option Value)} {oc1 kV1 dc1 pm1 cd1 ct1 : Value} {f2 : Addr} {od2 an2 : Option Addr} {sl2 : Array (Option Value)} {oc2 kV2 dc2 pm2 cd2 ct2 : Value} {f3 : Addr} {od3 an3 : Option Addr} {sl3 : Array (Option Value)} {oc3 kV3 dc3 pm3 cd3 ct3 : Value} {f4 : Addr} {od4 an4 : Option Addr} {sl4 : Array (Option Value)} {oc4 kV4 dc4 pm4 cd4 ct4 : Value} {f5 : Addr} {od5 an5 : Option Addr} {sl5 : Array (Option Value)} {oc5 kV5 dc5 pm5 cd5 ct5 : Value} {f6 : Addr} {od6 an6 : Option Addr} {sl6 : Array (Option Value)} {oc6 kV6 dc6 pm6 cd6 ct6 : Value} {f7 : Addr} {od7 an7 : Option Addr} {sl7 : Array (Option Value)} {oc7 kV7 dc7 pm7 cd7 ct7 : Value} {f8 : Addr} {od8 an8 : Option Addr} {sl8 : Array (Option Value)} {oc8 kV8 dc8 pm8 cd8 ct8 : Value} {f9 : Addr} {od9 an9 : Option Addr} {sl9 : Array (Option Value)} {oc9 kV9 dc9 pm9 cd9 ct9 : Value} {f10 : Addr} {od10 an10 : Option Addr} {sl10 : Array (Option Value)} {oc10 kV10 dc10 pm10 cd10 ct10 : Value} {f11 : Addr} {od11 an11 : Option Addr} {sl11 : Array (Option Value)} {oc11 kV11 dc11 pm11 cd11 ct11 : Value} {f12 : Addr} {od12 an12 : Option Addr} {sl12 : Array (Option Value)} {oc12 kV12 dc12 pm12 cd12 ct12 : Value} {f13 : Addr} {od13 an13 : Option Addr} {sl13 : Array (Option Value)} {oc13 kV13 dc13 pm13 cd13 ct13 : Value} {f14 : Addr} {od14 an14 : Option Addr} {sl14 : Array (Option Value)} {oc14 kV14 dc14 pm14 cd14 ct14 : Value} {f15 : Addr} {od15 an15 : Option Addr} {sl15 : Array (Option Value)} {oc15 kV15 dc15 pm15 cd15 ct15 : Value} {f16 : Addr} {od16 an16 : Option Addr} {sl16 : Array (Option Value)} {oc16 kV16 dc16 pm16 cd16 ct16 : Value} {f17 : Addr} {od17 an17 : Option Addr} {sl17 : Array (Option Value)} {oc17 kV17 dc17 pm17 cd17 ct17 : Value} {f18 : Addr} {od18 an18 : Option Addr} {sl18 : Array (Option Value)} {oc18 kV18 dc18 pm18 cd18 ct18 : Value} {f19 : Addr} {od19 an19 : Option Addr} {sl19 : Array (Option Value)} {oc19 kV19 dc19 pm19 cd19 ct19 : Value} {f20 : Addr} {od20 an20 : Option Addr} {sl20 : Array (Option Value)} {oc20 kV20 dc20 pm20 cd20 ct20 : Value} {f21 : Addr} {od21 an21 : Option Addr} {sl21 : Array (Option Value)} {oc21 kV21 dc21 pm21 cd21 ct21 : Value} {f22 : Addr} {od22 an22 : Option Addr} {sl22 : Array (Option Value)} {oc22 kV22 dc22 pm22 cd22 ct22 : Value} {f23 : Addr} {od23 an23 : Option Addr} {sl23 : Array (Option Value)} {oc23 kV23 dc23 pm23 cd23 ct23 : Value} {f24 : Addr} {od24 an24 : Option Addr} {sl24 : Array (Option Value)} {oc24 kV24 dc24 pm24 cd24 ct24 : Value} {f25 : Addr} {od25 an25 : Option Addr} {sl25 : Array (Option Value)} {oc25 kV25 dc25 pm25 cd25 ct25 : Value} {f26 : Addr} {od26 an26 : Option Addr} {sl26 : Array (Option Value)} {oc26 kV26 dc26 pm26 cd26 ct26 : Value} {f27 : Addr} {od27 an27 : Option Addr} {sl27 : Array (Option Value)} {oc27 kV27 dc27 pm27 cd27 ct27 : Value} {f28 : Addr} {od28 an28 : Option Addr} {sl28 : Array (Option Value)} {oc28 kV28 dc28 pm28 cd28 ct28 : Value} {tk0 : Tok} {tk1 : Tok} {tk2 : Tok} {tk3 : Tok}
    (a0 : PySem.W.nsIn K mainGlobals "is_whole" = some (some (.ref f0))) (l0 : K.lookup f0 = some ⟨oc0, od0, .func (PySem.W.fnOf "is_whole" "is_whole" (defArgs s_is_whole) (defBody s_is_whole) (defScope s_is_whole) .none kV0 dc0 pm0 an0 cd0 ct0), sl0⟩) (c0 : PySem.W.codeIn K cd0 "is_whole" = true) (k0 : PySem.W.keepIn K (.ref f0) = true)
    (a1 : PySem.W.nsIn K mainGlobals "is_short" = some (some (.ref f1))) (l1 : K.lookup f1 = some ⟨oc1, od1, .func (PySem.W.fnOf "is_short" "is_short" (defArgs s_is_short) (defBody s_is_short) (defScope s_is_short) .none kV1 dc1 pm1 an1 cd1 ct1), sl1⟩) (c1 : PySem.W.codeIn K cd1 "is_short" = true) (k1 : PySem.W.keepIn K (.ref f1) = true)
    (a2 : PySem.W.nsIn K mainGlobals "is_any_spot" = some (some (.ref f2))) (l2 : K.lookup f2 = some ⟨oc2, od2, .func (PySem.W.fnOf "is_any_spot" "is_any_spot" (defArgs s_is_any_spot) (defBody s_is_any_spot) (defScope s_is_any_spot) .none kV2 dc2 pm2 an2 cd2 ct2), sl2⟩) (c2 : PySem.W.codeIn K cd2 "is_any_spot" = true) (k2 : PySem.W.keepIn K (.ref f2) = true)
    (a3 : PySem.W.nsIn K mainGlobals "is_spot" = some (some (.ref f3))) (l3 : K.lookup f3 = some ⟨oc3, od3, .func (PySem.W.fnOf "is_spot" "is_spot" (defArgs s_is_spot) (defBody s_is_spot) (defScope s_is_spot) .none kV3 dc3 pm3 an3 cd3 ct3), sl3⟩) (c3 : PySem.W.codeIn K cd3 "is_spot" = true) (k3 : PySem.W.keepIn K (.ref f3) = true)
    (a4 : PySem.W.nsIn K mainGlobals "is_box" = some (some (.ref f4))) (l4 : K.lookup f4 = some ⟨oc4, od4, .func (PySem.W.fnOf "is_box" "is_box" (defArgs s_is_box) (defBody s_is_box) (defScope s_is_box) .none kV4 dc4 pm4 an4 cd4 ct4), sl4⟩) (c4 : PySem.W.codeIn K cd4 "is_box" = true) (k4 : PySem.W.keepIn K (.ref f4) = true)
    (a5 : PySem.W.nsIn K mainGlobals "has_spots" = some (some (.ref f5))) (l5 : K.lookup f5 = some ⟨oc5, od5, .func (PySem.W.fnOf "has_spots" "has_spots" (defArgs s_has_spots) (defBody s_has_spots) (defScope s_has_spots) .none kV5 dc5 pm5 an5 cd5 ct5), sl5⟩) (c5 : PySem.W.codeIn K cd5 "has_spots" = true) (k5 : PySem.W.keepIn K (.ref f5) = true)
    (a6 : PySem.W.nsIn K mainGlobals "steps_between" = some (some (.ref f6))) (l6 : K.lookup f6 = some ⟨oc6, od6, .func (PySem.W.fnOf "steps_between" "steps_between" (defArgs s_steps_between) (defBody s_steps_between) (defScope s_steps_between) .none kV6 dc6 pm6 an6 cd6 ct6), sl6⟩) (c6 : PySem.W.codeIn K cd6 "steps_between" = true) (k6 : PySem.W.keepIn K (.ref f6) = true)
    (a7 : PySem.W.nsIn K mainGlobals "gap" = some (some (.ref f7))) (l7 : K.lookup f7 = some ⟨oc7, od7, .func (PySem.W.fnOf "gap" "gap" (defArgs s_gap) (defBody s_gap) (defScope s_gap) .none kV7 dc7 pm7 an7 cd7 ct7), sl7⟩) (c7 : PySem.W.codeIn K cd7 "gap" = true) (k7 : PySem.W.keepIn K (.ref f7) = true)
    (a8 : PySem.W.nsIn K mainGlobals "is_shape" = some (some (.ref f8))) (l8 : K.lookup f8 = some ⟨oc8, od8, .func (PySem.W.fnOf "is_shape" "is_shape" (defArgs s_is_shape) (defBody s_is_shape) (defScope s_is_shape) .none kV8 dc8 pm8 an8 cd8 ct8), sl8⟩) (c8 : PySem.W.codeIn K cd8 "is_shape" = true) (k8 : PySem.W.keepIn K (.ref f8) = true)
    (a9 : PySem.W.nsIn K mainGlobals "is_chain" = some (some (.ref f9))) (l9 : K.lookup f9 = some ⟨oc9, od9, .func (PySem.W.fnOf "is_chain" "is_chain" (defArgs s_is_chain) (defBody s_is_chain) (defScope s_is_chain) .none kV9 dc9 pm9 an9 cd9 ct9), sl9⟩) (c9 : PySem.W.codeIn K cd9 "is_chain" = true) (k9 : PySem.W.keepIn K (.ref f9) = true)
    (a10 : PySem.W.nsIn K mainGlobals "is_name" = some (some (.ref f10))) (l10 : K.lookup f10 = some ⟨oc10, od10, .func (PySem.W.fnOf "is_name" "is_name" (defArgs s_is_name) (defBody s_is_name) (defScope s_is_name) .none kV10 dc10 pm10 an10 cd10 ct10), sl10⟩) (c10 : PySem.W.codeIn K cd10 "is_name" = true) (k10 : PySem.W.keepIn K (.ref f10) = true)
    (a11 : PySem.W.nsIn K mainGlobals "is_time" = some (some (.ref f11))) (l11 : K.lookup f11 = some ⟨oc11, od11, .func (PySem.W.fnOf "is_time" "is_time" (defArgs s_is_time) (defBody s_is_time) (defScope s_is_time) .none kV11 dc11 pm11 an11 cd11 ct11), sl11⟩) (c11 : PySem.W.codeIn K cd11 "is_time" = true) (k11 : PySem.W.keepIn K (.ref f11) = true)
    (a12 : PySem.W.nsIn K mainGlobals "is_telling" = some (some (.ref f12))) (l12 : K.lookup f12 = some ⟨oc12, od12, .func (PySem.W.fnOf "is_telling" "is_telling" (defArgs s_is_telling) (defBody s_is_telling) (defScope s_is_telling) .none kV12 dc12 pm12 an12 cd12 ct12), sl12⟩) (c12 : PySem.W.codeIn K cd12 "is_telling" = true) (k12 : PySem.W.keepIn K (.ref f12) = true)
    (a13 : PySem.W.nsIn K mainGlobals "is_name_or_empty" = some (some (.ref f13))) (l13 : K.lookup f13 = some ⟨oc13, od13, .func (PySem.W.fnOf "is_name_or_empty" "is_name_or_empty" (defArgs s_is_name_or_empty) (defBody s_is_name_or_empty) (defScope s_is_name_or_empty) .none kV13 dc13 pm13 an13 cd13 ct13), sl13⟩) (c13 : PySem.W.codeIn K cd13 "is_name_or_empty" = true) (k13 : PySem.W.keepIn K (.ref f13) = true)
    (a14 : PySem.W.nsIn K mainGlobals "is_wobble" = some (some (.ref f14))) (l14 : K.lookup f14 = some ⟨oc14, od14, .func (PySem.W.fnOf "is_wobble" "is_wobble" (defArgs s_is_wobble) (defBody s_is_wobble) (defScope s_is_wobble) .none kV14 dc14 pm14 an14 cd14 ct14), sl14⟩) (c14 : PySem.W.codeIn K cd14 "is_wobble" = true) (k14 : PySem.W.keepIn K (.ref f14) = true)
    (a15 : PySem.W.nsIn K mainGlobals "_law_take" = some (some (.ref f15))) (l15 : K.lookup f15 = some ⟨oc15, od15, .func (PySem.W.fnOf "_law_take" "_law_take" (defArgs s_take) (defBody s_take) (defScope s_take) .none kV15 dc15 pm15 an15 cd15 ct15), sl15⟩) (c15 : PySem.W.codeIn K cd15 "_law_take" = true) (k15 : PySem.W.keepIn K (.ref f15) = true)
    (a16 : PySem.W.nsIn K mainGlobals "_law_wide" = some (some (.ref f16))) (l16 : K.lookup f16 = some ⟨oc16, od16, .func (PySem.W.fnOf "_law_wide" "_law_wide" (defArgs s_wide) (defBody s_wide) (defScope s_wide) .none kV16 dc16 pm16 an16 cd16 ct16), sl16⟩) (c16 : PySem.W.codeIn K cd16 "_law_wide" = true) (k16 : PySem.W.keepIn K (.ref f16) = true)
    (a17 : PySem.W.nsIn K mainGlobals "_law_boxes" = some (some (.ref f17))) (l17 : K.lookup f17 = some ⟨oc17, od17, .func (PySem.W.fnOf "_law_boxes" "_law_boxes" (defArgs s_boxes) (defBody s_boxes) (defScope s_boxes) .none kV17 dc17 pm17 an17 cd17 ct17), sl17⟩) (c17 : PySem.W.codeIn K cd17 "_law_boxes" = true) (k17 : PySem.W.keepIn K (.ref f17) = true)
    (a18 : PySem.W.nsIn K mainGlobals "_law_stretched" = some (some (.ref f18))) (l18 : K.lookup f18 = some ⟨oc18, od18, .func (PySem.W.fnOf "_law_stretched" "_law_stretched" (defArgs s_stretched) (defBody s_stretched) (defScope s_stretched) .none kV18 dc18 pm18 an18 cd18 ct18), sl18⟩) (c18 : PySem.W.codeIn K cd18 "_law_stretched" = true) (k18 : PySem.W.keepIn K (.ref f18) = true)
    (a19 : PySem.W.nsIn K mainGlobals "_law_stretch" = some (some (.ref f19))) (l19 : K.lookup f19 = some ⟨oc19, od19, .func (PySem.W.fnOf "_law_stretch" "_law_stretch" (defArgs s_stretch) (defBody s_stretch) (defScope s_stretch) .none kV19 dc19 pm19 an19 cd19 ct19), sl19⟩) (c19 : PySem.W.codeIn K cd19 "_law_stretch" = true) (k19 : PySem.W.keepIn K (.ref f19) = true)
    (a20 : PySem.W.nsIn K mainGlobals "_law_names" = some (some (.ref f20))) (l20 : K.lookup f20 = some ⟨oc20, od20, .func (PySem.W.fnOf "_law_names" "_law_names" (defArgs s_names) (defBody s_names) (defScope s_names) .none kV20 dc20 pm20 an20 cd20 ct20), sl20⟩) (c20 : PySem.W.codeIn K cd20 "_law_names" = true) (k20 : PySem.W.keepIn K (.ref f20) = true)
    (a21 : PySem.W.nsIn K mainGlobals "_law_world" = some (some (.ref f21))) (l21 : K.lookup f21 = some ⟨oc21, od21, .func (PySem.W.fnOf "_law_world" "_law_world" (defArgs s_world) (defBody s_world) (defScope s_world) .none kV21 dc21 pm21 an21 cd21 ct21), sl21⟩) (c21 : PySem.W.codeIn K cd21 "_law_world" = true) (k21 : PySem.W.keepIn K (.ref f21) = true)
    (a22 : PySem.W.nsIn K mainGlobals "_law_spot" = some (some (.ref f22))) (l22 : K.lookup f22 = some ⟨oc22, od22, .func (PySem.W.fnOf "_law_spot" "_law_spot" (defArgs s_spot) (defBody s_spot) (defScope s_spot) .none kV22 dc22 pm22 an22 cd22 ct22), sl22⟩) (c22 : PySem.W.codeIn K cd22 "_law_spot" = true) (k22 : PySem.W.keepIn K (.ref f22) = true)
    (a23 : PySem.W.nsIn K mainGlobals "_law_land" = some (some (.ref f23))) (l23 : K.lookup f23 = some ⟨oc23, od23, .func (PySem.W.fnOf "_law_land" "_law_land" (defArgs s_land) (defBody s_land) (defScope s_land) .none kV23 dc23 pm23 an23 cd23 ct23), sl23⟩) (c23 : PySem.W.codeIn K cd23 "_law_land" = true) (k23 : PySem.W.keepIn K (.ref f23) = true)
    (a24 : PySem.W.nsIn K mainGlobals "_law_telling" = some (some (.ref f24))) (l24 : K.lookup f24 = some ⟨oc24, od24, .func (PySem.W.fnOf "_law_telling" "_law_telling" (defArgs s_telling) (defBody s_telling) (defScope s_telling) .none kV24 dc24 pm24 an24 cd24 ct24), sl24⟩) (c24 : PySem.W.codeIn K cd24 "_law_telling" = true) (k24 : PySem.W.keepIn K (.ref f24) = true)
    (a25 : PySem.W.nsIn K mainGlobals "_law_marked" = some (some (.ref f25))) (l25 : K.lookup f25 = some ⟨oc25, od25, .func (PySem.W.fnOf "_law_marked" "_law_marked" (defArgs s_marked) (defBody s_marked) (defScope s_marked) .none kV25 dc25 pm25 an25 cd25 ct25), sl25⟩) (c25 : PySem.W.codeIn K cd25 "_law_marked" = true) (k25 : PySem.W.keepIn K (.ref f25) = true)
    (a26 : PySem.W.nsIn K mainGlobals "_law_role" = some (some (.ref f26))) (l26 : K.lookup f26 = some ⟨oc26, od26, .func (PySem.W.fnOf "_law_role" "_law_role" (defArgs s_role) (defBody s_role) (defScope s_role) .none kV26 dc26 pm26 an26 cd26 ct26), sl26⟩) (c26 : PySem.W.codeIn K cd26 "_law_role" = true) (k26 : PySem.W.keepIn K (.ref f26) = true)
    (a27 : PySem.W.nsIn K mainGlobals "_law_drawn" = some (some (.ref f27))) (l27 : K.lookup f27 = some ⟨oc27, od27, .func (PySem.W.fnOf "_law_drawn" "_law_drawn" (defArgs s_drawn) (defBody s_drawn) (defScope s_drawn) .none kV27 dc27 pm27 an27 cd27 ct27), sl27⟩) (c27 : PySem.W.codeIn K cd27 "_law_drawn" = true) (k27 : PySem.W.keepIn K (.ref f27) = true)
    (a28 : PySem.W.nsIn K mainGlobals "law" = some (some (.ref f28))) (l28 : K.lookup f28 = some ⟨oc28, od28, .func (PySem.W.fnOf "law" "law" (defArgs s_law) (defBody s_law) (defScope s_law) .none kV28 dc28 pm28 an28 cd28 ct28), sl28⟩) (c28 : PySem.W.codeIn K cd28 "law" = true) (k28 : PySem.W.keepIn K (.ref f28) = true)
    (z0 : PySem.W.nsIn K mainGlobals "abs" = some none)
    (z1 : PySem.W.nsIn K mainGlobals "all" = some none)
    (z2 : PySem.W.nsIn K mainGlobals "bool" = some none)
    (z3 : PySem.W.nsIn K mainGlobals "int" = some none)
    (z4 : PySem.W.nsIn K mainGlobals "isinstance" = some none)
    (z5 : PySem.W.nsIn K mainGlobals "len" = some none)
    (z6 : PySem.W.nsIn K mainGlobals "list" = some none)
    (z7 : PySem.W.nsIn K mainGlobals "max" = some none)
    (z8 : PySem.W.nsIn K mainGlobals "range" = some none)
    (z9 : PySem.W.nsIn K mainGlobals "repr" = some none)
    (z10 : PySem.W.nsIn K mainGlobals "str" = some none)
    (z11 : PySem.W.nsIn K mainGlobals "tuple" = some none)
    (z12 : PySem.W.nsIn K mainGlobals "zip" = some none)
    (u0 : PySem.W.nsIn K mainGlobals "MOST" = some (some (.int 999999999999 tk0)))
    (u1 : PySem.W.nsIn K mainGlobals "MOST_BOXES" = some (some (.int 6 tk1)))
    (u2 : PySem.W.nsIn K mainGlobals "MOST_LETTERS" = some (some (.int 8 tk2)))
    (u3 : PySem.W.nsIn K mainGlobals "LAST_TIME" = some (some (.int 1000000000000 tk3))) :
    ∃ fd : FuncData, (∀ (s : Shared) (v : Value), BindsTo s fd ⟨[v], []⟩ [("_law_script", v)]) ∧ ∀ base : Heap, K.In base → base.Ns mainGlobals mg → FnOk l.prog w K mg base CX0 7 fa fd ["_law_script"] (lift K spLaw) := by
  have e := hfa.symm.trans (PySem.W.mg_of X G a28)
  cases e
  have F0 := fun_mk (st := s_is_whole) l0 c0 k0
  have b0 := F0.binds (ps := ["thing"]) fun _ _ _ _ _ _ us hl => by obtain ⟨_, rfl⟩ := len_1 hl; rfl
  have F1 := fun_mk (st := s_is_short) l1 c1 k1
  have b1 := F1.binds (ps := ["thing"]) fun _ _ _ _ _ _ us hl => by obtain ⟨_, rfl⟩ := len_1 hl; rfl
  have F2 := fun_mk (st := s_is_any_spot) l2 c2 k2
  have b2 := F2.binds (ps := ["thing"]) fun _ _ _ _ _ _ us hl => by obtain ⟨_, rfl⟩ := len_1 hl; rfl
  have F3 := fun_mk (st := s_is_spot) l3 c3 k3
  have b3 := F3.binds (ps := ["thing"]) fun _ _ _ _ _ _ us hl => by obtain ⟨_, rfl⟩ := len_1 hl; rfl
  have F4 := fun_mk (st := s_is_box) l4 c4 k4
  have b4 := F4.binds (ps := ["thing"]) fun _ _ _ _ _ _ us hl => by obtain ⟨_, rfl⟩ := len_1 hl; rfl
  have F5 := fun_mk (st := s_has_spots) l5 c5 k5
  have b5 := F5.binds (ps := ["box"]) fun _ _ _ _ _ _ us hl => by obtain ⟨_, rfl⟩ := len_1 hl; rfl
  have F6 := fun_mk (st := s_steps_between) l6 c6 k6
  have b6 := F6.binds (ps := ["one", "other"]) fun _ _ _ _ _ _ us hl => by obtain ⟨_, _, rfl⟩ := len_2 hl; rfl
  have F7 := fun_mk (st := s_gap) l7 c7 k7
  have b7 := F7.binds (ps := ["one", "other", "way"]) fun _ _ _ _ _ _ us hl => by obtain ⟨_, _, _, rfl⟩ := len_3 hl; rfl
  have F8 := fun_mk (st := s_is_shape) l8 c8 k8
  have b8 := F8.binds (ps := ["thing"]) fun _ _ _ _ _ _ us hl => by obtain ⟨_, rfl⟩ := len_1 hl; rfl
  have F9 := fun_mk (st := s_is_chain) l9 c9 k9
  have b9 := F9.binds (ps := ["boxes"]) fun _ _ _ _ _ _ us hl => by obtain ⟨_, rfl⟩ := len_1 hl; rfl
  have F10 := fun_mk (st := s_is_name) l10 c10 k10
  have b10 := F10.binds (ps := ["thing"]) fun _ _ _ _ _ _ us hl => by obtain ⟨_, rfl⟩ := len_1 hl; rfl
  have F11 := fun_mk (st := s_is_time) l11 c11 k11
  have b11 := F11.binds (ps := ["thing"]) fun _ _ _ _ _ _ us hl => by obtain ⟨_, rfl⟩ := len_1 hl; rfl
  have F12 := fun_mk (st := s_is_telling) l12 c12 k12
  have b12 := F12.binds (ps := ["thing"]) fun _ _ _ _ _ _ us hl => by obtain ⟨_, rfl⟩ := len_1 hl; rfl
  have F13 := fun_mk (st := s_is_name_or_empty) l13 c13 k13
  have b13 := F13.binds (ps := ["thing"]) fun _ _ _ _ _ _ us hl => by obtain ⟨_, rfl⟩ := len_1 hl; rfl
  have F14 := fun_mk (st := s_is_wobble) l14 c14 k14
  have b14 := F14.binds (ps := ["thing"]) fun _ _ _ _ _ _ us hl => by obtain ⟨_, rfl⟩ := len_1 hl; rfl
  have F15 := fun_mk (st := s_take) l15 c15 k15
  have b15 := F15.binds (ps := ["_law_pen", "_law_many"]) fun _ _ _ _ _ _ us hl => by obtain ⟨_, _, rfl⟩ := len_2 hl; rfl
  have F16 := fun_mk (st := s_wide) l16 c16 k16
  have b16 := F16.binds (ps := ["_law_pen", "_law_many"]) fun _ _ _ _ _ _ us hl => by obtain ⟨_, _, rfl⟩ := len_2 hl; rfl
  have F17 := fun_mk (st := s_boxes) l17 c17 k17
  have b17 := F17.binds (ps := ["_law_pen", "_law_most"]) fun _ _ _ _ _ _ us hl => by obtain ⟨_, _, rfl⟩ := len_2 hl; rfl
  have F18 := fun_mk (st := s_stretched) l18 c18 k18
  have b18 := F18.binds (ps := ["_law_boxes_here", "_law_by", "_law_off"]) fun _ _ _ _ _ _ us hl => by obtain ⟨_, _, _, rfl⟩ := len_3 hl; rfl
  have F19 := fun_mk (st := s_stretch) l19 c19 k19
  have b19 := F19.binds (ps := ["_law_pen"]) fun _ _ _ _ _ _ us hl => by obtain ⟨_, rfl⟩ := len_1 hl; rfl
  have F20 := fun_mk (st := s_names) l20 c20 k20
  have b20 := F20.binds (ps := ["_law_pen", "_law_many"]) fun _ _ _ _ _ _ us hl => by obtain ⟨_, _, rfl⟩ := len_2 hl; rfl
  have F21 := fun_mk (st := s_world) l21 c21 k21
  have b21 := F21.binds (ps := ["_law_pen"]) fun _ _ _ _ _ _ us hl => by obtain ⟨_, rfl⟩ := len_1 hl; rfl
  have F22 := fun_mk (st := s_spot) l22 c22 k22
  have b22 := F22.binds (ps := ["_law_pen", "_law_world_here"]) fun _ _ _ _ _ _ us hl => by obtain ⟨_, _, rfl⟩ := len_2 hl; rfl
  have F23 := fun_mk (st := s_land) l23 c23 k23
  have b23 := F23.binds (ps := ["_law_pen", "_law_world_here", "_law_time"]) fun _ _ _ _ _ _ us hl => by obtain ⟨_, _, _, rfl⟩ := len_3 hl; rfl
  have F24 := fun_mk (st := s_telling) l24 c24 k24
  have b24 := F24.binds (ps := ["_law_pen", "_law_world_here"]) fun _ _ _ _ _ _ us hl => by obtain ⟨_, _, rfl⟩ := len_2 hl; rfl
  have F25 := fun_mk (st := s_marked) l25 c25 k25
  have b25 := F25.binds (ps := ["_law_pen", "_law_world_here"]) fun _ _ _ _ _ _ us hl => by obtain ⟨_, _, rfl⟩ := len_2 hl; rfl
  have F26 := fun_mk (st := s_role) l26 c26 k26
  have b26 := F26.binds (ps := ["_law_pen", "_law_marked_here", "_law_role_here"]) fun _ _ _ _ _ _ us hl => by obtain ⟨_, _, _, rfl⟩ := len_3 hl; rfl
  have F27 := fun_mk (st := s_drawn) l27 c27 k27
  have b27 := F27.binds (ps := ["_law_pen", "_law_marked_here"]) fun _ _ _ _ _ _ us hl => by obtain ⟨_, _, rfl⟩ := len_2 hl; rfl
  have F28 := fun_mk (st := s_law) l28 c28 k28
  have b28 := F28.binds (ps := ["_law_script"]) fun _ _ _ _ _ _ us hl => by obtain ⟨_, rfl⟩ := len_1 hl; rfl
  let T : Tx K mg := ⟨_, _, ⟨F0, PySem.W.mg_of X G a0, b0⟩, _, _, ⟨F1, PySem.W.mg_of X G a1, b1⟩, _, _, ⟨F2, PySem.W.mg_of X G a2, b2⟩, _, _, ⟨F3, PySem.W.mg_of X G a3, b3⟩, _, _, ⟨F4, PySem.W.mg_of X G a4, b4⟩, _, _, ⟨F5, PySem.W.mg_of X G a5, b5⟩, _, _, ⟨F6, PySem.W.mg_of X G a6, b6⟩, _, _, ⟨F7, PySem.W.mg_of X G a7, b7⟩, _, _, ⟨F8, PySem.W.mg_of X G a8, b8⟩, _, _, ⟨F9, PySem.W.mg_of X G a9, b9⟩, _, _, ⟨F10, PySem.W.mg_of X G a10, b10⟩, _, _, ⟨F11, PySem.W.mg_of X G a11, b11⟩, _, _, ⟨F12, PySem.W.mg_of X G a12, b12⟩, _, _, ⟨F13, PySem.W.mg_of X G a13, b13⟩, _, _, ⟨F14, PySem.W.mg_of X G a14, b14⟩, _, _, ⟨F15, PySem.W.mg_of X G a15, b15⟩, _, _, ⟨F16, PySem.W.mg_of X G a16, b16⟩, _, _, ⟨F17, PySem.W.mg_of X G a17, b17⟩, _, _, ⟨F18, PySem.W.mg_of X G a18, b18⟩, _, _, ⟨F19, PySem.W.mg_of X G a19, b19⟩, _, _, ⟨F20, PySem.W.mg_of X G a20, b20⟩, _, _, ⟨F21, PySem.W.mg_of X G a21, b21⟩, _, _, ⟨F22, PySem.W.mg_of X G a22, b22⟩, _, _, ⟨F23, PySem.W.mg_of X G a23, b23⟩, _, _, ⟨F24, PySem.W.mg_of X G a24, b24⟩, _, _, ⟨F25, PySem.W.mg_of X G a25, b25⟩, _, _, ⟨F26, PySem.W.mg_of X G a26, b26⟩, _, _, ⟨F27, PySem.W.mg_of X G a27, b27⟩, _, _, ⟨F28, PySem.W.mg_of X G a28, b28⟩, PySem.W.mg_none_of X G z0, PySem.W.mg_none_of X G z1, PySem.W.mg_none_of X G z2, PySem.W.mg_none_of X G z3, PySem.W.mg_none_of X G z4, PySem.W.mg_none_of X G z5, PySem.W.mg_none_of X G z6, PySem.W.mg_none_of X G z7, PySem.W.mg_none_of X G z8, PySem.W.mg_none_of X G z9, PySem.W.mg_none_of X G z10, PySem.W.mg_none_of X G z11, PySem.W.mg_none_of X G z12, _, PySem.W.mg_of X G u0, _, PySem.W.mg_of X G u1, _, PySem.W.mg_of X G u2, _, PySem.W.mg_of X G u3⟩
  exact ⟨_, fun s v => .of_eq rfl, fun base _ _ => ok_law T⟩
theorem walk {l : PySem.W.OpenLaw} {q : Program} {loose : List Str} {XP : (Str → Option Value) → Heap → Prop} {YP : World → Heap → Prop} {d : DefRec} {K : Params → PySem.W.Frag} (hn : l.most = some 63) (hdf : d.params.defaults = [])
    (hY : ∀ (w : World) (h : Heap), YP w h → (K w.params).In h)
    (F : ∀ (w : World) (mg : Str → Option Value) (fa : Addr) (h : Heap), (K w.params).In h → h.Ns mainGlobals mg → mg d.name = some (.ref fa) →
      ∃ fd : FuncData, (∀ (s : Shared) (u : Value), BindsTo s fd ⟨[u], []⟩ [("_law_script", u)]) ∧ ∀ base : Heap, (K w.params).In base → base.Ns mainGlobals mg → FnOk l.prog w (K w.params) mg base CX0 7 fa fd ["_law_script"] (lift (K w.params) spLaw)) :
    PySem.W.WalkO q loose XP YP l.row.toRowW d [] (fun f vs => PySem.call f vs) :=
  L2.walk_of (n := 63) (k := 7) (x := "_law_script") (CX := fun _ => CX0) (sp := fun w => lift (K w.params) spLaw) hn (by decide) hdf ⟨rfl, by decide, by decide, rfl⟩ hY F
    (fun w H a ns hl hO hS => law_start hl hO hS) fun _ _ _ _ _ z => z
end My
theorem PySem.W.Fast.tw16225526886788244612 : True := trivial
theorem PySem.W.Fast.tw18409043472477784230 : True := trivial
theorem PySem.W.Fast.tw8633508567584055164 : True := trivial
theorem PySem.W.Fast.tw4337050957754118458 : True := trivial
theorem PySem.W.Fast.tw3156711315072250844 : True := trivial
theorem PySem.W.Fast.tw6188119064416150290 : True := trivial
theorem PySem.W.Fast.tw9258942016808597753 : True := trivial
theorem PySem.W.Fast.tw11983354589451511202 : True := trivial
theorem PySem.W.Fast.tw3440106178149910365 : True := trivial
theorem PySem.W.Fast.tw16874371515256985695 : True := trivial
theorem PySem.W.Fast.tw14438226736897359528 : True := trivial
theorem PySem.W.Fast.tw1035806897002676185 : True := trivial
theorem PySem.W.Fast.tw17747313595958998789 : True := trivial
theorem PySem.W.Fast.tw6844447435557340280 : True := trivial
theorem PySem.W.Fast.tw665549592802151357 : True := trivial
theorem PySem.W.Fast.tw8715014925578207229 : True := trivial
theorem PySem.W.Fast.tw4679234301430038597 : True := trivial
theorem PySem.W.Fast.tw6553848047878072845 : True := trivial
theorem PySem.W.Fast.tw2116318197142407975 : True := trivial
theorem PySem.W.Fast.tw9752945791019813509 : True := trivial
theorem PySem.W.Fast.tw513319685503386190 : True := trivial
theorem PySem.W.Fast.tw15017781855900481809 : True := trivial
theorem PySem.W.Fast.tw4941929374737385115 : True := trivial
theorem PySem.W.Fast.tw16729596719585123594 : True := trivial
theorem PySem.W.Fast.tw3953787813280769543 : True := trivial
theorem PySem.W.Fast.tw5854773611329970381 : True := trivial
theorem PySem.W.Fast.tw1136042577930064096 : True := trivial
theorem PySem.W.Fast.tw7231396319059581360 : True := trivial
theorem PySem.W.Fast.tw11238182364387262159 : True := trivial
theorem PySem.W.Fast.tw7733714383975583150 : True := trivial
theorem PySem.W.Fast.tw5682522456958391971 : True := trivial
theorem PySem.W.Fast.tw16813655638989190194 : True := trivial
theorem PySem.W.Fast.tw15963893300842631456 : True := trivial
theorem PySem.W.Fast.tw14438231731087566014 : True := trivial
theorem PySem.W.Fast.tw12301760676206555474 : True := trivial
theorem PySem.W.Fast.tw4663083737747462612 : True := trivial
theorem PySem.W.Fast.tw5563068646386478353 : True := trivial
theorem PySem.W.Fast.tw10488356423982335538 : True := trivial
theorem PySem.W.Fast.tw6204008919900311357 : True := trivial
theorem PySem.W.Fast.tw3268298160869660446 : True := trivial
theorem PySem.W.Fast.tw6673542843342569973 : True := trivial
theorem PySem.W.Fast.tw17706242801768541792 : True := trivial
theorem PySem.W.Fast.tw4140053347959689593 : True := trivial
theorem PySem.W.Fast.tw2221773782885348676 : True := trivial
theorem PySem.W.Fast.tw11747127852354406416 : True := trivial
theorem PySem.W.Fast.tw15924268421093280743 : True := trivial
theorem PySem.W.Fast.tw13707827194540230066 : True := trivial
theorem PySem.W.Fast.tw17768274163560640005 : True := trivial
theorem PySem.W.Fast.tw12755748116794203327 : True := trivial
theorem PySem.W.Fast.tw269772182691061907 : True := trivial
theorem PySem.W.Fast.tw12751667111220449863 : True := trivial
theorem PySem.W.Fast.tw2722364263305492803 : True := trivial
theorem PySem.W.Fast.tw17445466442575825783 : True := trivial
theorem PySem.W.Fast.tw4188191204618136602 : True := trivial
theorem PySem.W.Fast.tw3815135717281150177 : True := trivial
theorem PySem.W.Fast.tw4750983864985578687 : True := trivial
theorem PySem.W.Fast.tw2794870427138749916 : True := trivial
theorem PySem.W.Fast.tw9050234709649782099 : True := trivial
theorem PySem.W.Fast.tw13729567580075338128 : True := trivial
theorem PySem.W.Fast.tw5524520995565250815 : True := trivial
theorem PySem.W.Fast.tw15922240729874151770 : True := trivial
theorem PySem.W.Fast.tw3602347854942235389 : True := trivial
theorem PySem.W.Fast.tw17629304456439851184 : True := trivial
theorem PySem.W.Fast.tw13681839767914732491 : True := trivial
theorem PySem.W.Fast.tw3711479468088300768 : True := trivial
theorem PySem.W.Fast.tw7881722287307686430 : True := trivial
theorem PySem.W.Fast.tw15695910754044881774 : True := trivial
theorem PySem.W.Fast.tw7325438062766054873 : True := trivial
theorem PySem.W.Fast.tw5979815518271792352 : True := trivial
theorem PySem.W.Fast.tw8034625618275677485 : True := trivial
theorem PySem.W.Fast.tw1422379037316847486 : True := trivial
theorem PySem.W.Fast.tw12470685273257409002 : True := trivial
theorem PySem.W.Fast.tw7147568958229489622 : True := trivial
theorem PySem.W.Fast.tw5088966230264033425 : True := trivial
theorem PySem.W.Fast.tw3218138489251653942 : True := trivial
theorem PySem.W.Fast.tw12631241383299926752 : True := trivial
theorem PySem.W.Fast.tw12189398841229317703 : True := trivial
theorem PySem.W.Fast.tw11296201930193893597 : True := trivial
theorem PySem.W.Fast.tw668974637156741060 : True := trivial
theorem PySem.W.Fast.tw12032764976103186148 : True := trivial
theorem PySem.W.Fast.tw15796766950915206339 : True := trivial
theorem PySem.W.Fast.tw13774901276216298583 : True := trivial
theorem PySem.W.Fast.tw12684566671801894957 : True := trivial
theorem PySem.W.Fast.tw1258954823364623612 : True := trivial
theorem PySem.W.Fast.tw9634322976831119789 : True := trivial
theorem PySem.W.Fast.tw2176661802404271455 : True := trivial
theorem PySem.W.Fast.tw6612269150707136144 : True := trivial
theorem PySem.W.Fast.tw11808319432251755800 : True := trivial
theorem PySem.W.Fast.tw6263532807245885776 : True := trivial
theorem PySem.W.Fast.tw6329171846009551499 : True := trivial
theorem PySem.W.Fast.tw11027488839659845800 : True := trivial
theorem PySem.W.Fast.tw7824042269879823413 : True := trivial
theorem PySem.W.Fast.tw4042307019877297814 : True := trivial
theorem PySem.W.Fast.tw12271111990356481447 : True := trivial
theorem PySem.W.Fast.tw788317930817101481 : True := trivial
theorem PySem.W.Fast.tw1504904447742092426 : True := trivial
theorem PySem.W.Fast.tw3340267367485787618 : True := trivial
theorem PySem.W.Fast.tw16857774105379675580 : True := trivial
theorem PySem.W.Fast.tw8506681960632669459 : True := trivial
theorem PySem.W.Fast.tw1122230002050607299 : True := trivial
theorem PySem.W.Fast.tw5446328163102779946 : True := trivial
theorem PySem.W.Fast.tw10806461092256567427 : True := trivial
theorem PySem.W.Fast.tw10057338070888778132 : True := trivial
theorem PySem.W.Fast.tw18376883005799743308 : True := trivial
theorem PySem.W.Fast.tw1229161698855722562 : True := trivial
theorem PySem.W.Fast.tw10718322223124871092 : True := trivial
theorem PySem.W.Fast.tw8947254862553273299 : True := trivial
theorem PySem.W.Fast.tw10794026522292041949 : True := trivial
theorem PySem.W.Fast.tw7602625168783012169 : True := trivial
theorem PySem.W.Fast.tw9741835207965449230 : True := trivial
theorem PySem.W.Fast.tw1383205382652703057 : True := trivial
theorem PySem.W.Fast.tw10739813907541411219 : True := trivial
theorem PySem.W.Fast.tw6616628227887845535 : True := trivial
theorem PySem.W.Fast.tw8380205666654910121 : True := trivial
theorem PySem.W.Fast.tw4158888571482880227 : True := trivial
theorem PySem.W.Fast.tw6681181814197495900 : True := trivial
theorem PySem.W.Fast.tw1749772439264613299 : True := trivial
theorem PySem.W.Fast.tw18437259637387737765 : True := trivial
theorem PySem.W.Fast.tw14625910941105139227 : True := trivial
theorem PySem.W.Fast.tw10334304508004532651 : True := trivial
theorem PySem.W.Fast.tw17896612289766973841 : True := trivial
theorem PySem.W.Fast.tw5893597950911599033 : True := trivial
theorem PySem.W.Fast.tw15923956236142074808 : True := trivial
theorem PySem.W.Fast.tw3605985383800268563 : True := trivial
theorem PySem.W.Fast.tw11980382308383361415 : True := trivial
theorem PySem.W.Fast.tw412435606147768915 : True := trivial
theorem PySem.W.Fast.tw3837642396674569876 : True := trivial
theorem PySem.W.Fast.tw5496921339094768615 : True := trivial
theorem PySem.W.Fast.tw6924350685271257944 : True := trivial
theorem PySem.W.Fast.tw5152321393725458870 : True := trivial
theorem PySem.W.Fast.tw15905708036306843176 : True := trivial
theorem PySem.W.Fast.tw16282234590787763688 : True := trivial
theorem PySem.W.Fast.tw7926942490179567172 : True := trivial
theorem PySem.W.Fast.tw11951128919462595195 : True := trivial
theorem PySem.W.Fast.tw9583669661075274256 : True := trivial
theorem PySem.W.Fast.tw13264958057794429844 : True := trivial
theorem PySem.W.Fast.tw3742078307592095499 : True := trivial
theorem PySem.W.Fast.tw5703707823079615916 : True := trivial
theorem PySem.W.Fast.tw17549045604794813516 : True := trivial
theorem PySem.W.Fast.tw17453381753426062286 : True := trivial
theorem PySem.W.Fast.tw7599290327544737672 : True := trivial
theorem PySem.W.Fast.tw7989531193657499415 : True := trivial
theorem PySem.W.Fast.tw13163844255372268853 : True := trivial
theorem PySem.W.Fast.tw6339015872119901504 : True := trivial
theorem PySem.W.Fast.tw16981494804476204092 : True := trivial
theorem PySem.W.Fast.tw17356424558110907893 : True := trivial
theorem PySem.W.Fast.tw8777837366932467159 : True := trivial
theorem PySem.W.Fast.tw14197823067065207487 : True := trivial
theorem PySem.W.Fast.tw1331228380367066235 : True := trivial
theorem PySem.W.Fast.tw2416462691075968293 : True := trivial
theorem PySem.W.Fast.tw15901177081090551235 : True := trivial
theorem PySem.W.Fast.tw9285674664981436521 : True := trivial
theorem PySem.W.Fast.tw17589329486187756024 : True := trivial
theorem PySem.W.Fast.tw12679274823242735268 : True := trivial
theorem PySem.W.Fast.tw3885396057284325869 : True := trivial
theorem PySem.W.Fast.tw9008728060719303546 : True := trivial
theorem PySem.W.Fast.tw17906406440640811737 : True := trivial
theorem PySem.W.Fast.tw15710915490488889718 : True := trivial
theorem PySem.W.Fast.tw16981924534433735081 : True := trivial
theorem PySem.W.Fast.tw11389615186965579286 : True := trivial
theorem PySem.W.Fast.tw10222644473986220494 : True := trivial
theorem PySem.W.Fast.tw10920594749861408801 : True := trivial
theorem PySem.W.Fast.tw8766409497772083584 : True := trivial
theorem PySem.W.Fast.tw5375581779080677038 : True := trivial
theorem PySem.W.Fast.tw14886972439886905757 : True := trivial
theorem PySem.W.Fast.tw384353957634774316 : True := trivial
theorem PySem.W.Fast.tw3757031413317617996 : True := trivial
theorem PySem.W.Fast.tw624125473914306244 : True := trivial
theorem PySem.W.Fast.tw12122030052046848370 : True := trivial
theorem PySem.W.Fast.tw13686325778400114949 : True := trivial
theorem PySem.W.Fast.tw13357955174426897910 : True := trivial
theorem PySem.W.Fast.tw1856775119756449932 : True := trivial
theorem PySem.W.Fast.tw6854278915748276641 : True := trivial
theorem PySem.W.Fast.tw8589940502127526194 : True := trivial
theorem PySem.W.Fast.tw8856575553849598821 : True := trivial
theorem PySem.W.Fast.tw13024637618830175871 : True := trivial
theorem PySem.W.Fast.tw14664964014239249043 : True := trivial
theorem PySem.W.Fast.tw16884148012958951234 : True := trivial
open PySem PySem.W PyProof.Rows
set_option maxRecDepth 100000 in
set_option maxHeartbeats 0 in
theorem PySem.Challenge.cw_landsentered_k17_what_is_a_telling_holds : PySem.Challenge.rw_landsentered_k17_what_is_a_telling.Holds := by
  w_on; o_law; k_head; (case hw => w_witness2)
  k_fill
  refine My.walk (l := PySem.Challenge.rw_landsentered_k17_what_is_a_telling) rfl rfl (fun w h Y => PySem.W.kIn_of Y) ?F
  case F =>
    intro w mg fa h KX G hmg
    refine' My.all_mk KX G hmg ?a0 ?l0 ?c0 ?k0 ?a1 ?l1 ?c1 ?k1 ?a2 ?l2 ?c2 ?k2 ?a3 ?l3 ?c3 ?k3 ?a4 ?l4 ?c4 ?k4 ?a5 ?l5 ?c5 ?k5 ?a6 ?l6 ?c6 ?k6 ?a7 ?l7 ?c7 ?k7 ?a8 ?l8 ?c8 ?k8 ?a9 ?l9 ?c9 ?k9 ?a10 ?l10 ?c10 ?k10 ?a11 ?l11 ?c11 ?k11 ?a12 ?l12 ?c12 ?k12 ?a13 ?l13 ?c13 ?k13 ?a14 ?l14 ?c14 ?k14 ?a15 ?l15 ?c15 ?k15 ?a16 ?l16 ?c16 ?k16 ?a17 ?l17 ?c17 ?k17 ?a18 ?l18 ?c18 ?k18 ?a19 ?l19 ?c19 ?k19 ?a20 ?l20 ?c20 ?k20 ?a21 ?l21 ?c21 ?k21 ?a22 ?l22 ?c22 ?k22 ?a23 ?l23 ?c23 ?k23 ?a24 ?l24 ?c24 ?k24 ?a25 ?l25 ?c25 ?k25 ?a26 ?l26 ?c26 ?k26 ?a27 ?l27 ?c27 ?k27 ?a28 ?l28 ?c28 ?k28 ?z0 ?z1 ?z2 ?z3 ?z4 ?z5 ?z6 ?z7 ?z8 ?z9 ?z10 ?z11 ?z12 ?u0 ?u1 ?u2 ?u3
    (case a0 => k_is)
    (case l0 => k_is)
    (case c0 => k_is)
    (case k0 => k_is)
    (case a1 => k_is)
    (case l1 => k_is)
    (case c1 => k_is)
    (case k1 => k_is)
    (case a2 => k_is)
    (case l2 => k_is)
    (case c2 => k_is)
    (case k2 => k_is)
    (case a3 => k_is)
    (case l3 => k_is)
    (case c3 => k_is)
    (case k3 => k_is)
    (case a4 => k_is)
    (case l4 => k_is)
    (case c4 => k_is)
    (case k4 => k_is)
    (case a5 => k_is)
    (case l5 => k_is)
    (case c5 => k_is)
    (case k5 => k_is)
    (case a6 => k_is)
    (case l6 => k_is)
    (case c6 => k_is)
    (case k6 => k_is)
    (case a7 => k_is)
    (case l7 => k_is)
    (case c7 => k_is)
    (case k7 => k_is)
    (case a8 => k_is)
    (case l8 => k_is)
    (case c8 => k_is)
    (case k8 => k_is)
    (case a9 => k_is)
    (case l9 => k_is)
    (case c9 => k_is)
    (case k9 => k_is)
    (case a10 => k_is)
    (case l10 => k_is)
    (case c10 => k_is)
    (case k10 => k_is)
    (case a11 => k_is)
    (case l11 => k_is)
    (case c11 => k_is)
    (case k11 => k_is)
    (case a12 => k_is)
    (case l12 => k_is)
    (case c12 => k_is)
    (case k12 => k_is)
    (case a13 => k_is)
    (case l13 => k_is)
    (case c13 => k_is)
    (case k13 => k_is)
    (case a14 => k_is)
    (case l14 => k_is)
    (case c14 => k_is)
    (case k14 => k_is)
    (case a15 => k_is)
    (case l15 => k_is)
    (case c15 => k_is)
    (case k15 => k_is)
    (case a16 => k_is)
    (case l16 => k_is)
    (case c16 => k_is)
    (case k16 => k_is)
    (case a17 => k_is)
    (case l17 => k_is)
    (case c17 => k_is)
    (case k17 => k_is)
    (case a18 => k_is)
    (case l18 => k_is)
    (case c18 => k_is)
    (case k18 => k_is)
    (case a19 => k_is)
    (case l19 => k_is)
    (case c19 => k_is)
    (case k19 => k_is)
    (case a20 => k_is)
    (case l20 => k_is)
    (case c20 => k_is)
    (case k20 => k_is)
    (case a21 => k_is)
    (case l21 => k_is)
    (case c21 => k_is)
    (case k21 => k_is)
    (case a22 => k_is)
    (case l22 => k_is)
    (case c22 => k_is)
    (case k22 => k_is)
    (case a23 => k_is)
    (case l23 => k_is)
    (case c23 => k_is)
    (case k23 => k_is)
    (case a24 => k_is)
    (case l24 => k_is)
    (case c24 => k_is)
    (case k24 => k_is)
    (case a25 => k_is)
    (case l25 => k_is)
    (case c25 => k_is)
    (case k25 => k_is)
    (case a26 => k_is)
    (case l26 => k_is)
    (case c26 => k_is)
    (case k26 => k_is)
    (case a27 => k_is)
    (case l27 => k_is)
    (case c27 => k_is)
    (case k27 => k_is)
    (case a28 => k_is)
    (case l28 => k_is)
    (case c28 => k_is)
    (case k28 => k_is)
    (case z0 => k_is)
    (case z1 => k_is)
    (case z2 => k_is)
    (case z3 => k_is)
    (case z4 => k_is)
    (case z5 => k_is)
    (case z6 => k_is)
    (case z7 => k_is)
    (case z8 => k_is)
    (case z9 => k_is)
    (case z10 => k_is)
    (case z11 => k_is)
    (case z12 => k_is)
    (case u0 => k_is)
    (case u1 => k_is)
    (case u2 => k_is)
    (case u3 => k_is)

