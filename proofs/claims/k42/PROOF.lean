import PyProof.Rows.All
import Wide.All
import OpenK.AllK
import Wide.FinOn
import Lean
import PyProof.EqAt
import PyProof.EqKinds
import PyProof.TupleCall
import PyProof.ReprRoads
import PyProof.EqLayable
import PyProof.NeData
import PyProof.Rows.TupDisplay
import PySem.Challenge.RW_landsentered_k42_put_off_and_called
set_option Elab.async false
set_option linter.all false
set_option maxRecDepth 100000
set_option compiler.extract_closed false
set_option bootstrap.genMatcherCode false
theorem zz0 (h : True := by first | exact .inl rfl | exact .inr rfl | assumption) : True := h
theorem zz1 (h : True := by decide) : True := h
theorem zz2 (h : True := by intro _; rfl) : True := h
theorem zz3 (h : True := by rfl) : True := h
theorem zz4 (h : True := by with_unfolding_all rfl) : True := h
theorem zz5 (h : True := by first | exact Or.inl rfl | exact Or.inr (Or.inl rfl) | exact Or.inr (Or.inr rfl)) : True := h
theorem zz6 (h : True := by first | exact Ph _ | rfl) : True := h
theorem zz7 (h : True := by intro _ _; rfl) : True := h
theorem zz8 (h : True := by first | exact Or.inl rfl | exact Or.inr rfl) : True := h
local macro_rules | `(tactic| walk_at "k") => `(tactic| decide +kernel)
local macro_rules | `(tactic| walk_at "w") => `(tactic| (first | decide | omega))
abbrev Fk := PySem.W.Frag
namespace L2
open PySem PySem.Spec PyProof.Rows
abbrev Key := Sum Int Str
noncomputable def BB : Key -> Value -> Bool
 | .inl k, v => Value.isInt k v
 | .inr x, v => Value.isStrOf x v
noncomputable def ZiN (w : World) : Key -> Int
 | .inl k => hashInt k
 | .inr x => hashStr w x
theorem Z1 : ∀ {k : Key} {v : Value}, BB k v = true -> (∃ i t, k = Sum.inl i /\ v = Value.int i t) \/ (∃ x t, k = Sum.inr x /\ v = Value.str x t)
 | .inl i, v, h => by
  obtain ⟨t, e⟩ := Value.isInt_shape (k := i) (v := v) h;exact .inl ⟨i, t, rfl, e⟩
 | .inr x, v, h => by
  obtain ⟨t, e⟩ := Value.isStrOf_shape (x := x) (v := v) h;exact .inr ⟨x, t, rfl, e⟩
theorem Ly (i : Int) (t : Tok) : BB (.inl i) (.int i t) = true := by simp [BB, Value.isInt]
theorem LZ (x : Str) (t : Tok) : BB (.inr x) (.str x t) = true := by simp [BB, Value.isStrOf]
theorem ZdC (a b : Int) : decide ((Sum.inl a : Key) = Sum.inl b) = (a == b) := by
 by_cases e : a = b
 ·subst e; simp
 ·have h : ¬ (Sum.inl a : Key) = Sum.inl b := fun q => e (Sum.inl.inj q);rw [decide_eq_false h];exact (beq_eq_false_iff_ne.mpr e).symm
theorem Zbv (a b : Str) : decide ((Sum.inr a : Key) = Sum.inr b) = decide (a = b) := by
 by_cases e : a = b
 ·subst e; simp
 ·have h : ¬ (Sum.inr a : Key) = Sum.inr b := fun q => e (Sum.inr.inj q);rw [decide_eq_false h, decide_eq_false e]
theorem Zct (a : Int) (b : Str) : decide ((Sum.inl a : Key) = Sum.inr b) = false := decide_eq_false (fun q => nomatch q)
theorem Zcp (a : Str) (b : Int) : decide ((Sum.inr a : Key) = Sum.inl b) = false := decide_eq_false (fun q => nomatch q)
noncomputable def ZK (prog : Program) (w : World) : PySem.KeyKind prog w Key where
 is := BB
 hash := ZiN w
 inj := fun v a b ha hb => by
  rcases Z1 ha with ⟨i, t, rfl, rfl⟩ | ⟨x, t, rfl, rfl⟩
  ·rcases Z1 hb with ⟨j, u, rfl, e⟩ | ⟨y, u, rfl, e⟩
   ·injection e with e1 _; rw [e1]
   ·exact nomatch e
  ·rcases Z1 hb with ⟨j, u, rfl, e⟩ | ⟨y, u, rfl, e⟩
   ·exact nomatch e
   ·injection e with e1 _; rw [e1]
 byValue := fun k v h => by
  rcases Z1 h with ⟨i, t, rfl, rfl⟩ | ⟨x, t, rfl, rfl⟩ <;> rfl
 pyHash := fun hv h => by
  rcases Z1 hv with ⟨i, t, rfl, rfl⟩ | ⟨x, t, rfl, rfl⟩
  ·exact wpAny_pyHash_int h
  ·exact wpAny_pyHash_str h
 eqBool := fun hu hv h => by
  rcases Z1 hu with ⟨i, t, rfl, rfl⟩ | ⟨x, t, rfl, rfl⟩
  ·rcases Z1 hv with ⟨j, u, rfl, rfl⟩ | ⟨y, u, rfl, rfl⟩
   ·rw [ZdC] at h; exact wpAny_eqBool_int h
   ·rw [Zct] at h; exact SeqAt.EqAt.int_str i t y u _ _ _ _ h
  ·rcases Z1 hv with ⟨j, u, rfl, rfl⟩ | ⟨y, u, rfl, rfl⟩
   ·rw [Zcp] at h; exact SeqAt.EqAt.str_int x t j u _ _ _ _ h
   ·rw [Zbv] at h; exact wpAny_eqBool_str h
 «strs» := fun k x t v h => by
  rcases Z1 h with ⟨i, u, rfl, e⟩ | ⟨y, u, rfl, e⟩
  ·exact nomatch e
  ·injection e with e1 _
   subst e1;cases v <;> rfl
theorem BW (prog : Program) (w : World) (i : Int) (t : Tok) : (ZK prog w).is (.inl i) (.int i t) = true := Ly i t
theorem Bk (prog : Program) (w : World) (x : Str) (t : Tok) : (ZK prog w).is (.inr x) (.str x t) = true := LZ x t
end L2
namespace L2
open PySem PySem.Spec PyProof.Rows
inductive V where
 | non | bl (b : Bool) | int (i : Int) | str (x : Str) | byt (b : Array UInt8) | flt (b : UInt64) | ref (a : Addr) | ty (n : String)
 deriving DecidableEq
def RelV : V -> Value -> Prop
 | .non, u => u = Value.none
 | .bl b, u => u = Value.bool b
 | .int i, u => ∃ t, u = Value.int i t
 | .str x, u => ∃ t, u = Value.str x t
 | .byt b, u => ∃ t, u = Value.bytes b t
 | .flt b, u => ∃ t, u = Value.float b t
 | .ref a, u => u = Value.ref a
 | .ty n, u => u = Value.type n
abbrev Vals : List V -> List Value -> Prop := Paired RelV
theorem Vals.length {xs : List V} {us : List Value} (r : Vals xs us) : xs.length = us.length := Paired.length r
theorem Vals.get : ∀ {xs : List V} {us : List Value} {i : Nat} {x : V}, Vals xs us -> xs[i]? = some x -> ∃ u, us[i]? = some u /\ RelV x u
 | _, _, _, _, .nil, e => by simp at e
 | _, _, 0, _, .cons r _, e => by simp at e; subst e; exact ⟨_, rfl, r⟩
 | _, _, i + 1, x, .cons _ t, e => by
  obtain ⟨u, h1, h2⟩ := Vals.get (i := i) (x := x) t (by simpa using e);exact ⟨u, by simpa using h1, h2⟩
theorem Vals.set {x : V} {u : Value} (r : RelV x u) : ∀ {xs : List V} {us : List Value} (i : Nat), Vals xs us -> Vals (xs.set i x) (us.set i u)
 | _, _, _, .nil => .nil
 | _, _, 0, .cons _ t => .cons r t
 | _, _, i + 1, .cons q t => .cons q (Vals.set r i t)
theorem Vals.append : ∀ {xs ys : List V} {us ws : List Value}, Vals xs us -> Vals ys ws -> Vals (xs ++ ys) (us ++ ws)
 | _, _, _, _, .nil, s => s
 | _, _, _, _, .cons r t, s => .cons r (Vals.append t s)
theorem Vals.take : ∀ {xs : List V} {us : List Value} (n : Nat), Vals xs us -> Vals (xs.take n) (us.take n)
 | _, _, 0, _ => .nil
 | _, _, _ + 1, .nil => .nil
 | _, _, n + 1, .cons r t => .cons r (Vals.take n t)
theorem Vals.drop : ∀ {xs : List V} {us : List Value} (n : Nat), Vals xs us -> Vals (xs.drop n) (us.drop n)
 | _, _, 0, r => r
 | _, _, _ + 1, .nil => .nil
 | _, _, n + 1, .cons _ t => Vals.drop n t
theorem Vals.none_of : ∀ {xs : List V} {us : List Value} {i : Nat}, Vals xs us -> xs[i]? = none -> us[i]? = none := fun {xs us i} r e => by
 have h1 := r.length;have h2 : xs.length <= i := List.getElem?_eq_none_iff.mp e;exact List.getElem?_eq_none_iff.mpr (by omega)
def EK : Option V -> Option Value -> Prop
 | some v, some u => RelV v u
 | none, none => True
 | _, _ => False
def KV {κ : Type} : List (κ × V) -> List (κ × Value) -> Prop := Paired fun (p : κ × V) (q : κ × Value) => p.1 = q.1 /\ RelV p.2 q.2
noncomputable def kV : Key -> V
 | .inl i => .int i
 | .inr x => .str x
inductive HO where
  | lst (xs : List V)
  | tup (xs : List V)
  | dK (kvs : List (Key × V)) | dT (kvs : List (List Key × V))
  | set (S : Int -> Bool) (n : Nat)
  | ins (C dx : Addr) (fs : List (Str × V))
  | own (x : Addr)
  | xd (fs : List (Str × V))
  | met (f x : Addr)
  | rng (lo hi : Int)
  | frz (o : Obj) (u : HO)
  | tbl (ps : Array Value)
  | ext (φ : Heap -> Prop)
abbrev Hp := Addr -> Option HO
noncomputable def upd (H : Hp) (a : Addr) (o : HO) : Hp := fun b => if b = a then some o else H b
theorem Jp {H : Hp} {a : Addr} {o : HO} : upd H a o a = some o := by unfold upd; rw [if_pos rfl]
theorem ZV {H : Hp} {a b : Addr} {o : HO} (h : b ≠ a) : upd H a o b = H b := by unfold upd; rw [if_neg h]
theorem RS {H : Hp} {a : Addr} {o u : HO} : upd (upd H a o) a u = upd H a u := by
 funext b; unfold upd; split <;> rfl
theorem Zgg {H : Hp} {a b : Addr} {o u : HO} (h : H a = some o) (h' : H b = some u) (d : o ≠ u) : a ≠ b := by
 intro e; subst e; rw [h] at h'; exact d (Option.some.inj h')
theorem ZE {H : Hp} {a b : Addr} {o : HO} (h : H a = some o) (h' : H b = none) : a ≠ b := by
 intro e; subst e; rw [h] at h'; cases h'
section
variable (P : Program) (w : World)
def QO (H : Hp) (h : Heap) (a : Addr) : HO -> Prop
 | .lst xs => xs.length <= sizeLine /\ ∃ (its : List Value) (n : Nat), Vals xs its /\ h.get? a = some { cls := .type "list", data := .seq its.toArray n }
 | .tup xs => xs.length <= sizeLine /\ ∃ its : List Value, Vals xs its /\ IsTup h a its.toArray
 | .dK kvs => kvs.length <= sizeLine /\ (a == sysModules) = false /\ ∃ vs, KV kvs vs /\ h.DictOf (ZK P w) a vs
 | .dT kvs => kvs.length <= sizeLine /\ (a == sysModules) = false /\ ∃ xs : List (List Key × Addr × Value),
   Paired (fun (p : List Key × V) (q : List Key × Addr × Value) => p.1 = q.1 /\ H q.2.1 = some (.tup (p.1.map kV)) /\ RelV p.2 q.2.2) kvs xs /\
   ∃ o es ep, h.get? a = some o /\ o.ExactDict /\ o.data = .dict es ep /\ es.toList = xs.map (entryOfKey (tupleKind (ZK P w))) /\ (xs.map (·.1)).Nodup
 | .set S n => h.SetOf (intKind P w) a S n
 | .ins C dx fs => H dx = some (.own a) /\ fs.length <= 1000 /\ dx ≠ a /\ h.get? a = some (PySem.W.instObj C dx) /\
   ∃ mA, h.Ns1 dx mA /\ (∀ f, EK (fs.lookup f) (mA f)) /\ PySem.Within mA (fs.map (·.1))
 | .own _ => ∃ o, h.get? a = some o
 | .xd fs => ∃ mA, h.Ns1 a mA /\ ∀ f, EK (fs.lookup f) (mA f)
 | .rng lo hi => ∃ t u v, h.get? a = some { cls := .type "range", data := .fields #[.int lo t, .int hi u, .int 1 v] }
 | .frz o u => h.get? a = some o /\ QO H h a u
 | .tbl ps => h.get? a = some { cls := .none, data := .fields ps }
 | .met f x => h.get? a = some (PySem.W.methodObj (.ref f) (.ref x))
 | .ext φ => φ h /\ (∃ o, h.get? a = some o) /\ ∀ h1 h2 : Heap, φ h1 -> (∀ o, h1.get? a = some o -> h2.get? a = some o) -> φ h2
def HOk (H : Hp) (h : Heap) : Prop := ∀ a o, H a = some o -> QO P w H h a o
end
section
variable {P : Program} {w : World} {H H' : Hp} {h h' : Heap} {a : Addr} {o : HO}
theorem QO.lt (x : QO P w H h a o) : a < h.objs.size := by
 cases o with
 | lst xs => obtain ⟨_, _, _, _, e⟩ := x; exact Heap.lt_size e
 | tup xs => obtain ⟨_, _, _, p⟩ := x; exact p.lt
 | dK kvs => obtain ⟨_, _, _, _, o, _, _, e, _⟩ := x; exact Heap.lt_size e
 | dT kvs => obtain ⟨_, _, _, _, o, _, _, e, _⟩ := x; exact Heap.lt_size e
 | set S n => obtain ⟨o, _, _, _, e, _⟩ := x; exact Heap.lt_size e
 | ins C dx fs => obtain ⟨_, _, _, e, _⟩ := x; exact Heap.lt_size e
 | own y => obtain ⟨_, e⟩ := x; exact Heap.lt_size e
 | xd fs => obtain ⟨_, ⟨_, _, _, e, _⟩, _⟩ := x; exact Heap.lt_size e
 | rng lo hi => obtain ⟨_, _, _, e⟩ := x; exact Heap.lt_size e
 | frz ob u => obtain ⟨e, _⟩ := x; exact Heap.lt_size e
 | tbl ps => exact Heap.lt_size (show h.get? a = some _ from x)
 | met f y => exact Heap.lt_size (show h.get? a = some _ from x)
 | ext φ => obtain ⟨_, ⟨_, e⟩, _⟩ := x; exact Heap.lt_size e
theorem Paired.ZaE {α β : Type} {F G : α -> β -> Prop} : ∀ {l₁ : List α} {l₂ : List β}, Paired F l₁ l₂ -> (∀ a b, F a b -> G a b) -> Paired G l₁ l₂
 | _, _, .nil, _ => .nil
 | _, _, .cons r t, f => .cons (f _ _ r) (Paired.ZaE t f)
theorem QO.S9 (x : QO P w H h a o) (k : ∀ b u, (b = a \/ H b = some (.own a)) -> h.get? b = some u -> h'.get? b = some u)
  (ho : ∀ b, H b = some (.own a) -> H' b = some (.own a)) (ht : ∀ b xs, H b = some (.tup xs) -> H' b = some (.tup xs)) : QO P w H' h' a o := by
 induction o with
 | lst xs => obtain ⟨z, its, n, r, e⟩ := x; exact ⟨z, its, n, r, k _ _ (.inl rfl) e⟩
 | tup xs => obtain ⟨z, its, r, ob, e, c⟩ := x; exact ⟨z, its, r, ob, k _ _ (.inl rfl) e, c⟩
 | dK kvs => obtain ⟨z, y, vs, r, ob, es, ep, e, c⟩ := x; exact ⟨z, y, vs, r, ob, es, ep, k _ _ (.inl rfl) e, c⟩
 | dT kvs =>
  obtain ⟨z, y, xs, r, ob, es, ep, e, c⟩ := x;exact ⟨z, y, xs, Paired.ZaE r fun p q z => ⟨z.1, ht _ _ z.2.1, z.2.2⟩, ob, es, ep, k _ _ (.inl rfl) e, c⟩
 | set S n => obtain ⟨ob, es, ep, t, e, c⟩ := x; exact ⟨ob, es, ep, t, k _ _ (.inl rfl) e, c⟩
 | ins C dx fs =>
  obtain ⟨d, z, ne, e, mA, ⟨od, es, ep, e2, c⟩, r⟩ := x;exact ⟨ho _ d, z, ne, k _ _ (.inl rfl) e, mA, ⟨od, es, ep, k _ _ (.inr d) e2, c⟩, r⟩
 | own y => obtain ⟨ob, e⟩ := x; exact ⟨ob, k _ _ (.inl rfl) e⟩
 | xd fs => obtain ⟨mA, ⟨od, es, ep, e, c⟩, r⟩ := x; exact ⟨mA, ⟨od, es, ep, k _ _ (.inl rfl) e, c⟩, r⟩
 | rng lo hi => obtain ⟨t, u, v, e⟩ := x; exact ⟨t, u, v, k _ _ (.inl rfl) e⟩
 | frz ob u ih => obtain ⟨e, q⟩ := x; exact ⟨k _ _ (.inl rfl) e, ih q⟩
 | tbl ps =>
  have e : h.get? a = some { cls := .none, data := .fields ps } := x;show h'.get? a = some { cls := .none, data := .fields ps };exact k a _ (.inl rfl) e
 | met f y =>
  have e : h.get? a = some (PySem.W.methodObj (.ref f) (.ref y)) := x;show h'.get? a = some (PySem.W.methodObj (.ref f) (.ref y));exact k a _ (.inl rfl) e
 | ext φ => obtain ⟨p, ⟨o, e⟩, st⟩ := x; exact ⟨st _ _ p fun o q => k _ _ (.inl rfl) q, ⟨o, k _ _ (.inl rfl) e⟩, st⟩
theorem HOk.lt (x : HOk P w H h) (e : H a = some o) : a < h.objs.size := (x a o e).lt
theorem HOk.fresh (x : HOk P w H h) (e : h.objs.size <= a) : H a = none := by
 cases q : H a with
 | none => rfl
 | some u => exact absurd (Nat.lt_of_lt_of_le (x.lt q) e) (Nat.lt_irrefl _)
theorem HOk.kept (x : HOk P w H h) (k : ∀ b u, h.get? b = some u -> h'.get? b = some u) : HOk P w H h' := fun a o e =>
 (x a o e).S9 (fun b u _ q => k b u q) (fun _ q => q) fun _ _ q => q
theorem HOk.laid (x : HOk P w H h) (k : ∀ b u, h.get? b = some u -> h'.get? b = some u) (hp : h.objs.size <= a) (new : QO P w (upd H a o) h' a o) : HOk P w (upd H a o) h' := fun b u e => by
 have hn := x.fresh hp
 by_cases hb : b = a
 ·subst hb; rw [Jp] at e; cases e; exact new
 ·rw [ZV hb] at e;exact (x b u e).S9 (fun c v _ q => k c v q) (fun c q => by rw [ZV (ZE q hn)]; exact q) fun c xs q => by rw [ZV (ZE q hn)]; exact q
end
def Rd (H : Hp) (a : Addr) (u : HO) : Prop := H a = some u \/ ∃ o, H a = some (.frz o u)
theorem Rd.of {H : Hp} {a : Addr} {u : HO} (h : H a = some u) : Rd H a u := .inl h
theorem Rd.ok {P : Program} {w : World} {H : Hp} {h : Heap} {a : Addr} {u : HO} (r : Rd H a u) (x : HOk P w H h) : QO P w H h a u := by
 rcases r with r | ⟨o, r⟩
 ·exact x a u r
 ·obtain ⟨_, q⟩ := x a _ r;exact q
def Mut : Option HO -> Prop
 | some (.lst _) => True
 | some (.dK _) => True
 | some (.dT _) => True
 | some (.set _ _) => True
 | some (.ins _ _ _) => True
 | some (.ext _) => True
 | _ => False
section
variable {P : Program} {w : World} {H : Hp} {h h' : Heap} {x e : Addr} {o' : HO}
theorem HOk.write (ok : HOk P w H h) (mu : Mut (H x)) (he : e = x \/ H e = some (.own x)) (k : ∀ b u, b ≠ e -> h.get? b = some u -> h'.get? b = some u) (heo : ∃ u, h'.get? e = some u)
  (new : QO P w (upd H x o') h' x o') : HOk P w (upd H x o') h' := fun b u q => by
 have nown : ∀ c y, H c = some (.own y) -> c ≠ x := fun c y r z => by subst z; rw [r] at mu; exact mu
 have ntup : ∀ c xs, H c = some (.tup xs) -> c ≠ x := fun c xs r z => by subst z; rw [r] at mu; exact mu
 by_cases hb : b = x
 ·subst hb; rw [Jp] at q; cases q; exact new
 ·rw [ZV hb] at q
  by_cases hbe : b = e
  ·have q' : H b = some (.own x) := by
    rcases he with z | z
    ·exact absurd (hbe.trans z) hb
    ·rw [hbe]; exact z
   rw [q] at q'; cases q';obtain ⟨v, hv⟩ := heo;exact ⟨v, by rw [hbe]; exact hv⟩
  ·refine (ok b u q).S9 (fun c v hc r => k c v ?_ r) (fun c r => by rw [ZV (nown c b r)]; exact r) fun c xs r => by rw [ZV (ntup c xs r)]; exact r
   rcases hc with rfl | hc
   ·exact hbe
   ·rintro rfl
    rcases he with z | z
    ·exact nown c b hc z
    ·rw [hc] at z; cases z; exact hb rfl
end
structure Un (fs ex : List Addr) (H H' : Hp) (h h' : Heap) : Prop where
 keep : ∀ b o, h.get? b = some o -> H b = none -> b ∉ fs -> b ∉ ex -> h'.get? b = some o
 slot : ∀ b o, h.get? b = some o -> H b = none -> b ∈ fs -> b ∉ ex -> ∃ sl, h'.get? b = some { o with slots := sl }
 free : ∀ b o, h.get? b = some o -> H b = none -> b ∉ ex -> H' b = none
 there : ∀ b o, h.get? b = some o -> b ∉ ex -> ∃ o', h'.get? b = some o'
 tups : ∀ b xs, H b = some (.tup xs) -> H' b = some (.tup xs)
 frzs : ∀ b o u, H b = some (.frz o u) -> H' b = some (.frz o u)
 tbls : ∀ b ps, H b = some (.tbl ps) -> ∃ more, H' b = some (.tbl (ps ++ more))
section
variable {fs fs' ex ex' : List Addr} {H H1 H2 : Hp} {h h1 h2 h' : Heap} {a x e : Addr} {o : HO}
theorem Un.any (u : Un fs ex H H1 h h1) {b : Addr} {ob : Obj} (q : h.get? b = some ob) (n : H b = none) (hx : b ∉ ex) : ∃ sl, h1.get? b = some { ob with slots := sl } := by
 by_cases hb : b ∈ fs
 ·exact u.slot b ob q n hb hx
 ·exact ⟨ob.slots, u.keep b ob q n hb hx⟩
theorem Un.trans (a : Un fs ex H H1 h h1) (b : Un fs ex H1 H2 h1 h2) : Un fs ex H H2 h h2 where
 keep := fun c ob q n hc hx => b.keep c ob (a.keep c ob q n hc hx) (a.free c ob q n hx) hc hx
 slot := fun c ob q n hc hx => by
  obtain ⟨sl, e1⟩ := a.slot c ob q n hc hx;obtain ⟨sl', e2⟩ := b.slot c _ e1 (a.free c ob q n hx) hc hx;exact ⟨sl', e2⟩
 free := fun c ob q n hx => by
  obtain ⟨o', e1⟩ := a.there c ob q hx;exact b.free c o' e1 (a.free c ob q n hx) hx
 there := fun c ob q hx => by
  obtain ⟨o', e1⟩ := a.there c ob q hx;exact b.there c o' e1 hx
 tups := fun c xs q => b.tups c xs (a.tups c xs q)
 frzs := fun c ob xs q => b.frzs c ob xs (a.frzs c ob xs q)
 tbls := fun c ps q => by
  obtain ⟨m1, e1⟩ := a.tbls c ps q;obtain ⟨m2, e2⟩ := b.tbls c _ e1;exact ⟨m1 ++ m2, by rw [e2, Array.append_assoc]⟩
theorem Un.kept (k : ∀ b u, h.get? b = some u -> h'.get? b = some u) : Un fs ex H H h h' :=
 ⟨fun b ob q _ _ _ => k b ob q, fun b ob q _ _ _ => ⟨ob.slots, k b ob q⟩, fun _ _ _ n _ => n, fun b ob q _ => ⟨ob, k b ob q⟩, fun _ _ q => q, fun _ _ _ q => q, fun _ ps q => ⟨#[], by rw [q]; simp⟩⟩
theorem Un.refl : Un fs ex H H h h := Un.kept fun _ _ q => q
theorem Un.laid (k : ∀ b u, h.get? b = some u -> h'.get? b = some u) (hp : h.objs.size <= a) (hn : H a = none) : Un fs ex H (upd H a o) h h' where
 keep := fun b u q _ _ _ => k b u q
 slot := fun b u q _ _ _ => ⟨u.slots, k b u q⟩
 free := fun b u q n _ => by rw [ZV (Nat.ne_of_lt (Nat.lt_of_lt_of_le (Heap.lt_size q) hp))]; exact n
 there := fun b u q _ => ⟨u, k b u q⟩
 tups := fun b xs q => by rw [ZV (ZE q hn)]; exact q
 frzs := fun b u xs q => by rw [ZV (ZE q hn)]; exact q
 tbls := fun b ps q => ⟨#[], by rw [ZV (ZE q hn), q]; simp⟩
theorem Un.write (mu : Mut (H x)) (he : e = x \/ H e = some (.own x)) (k : ∀ b u, b ≠ e -> h.get? b = some u -> h'.get? b = some u) (heo : ∃ u, h'.get? e = some u) : Un fs ex H (upd H x o) h h' := by
 have hx : ∀ b, H b = none -> b ≠ x := fun b n z => by subst z; rw [n] at mu; exact mu
 have hb : ∀ b, H b = none -> b ≠ e := fun b n z => by
  subst z
  rcases he with r | r
  ·exact hx b n r
  ·rw [n] at r; cases r
 have hm : ∀ b u, H b = some u -> ¬ Mut (some u) -> b ≠ x := fun b u q nm z => by subst z; rw [q] at mu; exact nm mu
 refine ⟨fun b u q n _ _ => k b u (hb b n) q, fun b u q n _ _ => ⟨u.slots, k b u (hb b n) q⟩, fun b u q n _ => by rw [ZV (hx b n)]; exact n, fun b u q _ => ?_,
  fun b xs q => by rw [ZV (hm b _ q fun z => z)]; exact q, fun b u xs q => by rw [ZV (hm b _ q fun z => z)]; exact q, fun b ps q => ⟨#[], by rw [ZV (hm b _ q fun z => z), q]; simp⟩⟩
 by_cases hbe : b = e
 ·subst hbe; exact heo
 ·exact ⟨u, k b u hbe q⟩
end
noncomputable def trk (h : Heap) (H : Hp) : List Addr := (List.range h.objs.size).filter fun a => (H a).isSome
noncomputable def Nv (h : Heap) (H : Hp) : Heap := PySem.W.hideAll h (trk h H)
theorem Hb (h : Heap) (H : Hp) : (Nv h H).objs.size = h.objs.size := PySem.W.hideAll_size _ _
theorem Oh {h : Heap} {H : Hp} {b : Addr} {o : Obj} (e : h.get? b = some o) (n : H b = none) : (Nv h H).get? b = some o :=
 PySem.W.hideAll_get _ e fun hm => by
  have q : (H b).isSome = true := (List.mem_filter.mp hm).2;rw [n] at q; simp at q
theorem Zaw {h : Heap} {H : Hp} {b : Addr} {o : Obj} (e : (Nv h H).get? b = some o) : h.get? b = some o /\ H b = none := by
 have e' : h.get? b = some o := PySem.W.of_hideAll (trk h H) e;refine ⟨e', ?_⟩;cases q : H b with
 | none => rfl
 | some x =>
  have hm : b ∈ trk h H := List.mem_filter.mpr ⟨List.mem_range.mpr (Heap.lt_size e'), by simp [q]⟩;have z : (Nv h H).get? b = none := PySem.W.hideAll_none (trk h H) hm;rw [z] at e; cases e
noncomputable def R5 (g h : Heap) (L : Addr) : List (Addr × Obj) := (List.range h.objs.size).filterMap fun a => if a = L \/ (g.get? a).isSome = true then none else (h.get? a).map fun o => (a, o)
noncomputable def rest (g h : Heap) (L d : Addr) : List (Addr × Obj) := (R5 g h L).filter fun p => decide (p.1 ≠ d)
end L2
namespace L2
open PySem PySem.Spec PyProof.Rows
structure Mod (K : Fk) (mg : Str -> Option Value) (base : Heap) : Prop where
 kin : K.In base
 glob : base.Ns mainGlobals mg
 blt : ∃ mb, base.Ns builtinsNs mb /\ ∀ x : Str, x ≠ "__name__" -> mb x = bootBuiltins x
 nolimit : base.NoLimit
structure Cx where
 prog : Program
 w : World
 K : Fk
 mg : Str -> Option Value
 base : Heap
 A : Around
 N : List Str
 s₀ : Shared
 H₀ : Hp
 env : Env
 outer : List Env
 stack : List Env
 ex : List Addr
 fn : Str -> Bool
 calm : Bool
 pn : List (Addr × Obj)
 xe : Value -> Shared -> Prop
noncomputable def frs (l : List Env) : List Addr := l.filterMap (·.frame)
noncomputable abbrev Cx.fs (X : Cx) : List Addr := frs X.outer
def Vis (sc : Scope) (x : Str) : Prop := sc.names.lookup x = some .local \/ sc.names.lookup x = some .cell \/ sc.names.lookup x = some .free
def Loc (sc : Scope) (x : Str) : Prop := sc.names.lookup x = some .local \/ sc.names.lookup x = some .cell
def Look (env : Env) (h : Heap) (m : Str -> Option Value) (x : Str) (u : Value) : Prop :=
 (env.kindOf x = some .local /\ m x = some u) \/ ((env.kindOf x = some .cell \/ env.kindOf x = some .free) /\ ∃ c, env.cells.lookup x = some c /\ h.IsCell c (some u))
structure Cx.Ok (X : Cx) : Prop where
 mod : Mod X.K X.mg X.base
 kind : X.env.scope.kind = .function
 glob : X.env.globals = mainGlobals
 blt : X.env.builtins = builtinsNs
 above : X.s₀.heap.objs.size <= X.env.locals
 inj : ∀ x y c, X.env.cells.lookup x = some c -> X.env.cells.lookup y = some c -> x = y
 has : ∀ x, (X.env.kindOf x = some .cell \/ X.env.kindOf x = some .free) -> ∃ c, X.env.cells.lookup x = some c
 cab : ∀ x c, X.fn x = true -> X.env.cells.lookup x = some c -> X.s₀.heap.objs.size <= c
 hd : X.calm = true -> X.A.handled = none
 frames : X.A.frames = some X.stack
 stk : X.stack = X.outer \/ (X.stack = X.env :: X.outer /\ X.env.frame = some X.env.locals)
 exf : ∀ b ∈ X.ex, b ≠ X.env.locals /\ ∀ x c, X.env.cells.lookup x = some c -> c ≠ b
 bs : ∀ b o, X.base.get? b = some o -> X.s₀.heap.get? b = some o /\ X.H₀ b = none
 bsz : X.base.objs.size <= X.s₀.heap.objs.size
 noex : ∀ b o, X.base.get? b = some o -> b ∉ X.ex
 exfs : ∀ b ∈ X.ex, b ∉ X.fs
 HA : X.s₀.heap.FunFrames X.base X.outer
 frf : ∀ b ∈ X.fs, X.H₀ b = none
structure Inv (X : Cx) (pins : List (Addr × Obj)) (O : List (Option V)) (H : Hp) (s : Shared) : Prop where
 ok : X.Ok
 os : s.os = X.s₀.os
 bare : AllBare s.gens
 base : Un X.fs X.ex X.H₀ H X.s₀.heap s.heap
 loc : ∃ m, s.heap.Ns X.env.locals m /\ ∀ (i : Nat) (x : Str) (v : V), X.N[i]? = some x -> O[i]? = some (some v) -> Vis X.env.scope x -> ∃ u, RelV v u /\ Look X.env s.heap m x u
 cell : ∀ x c, X.env.cells.lookup x = some c -> ∃ v, s.heap.IsCell c v
 free : H X.env.locals = none
 freeC : ∀ x c, X.env.cells.lookup x = some c -> H c = none
 pin : ∀ p ∈ X.pn ++ pins, s.heap.get? p.1 = some p.2 /\ H p.1 = none /\ p.1 ≠ X.env.locals /\ p.1 ∉ X.fs /\ ∀ v, p.2.data ≠ .cell v
 hok : HOk X.prog X.w H s.heap
 len : O.length = X.N.length
section
variable {X : Cx} {pins : List (Addr × Obj)} {O : List (Option V)} {H H' : Hp} {s : Shared} {h' : Heap}
theorem Cx.Ok.ZiC (ok : X.Ok) {b : Addr} {o : Obj} (e : X.base.get? b = some o) : b ∉ X.fs := fun hb => by
 have := (ok.HA.mem hb).1;rw [e] at this; cases this
theorem Inv.bs (I : Inv X pins O H s) : ∀ b o, X.base.get? b = some o -> s.heap.get? b = some o /\ H b = none := fun b o e =>
 ⟨I.base.keep b o (I.ok.bs b o e).1 (I.ok.bs b o e).2 (I.ok.ZiC e) (I.ok.noex b o e), I.base.free b o (I.ok.bs b o e).1 (I.ok.bs b o e).2 (I.ok.noex b o e)⟩
theorem Inv.bk (I : Inv X pins O H s) : ∀ b o, X.base.get? b = some o -> s.heap.get? b = some o := fun b o e => (I.bs b o e).1
theorem Inv.mod (I : Inv X pins O H s) : Mod X.K X.mg X.base := I.ok.mod
theorem Inv.kIn (I : Inv X pins O H s) : X.K.In s.heap := I.ok.mod.kin.keeps I.bk
theorem Inv.fr (I : Inv X pins O H s) : ∃ m, Fr X.base X.env.locals s.heap m :=
 let ⟨m, hn, _⟩ := I.loc
 ⟨m, hn, I.bk, Nat.le_trans I.ok.bsz I.ok.above⟩
theorem Inv.lt (I : Inv X pins O H s) : X.env.locals < s.heap.objs.size := let ⟨_, hn, _⟩ := I.loc; hn.lt
theorem Inv.sz (I : Inv X pins O H s) : X.s₀.heap.objs.size <= s.heap.objs.size := Nat.le_trans I.ok.above (Nat.le_of_lt I.lt)
theorem Inv.Zji (I : Inv X pins O H s) {a : Addr} (h : s.heap.objs.size <= a) : a ∉ X.fs := fun hb => by
 obtain ⟨_, o, ho, _⟩ := I.ok.HA.mem hb;exact absurd (Nat.lt_of_lt_of_le (Heap.lt_size ho) (Nat.le_trans I.sz h)) (Nat.lt_irrefl _)
theorem Inv.cne (I : Inv X pins O H s) : ∀ x c, X.env.cells.lookup x = some c -> c ≠ X.env.locals := fun x c e z => by
 obtain ⟨v, o, ho, hd⟩ := I.cell x c e;obtain ⟨m, ⟨o', es, ep, ho', hd', _⟩, _⟩ := I.loc;rw [z, ho'] at ho; cases ho; rw [hd'] at hd; cases hd
theorem Inv.HA (I : Inv X pins O H s) : s.heap.FunFrames X.base X.outer := by
 have all : ∀ (l : List Env), (∀ b ∈ frs l, b ∈ X.fs) -> X.s₀.heap.FunFrames X.base l -> s.heap.FunFrames X.base l := by
  intro l
  induction l with
  | nil => intro _ _; trivial
  | cons env r ih =>
   intro hs hl;obtain ⟨hk, ⟨L, o, hf, hn, ho, hd⟩, hr⟩ := hl;have hL : L ∈ X.fs := hs L (by unfold frs; rw [List.filterMap_cons, hf]; exact List.mem_cons_self);obtain ⟨sl, e⟩ := I.base.slot L o ho (I.ok.frf L hL) hL fun z => I.ok.exfs L z hL;exact ⟨hk, ⟨L, _, hf, hn, e, hd⟩, ih (fun b hb => hs b (by unfold frs; rw [List.filterMap_cons, hf]; exact List.mem_cons_of_mem _ hb)) hr⟩
 exact all X.outer (fun _ hb => hb) I.ok.HA
theorem Inv.stack (I : Inv X pins O H s) : s.heap.FunFrames X.base X.stack := by
 rcases I.ok.stk with e | ⟨e, hf⟩
 ·rw [e]; exact I.HA
 ·rw [e];obtain ⟨m, hn, _⟩ := I.loc;refine .cons (by rw [I.ok.kind]; decide) hf hn ?_ I.HA;exact Heap.get?_none_of_le (Nat.le_trans I.ok.bsz I.ok.above)
theorem Inv.LR (I : Inv X pins O H s) : ∀ b ∈ frs X.stack, b ∈ X.env.locals :: X.fs := fun b hb => by
 rcases I.ok.stk with e | ⟨e, hf⟩
 ·rw [e] at hb; exact List.mem_cons_of_mem _ hb
 ·rw [e] at hb;unfold frs at hb;rw [List.filterMap_cons, hf] at hb;exact hb
theorem Inv.Lv (I : Inv X pins O H s) : ∀ b ∈ frs X.stack, H b = none := fun b hb => by
 rcases List.mem_cons.mp (I.LR b hb) with e | hb
 ·rw [e]; exact I.free
 ·obtain ⟨_, o, ho, _⟩ := I.ok.HA.mem hb;exact I.base.free b o ho (I.ok.frf b hb) fun z => I.ok.exfs b z hb
theorem Inv.step {g' : Array GenState} {t' : Nat} {d' : Drawn} {ch : List Addr} (I : Inv X pins O H s)
  (hch : ∀ b ∈ ch, (b ∈ X.ex \/ X.s₀.heap.objs.size <= b) /\ b ≠ X.env.locals /\ (∀ x c, X.env.cells.lookup x = some c -> c ≠ b) /\ ∀ p ∈ X.pn ++ pins, p.1 ≠ b)
  (keep : ∀ b o, b ≠ X.env.locals -> b ∉ X.fs -> b ∉ ch -> s.heap.get? b = some o -> H b = none -> h'.get? b = some o)
  (slot : ∀ b o, b ≠ X.env.locals -> b ∈ X.fs -> b ∉ ch -> s.heap.get? b = some o -> H b = none -> ∃ sl, h'.get? b = some { o with slots := sl }) (free : ∀ b o, b ∉ ch -> s.heap.get? b = some o -> H b = none -> H' b = none)
  (there : ∀ b o, b ∉ ch -> s.heap.get? b = some o -> ∃ o', h'.get? b = some o')
  (tups : ∀ b xs, H b = some (.tup xs) -> H' b = some (.tup xs)) (frzs : ∀ b o u, H b = some (.frz o u) -> H' b = some (.frz o u)) (tbls : ∀ b ps, H b = some (.tbl ps) -> ∃ more, H' b = some (.tbl (ps ++ more)))
  (ns : ∀ m, s.heap.Ns X.env.locals m -> h'.Ns X.env.locals m) (hok : HOk X.prog X.w H' h') (hg : AllBare g') :
  Inv X pins O H' { s with heap := h', gens := g', drawn := d', toks := t' } := by
 have neL : ∀ b o, X.s₀.heap.get? b = some o -> b ≠ X.env.locals := fun b o e => Nat.ne_of_lt (Nat.lt_of_lt_of_le (Heap.lt_size e) I.ok.above);have neC : ∀ b o, X.s₀.heap.get? b = some o -> b ∉ X.ex -> b ∉ ch := fun b o e hx hb => by
  rcases (hch b hb).1 with z | z
  ·exact hx z
  ·exact absurd (Nat.lt_of_lt_of_le (Heap.lt_size e) z) (Nat.lt_irrefl _)
 have cellK : ∀ x c, X.env.cells.lookup x = some c -> ∀ v, s.heap.IsCell c v -> h'.IsCell c v := fun x c e v ⟨o, ho, hd⟩ => by
  have nch : c ∉ ch := fun z => (hch c z).2.2.1 x c e rfl
  by_cases hc : c ∈ X.fs
  ·obtain ⟨sl, q⟩ := slot c o (I.cne x c e) hc nch ho (I.freeC x c e);exact ⟨_, q, hd⟩
  ·exact ⟨o, keep c o (I.cne x c e) hc nch ho (I.freeC x c e), hd⟩
 refine ⟨I.ok, I.os, hg, ⟨fun b o e n hb hx => ?_, fun b o e n hb hx => ?_, fun b o e n hx => ?_, fun b o e hx => ?_, fun b xs e => tups b xs (I.base.tups b xs e), fun b o xs e => frzs b o xs (I.base.frzs b o xs e), fun b ps e => ?_⟩, ?_, fun x c e => ?_, ?_, fun x c e => ?_, fun p hp => ?_, hok, I.len⟩
 ·exact keep b o (neL b o e) hb (neC b o e hx) (I.base.keep b o e n hb hx) (I.base.free b o e n hx)
 ·obtain ⟨sl, e1⟩ := I.base.slot b o e n hb hx;obtain ⟨sl', e2⟩ := slot b _ (neL b o e) hb (neC b o e hx) e1 (I.base.free b o e n hx);exact ⟨sl', e2⟩
 ·obtain ⟨o', e1⟩ := I.base.there b o e hx;exact free b o' (neC b o e hx) e1 (I.base.free b o e n hx)
 ·obtain ⟨o', e1⟩ := I.base.there b o e hx;exact there b o' (neC b o e hx) e1
 ·obtain ⟨m1, e1⟩ := I.base.tbls b ps e;obtain ⟨m2, e2⟩ := tbls b _ e1;exact ⟨m1 ++ m2, by rw [e2, Array.append_assoc]⟩
 ·obtain ⟨m, hn, hl⟩ := I.loc;refine ⟨m, ns m hn, fun i x v e1 e2 e3 => ?_⟩;obtain ⟨u, r, l⟩ := hl i x v e1 e2 e3;refine ⟨u, r, ?_⟩
  rcases l with l | ⟨k, c, e, z⟩
  ·exact .inl l
  ·exact .inr ⟨k, c, e, cellK x c e _ z⟩
 ·obtain ⟨v, z⟩ := I.cell x c e;exact ⟨v, cellK x c e v z⟩
 ·obtain ⟨m, ⟨o, _, _, ho, _⟩, _⟩ := I.loc;exact free _ o (fun z => (hch _ z).2.1 rfl) ho I.free
 ·obtain ⟨v, o, ho, hd⟩ := I.cell x c e;exact free c o (fun z => (hch c z).2.2.1 x c e rfl) ho (I.freeC x c e)
 ·obtain ⟨e, n, ne, nf, d⟩ := I.pin p hp;have nch : p.1 ∉ ch := fun z => (hch p.1 z).2.2.2 p hp rfl;exact ⟨keep p.1 p.2 ne nf nch e n, free p.1 p.2 nch e n, ne, nf, d⟩
theorem Inv.un {t' : Nat} (I : Inv X pins O H s) (u : Un X.fs [] H H' s.heap h') (hok : HOk X.prog X.w H' h') : Inv X pins O H' { s with heap := h', toks := t' } := by
 obtain ⟨m, ⟨o, es, ep, ho, r⟩, _⟩ := id I.loc;obtain ⟨sl, hL⟩ := u.any ho I.free (by simp)
 exact I.step (g' := s.gens) (d' := s.drawn) (ch := []) (fun _ z => nomatch z) (fun b o _ hb _ e n => u.keep b o e n hb (by simp)) (fun b o _ hb _ e n => u.slot b o e n hb (by simp)) (fun b o _ e n => u.free b o e n (by simp)) (fun b o _ e => u.there b o e (by simp)) u.tups u.frzs u.tbls (fun m' hm => by
  obtain ⟨o', es', ep', ho', r'⟩ := hm;rw [ho] at ho'; cases ho'
  exact ⟨_, es', ep', hL, r'⟩) hok I.bare
theorem Inv.call {g' : Array GenState} {t' : Nat} {d' : Drawn} {ch : List Addr} (I : Inv X pins O H s) (u : Un (frs X.stack) ch H H' s.heap h') (hok : HOk X.prog X.w H' h') (hg : AllBare g')
  (hch : ∀ b ∈ ch, (b ∈ X.ex \/ X.s₀.heap.objs.size <= b) /\ b ≠ X.env.locals /\ (∀ x c, X.env.cells.lookup x = some c -> c ≠ b) /\ ∀ p ∈ X.pn ++ pins, p.1 ≠ b) :
  Inv X pins O H' { s with heap := h', gens := g', drawn := d', toks := t' } := by
 obtain ⟨m, ⟨o, es, ep, ho, r⟩, _⟩ := id I.loc;obtain ⟨sl, hL⟩ := u.any ho I.free fun z => (hch _ z).2.1 rfl
 exact I.step (ch := ch) hch (fun b o hL hb hc e n => u.keep b o e n (fun z => (List.mem_cons.mp (I.LR b z)).elim hL hb) hc) (fun b o _ _ hc e n => u.any e n hc) (fun b o hc e n => u.free b o e n hc) (fun b o hc e => u.there b o e hc) u.tups u.frzs u.tbls (fun m' hm => by
  obtain ⟨o', es', ep', ho', r'⟩ := hm;rw [ho] at ho'; cases ho'
  exact ⟨_, es', ep', hL, r'⟩) hok hg
theorem Inv.turned {t' : Nat} {it : Addr} (I : Inv X pins O H s) (k : ∀ b o, b ≠ it -> s.heap.get? b = some o -> h'.get? b = some o) (hn : H it = none) (hL : it ≠ X.env.locals)
  (h1 : it ∈ X.ex \/ X.s₀.heap.objs.size <= it) (h2 : ∀ x c, X.env.cells.lookup x = some c -> c ≠ it) (h3 : ∀ p ∈ X.pn ++ pins, p.1 ≠ it) : Inv X pins O H { s with heap := h', toks := t' } := by
 have nit : ∀ b u, H b = some u -> b ≠ it := fun b u e z => by rw [z, hn] at e; cases e
 refine I.step (g' := s.gens) (d' := s.drawn) (ch := [it]) (fun b hb => ?_) (fun b o _ _ hc e _ => k b o (fun z => hc (by simp [z])) e) (fun b o _ _ hc e _ => ⟨o.slots, k b o (fun z => hc (by simp [z])) e⟩) (fun _ _ _ _ n => n)
  (fun b o hc e => ⟨o, k b o (fun z => hc (by simp [z])) e⟩) (fun _ _ e => e) (fun _ _ _ e => e) (fun b ps e => ⟨#[], by rw [e]; simp⟩) (fun m hm => ?_) (fun b u e => ?_) I.bare
 ·have e : b = it := by simpa using hb
  subst e;exact ⟨h1, hL, h2, h3⟩
 ·obtain ⟨o, es, ep, ho, r⟩ := hm;exact ⟨o, es, ep, k _ o (Ne.symm hL) ho, r⟩
 ·refine (I.hok b u e).S9 (fun c v hc q => k c v ?_ q) (fun _ q => q) fun _ _ q => q
  rcases hc with z | z
  ·rw [z]; exact nit b u e
  ·exact nit c _ z
theorem Inv.tok (I : Inv X pins O H s) (t : Nat) : Inv X pins O H { s with toks := t } := I.un (h' := s.heap) (t' := t) Un.refl I.hok
theorem Inv.kept {t' : Nat} (I : Inv X pins O H s) (k : ∀ b u, s.heap.get? b = some u -> h'.get? b = some u) : Inv X pins O H { s with heap := h', toks := t' } := I.un (Un.kept k) (I.hok.kept k)
theorem Inv.laid {a : Addr} {o : HO} {t' : Nat} (I : Inv X pins O H s) (k : ∀ b u, s.heap.get? b = some u -> h'.get? b = some u) (hp : s.heap.objs.size <= a) (new : QO X.prog X.w (upd H a o) h' a o) :
  Inv X pins O (upd H a o) { s with heap := h', toks := t' } := I.un (Un.laid k hp (I.hok.fresh hp)) (I.hok.laid k hp new)
theorem Inv.write {x e : Addr} {o : HO} {t' : Nat} (I : Inv X pins O H s) (mu : Mut (H x)) (he : e = x \/ H e = some (.own x)) (k : ∀ b u, b ≠ e -> s.heap.get? b = some u -> h'.get? b = some u) (heo : ∃ u, h'.get? e = some u)
  (new : QO X.prog X.w (upd H x o) h' x o) : Inv X pins O (upd H x o) { s with heap := h', toks := t' } := I.un (Un.write mu he k heo) (I.hok.write mu he k heo new)
theorem Inv.KJ {pins' : List (Addr × Obj)} (I : Inv X pins O H s) (h : ∀ p ∈ pins', s.heap.get? p.1 = some p.2 /\ H p.1 = none /\ p.1 ≠ X.env.locals /\ p.1 ∉ X.fs /\ ∀ v, p.2.data ≠ .cell v) : Inv X pins' O H s :=
 ⟨I.ok, I.os, I.bare, I.base, I.loc, I.cell, I.free, I.freeC, fun p hp => (List.mem_append.mp hp).elim (fun z => I.pin p (List.mem_append_left _ z)) (h p), I.hok, I.len⟩
theorem Ct {N : List Str} (hN : N.Nodup) {i j : Nat} {x : Str} (a : N[i]? = some x) (b : N[j]? = some x) : i = j := by
 obtain ⟨h1, e1⟩ := List.getElem?_eq_some_iff.mp a;obtain ⟨h2, e2⟩ := List.getElem?_eq_some_iff.mp b;exact (List.getElem_inj hN).mp (e1.trans e2.symm)
theorem FV {M : Model} {A : Around} {E : Value -> Shared -> Prop} {i : Nat} {x : Str} {v : V} {u : Value} {Q : Unit -> Shared -> Prop} (I : Inv X pins O H s) (hN : X.N.Nodup) (hi : X.N[i]? = some x) (hx : Loc X.env.scope x) (r : RelV v u)
  (h : ∀ s', Inv X pins (O.set i (some v)) H s' -> (∃ a, Heap.SameBut a s.heap s'.heap /\ (a = X.env.locals \/ X.env.cells.lookup x = some a)) -> Q () s') (hf : autoParam (X.fn x = true \/ X.env.scope.names.lookup x = some .local) zz0._auto_1) : wpAny M A (storeName X.env x u) Q E s := by
 obtain ⟨m, hn, hl⟩ := id I.loc;have hcls : (X.env.scope.kind == .class || (X.env.scope.kind == .module && X.env.locals != X.env.globals)) = false := by rw [I.ok.kind]; rfl
 have hiσ : i < O.length := by rw [I.len]; exact (List.getElem?_eq_some_iff.mp hi).1
 have cne := I.cne;have tracked : ∀ {a : Addr} {h' : Heap}, (∃ o, s.heap.get? a = some o /\ H a = none) -> Heap.SameBut a s.heap h' -> HOk X.prog X.w H h' := fun {a h'} ha hs b ob e => by
  obtain ⟨_, _, hfree⟩ := ha;refine (I.hok b ob e).S9 (fun c w' hc q => (hs.2 c ?_).trans q) (fun _ q => q) fun _ _ q => q;rintro rfl
  rcases hc with rfl | hc
  ·rw [hfree] at e; cases e
  ·rw [hfree] at hc; cases hc
 rcases hx with hk | hk
 ·refine wpAny_storeName_local hk hn (fun h' hn' hs => ?_) hcls;obtain ⟨oL, _, _, hoL, _⟩ := id hn;refine h _ ⟨I.ok, I.os, I.bare, ⟨fun b o e n hb hx => ?_, fun b o e n hb hx => ?_, I.base.free, fun b o e hx => ?_, I.base.tups, I.base.frzs, I.base.tbls⟩, ⟨_, hn', fun j y v' e1 e2 e3 => ?_⟩, fun y c e => ?_, I.free, I.freeC, fun p hp => ?_, tracked ⟨oL, hoL, I.free⟩ hs, by simpa using I.len⟩ ⟨_, hs, .inl rfl⟩
  ·exact (hs.2 b (Nat.ne_of_lt (Nat.lt_of_lt_of_le (Heap.lt_size e) I.ok.above))).trans (I.base.keep b o e n hb hx)
  ·obtain ⟨sl, e1⟩ := I.base.slot b o e n hb hx;exact ⟨sl, (hs.2 b (Nat.ne_of_lt (Nat.lt_of_lt_of_le (Heap.lt_size e) I.ok.above))).trans e1⟩
  ·obtain ⟨o', e1⟩ := I.base.there b o e hx;exact ⟨o', (hs.2 b (Nat.ne_of_lt (Nat.lt_of_lt_of_le (Heap.lt_size e) I.ok.above))).trans e1⟩
  ·by_cases hj : j = i
   ·subst hj;rw [hi] at e1; cases e1;rw [List.getElem?_set_self hiσ] at e2;cases e2;exact ⟨u, r, .inl ⟨hk, by simp⟩⟩
   ·rw [List.getElem?_set_ne (Ne.symm hj)] at e2;obtain ⟨u', r', q⟩ := hl j y v' e1 e2 e3;refine ⟨u', r', ?_⟩
    rcases q with ⟨k, e⟩ | ⟨k, c, e, z⟩
    ·refine .inl ⟨k, ?_⟩;have : y ≠ x := fun e => hj (Ct hN e1 (e ▸ hi));simp [this, e]
    ·exact .inr ⟨k, c, e, z.sameBut hs (cne y c e)⟩
  ·obtain ⟨w', z⟩ := I.cell y c e;exact ⟨w', z.sameBut hs (cne y c e)⟩
  ·obtain ⟨e, n, ne, nf, d⟩ := I.pin p hp;exact ⟨(hs.2 p.1 ne).trans e, n, ne, nf, d⟩
 ·have hfn : X.fn x = true := by
   rcases hf with z | z
   ·exact z
   ·rw [z] at hk; cases hk
  obtain ⟨c, hc⟩ := I.ok.has x (.inl hk);obtain ⟨w', z⟩ := I.cell x c hc;refine wpAny_storeName_cell I.ok.kind hk hc z (fun h' hc' hs => ?_);obtain ⟨oc, hoc, hocd⟩ := id z;refine h { s with heap := h' } ⟨I.ok, I.os, I.bare, ⟨fun b o e n hb hx => ?_, fun b o e n hb hx => ?_, I.base.free, fun b o e hx => ?_, I.base.tups, I.base.frzs, I.base.tbls⟩, ⟨m, hn.sameBut hs (Ne.symm (cne x c hc)), fun j y v' e1 e2 e3 => ?_⟩, fun y c' e => ?_, I.free, I.freeC, fun p hp => ?_, tracked ⟨oc, hoc, I.freeC x c hc⟩ hs, by simpa using I.len⟩ ⟨c, hs, .inr hc⟩
  ·exact (hs.2 b (Nat.ne_of_lt (Nat.lt_of_lt_of_le (Heap.lt_size e) (I.ok.cab x c hfn hc)))).trans (I.base.keep b o e n hb hx)
  ·obtain ⟨sl, e1⟩ := I.base.slot b o e n hb hx;exact ⟨sl, (hs.2 b (Nat.ne_of_lt (Nat.lt_of_lt_of_le (Heap.lt_size e) (I.ok.cab x c hfn hc)))).trans e1⟩
  ·obtain ⟨o', e1⟩ := I.base.there b o e hx;exact ⟨o', (hs.2 b (Nat.ne_of_lt (Nat.lt_of_lt_of_le (Heap.lt_size e) (I.ok.cab x c hfn hc)))).trans e1⟩
  ·by_cases hj : j = i
   ·subst hj;rw [hi] at e1; cases e1;rw [List.getElem?_set_self hiσ] at e2;cases e2;exact ⟨u, r, .inr ⟨.inl hk, c, hc, hc'⟩⟩
   ·rw [List.getElem?_set_ne (Ne.symm hj)] at e2;obtain ⟨u', r', q⟩ := hl j y v' e1 e2 e3;refine ⟨u', r', ?_⟩
    rcases q with q | ⟨k, c', e, z'⟩
    ·exact .inl q
    ·refine .inr ⟨k, c', e, z'.sameBut hs ?_⟩;rintro rfl;exact hj (Ct hN e1 (I.ok.inj _ _ _ e hc ▸ hi))
  ·by_cases hcc : c' = c
   ·subst hcc; exact ⟨_, hc'⟩
   ·obtain ⟨w2, z2⟩ := I.cell y c' e;exact ⟨w2, z2.sameBut hs hcc⟩
  ·obtain ⟨e, n, ne, nf, d⟩ := I.pin p hp;refine ⟨(hs.2 p.1 ?_).trans e, n, ne, nf, d⟩;intro q;rw [q, hoc] at e;have q' : oc = p.2 := Option.some.inj e;exact d w' (by rw [<- q']; exact hocd)
theorem Dx {M : Model} {A : Around} {E : Value -> Shared -> Prop} {i : Nat} {x : Str} {v : V} {u : Value} {Q : Unit -> Shared -> Prop} (I : Inv X pins O H s) (hN : X.N.Nodup) (hi : X.N[i]? = some x) (hx : Loc X.env.scope x) (r : RelV v u)
  (h : ∀ s', Inv X pins (O.set i (some v)) H s' -> Q () s') (hf : autoParam (X.fn x = true \/ X.env.scope.names.lookup x = some .local) zz0._auto_1) : wpAny M A (storeName X.env x u) Q E s :=
 FV I hN hi hx r (fun s' I' _ => h s' I') hf
theorem Inv.Zds {s' : Shared} {ch : List Addr} (I : Inv X pins O H s) (ho : s'.os = s.os) (u : Un (frs X.stack) ch H H' s.heap s'.heap) (hok : HOk X.prog X.w H' s'.heap) (hg : AllBare s'.gens)
  (hch : ∀ b ∈ ch, (b ∈ X.ex \/ X.s₀.heap.objs.size <= b) /\ b ≠ X.env.locals /\ (∀ x c, X.env.cells.lookup x = some c -> c ≠ b) /\ ∀ p ∈ X.pn ++ pins, p.1 ≠ b) : Inv X pins O H' s' := by
 obtain ⟨h', g', d', t', o'⟩ := s';have e : o' = s.os := ho;subst e;exact I.call (g' := g') (t' := t') (d' := d') u hok hg hch
end
abbrev XK := Value -> Option Addr -> Hp -> Prop
abbrev St := List (Option V)
abbrev VK := V -> Hp -> Prop
abbrev TE := St -> Hp -> VK -> Prop
abbrev TT := St -> Hp -> (Bool -> Hp -> Prop) -> Prop
abbrev TA := St -> Hp -> (List V -> Hp -> Prop) -> Prop
structure Ends where
 nx : St -> Hp -> Prop
 rt : VK
 bk : St -> Hp -> Prop := fun _ _ => False
 ct : St -> Hp -> Prop := fun _ _ => False
abbrev TS := Ends -> St -> Hp -> Prop
def EP (X : Cx) (pins : List (Addr × Obj)) (O : St) (Q : VK) (u : Value) (s' : Shared) : Prop := ∃ v H', Inv X pins O H' s' /\ RelV v u /\ Q v H'
def TP (X : Cx) (pins : List (Addr × Obj)) (O : St) (Q : Bool -> Hp -> Prop) (b : Bool) (s' : Shared) : Prop := ∃ H', Inv X pins O H' s' /\ Q b H'
def AP (X : Cx) (pins : List (Addr × Obj)) (O : St) (Q : List V -> Hp -> Prop) (us : List Value) (s' : Shared) : Prop := ∃ vs H', Inv X pins O H' s' /\ Vals vs us /\ Q vs H'
def SP (X : Cx) (pins : List (Addr × Obj)) (D : Ends) (f : Flow) (s' : Shared) : Prop :=
 match f with
 | .next => ∃ σ' H', Inv X pins σ' H' s' /\ D.nx σ' H'
 | .brk => ∃ σ' H', Inv X pins σ' H' s' /\ D.bk σ' H'
 | .cont => ∃ σ' H', Inv X pins σ' H' s' /\ D.ct σ' H'
 | .ret u => ∃ v σ' H', Inv X pins σ' H' s' /\ RelV v u /\ D.rt v H'
def PE (X : Cx) (e : Expr) (t : TE) : Prop :=
 ∀ (pins : List (Addr × Obj)) (s : Shared) (O : St) (H : Hp) (Q : VK), Inv X pins O H s -> t O H Q -> wpAny (model X.prog X.w) X.A (eval e X.env) (EP X pins O Q) X.xe s
def PT (X : Cx) (e : Expr) (t : TT) : Prop :=
 ∀ (pins : List (Addr × Obj)) (s : Shared) (O : St) (H : Hp) (Q : Bool -> Hp -> Prop), Inv X pins O H s -> t O H Q -> wpAny (model X.prog X.w) X.A (isTrue e X.env (eval e X.env)) (TP X pins O Q) X.xe s
def PW (X : Cx) (e : Expr) (t : TT) : Prop :=
 ∀ (whole : Sem Value) (pins : List (Addr × Obj)) (s : Shared) (O : St) (H : Hp) (Q : Bool -> Hp -> Prop), Inv X pins O H s -> t O H Q -> wpAny (model X.prog X.w) X.A (isTrue e X.env whole) (TP X pins O Q) X.xe s
theorem PW.pt {X : Cx} {e : Expr} {t : TT} (h : PW X e t) : PT X e t := h _
def PA (X : Cx) (es : List Expr) (t : TA) : Prop :=
 ∀ (pos : Pos) (pins : List (Addr × Obj)) (s : Shared) (O : St) (H : Hp) (Q : List V -> Hp -> Prop), Inv X pins O H s -> t O H Q -> wpAny (model X.prog X.w) X.A (spliced (backTo pos (starEach es X.env))) (AP X pins O Q) X.xe s
def PS (X : Cx) (st : Stmt) (t : TS) : Prop :=
 ∀ (pins : List (Addr × Obj)) (s : Shared) (O : St) (H : Hp) (D : Ends), Inv X pins O H s -> t D O H -> wpAny (model X.prog X.w) X.A (exec st X.env) (SP X pins D) X.xe s
def PSs (X : Cx) (st : List Stmt) (t : TS) : Prop :=
 ∀ (pins : List (Addr × Obj)) (s : Shared) (O : St) (H : Hp) (D : Ends), Inv X pins O H s -> t D O H -> wpAny (model X.prog X.w) X.A (execs st X.env) (SP X pins D) X.xe s
theorem thn {α : Type} {t : Sem α} {Q Q' : α -> Shared -> Prop} {M : Model} {A : Around} {E : Value -> Shared -> Prop} {s : Shared} (h : wpAny M A t Q E s) (hQ : ∀ a s, Q a s -> Q' a s) : wpAny M A t Q' E s := wpAny_mono h hQ fun _ _ x => x
end L2
namespace L2
open PySem PySem.Spec PyProof.Rows
section
variable {X : Cx}
def Zi6 (i : Nat) : TE := fun O H Q => ∃ v, O[i]? = some (some v) /\ Q v H
def tC (v : V) : TE := fun _ H Q => Q v H
theorem Pw {i : Nat} {x : Str} {pos : Pos} (hN : X.N[i]? = some x) (hv : Vis X.env.scope x) (hd : autoParam ((x == ("__debug__" : Str)) = false) zz1._auto_1) (hcd : autoParam ((x == ("__classdict__" : Str)) = false) zz1._auto_1) : PE X (.Name x pos) (Zi6 i) := by
 intro pins s O H Q I h;obtain ⟨v, e, h⟩ := h;obtain ⟨m, hn, hl⟩ := I.loc;obtain ⟨u, r, l⟩ := hl i x v hN e hv;have fin : EP X pins O Q u s := ⟨v, H, I, r, h⟩
 rcases l with ⟨hk, hm⟩ | ⟨hk, c, hc, hcell⟩
 ·exact wpAny_Name (wpAny_loadName_local I.ok.kind hk hn hm fin) hd
 ·rcases hk with hk | hk
  ·exact wpAny_Name (wpAny_loadName_cell I.ok.kind hk hc hcell fin) hd
  ·exact wpAny_Name (wpAny_loadName_free I.ok.kind hk hc hcell fin hcd) hd
theorem Zei {i j pos} : PE X (.Constant (.int i) j pos) (tC (.int i)) := fun _ _ _ H _ I h => wpAny_Constant_int ⟨.int i, H, I.tok _, ⟨_, rfl⟩, h⟩
theorem ZgJ {b j pos} : PE X (.Constant (.bool b) j pos) (tC (.bl b)) := fun _ _ _ H _ I h => Constant_bool ⟨.bl b, H, I, rfl, h⟩
theorem Zbe {j pos} : PE X (.Constant .none j pos) (tC .non) := fun _ _ _ H _ I h => Constant_none ⟨.non, H, I, rfl, h⟩
theorem Ra {x j pos} : PE X (.Constant (.str x) j pos) (tC (.str x)) := fun _ _ _ H _ I h => Calls.Constant_str ⟨.str x, H, I.tok _, ⟨_, rfl⟩, h⟩
def Gl (X : Cx) (x : Str) : Prop := X.env.kindOf x = some .globalImplicit
theorem LV {E : Value -> Shared -> Prop} {pins : List (Addr × Obj)} {s : Shared} {O : St} {H : Hp} {x : Str} {u : Value} {pos : Pos} {Q : Value -> Shared -> Prop} (I : Inv X pins O H s) (hg : Gl X x) (hm : X.mg x = some u) (h : Q u s)
  (hd : autoParam ((x == ("__debug__" : Str)) = false) zz1._auto_1) : wpAny (model X.prog X.w) X.A (eval (.Name x pos) X.env) Q E s :=
 Calls.Name_function_global I.ok.kind hg (Calls.loadGlobal_global (by rw [I.ok.glob]; exact I.mod.glob.keeps I.bk) hm h) hd
theorem Vx {E : Value -> Shared -> Prop} {pins : List (Addr × Obj)} {s : Shared} {O : St} {H : Hp} {x : Str} {u : Value} {pos : Pos} {Q : Value -> Shared -> Prop} (I : Inv X pins O H s) (hg : Gl X x) (hm : X.mg x = none) (hv : bootBuiltins x = some u) (h : Q u s)
  (hn : autoParam (x ≠ "__name__") zz1._auto_1) (hd : autoParam ((x == ("__debug__" : Str)) = false) zz1._auto_1) : wpAny (model X.prog X.w) X.A (eval (.Name x pos) X.env) Q E s := by
 obtain ⟨mb, h1, h2⟩ := I.mod.blt;exact Calls.Name_function_global I.ok.kind hg (Calls.loadGlobal_builtin (by rw [I.ok.glob]; exact I.mod.glob.keeps I.bk) hm (by rw [I.ok.blt]; exact h1.keeps I.bk) ((h2 x hn).trans hv) h) hd
theorem TU {x : Str} {v : V} {u : Value} {pos : Pos} (hg : Gl X x) (hm : X.mg x = some u) (r : RelV v u) (hd : autoParam ((x == ("__debug__" : Str)) = false) zz1._auto_1) : PE X (.Name x pos) (tC v) :=
 fun _ _ _ H _ I h => LV I hg hm ⟨v, H, I, r, h⟩ hd
theorem RX {x : Str} {v : V} {u : Value} {pos : Pos} (hg : Gl X x) (hm : X.mg x = none) (hv : bootBuiltins x = some u) (r : RelV v u) (hn : autoParam (x ≠ "__name__") zz1._auto_1) (hd : autoParam ((x == ("__debug__" : Str)) = false) zz1._auto_1) : PE X (.Name x pos) (tC v) :=
 fun _ _ _ H _ I h => Vx I hg hm hv ⟨v, H, I, r, h⟩ hn hd
def t2I (ta tb : TE) (k : Int -> Int -> Hp -> Prop) : St -> Hp -> Prop := fun O H => ta O H fun x H1 => tb O H1 fun y H2 => ∃ i j, x = .int i /\ y = .int j /\ k i j H2
def ZjX (ta tb : TE) : TE := fun O H Q => t2I ta tb (fun i j H2 => Q (.int (i + j)) H2) O H
def ZjV (ta tb : TE) : TE := fun O H Q => t2I ta tb (fun i j H2 => Q (.int (i - j)) H2) O H
def ZjQ (ta tb : TE) : TE := fun O H Q => t2I ta tb (fun i j H2 => (-(2 ^ 64) < i /\ i < 2 ^ 64) /\ Q (.int (i * j)) H2) O H
variable {a b : Expr} {ta tb : TE} {pos : Pos}
def PC (X : Cx) (op : CmpOp) (a b : Expr) (t : TE) : Prop :=
 ∀ (pins : List (Addr × Obj)) (s : Shared) (O : St) (H : Hp) (Q : VK), Inv X pins O H s -> t O H Q ->
  wpAny (model X.prog X.w) X.A (eval a X.env) (fun v s₁ => wpAny (model X.prog X.w) X.A (eval b X.env) (fun u s₂ => wpAny (model X.prog X.w) X.A (compareOp op v u) (EP X pins O Q) X.xe s₂) X.xe s₁) X.xe s
def ZaH (p : Int -> Int -> Bool) (ta tb : TE) : TE := fun O H Q => t2I ta tb (fun i j H2 => Q (.bl (p i j)) H2) O H
abbrev tLt : TE -> TE -> TE := ZaH fun i j => decide (i < j)
abbrev tLe : TE -> TE -> TE := ZaH fun i j => decide (i <= j)
abbrev tGt : TE -> TE -> TE := ZaH fun i j => decide (j < i)
abbrev tGe : TE -> TE -> TE := ZaH fun i j => decide (j <= i)
abbrev ZjP : TE -> TE -> TE := ZaH fun i j => decide (i = j)
abbrev ZjI : TE -> TE -> TE := ZaH fun i j => !decide (i = j)
def ZjW (ta : TE) : TE := fun O H Q => ta O H fun x H1 => Q (.bl (decide (x = .non))) H1
def Zje (ta : TE) : TE := fun O H Q => ta O H fun x H1 => Q (.bl (!decide (x = .non))) H1
def tB (t : TE) : TT := fun O H Q => t O H fun x H1 => ∃ c, x = .bl c /\ Q c H1
theorem Zdp {e : Expr} {t : TE} (h : PE X e t) (he : autoParam (∀ whole, isTrue e X.env whole = (do let v <- whole; standAt e.pos; holding [v] (truthy v))) zz2._auto_1) : PT X e (tB t) := by
 intro pins s O H Q I hw;refine isTrue_plain (thn (h pins s O H _ I hw) fun v s1 ⟨x, H1, I1, r1, q1⟩ => ?_) (he _);obtain ⟨d, rfl, q⟩ := q1;cases r1;exact wpAny_truthy_bool ⟨H1, I1, q⟩
variable {tA tB' : TT} {rest : List Expr}
def Zir (t u : TT) : TT := fun O H Q => t O H fun c H1 => if c = true then u O H1 Q else Q false H1
def tOr (t u : TT) : TT := fun O H Q => t O H fun c H1 => if c = true then Q true H1 else u O H1 Q
def Zio (t : TT) : TT := fun O H Q => t O H fun c H1 => Q (!c) H1
theorem TK (ha : PT X a tA) : PW X (.BoolOp .And [a] pos) tA := by
 intro wh pins s O H Q I h;refine isTrue_and (thn (ha pins s O H Q I h) fun c s1 e => ?_);cases c with
 | true => exact isTrue_and_nil e
 | false => exact e
theorem Zcd (ha : PT X a tA) : PW X (.BoolOp .Or [a] pos) tA := by
 intro wh pins s O H Q I h;refine isTrue_or (thn (ha pins s O H Q I h) fun c s1 e => ?_);cases c with
 | false => exact isTrue_or_nil e
 | true => exact e
theorem Zb5 (ha : PT X a tA) (hb : PW X (.BoolOp .And (b :: rest) pos) tB') : PW X (.BoolOp .And (a :: b :: rest) pos) (Zir tA tB') := by
 intro wh pins s O H Q I h;refine isTrue_and (thn (ha pins s O H _ I h) fun c s1 ⟨H1, I1, q1⟩ => ?_);cases c with
 | true => exact hb wh pins s1 O H1 Q I1 q1
 | false => exact ⟨H1, I1, q1⟩
theorem ZfZ (ha : PT X a tA) (hb : PW X (.BoolOp .Or (b :: rest) pos) tB') : PW X (.BoolOp .Or (a :: b :: rest) pos) (tOr tA tB') := by
 intro wh pins s O H Q I h;refine isTrue_or (thn (ha pins s O H _ I h) fun c s1 ⟨H1, I1, q1⟩ => ?_);cases c with
 | true => exact ⟨H1, I1, q1⟩
 | false => exact hb wh pins s1 O H1 Q I1 q1
theorem ZdW (ha : PT X a tA) : PT X (.UnaryOp .Not a pos) (Zio tA) := by
 intro pins s O H Q I h;exact isTrue_not (ha pins s O H (fun c H1 => Q (!c) H1) I h)
def Zgr (ta tb : TE) : TE := fun O H Q => ta O H fun x H1 => ∃ c, x = .bl c /\ if c = true then tb O H1 Q else Q (.bl false) H1
def ZiU (ta tb : TE) : TE := fun O H Q => ta O H fun x H1 => ∃ c, x = .bl c /\ if c = true then Q (.bl true) H1 else tb O H1 Q
def Zft (ta : TE) : TE := fun O H Q => ta O H fun x H1 => ∃ c, x = .bl c /\ Q (.bl (!c)) H1
theorem Zb6 {op} {t : TE} (h : PE X a t) : PE X (.BoolOp op [a] pos) t := fun pins s O H Q I hw => BoolOp_one (h pins s O H Q I hw)
theorem ZdV (ha : PE X a ta) (hb : PE X (.BoolOp .And (b :: rest) pos) tb) : PE X (.BoolOp .And (a :: b :: rest) pos) (Zgr ta tb) := by
 intro pins s O H Q I h;refine BoolOp_and (thn (ha pins s O H _ I h) fun v s1 ⟨x, H1, I1, r1, q1⟩ => ?_);obtain ⟨c, rfl, q1⟩ := q1;cases r1;refine wpAny_truthy_bool ?_;cases c with
 | true => exact hb pins s1 O H1 Q I1 q1
 | false => exact ⟨.bl false, H1, I1, rfl, q1⟩
theorem ZfA (ha : PE X a ta) (hb : PE X (.BoolOp .Or (b :: rest) pos) tb) : PE X (.BoolOp .Or (a :: b :: rest) pos) (ZiU ta tb) := by
 intro pins s O H Q I h;refine BoolOp_or (thn (ha pins s O H _ I h) fun v s1 ⟨x, H1, I1, r1, q1⟩ => ?_);obtain ⟨c, rfl, q1⟩ := q1;cases r1;refine wpAny_truthy_bool ?_;cases c with
 | false => exact hb pins s1 O H1 Q I1 q1
 | true => exact ⟨.bl true, H1, I1, rfl, q1⟩
theorem Zbg (ha : PE X a ta) : PE X (.UnaryOp .Not a pos) (Zft ta) := by
 intro pins s O H Q I h;refine UnaryOp_ (thn (ha pins s O H _ I h) fun v s1 ⟨x, H1, I1, r1, q1⟩ => ?_);obtain ⟨c, rfl, q1⟩ := q1;cases r1;exact not_of (wpAny_truthy_bool ⟨.bl (!c), H1, I1, rfl, q1⟩)
def tIf (t : TT) (ta tb : TE) : TE := fun O H Q => t O H fun c H1 => if c = true then ta O H1 Q else tb O H1 Q
end
end L2
open PySem PySem.Spec PyProof.Rows L2
variable {H H' : Hp} {n i j ep : Nat} {a p q b S f it : Addr} {K : Fk} {d : PyData} {x qual : Str} {s : Shared} {w : World} {pos p2 : Pos} {P : Program} {h h' : Heap} {v y : V} {pins : List (Addr × Obj)} {tg e iter elt : Expr} {ds l : List PyData} {X : Cx} {O : L2.St} {xs vs : List V} {ps : List (Str × Str)} {u : Value} {kvs : List (Key × V)} {N ks ss : List Str} {Q : Value -> Shared -> Prop} {scope : Scope} {A : Around} {env : Env} {ix : List (Option Nat)} {us : List Value} {fd : FuncData} {mg : Str -> Option Value} {st : Stmt} {ifs : List Expr}
namespace L2
def SqL (K : Fk) (H : Hp) (a : Addr) (xs : List V) : Prop :=
 Rd H a (.lst xs) \/
  ∃ (o : Obj) (its : Array Value) (n : Nat), K.lookup a = some o /\ o.cls = .type "list" /\ o.dict = none /\ o.data = .seq its n /\ its.size <= sizeLine /\ Vals xs its.toList
def SqT (K : Fk) (H : Hp) (a : Addr) (xs : List V) : Prop :=
 Rd H a (.tup xs) \/
  ∃ (o : Obj) (its : Array Value) (n : Nat), K.lookup a = some o /\ o.cls = .type "tuple" /\ o.data = .seq its n /\ its.size <= sizeLine /\ Vals xs its.toList
noncomputable def ZiB : Value -> Option V
 | .none => some .non
 | .bool b => some (.bl b)
 | .int i _ => some (.int i)
 | .str x _ => some (.str x)
 | .bytes b _ => some (.byt b)
 | .float b _ => some (.flt b)
 | .ref a => some (.ref a)
 | .type n => some (.ty n)
 | _ => none
theorem RelV.abs {x : V} (r : RelV x u) : ZiB u = some x := by
 cases x with
 | non => cases r; rfl
 | bl _ => cases r; rfl
 | int _ => obtain ⟨t, rfl⟩ := r; rfl
 | str _ => obtain ⟨t, rfl⟩ := r; rfl
 | byt _ => obtain ⟨t, rfl⟩ := r; rfl
 | flt _ => obtain ⟨t, rfl⟩ := r; rfl
 | ref _ => cases r; rfl
 | ty _ => cases r; rfl
theorem RelV.inj {x : V} (r : RelV x u) (q : RelV y u) : x = y := Option.some.inj (r.abs.symm.trans q.abs)
theorem Vals.inj : ∀ {xs ys : List V} {us : List Value}, Vals xs us -> Vals ys us -> xs = ys
 | _, _, _, .nil, .nil => rfl
 | _, _, _, .cons r t, .cons r' t' => by rw [r.inj r', Vals.inj t t']
section
variable {ys : List V}
theorem SqL.of (h : H a = some (.lst xs)) : SqL K H a xs := .inl (.inl h)
theorem SqT.of (h : H a = some (.tup xs)) : SqT K H a xs := .inl (.inl h)
theorem Inv.list (I : Inv X pins O H s) (h : SqL X.K H a xs) : ∃ its : List Value, Vals xs its /\ PlainL s.heap a its.toArray /\ xs.length <= sizeLine := by
 rcases h with h | ⟨o, its, n, hk, hc, hd, hs, hz, r⟩
 ·obtain ⟨z, its, n, r, e⟩ := h.ok I.hok;exact ⟨its, r, ⟨_, n, e, rfl, rfl, rfl⟩, z⟩
 ·refine ⟨its.toList, r, ⟨o, n, I.kIn a o hk, hc, hd, by simpa using hs⟩, ?_⟩;have e := r.length;simp only [Array.length_toList] at e;omega
theorem Inv.tuple (I : Inv X pins O H s) (h : SqT X.K H a xs) : ∃ its : List Value, Vals xs its /\ IsTup s.heap a its.toArray /\ xs.length <= sizeLine := by
 rcases h with h | ⟨o, its, n, hk, hc, hs, hz, r⟩
 ·obtain ⟨z, its, r, p⟩ := h.ok I.hok;exact ⟨its, r, p, z⟩
 ·refine ⟨its.toList, r, ⟨o, I.kIn a o hk, hc, n, by simpa using hs⟩, ?_⟩;have e := r.length;simp only [Array.length_toList] at e;omega
theorem Inv.WD (I : Inv X pins O H s) (h : SqL X.K H a xs) (h' : SqL X.K H a ys) : xs = ys := by
 obtain ⟨its, r, ⟨o, n, e, _, _, d⟩, _⟩ := I.list h;obtain ⟨its', r', ⟨o', n', e', _, _, d'⟩, _⟩ := I.list h';rw [e] at e'; cases e';rw [d] at d'
 injection d' with d1 _
 have : its = its' := by simpa using congrArg Array.toList d1
 subst this;exact r.inj r'
theorem Inv.LM (I : Inv X pins O H s) (h : SqT X.K H a xs) (h' : SqT X.K H a ys) : xs = ys := by
 obtain ⟨its, r, ⟨o, e, _, n, d⟩, _⟩ := I.tuple h;obtain ⟨its', r', ⟨o', e', _, n', d'⟩, _⟩ := I.tuple h';rw [e] at e'; cases e';rw [d] at d'
 injection d' with d1 _
 have : its = its' := by simpa using congrArg Array.toList d1
 subst this;exact r.inj r'
end
noncomputable abbrev Cx.Mm (X : Cx) (E : Value -> Shared -> Prop) : Cx := { X with xe := E }
noncomputable abbrev Cx.nox (X : Cx) : Cx := X.Mm fun _ _ => False
theorem Cx.Ok.Mm (ok : X.Ok) (E : Value -> Shared -> Prop) : (X.Mm E).Ok :=
 ⟨ok.mod, ok.kind, ok.glob, ok.blt, ok.above, ok.inj, ok.has, ok.cab, ok.hd, ok.frames, ok.stk, ok.exf, ok.bs, ok.bsz, ok.noex, ok.exfs, ok.HA, ok.frf⟩
theorem Cx.Ok.Xx {E : Value -> Shared -> Prop} (ok : (X.Mm E).Ok) : X.Ok :=
 ⟨ok.mod, ok.kind, ok.glob, ok.blt, ok.above, ok.inj, ok.has, ok.cab, ok.hd, ok.frames, ok.stk, ok.exf, ok.bs, ok.bsz, ok.noex, ok.exfs, ok.HA, ok.frf⟩
section
variable {E : Value -> Shared -> Prop}
theorem Inv.Mm (I : Inv X pins O H s) (E : Value -> Shared -> Prop) : Inv (X.Mm E) pins O H s := ⟨I.ok.Mm E, I.os, I.bare, I.base, I.loc, I.cell, I.free, I.freeC, I.pin, I.hok, I.len⟩
theorem Inv.Xx (I : Inv (X.Mm E) pins O H s) : Inv X pins O H s := ⟨I.ok.Xx, I.os, I.bare, I.base, I.loc, I.cell, I.free, I.freeC, I.pin, I.hok, I.len⟩
theorem SP.Xx {D : Ends} {f : Flow} {s' : Shared} (h : SP (X.Mm E) pins D f s') : SP X pins D f s' := by
 cases f with
 | next => obtain ⟨σ', H', I, q⟩ := h; exact ⟨σ', H', I.Xx, q⟩
 | brk => obtain ⟨σ', H', I, q⟩ := h; exact ⟨σ', H', I.Xx, q⟩
 | cont => obtain ⟨σ', H', I, q⟩ := h; exact ⟨σ', H', I.Xx, q⟩
 | ret u => obtain ⟨v, σ', H', I, r, q⟩ := h; exact ⟨v, σ', H', I.Xx, r, q⟩
theorem PSs.nox {st : List Stmt} {t : TS} (h : PSs X.nox st t) : PSs X st t := fun pins s O H D I hw =>
 wpAny_mono (h pins s O H D (I.Mm _) hw) (fun _ _ q => q.Xx) fun _ _ z => False.elim z
end
section
variable {rest : List Stmt} {t u : TS} {te : TE}
def ZgM : TS := fun D O H => D.nx O H
def ZiQ (t u : TS) : TS := fun D O H => t { D with nx := u D } O H
theorem Zaz : PSs X [] ZgM := fun _ _ O H _ I h => wpAny_execs_nil ⟨O, H, I, h⟩
theorem MM (h1 : PS X st t) (h2 : PSs X rest u) : PSs X (st :: rest) (ZiQ t u) := by
 intro pins s O H D I h;refine wpAny_execs_cons (thn (h1 pins s O H { D with nx := u D } I h) fun f s1 q => ?_);cases f with
 | next =>
  obtain ⟨σ', H', I', q⟩ := q;exact h2 pins s1 σ' H' D I' q
 | ret v => exact q
 | brk => exact q
 | cont => exact q
theorem TM (h1 : PS X st t) : PSs X [st] t := by
 intro pins s O H D I h;refine wpAny_execs_cons (thn (h1 pins s O H D I h) fun f s1 q => ?_);cases f with
 | next => exact wpAny_execs_nil q
 | ret v => exact q
 | brk => exact q
 | cont => exact q
def ZhU : TS := fun D O H => D.bk O H
def ZiL : TS := fun D O H => D.ct O H
theorem Inv.quiet (I : Inv X pins O H s) : interactive X.env = false := by simp [interactive, I.ok.kind]
def Zgq (te : TE) : TS := fun D O H => te O H fun _ H1 => D.nx O H1
theorem Sk (he : PE X e te) (hs : autoParam (swapsWith e none pos.line X.env = pure false) zz3._auto_1) : PS X (.Expr e pos) (Zgq te) := by
 intro pins s O H D I h;exact wpAny_Expr_any (thn (he pins s O H _ I h) fun v s1 ⟨x, H1, I1, r1, q1⟩ => ⟨O, H1, I1, q1⟩) I.quiet hs
def Zi4 (te : TE) : TS := fun D O H => te O H D.rt
theorem Zdv (he : PE X e te) : PS X (.Return (some e) pos) (Zi4 te) := by
 intro pins s O H D I h;exact wpAny_Return_some (thn (he pins s O H _ I h) fun v s1 ⟨x, H1, I1, r1, q1⟩ => ⟨x, O, H1, I1, r1, q1⟩)
def Ziv : TS := fun D _ H => D.rt .non H
def Zi9 (c : TT) (t u : TS) : TS := fun D O H => c O H fun b H1 => if b = true then t D O H1 else u D O H1
theorem Ze7 {c : Expr} {a b : List Stmt} {tc : TT} (hc : PT X c tc) (ha : PSs X a t) (hb : PSs X b u) : PS X (.If c a b pos) (Zi9 tc t u) := by
 intro pins s O H D I h;refine wpAny_If (thn (hc pins s O H _ I h) fun d s1 ⟨H1, I1, q1⟩ => ?_);cases d with
 | true => exact ha pins s1 O H1 D I1 q1
 | false => exact hb pins s1 O H1 D I1 q1
def Zdt : TS := fun _ _ _ => False
theorem MD : PS X st Zdt := fun _ _ _ _ _ _ h => h.elim
end
abbrev TG := V -> St -> Hp -> (St -> Hp -> Prop) -> Prop
abbrev TGs := List V -> St -> Hp -> (St -> Hp -> Prop) -> Prop
def PG (X : Cx) (target : Expr) (t : TG) : Prop :=
 ∀ (pins : List (Addr × Obj)) (s : Shared) (O : St) (H : Hp) (v : V) (u : Value) (Q : St -> Hp -> Prop), Inv X pins O H s -> RelV v u -> t v O H Q ->
  wpAny (model X.prog X.w) X.A (assign target X.env u) (fun _ s' => ∃ σ' H', Inv X pins σ' H' s' /\ Q σ' H') X.xe s
def PGs (X : Cx) (ts : List Expr) (t : TGs) : Prop :=
 ∀ (pins : List (Addr × Obj)) (s : Shared) (O : St) (H : Hp) (vs : List V) (us : List Value) (Q : St -> Hp -> Prop), Inv X pins O H s -> Vals vs us -> t vs O H Q ->
  wpAny (model X.prog X.w) X.A (assignInOrder ((assignEach ts X.env).map (·.2)) us) (fun _ s' => ∃ σ' H', Inv X pins σ' H' s' /\ Q σ' H') X.xe s
abbrev ZeI := V -> V -> V -> Hp -> (Hp -> Prop) -> Prop
def Zg9 (X : Cx) (t : ZeI) : Prop :=
 ∀ (pins : List (Addr × Obj)) (s : Shared) (O : St) (H : Hp) (o i v : V) (ov iv u : Value) (Q : Hp -> Prop), Inv X pins O H s -> RelV o ov -> RelV i iv -> RelV v u -> t o i v H Q ->
  wpAny (model X.prog X.w) X.A (setItem ov iv u) (fun _ s' => ∃ H', Inv X pins O H' s' /\ Q H') X.xe s
abbrev TIp := V -> V -> Hp -> VK -> Prop
def PIp (X : Cx) (op : Operator) (t : TIp) : Prop :=
 ∀ (pins : List (Addr × Obj)) (s : Shared) (O : St) (H : Hp) (x y : V) (v u : Value) (Q : VK), Inv X pins O H s -> RelV x v -> RelV y u -> t x y H Q ->
  wpAny (model X.prog X.w) X.A (inplaceOp op v u) (EP X pins O Q) X.xe s
section
def Zca (i : Nat) : TG := fun v O H Q => Q (O.set i (some v)) H
theorem L6 (hN : X.N.Nodup) (hi : X.N[i]? = some x) (hx : Loc X.env.scope x) (hf : autoParam (X.fn x = true \/ X.env.scope.names.lookup x = some .local) zz0._auto_1) : PG X (.Name x pos) (Zca i) := by
 intro pins s O H v u Q I r h;exact wpAny_assign_Name (Dx I hN hi hx r (fun s' I' => ⟨_, H, I', h⟩) hf)
def Zi5 : TGs := fun vs O H Q => vs = [] /\ Q O H
def Zgy (t : TG) (u : TGs) : TGs := fun vs O H Q => ∃ v r, vs = v :: r /\ t v O H fun σ' H' => u r σ' H' Q
theorem RW : PGs X [] Zi5 := by
 intro pins s O H vs us Q I r h;obtain ⟨e, h⟩ := h;subst e;cases r;exact assignInOrder_nil ⟨O, H, I, h⟩
theorem OW {es : List Expr} {t : TG} {u : TGs} (h1 : PG X e t) (h2 : PGs X es u)
  (hs : autoParam ((assignEach (e :: es) X.env).map (·.2) = assign e X.env :: (assignEach es X.env).map (·.2)) zz3._auto_1) : PGs X (e :: es) (Zgy t u) := by
 intro pins s O H vs us Q I r h;obtain ⟨v, vr, e1, h⟩ := h;subst e1;cases r with
 | cons r rr =>
  rw [hs];refine assignInOrder_cons (thn (h1 pins s O H _ _ _ I r h) fun _ s1 ⟨σ1, H1, I1, q1⟩ => ?_);exact h2 pins s1 σ1 H1 _ _ Q I1 rr q1
def Zju (K : Fk) (n : Nat) (t : TGs) : TG := fun v O H Q => ∃ a xs, v = .ref a /\ SqT K H a xs /\ xs.length = n /\ t xs O H Q
theorem Zd4 {es : List Expr} {k : Nat} {t : TGs} {n : Nat} (hc : X.calm = true) (h : PGs X es t)
  (hn : autoParam ((assignEach es X.env).length = n) zz3._auto_1) (hst : autoParam ((assignEach es X.env).findIdx? (·.1) = none) zz3._auto_1) : PG X (.Tuple es k pos) (Zju X.K n t) := by
 intro pins s O H v u Q I r hw;obtain ⟨a, xs, e1, hq, hl, hw⟩ := hw;subst e1;cases r;obtain ⟨its, rv, ht, hz⟩ := I.tuple hq;refine assign_Tuple_tuple (I.ok.hd hc) ht (by simp [hn, <- hl, rv.length]) hst fun h' hx => ?_;have I1 : Inv X pins O H { s with heap := h' } := I.kept (t' := s.toks) fun b o e => hx b o (Nat.ne_of_lt (Heap.lt_size e)) e;exact h pins _ O H xs _ Q I1 (by simpa using rv) hw
def Zjk (to ti : TE) (t : ZeI) : TG := fun v O H Q => to O H fun o H1 => ti O H1 fun i H2 => t o i v H2 fun H3 => Q O H3
theorem Zdy {o i : Expr} {to ti : TE} {t : ZeI} (ho : PE X o to) (hi : PE X i ti) (hs : Zg9 X t)
  (ha : ∀ v, assign (.Subscript o i pos) X.env v = (do
   let ov <- holding [v] (eval o X.env)
   let iv <- holding [v, ov] (eval i X.env)
   standAt pos
   holding [v, ov, iv] (setItem ov iv v)
   release [v, ov, iv] []) := by intro _; rfl) : PG X (.Subscript o i pos) (Zjk to ti t) := by
 intro pins s O H v u Q I r h;rw [ha];refine wpAny_bind (wpAny_holding (thn (ho pins s O H _ I h) fun ov s1 ⟨x, H1, I1, r1, q1⟩ => ?_));refine wpAny_bind (wpAny_holding (thn (hi pins s1 O H1 _ I1 q1) fun iv s2 ⟨y, H2, I2, r2, q2⟩ => ?_));refine wpAny_bind (wpAny_standAt (wpAny_bind (wpAny_holding (thn (hs pins s2 O H2 x y v ov iv u _ I2 r1 r2 r q2) fun _ s3 ⟨H3, I3, q3⟩ => ?_))));exact wpAny_release ⟨O, H3, I3, q3⟩
def Zg1 (te : TE) (g : TG) : TS := fun D O H => te O H fun x H1 => g x O H1 D.nx
theorem Zb3 {te : TE} {g : TG} (he : PE X e te) (hg : PG X tg g) (hs : autoParam (swapsWithSole [tg] e pos.line X.env = pure false) zz3._auto_1) (hw : autoParam (swappedStores [tg] e X.env = pure none) zz3._auto_1)
  (h1 : autoParam ((assignEach [tg] X.env).map (·.2) = [assign tg X.env]) zz3._auto_1) : PS X (.Assign [tg] e pos) (Zg1 te g) := by
 intro pins s O H D I h;refine wpAny_Assign_stores (thn (he pins s O H _ I h) fun v s1 ⟨x, H1, I1, r1, q1⟩ => ?_) hs hw;rw [h1];exact thn (hg pins s1 O H1 x v _ I1 r1 q1) fun _ s2 q => q
theorem Zeh {te : TE} {pos' : Pos} (hN : X.N.Nodup) (hi : X.N[i]? = some x) (hx : Loc X.env.scope x) (he : PE X e te) (hs : autoParam (swapsWith e (some (.Name x pos')) pos.line X.env = pure false) zz3._auto_1) (hf : autoParam (X.fn x = true \/ X.env.scope.names.lookup x = some .local) zz0._auto_1) :
  PS X (.Assign [.Name x pos'] e pos) (Zg1 te (Zca i)) := by
 intro pins s O H D I h;refine wpAny_Assign_Name (thn (he pins s O H _ I h) fun v s1 ⟨y, H1, I1, r1, q1⟩ => ?_) hs;exact Dx I1 hN hi hx r1 (fun s2 I2 => ⟨_, H1, I2, q1⟩) hf
def ZjL (i j : Nat) (ta : TA) : TS := fun D O H => ta O H fun vs H1 => ∃ v w, vs = [v, w] /\ D.nx ((O.set i (some v)).set j (some w)) H1
def Zj0 (i : Nat) (te : TE) (ti : TIp) : TS := fun D O H => ∃ x, O[i]? = some (some x) /\ te O H fun y H1 => ti x y H1 fun z H2 => D.nx (O.set i (some z)) H2
def Zjf (to ti te : TE) (tget : V -> V -> Hp -> VK -> Prop) (tip : TIp) (tset : ZeI) : TS := fun D O H => to O H fun o H1 => ti O H1 fun i H2 => tget o i H2 fun x H3 => te O H3 fun y H4 => tip x y H4 fun z H5 => tset o i z H5 fun H6 => D.nx O H6
def Zj5 (X : Cx) (t : V -> V -> Hp -> VK -> Prop) : Prop :=
 ∀ (pins : List (Addr × Obj)) (s : Shared) (O : St) (H : Hp) (o i : V) (ov iv : Value) (Q : VK), Inv X pins O H s -> RelV o ov -> RelV i iv -> t o i H Q ->
  wpAny (model X.prog X.w) X.A (getItem ov iv) (EP X pins O Q) X.xe s
def ipI (f : Int -> Int -> Int) : TIp := fun x y H Q => ∃ i j, x = .int i /\ y = .int j /\ Q (.int (f i j)) H
end
section
def ZhM (c : TT) (tb : TS) : TS := fun D O H => ∃ W : Nat -> St -> Hp -> Prop, (∃ m, W m O H) /\ ∀ m O H, W m O H ->
 c O H fun b H1 => if b = true then ∃ N : St -> Hp -> Prop, (∀ σ' H', N σ' H' -> ∃ m', m' < m /\ W m' σ' H') /\ tb { D with nx := N, ct := N, bk := D.nx } O H1 else D.nx O H1
end
structure It where
 go : Nat -> Hp -> Prop
 yld : Nat -> Hp -> V -> Hp -> Prop
 stop : Nat -> Hp -> Prop
def El (X : Cx) (pins : List (Addr × Obj)) (H : Hp) (b : Addr) : Prop :=
 H b = none /\ b ≠ X.env.locals /\ b ∉ X.fs /\ (b ∈ X.ex \/ X.s₀.heap.objs.size <= b) /\ (∀ x c, X.env.cells.lookup x = some c -> c ≠ b) /\ ∀ p ∈ X.pn ++ pins, p.1 ≠ b
theorem Inv.Ss (I : Inv X pins O H s) (hb : s.heap.objs.size <= b) (hn : H' b = none) : El X pins H' b := by
 refine ⟨hn, Nat.ne_of_gt (Nat.lt_of_lt_of_le I.lt hb), I.Zji hb, .inr (Nat.le_trans I.sz hb), fun x c e z => ?_, fun p hp z => ?_⟩
 ·obtain ⟨v, q⟩ := I.cell x c e;exact absurd (Nat.lt_of_lt_of_le q.lt (by rw [z]; exact hb)) (Nat.lt_irrefl _)
 ·exact absurd (Nat.lt_of_lt_of_le (Heap.lt_size (I.pin p hp).1) (by rw [z]; exact hb)) (Nat.lt_irrefl _)
structure Turn (P : Program) (w : World) (K : Fk) (tg : Expr) (J : It) (fp : List Addr) (it : Addr) (tn : Nat -> Heap -> Prop) : Prop where
 mem : it ∈ fp
 obj : ∀ i h, tn i h -> ∀ b ∈ fp, ∃ o, h.get? b = some o /\ ∀ v, o.data ≠ .cell v
 keep : ∀ i h h', tn i h -> (∀ b ∈ fp, ∀ o, h.get? b = some o -> h'.get? b = some o) -> tn i h'
 item : ∀ (X : Cx), X.prog = P -> X.w = w -> X.K = K -> X.calm = true -> ∀ (i : Nat) (pins : List (Addr × Obj)) (s : Shared) (O : St) (H : Hp) (E : Value -> Shared -> Prop), Inv X pins O H s -> (∀ b ∈ fp, El X pins H b) -> tn i s.heap -> J.go i H ->
  wpAny (model P w) X.A (pyNext (.ref it)) (fun r s1 => ∃ u, r = some u /\
   wpAny (model P w) X.A (letOwnedTupleGo tg (.ref it) u) (fun _ s2 => ∃ x H', Inv X pins O H' s2 /\ RelV x u /\ J.yld i H x H' /\ tn (i + 1) s2.heap /\ ∀ b ∈ fp, H' b = none) E s1) E s
 done : ∀ (X : Cx), X.prog = P -> X.w = w -> X.K = K -> X.calm = true -> ∀ (i : Nat) (pins : List (Addr × Obj)) (s : Shared) (O : St) (H : Hp) (E : Value -> Shared -> Prop), Inv X pins O H s -> (∀ b ∈ fp, El X pins H b) -> tn i s.heap -> J.stop i H ->
  wpAny (model P w) X.A (pyNext (.ref it)) (fun r s1 => r = none /\ Inv X pins O H s1) E s
 self : ∀ (A : Around) (i : Nat) (s : Shared) (Q : Value -> Shared -> Prop) (E : Value -> Shared -> Prop), tn i s.heap -> Q (.ref it) s -> wpAny (model P w) A (pyIter (.ref it)) Q E s
abbrev TI := St -> Hp -> (It -> Hp -> Prop) -> Prop
def PIE (X : Cx) (pins : List (Addr × Obj)) (O : St) (tg : Expr) (R : It -> Hp -> Prop) (itv : Value) (s2 : Shared) : Prop :=
 ∃ (it : Addr) (fp : List Addr) (tn : Nat -> Heap -> Prop) (J : It) (H' : Hp), itv = .ref it /\ Inv X pins O H' s2 /\ Turn X.prog X.w X.K tg J fp it tn /\ tn 0 s2.heap /\ (∀ b ∈ fp, El X pins H' b) /\ R J H'
def PI (X : Cx) (tg iter : Expr) (wi : TI) : Prop :=
 ∀ (pins : List (Addr × Obj)) (s : Shared) (O : St) (H : Hp) (R : It -> Hp -> Prop), Inv X pins O H s -> wi O H R ->
  wpAny (model X.prog X.w) X.A (eval iter X.env) (fun v s1 => wpAny (model X.prog X.w) X.A (pyIter v) (PIE X pins O tg R) X.xe s1) X.xe s
theorem Hv {M : Model} {A : Around} {E : Value -> Shared -> Prop} {tg : Expr} {u : Value} {o : Obj} {n : String} {vs : Array Value} {Q : Unit -> Shared -> Prop} (ho : s.heap.get? it = some o) (hc : o.cls = .type n) (hd : o.data = .fields vs)
    (hn : ["enumerate", "zip", "dict_itemiterator", "dict_reverseitemiterator", "odict_iterator", "itertools.zip_longest", "itertools.pairwise"].contains n = false) (hQ : Q () s) : wpAny M A (letOwnedTupleGo tg (.ref it) u) Q E s := by
  unfold letOwnedTupleGo;cases tg <;> first
    | exact wpAny_pure hQ
    | (cases u <;> first
        | exact wpAny_pure hQ
        | (refine wpAny_bind (wpAny_load ho ?_)
           rw [hc, hd];show wpAny M A (if (["enumerate", "zip", "dict_itemiterator", "dict_reverseitemiterator", "odict_iterator", "itertools.zip_longest", "itertools.pairwise"].contains n && vs[0]? == some (rawInt _)) = true then _ else _) Q E s;rw [if_neg (by intro h; rw [hn, Bool.false_and] at h; cases h)]
           exact wpAny_pure hQ))
noncomputable def Itl (K : Fk) (a : Addr) : It :=
 ⟨fun i H => ∃ xs x, SqL K H a xs /\ xs[i]? = some x, fun i H x H' => H' = H /\ ∀ xs, SqL K H a xs -> xs[i]? = some x, fun i H => ∃ xs, SqL K H a xs /\ xs.length <= i⟩
noncomputable def Itt (K : Fk) (a : Addr) : It :=
 ⟨fun i H => ∃ xs x, SqT K H a xs /\ xs[i]? = some x, fun i H x H' => H' = H /\ ∀ xs, SqT K H a xs -> xs[i]? = some x, fun i H => ∃ xs, SqT K H a xs /\ xs.length <= i⟩
noncomputable def Itr (lo : Int) (n : Nat) : It := ⟨fun i _ => i < n, fun i H x H' => H' = H /\ x = .int (lo + i), fun i _ => n <= i⟩
theorem Ft (a it : Addr) : Turn P w K tg (Itl K a) [it] it (fun i h => h.IsListIter it a i) where
 mem := by simp
 obj := fun i h st b hb => by
  have e : b = it := by simpa using hb
  subst e;obtain ⟨o, e, c, d⟩ := st;exact ⟨o, e, fun v z => by rw [d] at z; cases z⟩
 keep := fun i h h' st k => st.at fun o e => k it (by simp) o e
 item := by
  intro X hP hw hK hc i pins s O H E I hf st hg;subst hP hw hK;obtain ⟨xs, x, hq, hx⟩ := hg;obtain ⟨its, rv, p, hz⟩ := I.list hq;obtain ⟨u, hu, ru⟩ := rv.get hx;obtain ⟨f0, f1, f2, f3, f4, f5⟩ := hf it (by simp);refine wpAny_pyNext_list_item st p.isList (x := u) (by simpa using hu) fun h' st' sb => ?_;have I1 : Inv X pins O H { s with heap := h' } := I.turned (t' := s.toks) (fun b o hb e => (sb.2 b hb).trans e) f0 f1 f3 f4 f5;obtain ⟨o, e, c, d⟩ := id st';exact ⟨u, rfl, Hv (s := { s with heap := h' }) e c d (by decide) ⟨x, H, I1, ru, ⟨rfl, fun ys hy => by rw [I.WD hy hq]; exact hx⟩, st', fun b hb => (hf b hb).1⟩⟩
 done := by
  intro X hP hw hK hc i pins s O H E I hf st hg;subst hP hw hK;obtain ⟨xs, hq, hx⟩ := hg;obtain ⟨its, rv, p, hz⟩ := I.list hq;obtain ⟨f0, f1, f2, f3, f4, f5⟩ := hf it (by simp);have hl := rv.length;exact wpAny_pyNext_list_end (I.ok.hd hc) st p.isList (by simp; omega) fun h' eb => ⟨rfl, I.turned (t' := s.toks) (fun b o hb e => eb b o hb e) f0 f1 f3 f4 f5⟩
 self := fun _ _ _ _ _ st h => wpAny_pyIter_listiter st h
theorem Eb (a it : Addr) : Turn P w K tg (Itt K a) [it] it (fun i h => h.IsTupleIter it a i) where
 mem := by simp
 obj := fun i h st b hb => by
  have e : b = it := by simpa using hb
  subst e;obtain ⟨o, e, c, d⟩ := st;exact ⟨o, e, fun v z => by rw [d] at z; cases z⟩
 keep := fun i h h' st k => st.at fun o e => k it (by simp) o e
 item := by
  intro X hP hw hK hc i pins s O H E I hf st hg;subst hP hw hK;obtain ⟨xs, x, hq, hx⟩ := hg;obtain ⟨its, rv, p, hz⟩ := I.tuple hq;obtain ⟨u, hu, ru⟩ := rv.get hx;obtain ⟨f0, f1, f2, f3, f4, f5⟩ := hf it (by simp);refine wpAny_pyNext_tuple_item st (show s.heap.IsTuple a its.toArray from p) (x := u) (by simpa using hu) fun h' st' sb => ?_;have I1 : Inv X pins O H { s with heap := h' } := I.turned (t' := s.toks) (fun b o hb e => (sb.2 b hb).trans e) f0 f1 f3 f4 f5;obtain ⟨o, e, c, d⟩ := id st';exact ⟨u, rfl, Hv (s := { s with heap := h' }) e c d (by decide) ⟨x, H, I1, ru, ⟨rfl, fun ys hy => by rw [I.LM hy hq]; exact hx⟩, st', fun b hb => (hf b hb).1⟩⟩
 done := by
  intro X hP hw hK hc i pins s O H E I hf st hg;subst hP hw hK;obtain ⟨xs, hq, hx⟩ := hg;obtain ⟨its, rv, p, hz⟩ := I.tuple hq;obtain ⟨f0, f1, f2, f3, f4, f5⟩ := hf it (by simp);have hl := rv.length;exact wpAny_pyNext_tuple_end (I.ok.hd hc) st (show s.heap.IsTuple a its.toArray from p) (by simp; omega) fun h' eb => ⟨rfl, I.turned (t' := s.toks) (fun b o hb e => eb b o hb e) f0 f1 f3 f4 f5⟩
 self := fun _ _ _ _ _ st h => wpAny_pyIter_tupleiter st h
theorem Ed (it : Addr) (lo : Int) (n : Nat) : Turn P w K tg (Itr lo n) [it] it (fun i h => IsRangeIter h it (lo + (i : Nat) * 1) ((n : Int) - (i : Nat)) 1) where
 mem := by simp
 obj := fun i h st b hb => by
  have e : b = it := by simpa using hb
  subst e
  exact ⟨_, st, fun v z => by
   have z' : Data.fields _ = Data.cell v := z
   cases z'⟩
 keep := fun i h h' st k => k it (by simp) _ st
 item := by
  intro X hP hw hK hc i pins s O H E I hf st hg;subst hP hw hK;obtain ⟨f0, f1, f2, f3, f4, f5⟩ := hf it (by simp);have W := Walks.range (prog := X.prog) (w := X.w) (I.ok.hd hc) it lo 1 n;refine W.item i s _ _ hg st fun v h' tk hv st' kk => ?_;obtain ⟨t, rfl⟩ := hv;have I1 : Inv X pins O H { s with heap := h', toks := tk } := I.turned (fun b o hb e => kk b o (by simpa using hb) e) f0 f1 f3 f4 f5;refine ⟨_, rfl, Hv (s := { s with heap := h', toks := tk }) (n := "range_iterator") st' rfl rfl (by decide) ⟨.int (lo + i), H, I1, ⟨t, ?_⟩, ⟨rfl, rfl⟩, st', fun b hb => (hf b hb).1⟩⟩;rw [Int.mul_one]
 done := by
  intro X hP hw hK hc i pins s O H E I hf st hg;subst hP hw hK;obtain ⟨f0, f1, f2, f3, f4, f5⟩ := hf it (by simp);exact wpAny_pyNext_range_end (I.ok.hd hc) st (by have : n <= i := hg; omega) fun h' eb => ⟨rfl, I.turned (t' := s.toks) (fun b o hb e => eb b o hb e) f0 f1 f3 f4 f5⟩
 self := fun _ _ _ _ _ st h => wpAny_pyIter_rangeiter st h
end L2
namespace L2
section
def Ze4 (K : Fk) (tl : TE) : TI := fun O H R => tl O H fun x H1 => ∃ a, x = .ref a /\ (∃ xs, SqL K H1 a xs) /\ R (Itl K a) H1
def Zif (K : Fk) (tl : TE) : TI := fun O H R => tl O H fun x H1 => ∃ a, x = .ref a /\ (∃ xs, SqT K H1 a xs) /\ R (Itt K a) H1
theorem Lf {l : Expr} {tl : TE} (hl : PE X l tl) : PI X tg l (Ze4 X.K tl) := by
 intro pins s O H R I h;refine thn (hl pins s O H _ I h) fun v s1 ⟨x, H1, I1, r1, q1⟩ => ?_;obtain ⟨a, e, ⟨xs, hq⟩, q⟩ := q1;subst e;cases r1;obtain ⟨its, rv, p, hz⟩ := I1.list hq;refine wpAny_pyIter_list p.isList ?_;refine ⟨s1.heap.objs.size, [s1.heap.objs.size], _, _, H1, rfl, I1.kept (t' := s1.toks) fun b o e => Heap.get?_push_of_some _ e, Ft a _, ⟨_, Heap.get?_push_size _ rfl, rfl, rfl⟩, fun b hb => ?_, q⟩;have e : b = s1.heap.objs.size := by simpa using hb
 subst e;exact I1.Ss (Nat.le_refl _) (I1.hok.fresh (Nat.le_refl _))
theorem ZbD {l : Expr} {tl : TE} (hl : PE X l tl) : PI X tg l (Zif X.K tl) := by
 intro pins s O H R I h;refine thn (hl pins s O H _ I h) fun v s1 ⟨x, H1, I1, r1, q1⟩ => ?_;obtain ⟨a, e, ⟨xs, hq⟩, q⟩ := q1;subst e;cases r1;obtain ⟨its, rv, p, hz⟩ := I1.tuple hq;refine wpAny_pyIter_tuple (show s1.heap.IsTuple a its.toArray from p) ?_;refine ⟨s1.heap.objs.size, [s1.heap.objs.size], _, _, H1, rfl, I1.kept (t' := s1.toks) fun b o e => Heap.get?_push_of_some _ e, Eb a _, ⟨_, Heap.get?_push_size _ rfl, rfl, rfl⟩, fun b hb => ?_, q⟩;have e : b = s1.heap.objs.size := by simpa using hb
 subst e;exact I1.Ss (Nat.le_refl _) (I1.hok.fresh (Nat.le_refl _))
theorem C6 {R : It -> Hp -> Prop} {E : Value -> Shared -> Prop} {lo hi : Int} {t u v : Tok} {tk : Nat} (I : Inv X pins O H s) (h1 : -(2 ^ 62) <= lo) (h2 : lo < 2 ^ 62) (h3 : -(2 ^ 62) <= hi) (h4 : hi < 2 ^ 62)
  (q : R (Itr lo (hi - lo).toNat) H) : wpAny (model X.prog X.w) X.A (pyIter (.ref s.heap.objs.size)) (PIE X pins O tg R) E { s with heap := s.heap.push { cls := .type "range", data := .fields #[.int lo t, .int hi u, .int 1 v] }, toks := tk } := by
 refine wpAny_pyIter_range (IsRange.new ..) (small_one h1 h2 h3 h4) ?_;have I1 : Inv X pins O H { s with heap := s.heap.push { cls := .type "range", data := .fields #[.int lo t, .int hi u, .int 1 v] }, toks := tk } := I.kept fun b o e => Heap.get?_push_of_some _ e
 refine ⟨(s.heap.push { cls := .type "range", data := .fields #[.int lo t, .int hi u, .int 1 v] }).objs.size, [(s.heap.push { cls := .type "range", data := .fields #[.int lo t, .int hi u, .int 1 v] }).objs.size], _, _, H, rfl,
  I1.kept (t' := tk) fun b o e => Heap.get?_push_of_some _ e, Ed _ lo (hi - lo).toNat, ?_, fun b hb => ?_, q⟩
 ·have e1 : lo + ((0 : Nat) : Int) * 1 = lo := by simp
  have e2 : (((hi - lo).toNat : Nat) : Int) - ((0 : Nat) : Int) = Builtin.Range.rangeSize lo hi 1 := by rw [rangeSize_one]; split <;> omega
  show IsRangeIter _ _ (lo + ((0 : Nat) : Int) * 1) ((((hi - lo).toNat : Nat) : Int) - ((0 : Nat) : Int)) 1;rw [e1, e2];exact Heap.get?_push_size _ rfl
 ·have e : b = (s.heap.push { cls := .type "range", data := .fields #[.int lo t, .int hi u, .int 1 v] }).objs.size := by simpa using hb
  subst e;exact I1.Ss (Nat.le_refl _) (I1.hok.fresh (Nat.le_refl _))
def ZfN (ta : TA) : TI := fun O H R => ta O H fun vs H1 => ∃ j : Int, vs = [.int j] /\ -(2 ^ 62) <= j /\ j < 2 ^ 62 /\ R (Itr 0 j.toNat) H1
def Zgl (ta : TA) : TI := fun O H R => ta O H fun vs H1 => ∃ i j : Int, vs = [.int i, .int j] /\ (-(2 ^ 62) <= i /\ i < 2 ^ 62 /\ -(2 ^ 62) <= j /\ j < 2 ^ 62) /\ R (Itr i (j - i).toNat) H1
theorem GB {a : Expr} {ta : TA} {p : Pos} (hg : Gl X "range") (hm : X.mg "range" = none) (ha : PA X [a] ta) (hs : autoParam (starEach [a] X.env = [(false, eval a X.env)]) zz3._auto_1) : PI X tg (.Call (.Name "range" p) [a] [] pos) (ZfN ta) := by
 intro pins s O H R I h;refine Call_ (Vx I hg hm boot_range (PyProof.Rows.callWith_type1 (thn (ha pos pins s O H _ I h) fun us s1 ⟨vs, H1, I1, r1, q1⟩ => ?_) hs rfl));obtain ⟨j, e, q1, q2, q⟩ := q1;subst e;cases r1 with
 | cons r rr =>
  cases rr;obtain ⟨t, rfl⟩ := r;exact call_range_1 (C6 I1 (by omega) (by omega) q1 q2 (by simpa using q))
theorem Fq {a b : Expr} {ta : TA} {p pos : Pos} (hg : Gl X "range") (hm : X.mg "range" = none) (ha : PA X [a, b] ta) (hs : autoParam (starEach [a, b] X.env = [(false, eval a X.env), (false, eval b X.env)]) zz3._auto_1) (hs2 : autoParam (starEach [b] X.env = [(false, eval b X.env)]) zz3._auto_1) :
  PI X tg (.Call (.Name "range" p) [a, b] [] pos) (Zgl ta) := by
 intro pins s O H R I h;refine Call_ (Vx I hg hm boot_range (PyProof.Rows.callWith_type1 (thn (ha pos pins s O H _ I h) fun us s1 ⟨vs, H1, I1, r1, q1⟩ => ?_) (by rw [hs, hs2]) (by rw [hs2]; rfl)));obtain ⟨i, j, e, ⟨q1, q2, q3, q4⟩, q⟩ := q1;subst e;cases r1 with
 | cons r rr =>
  cases rr with
  | cons r' rr =>
   cases rr;obtain ⟨t, rfl⟩ := r;obtain ⟨t', rfl⟩ := r';exact call_range_2 (C6 I1 q1 q2 q3 q4 q)
def Ziw (wi : TI) (g : TG) (tb : TS) : TS := fun D O H => wi O H fun J H1 => ∃ W : Nat -> Nat -> St -> Hp -> Prop, (∃ m, W 0 m O H1) /\ ∀ i m O H, W i m O H ->
 (J.stop i H /\ D.nx O H) \/ (J.go i H /\ ∃ N : St -> Hp -> Prop, (∀ σ' H', N σ' H' -> ∃ m', m' < m /\ W (i + 1) m' σ' H') /\ ∀ x H', J.yld i H x H' -> g x O H' fun σ2 H2 => tb { D with nx := N, ct := N, bk := D.nx } σ2 H2)
noncomputable def UP (fp : List Addr) (h : Heap) : List (Addr × Obj) := fp.filterMap fun b => (h.get? b).map fun o => (b, o)
theorem VX {fp : List Addr} {o : Obj} (hb : b ∈ fp) (e : h.get? b = some o) : (b, o) ∈ UP fp h := List.mem_filterMap.mpr ⟨b, hb, by rw [e]; rfl⟩
theorem LG {fp : List Addr} {p : Addr × Obj} (hp : p ∈ UP fp h) : p.1 ∈ fp /\ h.get? p.1 = some p.2 := by
 obtain ⟨b, hb, e⟩ := List.mem_filterMap.mp hp;cases q : h.get? b with
 | none => rw [q] at e; cases e
 | some o =>
  rw [q] at e;have e' : (b, o) = p := Option.some.inj e;subst e';exact ⟨hb, q⟩
theorem Inv.pinned {fp : List Addr} (I : Inv X pins O H s) (hf : ∀ b ∈ fp, El X pins H b) (ho : ∀ b ∈ fp, ∃ o, s.heap.get? b = some o /\ ∀ v, o.data ≠ .cell v) : Inv X (pins ++ UP fp s.heap) O H s :=
 I.KJ fun p hp => (List.mem_append.mp hp).elim (fun z => I.pin p (List.mem_append_right _ z)) fun z => by
  obtain ⟨hb, e⟩ := LG z;obtain ⟨f0, f1, f2, _⟩ := hf p.1 hb;obtain ⟨o, e', d⟩ := ho p.1 hb;rw [e] at e'; cases e';exact ⟨e, f0, f1, f2, d⟩
theorem Inv.Uh {pl : List (Addr × Obj)} (I : Inv X (pins ++ pl) O H s) : Inv X pins O H s := I.KJ fun p hp => I.pin p (List.mem_append_right _ (List.mem_append_left _ hp))
theorem Hm {body : List Stmt} {wi : TI} {g : TG} {tb : TS} {pos : Pos} (hp : PassesOwn (model X.prog X.w) X.A X.env X.xe) (hc : X.calm = true) (hi : PI X tg iter wi) (hg : PG X tg g) (hb : PSs X body tb)
  (hs : autoParam (∀ x, foldedSetIterable iter X.env x = pure x) zz2._auto_1) : PS X (.For tg iter body [] pos) (Ziw wi g tb) := by
 intro pins s O H D I h;refine wpAny_For (thn (hi pins s O H _ I h) fun v s1 h1 => thn h1 fun itv s2 h2 => ?_) hs;obtain ⟨it, fp, tn, J, H2, e, I2, T, st2, f2, W, ⟨m0, w0⟩, turn⟩ := h2;subst e;have stat : ∀ {H' : Hp}, (∀ b ∈ fp, H' b = none) -> ∀ b ∈ fp, El X pins H' b := fun hn b hb => ⟨hn b hb, (f2 b hb).2⟩;refine codeAny_forLoop_any (fun n s' => ∃ i σ' H', Inv X pins σ' H' s' /\ tn i s'.heap /\ (∀ b ∈ fp, H' b = none) /\ W i n σ' H') ?_ m0 ⟨0, O, H2, I2, st2, fun b hb => (f2 b hb).1, w0⟩;rintro n s3 ⟨i, σ3, H3, I3, st3, fr3, w3⟩
 rcases turn i n σ3 H3 w3 with ⟨stop, qn⟩ | ⟨go, N, hN, step⟩
 ·refine wpAny_passesOwn hp (thn (T.done X rfl rfl rfl hc i pins s3 σ3 H3 X.xe I3 (stat fr3) st3 stop) fun r s4 ⟨hr, I4⟩ => ?_);subst hr;exact wpAny_execs_nil ⟨σ3, H3, I4, qn⟩
 ·refine wpAny_passesOwn hp (thn (T.item X rfl rfl rfl hc i pins s3 σ3 H3 X.xe I3 (stat fr3) st3 go) fun r s4 ⟨u, hr, h4⟩ => ?_);subst hr;refine wpAny_passesOwn hp (thn h4 fun _ s5 ⟨x, H5, I5, r5, y5, st5, fr5⟩ => ?_);have I5' := I5.pinned (stat fr5) (T.obj _ _ st5);refine wpAny_passesOwn hp (thn (hg _ s5 σ3 H5 x u _ I5' r5 (step x H5 y5)) fun _ s6 ⟨σ6, H6, I6, q6⟩ => ?_);refine wpAny_passesOwn hp (thn (hb _ s6 σ6 H6 _ I6 q6) fun f s7 q7 => ?_);have again : ∀ {σ7 : St} {H7 : Hp}, Inv X (pins ++ UP fp s5.heap) σ7 H7 s7 -> N σ7 H7 -> ∃ m, m < n /\ ∃ i σ' H', Inv X pins σ' H' s7 /\ tn i s7.heap /\ (∀ b ∈ fp, H' b = none) /\ W i m σ' H' := fun {σ7 H7} I7 n7 => by
   obtain ⟨m', hm, w7⟩ := hN σ7 H7 n7;refine ⟨m', hm, i + 1, σ7, H7, I7.Uh, T.keep _ _ _ st5 fun b hb o e => (I7.pin (b, o) (List.mem_append_right _ (List.mem_append_right _ (VX hb e)))).1, fun b hb => ?_, w7⟩;obtain ⟨o, e, d⟩ := T.obj _ _ st5 b hb;exact (I7.pin (b, o) (List.mem_append_right _ (List.mem_append_right _ (VX hb e)))).2.1
  cases f with
  | next => obtain ⟨σ7, H7, I7, n7⟩ := q7; exact again I7 n7
  | cont => obtain ⟨σ7, H7, I7, n7⟩ := q7; exact again I7 n7
  | brk => obtain ⟨σ7, H7, I7, q7⟩ := q7; exact ⟨σ7, H7, I7.Uh, q7⟩
  | ret v => obtain ⟨x7, σ7, H7, I7, r7, q7⟩ := q7; exact ⟨x7, σ7, H7, I7.Uh, r7, q7⟩
end
theorem MC {g : TG} {tb : TS} {D : Ends} (Pv : Nat -> St -> Hp -> Prop) (h0 : Pv 0 O H) (hl : ∀ i O H, i <= xs.length -> Pv i O H -> SqL K H a xs)
  (hs : ∀ i x O H, xs[i]? = some x -> Pv i O H -> g x O H fun σ2 H2 => tb { D with nx := Pv (i + 1), ct := Pv (i + 1), bk := D.nx } σ2 H2) (hd : ∀ O H, Pv xs.length O H -> D.nx O H) :
  ∃ W : Nat -> Nat -> St -> Hp -> Prop, (∃ m, W 0 m O H) /\ ∀ i m O H, W i m O H ->
   ((Itl K a).stop i H /\ D.nx O H) \/ ((Itl K a).go i H /\ ∃ N : St -> Hp -> Prop, (∀ σ' H', N σ' H' -> ∃ m', m' < m /\ W (i + 1) m' σ' H') /\ ∀ x H', (Itl K a).yld i H x H' -> g x O H' fun σ2 H2 => tb { D with nx := N, ct := N, bk := D.nx } σ2 H2) := by
 refine ⟨fun i m O H => m = xs.length - i /\ i <= xs.length /\ Pv i O H, ⟨xs.length, by simp, Nat.zero_le _, h0⟩, ?_⟩;rintro i m O H ⟨rfl, hi, p⟩;have q := hl i O H hi p
 by_cases hlt : i < xs.length
 ·refine .inr ⟨⟨xs, xs[i], q, by simp [hlt]⟩, Pv (i + 1), fun σ' H' p' => ⟨xs.length - (i + 1), by omega, rfl, hlt, p'⟩, fun x H' y => ?_⟩;obtain ⟨e, y⟩ := y;subst e;exact hs i x O _ (y xs q) p
 ·have e : i = xs.length := by omega
  subst e;exact .inl ⟨⟨xs, q, Nat.le_refl _⟩, hd O H p⟩
theorem FE {lo : Int} {n : Nat} {g : TG} {tb : TS} {D : Ends} (Pv : Nat -> St -> Hp -> Prop) (h0 : Pv 0 O H)
  (hs : ∀ i O H, i < n -> Pv i O H -> g (.int (lo + i)) O H fun σ2 H2 => tb { D with nx := Pv (i + 1), ct := Pv (i + 1), bk := D.nx } σ2 H2) (hd : ∀ O H, Pv n O H -> D.nx O H) :
  ∃ W : Nat -> Nat -> St -> Hp -> Prop, (∃ m, W 0 m O H) /\ ∀ i m O H, W i m O H ->
   ((Itr lo n).stop i H /\ D.nx O H) \/ ((Itr lo n).go i H /\ ∃ N : St -> Hp -> Prop, (∀ σ' H', N σ' H' -> ∃ m', m' < m /\ W (i + 1) m' σ' H') /\ ∀ x H', (Itr lo n).yld i H x H' -> g x O H' fun σ2 H2 => tb { D with nx := N, ct := N, bk := D.nx } σ2 H2) := by
 refine ⟨fun i m O H => m = n - i /\ i <= n /\ Pv i O H, ⟨n, by simp, Nat.zero_le _, h0⟩, ?_⟩;rintro i m O H ⟨rfl, hi, p⟩
 by_cases hlt : i < n
 ·refine .inr ⟨hlt, Pv (i + 1), fun σ' H' p' => ⟨n - (i + 1), by omega, rfl, hlt, p'⟩, fun x H' y => ?_⟩;obtain ⟨e, y⟩ := y;subst e y;exact hs i O _ hlt p
 ·have e : i = n := by omega
  subst e;exact .inl ⟨Nat.le_refl _, hd O H p⟩
end L2
namespace L2
abbrev R2 := V -> V -> Hp -> VK -> Prop
def OpR (X : Cx) (f : Value -> Value -> Sem Value) (r : R2) : Prop :=
 ∀ (pins : List (Addr × Obj)) (s : Shared) (O : St) (H : Hp) (x y : V) (v u : Value) (Q : VK), Inv X pins O H s -> RelV x v -> RelV y u -> r x y H Q ->
  wpAny (model X.prog X.w) X.A (f v u) (EP X pins O Q) X.xe s
def UnR (X : Cx) (f : Value -> Sem Value) (r : V -> Hp -> VK -> Prop) : Prop :=
 ∀ (pins : List (Addr × Obj)) (s : Shared) (O : St) (H : Hp) (x : V) (v : Value) (Q : VK), Inv X pins O H s -> RelV x v -> r x H Q ->
  wpAny (model X.prog X.w) X.A (f v) (EP X pins O Q) X.xe s
def Vz (X : Cx) (f : Value) (r : List V -> Hp -> VK -> Prop) : Prop :=
 ∀ (pins : List (Addr × Obj)) (s : Shared) (O : St) (H : Hp) (xs : List V) (us : List Value) (Q : VK), Inv X pins O H s -> Vals xs us -> r xs H Q ->
  wpAny (model X.prog X.w) X.A (call f us) (EP X pins O Q) X.xe s
def Zj9 (X : Cx) (r : V -> Hp -> (Bool -> Hp -> Prop) -> Prop) : Prop :=
 ∀ (pins : List (Addr × Obj)) (s : Shared) (O : St) (H : Hp) (x : V) (v : Value) (Q : Bool -> Hp -> Prop), Inv X pins O H s -> RelV x v -> r x H Q ->
  wpAny (model X.prog X.w) X.A (truthy v) (TP X pins O Q) X.xe s
def tOp (r : R2) (ta tb : TE) : TE := fun O H Q => ta O H fun x H1 => tb O H1 fun y H2 => r x y H2 Q
def tUn (r : V -> Hp -> VK -> Prop) (ta : TE) : TE := fun O H Q => ta O H fun x H1 => r x H1 Q
def rI (C : Int -> Int -> Prop) (g : Int -> Int -> V) : R2 := fun x y H Q => ∃ i j, x = .int i /\ y = .int j /\ C i j /\ Q (g i j) H
def rI0 (g : Int -> Int -> V) : R2 := fun x y H Q => ∃ i j, x = .int i /\ y = .int j /\ Q (g i j) H
def rU (g : Int -> V) : V -> Hp -> VK -> Prop := fun x H Q => ∃ i, x = .int i /\ Q (g i) H
section
variable {a b c : Expr} {ta tb tc : TE}
theorem ZfJ (ha : PE X a ta) (hb : PE X b tb) {R : V -> V -> Hp -> Prop} (I : Inv X pins O H s)
  (h : ta O H fun x H1 => tb O H1 fun y H2 => R x y H2) {Q : Value -> Shared -> Prop} {f : Value -> Value -> Sem Value}
  (hf : ∀ v u s2 x y H2, Inv X pins O H2 s2 -> RelV x v -> RelV y u -> R x y H2 -> wpAny (model X.prog X.w) X.A (f v u) Q X.xe s2) :
  wpAny (model X.prog X.w) X.A (eval a X.env) (fun v s₁ => wpAny (model X.prog X.w) X.A (eval b X.env) (fun u s₂ => wpAny (model X.prog X.w) X.A (f v u) Q X.xe s₂) X.xe s₁) X.xe s := by
 refine thn (ha pins s O H _ I h) fun v s1 ⟨x, H1, I1, r1, q1⟩ => ?_;refine thn (hb pins s1 O H1 _ I1 q1) fun u s2 ⟨y, H2, I2, r2, q2⟩ => ?_;exact hf v u s2 x y H2 I2 r1 r2 q2
theorem ZfR {op : Operator} {r : R2} (ho : OpR X (binaryOp op) r) (ha : PE X a ta) (hb : PE X b tb) : PE X (.BinOp a op b pos) (tOp r ta tb) := by
 intro pins s O H Q I h;exact wpAny_BinOp (ZfJ ha hb I h fun v u s2 x y H2 I2 rx ry q => ho pins s2 O H2 x y v u Q I2 rx ry q)
theorem ZgO {op : UnaryOp} {r : V -> Hp -> VK -> Prop} (ho : UnR X (unaryOp op) r) (ha : PE X a ta) : PE X (.UnaryOp op a pos) (tUn r ta) := by
 intro pins s O H Q I h;exact UnaryOp_ (thn (ha pins s O H _ I h) fun v s1 ⟨x, H1, I1, r1, q1⟩ => ho pins s1 O H1 x v Q I1 r1 q1)
theorem opI {f : Value -> Value -> Sem Value} {C : Int -> Int -> Prop} {g : Int -> Int -> Int}
  (rule : ∀ (i j : Int) (t u : Tok) (s : Shared) (Q : Value -> Shared -> Prop) (E : Value -> Shared -> Prop), C i j -> Q (.int (g i j) s.toks) { s with toks := s.toks + 1 } -> wpAny (model X.prog X.w) X.A (f (.int i t) (.int j u)) Q E s) :
  OpR X f (rI C fun i j => .int (g i j)) := by
 intro pins s O H x y v u Q I rx ry h;obtain ⟨i, j, rfl, rfl, hc, q⟩ := h;obtain ⟨t, rfl⟩ := rx;obtain ⟨t', rfl⟩ := ry;exact rule i j t t' s _ _ hc ⟨.int (g i j), H, I.tok _, ⟨_, rfl⟩, q⟩
theorem Zhv {f : Value -> Value -> Sem Value} {g : Int -> Int -> Int}
  (rule : ∀ (i j : Int) (t u : Tok) (s : Shared) (Q : Value -> Shared -> Prop) (E : Value -> Shared -> Prop), Q (.int (g i j) s.toks) { s with toks := s.toks + 1 } -> wpAny (model X.prog X.w) X.A (f (.int i t) (.int j u)) Q E s) :
  OpR X f (rI0 fun i j => .int (g i j)) := by
 intro pins s O H x y v u Q I rx ry h;obtain ⟨i, j, rfl, rfl, q⟩ := h;obtain ⟨t, rfl⟩ := rx;obtain ⟨t', rfl⟩ := ry;exact rule i j t t' s _ _ ⟨.int (g i j), H, I.tok _, ⟨_, rfl⟩, q⟩
theorem ZeQ {f : Value -> Value -> Sem Value} {g : Int -> Int -> Bool}
  (rule : ∀ (i j : Int) (t u : Tok) (s : Shared) (Q : Value -> Shared -> Prop) (E : Value -> Shared -> Prop), Q (.bool (g i j)) s -> wpAny (model X.prog X.w) X.A (f (.int i t) (.int j u)) Q E s) :
  OpR X f (rI0 fun i j => .bl (g i j)) := by
 intro pins s O H x y v u Q I rx ry h;obtain ⟨i, j, rfl, rfl, q⟩ := h;obtain ⟨t, rfl⟩ := rx;obtain ⟨t', rfl⟩ := ry;exact rule i j t t' s _ _ ⟨.bl (g i j), H, I, rfl, q⟩
def ZhV (i j : Int) : Prop := 0 < j /\ j < 1073741824
def Zic (i j : Int) : Prop := j ≠ 0 /\ j.natAbs < 1073741824
def ZgR (i j : Int) : Prop := 0 <= j /\ j <= 1000000 /\ i.natAbs < 2 ^ 64
def ZeP (i j : Int) : Prop := (-(2 ^ 64) < i /\ i < 2 ^ 64) \/ (-(2 ^ 64) < j /\ j < 2 ^ 64)
theorem ZeP.ok {i j : Int} (h : ZeP i j) : IntMulOk i j := by
 rcases h with ⟨h1, h2⟩ | ⟨h1, h2⟩
 ·exact .of_left (intBits_le_64 h1 h2)
 ·exact .of_right (intBits_le_64 h1 h2)
theorem Zbs : OpR X (binaryOp .Add) (rI0 fun i j => .int (i + j)) := Zhv fun _ _ _ _ _ _ _ q => add_int q
theorem Zc6 : OpR X (binaryOp .Sub) (rI0 fun i j => .int (i - j)) := Zhv fun _ _ _ _ _ _ _ q => sub_int q
theorem ZcJ : OpR X (binaryOp .Mult) (rI ZeP fun i j => .int (i * j)) := opI fun _ _ _ _ _ _ _ hc q => mul_int q hc.ok
theorem RM : OpR X (binaryOp .FloorDiv) (rI ZhV fun i j => .int (i / j)) := opI fun i j _ _ _ _ _ hc q => by
 have h1 : (0 : Int) < j := hc.1;have h2 : j < 1073741824 := hc.2;exact floordiv_int (by omega) (by rw [Int.fdiv_eq_ediv_of_nonneg i (by omega)]; exact q) (.inl (PyProof.noPylong_small (by omega)))
theorem Za1 : OpR X (binaryOp .Mod) (rI (fun _ j => 0 < j) fun i j => .int (i % j)) := opI fun i j _ _ _ _ _ hc q => by
 have h1 : (0 : Int) < j := hc;exact mod_int' (by omega) (by rw [Int.fmod_eq_emod_of_nonneg i (by omega)]; exact q)
theorem ZbA : OpR X (binaryOp .Pow) (rI ZgR fun i j => .int (i ^ j.toNat)) := opI fun _ _ _ _ _ _ _ hc q => pow_int_small hc.1 hc.2.1 hc.2.2 q
theorem unI {f : Value -> Sem Value} {g : Int -> Int}
  (rule : ∀ (i : Int) (t : Tok) (s : Shared) (Q : Value -> Shared -> Prop) (E : Value -> Shared -> Prop), Q (.int (g i) s.toks) { s with toks := s.toks + 1 } -> wpAny (model X.prog X.w) X.A (f (.int i t)) Q E s) :
  UnR X f (rU fun i => .int (g i)) := by
 intro pins s O H x v Q I rx h;obtain ⟨i, rfl, q⟩ := h;obtain ⟨t, rfl⟩ := rx;exact rule i t s _ _ ⟨.int (g i), H, I.tok _, ⟨_, rfl⟩, q⟩
theorem ZaO : UnR X (unaryOp .USub) (rU fun i => .int (-i)) := unI fun _ _ _ _ _ q => neg_int q
end
noncomputable def Zhx : V -> V -> Bool
 | .non, .non => true | .non, .int _ => true | .int _, .non => true | .non, .bl _ => true | .bl _, .non => true | .non, .str _ => true | .str _, .non => true
 | .int _, .int _ => true | .bl _, .bl _ => true | .str _, .str _ => true | .byt _, .byt _ => true
 | .int _, .str _ => true | .str _, .int _ => true | .bl _, .str _ => true | .str _, .bl _ => true
 | _, _ => false
def rEq : R2 := fun x y H Q => Zhx x y = true /\ Q (.bl (decide (x = y))) H
def rNe : R2 := fun x y H Q => Zhx x y = true /\ Q (.bl (!decide (x = y))) H
theorem HY {i j : Int} : decide (V.int i = V.int j) = (i == j) := by
 rw [Bool.eq_iff_iff];simp
theorem P7 {i j : Bool} : decide (V.bl i = V.bl j) = (i == j) := by
 rw [Bool.eq_iff_iff];simp
theorem Kw {i j : Str} : decide (V.str i = V.str j) = (i == j) := by
 rw [Bool.eq_iff_iff];simp
theorem Hy {i j : Array UInt8} : decide (V.byt i = V.byt j) = (i.toList == j.toList) := by
 rw [Bool.eq_iff_iff];cases i;cases j;simp
section
variable {a b c : Expr} {ta tb tc : TE}
theorem ZW {Q : VK} {k k' : Bool} (I : Inv X pins O H s) (q : Q (.bl k) H) (e : k = k') : EP X pins O Q (.bool k') s := by
 subst e;exact ⟨.bl k, H, I, rfl, q⟩
theorem ZfX : OpR X (compareOp .Eq) rEq := by
 intro pins s O H x y v u Q I rx ry h;obtain ⟨hs, q⟩ := h;cases x with
 | non =>
  cases rx;cases y with
  | non => cases ry; exact PySem.EqNone.eq_none_none (ZW I q (by simp))
  | bl j => cases ry; exact PySem.EqNone.eq_none_bool (ZW I q (by simp))
  | int j => obtain ⟨t', rfl⟩ := ry; exact PySem.EqNone.eq_none_int (ZW I q (by simp))
  | str j => obtain ⟨t', rfl⟩ := ry; exact PySem.EqNone.eq_none_str (ZW I q (by simp))
  | _ => exact absurd (show false = true from hs) Bool.false_ne_true
 | bl i =>
  cases rx;cases y with
  | non => cases ry; exact PySem.EqNone.eq_bool_none (ZW I q (by simp))
  | bl j => cases ry; exact eq_bool (ZW I q P7)
  | str j => obtain ⟨t', rfl⟩ := ry; exact PySem.EqMixed.eq_bool_str (ZW I q (by simp))
  | _ => exact absurd (show false = true from hs) Bool.false_ne_true
 | int i =>
  obtain ⟨t, rfl⟩ := rx;cases y with
  | non => cases ry; exact PySem.EqNone.eq_int_none (ZW I q (by simp))
  | int j => obtain ⟨t', rfl⟩ := ry; exact eq_int (ZW I q HY)
  | str j => obtain ⟨t', rfl⟩ := ry; exact PySem.EqMixed.eq_int_str (ZW I q (by simp))
  | _ => exact absurd (show false = true from hs) Bool.false_ne_true
 | str i =>
  obtain ⟨t, rfl⟩ := rx;cases y with
  | non => cases ry; exact PySem.EqNone.eq_str_none (ZW I q (by simp))
  | bl j => cases ry; exact PySem.EqMixed.eq_str_bool (ZW I q (by simp))
  | int j => obtain ⟨t', rfl⟩ := ry; exact PySem.EqMixed.eq_str_int (ZW I q (by simp))
  | str j => obtain ⟨t', rfl⟩ := ry; exact eq_str (ZW I q Kw)
  | _ => exact absurd (show false = true from hs) Bool.false_ne_true
 | byt i =>
  obtain ⟨t, rfl⟩ := rx;cases y with
  | byt j => obtain ⟨t', rfl⟩ := ry; exact PySem.W.eq_bytes (ZW I q Hy)
  | _ => exact absurd (show false = true from hs) Bool.false_ne_true
 | _ => cases y <;> exact absurd (show false = true from hs) Bool.false_ne_true
theorem Zdx : OpR X (compareOp .NotEq) rNe := by
 intro pins s O H x y v u Q I rx ry h;obtain ⟨hs, q⟩ := h;cases x with
 | non =>
  cases rx;cases y with
  | non => cases ry; exact PySem.EqNone.ne_none_none (ZW I q (by simp))
  | bl j => cases ry; exact PySem.EqNone.ne_none_bool (ZW I q (by simp))
  | int j => obtain ⟨t', rfl⟩ := ry; exact PySem.EqNone.ne_none_int (ZW I q (by simp))
  | str j => obtain ⟨t', rfl⟩ := ry; exact PySem.EqNone.ne_none_str (ZW I q (by simp))
  | _ => exact absurd (show false = true from hs) Bool.false_ne_true
 | bl i =>
  cases rx;cases y with
  | non => cases ry; exact PySem.EqNone.ne_bool_none (ZW I q (by simp))
  | bl j => cases ry; exact ne_bool (ZW I q (congrArg not P7))
  | str j => obtain ⟨t', rfl⟩ := ry; exact PySem.EqMixed.ne_bool_str (ZW I q (by simp))
  | _ => exact absurd (show false = true from hs) Bool.false_ne_true
 | int i =>
  obtain ⟨t, rfl⟩ := rx;cases y with
  | non => cases ry; exact PySem.EqNone.ne_int_none (ZW I q (by simp))
  | int j => obtain ⟨t', rfl⟩ := ry; exact ne_int (ZW I q (congrArg not HY))
  | str j => obtain ⟨t', rfl⟩ := ry; exact PySem.EqMixed.ne_int_str (ZW I q (by simp))
  | _ => exact absurd (show false = true from hs) Bool.false_ne_true
 | str i =>
  obtain ⟨t, rfl⟩ := rx;cases y with
  | non => cases ry; exact PySem.EqNone.ne_str_none (ZW I q (by simp))
  | bl j => cases ry; exact PySem.EqMixed.ne_str_bool (ZW I q (by simp))
  | int j => obtain ⟨t', rfl⟩ := ry; exact PySem.EqMixed.ne_str_int (ZW I q (by simp))
  | str j => obtain ⟨t', rfl⟩ := ry; exact ne_str (ZW I q (congrArg not Kw))
  | _ => exact absurd (show false = true from hs) Bool.false_ne_true
 | byt i =>
  obtain ⟨t, rfl⟩ := rx;cases y with
  | byt j => obtain ⟨t', rfl⟩ := ry; exact PySem.W.ne_bytes (ZW I q (congrArg not Hy))
  | _ => exact absurd (show false = true from hs) Bool.false_ne_true
 | _ => cases y <;> exact absurd (show false = true from hs) Bool.false_ne_true
theorem ZfE : OpR X (compareOp .Lt) (rI0 fun i j => .bl (decide (i < j))) := ZeQ fun _ _ _ _ _ _ _ q => lt_int q
theorem ZgG : OpR X (compareOp .LtE) (rI0 fun i j => .bl (decide (i <= j))) := ZeQ fun _ _ _ _ _ _ _ q => le_int q
theorem Zfa : OpR X (compareOp .Gt) (rI0 fun i j => .bl (decide (j < i))) := ZeQ fun _ _ _ _ _ _ _ q => gt_int q
theorem ZgQ : OpR X (compareOp .GtE) (rI0 fun i j => .bl (decide (j <= i))) := ZeQ fun _ _ _ _ _ _ _ q => ge_int q
noncomputable def isObj : HO -> Bool
 | .lst _ => true
 | .ins _ _ _ => true
 | _ => false
theorem Ph (b : Expr) {op : CmpOp} (h : autoParam (op ≠ .In) zz1._auto_1) (h2 : autoParam (op ≠ .NotIn) zz1._auto_1) : behindInMarks op b = false := by
 have e1 : (op == CmpOp.In) = false := by cases op <;> first | rfl | exact absurd rfl h
 have e2 : (op == CmpOp.NotIn) = false := by cases op <;> first | rfl | exact absurd rfl h2
 cases b <;> simp [behindInMarks, e1, e2]
theorem Zam {op : CmpOp} {r : R2} (ho : OpR X (compareOp op) r) (ha : PE X a ta) (hb : PE X b tb) (hm : behindInMarks op b = false) : PE X (.Compare a [op] [b] pos) (tOp r ta tb) := by
 intro pins s O H Q I h;exact wpAny_Compare1 (ZfJ ha hb I h fun v u s2 x y H2 I2 rx ry q => ho pins s2 O H2 x y v u Q I2 rx ry q) hm
def Za6 (t : TE) : TT := fun O H Q => t O H fun x H' => ∃ k, x = .bl k /\ Q k H'
theorem Zau {op : CmpOp} {r : R2} (ho : OpR X (compareOp op) r) (ha : PE X a ta) (hb : PE X b tb) (hm : behindInMarks op b = false) : PT X (.Compare a [op] [b] pos) (Za6 (tOp r ta tb)) := by
 intro pins s O H Q I h
 refine wpAny_isTrue_Compare1 (thn (ha pins s O H _ I h) fun v s1 ⟨x, H1, I1, r1, q1⟩ => thn (hb pins s1 O H1 _ I1 q1) fun u s2 ⟨y, H2, I2, r2, q2⟩ =>
  thn (ho pins s2 O H2 x y v u _ I2 r1 r2 q2) fun c s3 ⟨z, H3, I3, r3, k, e, q3⟩ => ?_) hm
 subst e;cases r3;exact wpAny_truthy_bool ⟨H3, I3, q3⟩
def He (r r' : R2) (ta tb tc : TE) : TE := fun O H Q => ta O H fun x H1 => tb O H1 fun y H2 => r x y H2 fun z H3 => ∃ k, z = .bl k /\
 (if k = true then tc O H3 fun w' H4 => r' y w' H4 Q else Q (.bl false) H3)
theorem NT {op op' : CmpOp} {r r' : R2} (ho : OpR X (compareOp op) r) (ho' : OpR X (compareOp op') r') (ha : PE X a ta) (hb : PE X b tb) (hc : PE X c tc)
  (hm : autoParam (lastMarks [op, op'] [b, c] = false) zz4._auto_1) : PE X (.Compare a [op, op'] [b, c] pos) (He r r' ta tb tc) := by
 intro pins s O H Q I h
 refine Compare_chain (thn (ha pins s O H _ I h) fun v s1 ⟨x, H1, I1, r1, q1⟩ => chain_link (thn (hb pins s1 O H1 _ I1 q1) fun u s2 ⟨y, H2, I2, r2, q2⟩ =>
  thn (ho pins s2 O H2 x y v u _ I2 r1 r2 q2) fun d s3 ⟨z, H3, I3, r3, k, e, q3⟩ => ?_)) hm
 subst e;cases r3;refine wpAny_truthy_bool ?_;cases k with
 | false => exact ite_ff ⟨.bl false, H3, I3, rfl, q3⟩
 | true => exact ite_tt (chain_last (thn (hc pins s3 O H3 _ I3 q3) fun w' s4 ⟨z', H4, I4, r4, q4⟩ => ho' pins s4 O H4 y z' u w' Q I4 r2 r4 q4))
theorem OA {op op' : CmpOp} {r r' : R2} (ho : OpR X (compareOp op) r) (ho' : OpR X (compareOp op') r') (ha : PE X a ta) (hb : PE X b tb) (hc : PE X c tc)
  (hm : autoParam (lastMarks [op, op'] [b, c] = false) zz4._auto_1) : PT X (.Compare a [op, op'] [b, c] pos) (Za6 (He r r' ta tb tc)) := by
 intro pins s O H Q I h
 refine isTrue_chain (thn (ha pins s O H _ I h) fun v s1 ⟨x, H1, I1, r1, q1⟩ => test_link (thn (hb pins s1 O H1 _ I1 q1) fun u s2 ⟨y, H2, I2, r2, q2⟩ =>
  thn (ho pins s2 O H2 x y v u _ I2 r1 r2 q2) fun d s3 ⟨z, H3, I3, r3, k, e, q3⟩ => ?_)) hm
 subst e;cases r3;refine wpAny_truthy_bool ?_;cases k with
 | false =>
  obtain ⟨k', e', q'⟩ := q3;cases e';exact ite_ff ⟨H3, I3, q'⟩
 | true =>
  refine ite_tt (test_last (thn (hc pins s3 O H3 _ I3 q3) fun w' s4 ⟨z', H4, I4, r4, q4⟩ => thn (ho' pins s4 O H4 y z' u w' _ I4 r2 r4 q4) fun d' s5 ⟨z2, H5, I5, r5, k2, e2, q5⟩ => ?_));subst e2;cases r5;exact wpAny_truthy_bool ⟨H5, I5, q5⟩
def ZjF (K : Fk) (x : V) (H : Hp) (k : Bool) : Prop :=
 match x with
 | .non => k = false
 | .bl b => k = b
 | .int i => k = (i != 0)
 | .str y => y.length <= sizeLine /\ k = ((y.length : Int) != 0)
 | .byt y => y.size <= sizeLine /\ k = ((y.size : Int) != 0)
 | .ref p => (∃ xs, SqL K H p xs /\ k = !xs.isEmpty) \/ (∃ xs, SqT K H p xs /\ k = !xs.isEmpty) \/ ∃ kvs, H p = some (.dK kvs) /\ k = !kvs.isEmpty
 | _ => False
theorem Wa : (sizeLine : Nat) < 2 ^ 63 := by rw [sizeLine_eq]; decide
theorem DC : OpR X (binaryOp .Add) (fun x y H Q => ∃ i j, x = .str i /\ y = .str j /\ i.length + j.length <= sizeLine /\ Q (.str (i ++ j)) H) := by
 intro pins s O H x y v u Q I rx ry h;obtain ⟨i, j, rfl, rfl, hz, q⟩ := h;obtain ⟨t, rfl⟩ := rx;obtain ⟨t', rfl⟩ := ry;exact add_str (fun t' tk => ⟨.str (i ++ j), H, I.tok _, ⟨_, rfl⟩, q⟩) hz
def ZeC (b : Expr) : Prop := ∀ o i, subscripted b false o i = operate [o, i] (getItem o i)
theorem vals1 {x : V} (r : Vals [x] us) : ∃ u, us = [u] /\ RelV x u := by
 cases r with
 | cons r1 r2 => cases r2; exact ⟨_, rfl, r1⟩
theorem vals2 {x : V} (r : Vals [x, y] us) : ∃ u w', us = [u, w'] /\ RelV x u /\ RelV y w' := by
 cases r with
 | cons r1 r2 =>
  cases r2 with
  | cons r3 r4 => cases r4; exact ⟨_, _, rfl, r1, r3⟩
theorem OF : Vz X (.builtin "abs") (fun xs H Q => ∃ i, xs = [.int i] /\ Q (.int (if i < 0 then -i else i)) H) := by
 intro pins s O H xs us Q I r h;obtain ⟨i, rfl, q⟩ := h;obtain ⟨u, rfl, t, rfl⟩ := vals1 r;exact call_abs_int fun u tk => ⟨.int (if i < 0 then -i else i), H, I.tok _, ⟨_, rfl⟩, q⟩
theorem Hq (hc : X.calm = true) : Vz X (.builtin "max") (fun xs H Q => ∃ i j, xs = [.int i, .int j] /\ Q (.int (if j > i then j else i)) H) := by
 intro pins s O H xs us Q I r h;obtain ⟨i, j, rfl, q⟩ := h;obtain ⟨u, w', rfl, ⟨t, rfl⟩, ⟨t', rfl⟩⟩ := vals2 r;refine max_two_ints (I.ok.hd hc) fun h' tk k => ⟨_, H, I.kept k, ?_, q⟩
 by_cases hj : j > i
 ·rw [if_pos hj, if_pos hj]; exact ⟨_, rfl⟩
 ·rw [if_neg hj, if_neg hj]; exact ⟨_, rfl⟩
theorem Gd : Vz X (.type "str") (fun xs H Q => ∃ i, xs = [.int i] /\ i.natAbs.log2 < 1920 /\ Q (.str (toString i)) H) := by
 intro pins s O H xs us Q I r h;obtain ⟨i, rfl, hz, q⟩ := h;obtain ⟨u, rfl, t, rfl⟩ := vals1 r;exact PySem.P.str_of_int hz ⟨.str _, H, I.tok _, ⟨_, rfl⟩, q⟩
def Zkb (K : Fk) (x : V) (H : Hp) (n : Nat) : Prop :=
 match x with
 | .str y => y.length <= sizeLine /\ n = y.length
 | .byt y => y.size <= sizeLine /\ n = y.size
 | .ref p => (∃ xs, SqL K H p xs /\ n = xs.length) \/ ∃ xs, SqT K H p xs /\ n = xs.length
 | _ => False
end
end L2
namespace L2
structure Zj8 (h : Heap) (x dx C : Addr) (mA : Str -> Option Value) : Prop where
 obj : h.get? x = some (PySem.W.instObj C dx)
 ns : h.Ns1 dx mA
 ne : dx ≠ x
section
variable {prog : Program} {E : Value -> Shared -> Prop} {x dx C : Addr} {mA : Str -> Option Value} {name : Str} {v : Value}
end
noncomputable def Zgf (f : Str) (v : V) : List (Str × V) -> List (Str × V)
 | [] => [(f, v)]
 | (g, x) :: r => if g = f then (g, v) :: r else (g, x) :: Zgf f v r
theorem EK.some_of {o : Option Value} (r : EK (some v) o) : ∃ u, o = some u /\ RelV v u := by
 cases o with
 | none => exact (show False from r).elim
 | some u => exact ⟨u, rfl, r⟩
section
variable {C dx : Addr} {fs fs' : List (Str × V)}
end
structure Cls (K : Fk) (C : Addr) : Prop where
 pg : PySem.W.plainGet K C Str.empty = true
 hd : PySem.W.hasDictIn K C = true
 po : PySem.W.plainOver K C = true
 sa : PySem.W.findIn K (.ref C) "__setattr__" = some (some (.builtin "object.__setattr__"))
theorem Cls.get {C : Addr} (c : Cls K C) (f : Str) : PySem.W.plainGet K C f = true := c.pg
def Hh (K : Fk) (C : Addr) (f : Str) : Prop := PySem.W.findIn K (.ref C) f = some none
structure Con (K : Fk) (C : Addr) (f : Str) (v : V) (u : Value) : Prop where
 at_ : PySem.W.findIn K (.ref C) f = some (some u)
 rel : RelV v u
 get : PySem.W.specialIn K u "__get__" = some none
 cp : PySem.W.copiedNames.contains f = false
structure Meth (K : Fk) (C : Addr) (m : Str) (f : Addr) : Prop where
 at_ : PySem.W.findIn K (.ref C) m = some (some (.ref f))
 fn : PySem.W.isFn K (.ref f) = true
 kp : PySem.W.keepIn K (.ref f) = true
section
variable {C dx : Addr} {fs : List (Str × V)} {f : Str} {E : Value -> Shared -> Prop}
end
def ZjD (K : Fk) (ta : TE) (f : Str) : TE := fun O H Q => ta O H fun x H1 => ∃ a C dx fs v, x = .ref a /\ H1 a = some (.ins C dx fs) /\ Cls K C /\ Hh K C f /\ fs.lookup f = some v /\ Q v H1
def ZjM (K : Fk) (ta : TE) (f : Str) : TE := fun O H Q => ta O H fun x H1 => ∃ a C dx fs v u, x = .ref a /\ H1 a = some (.ins C dx fs) /\ Cls K C /\ Con K C f v u /\ fs.lookup f = none /\ Q v H1
def Zj4 (K : Fk) (ta tv : TE) (f : Str) : TS := fun D O H => tv O H fun y H1 => ta O H1 fun x H2 => ∃ a C dx fs, x = .ref a /\ H2 a = some (.ins C dx fs) /\ Cls K C /\ Hh K C f /\ fs.length < 1000 /\
 D.nx O (upd H2 a (.ins C dx (Zgf f y fs)))
def ZjR (X : Cx) (op : Operator) (rd : V -> V -> Hp -> VK -> Prop) : Prop :=
 ∀ (pins : List (Addr × Obj)) (s : Shared) (O : St) (H : Hp) (x y : V) (u v : Value) (Q : VK), Inv X pins O H s -> RelV x u -> RelV y v -> rd x y H Q -> wpAny (model X.prog X.w) X.A (inplaceOp op u v) (EP X pins O Q) X.xe s
def ZgN (K : Fk) (ta tv : TE) (rd : V -> V -> Hp -> VK -> Prop) (f : Str) : TS := fun D O H => ta O H fun x H1 => ∃ a C dx fs v, x = .ref a /\ H1 a = some (.ins C dx fs) /\ Cls K C /\ Hh K C f /\ fs.lookup f = some v /\
 tv O H1 fun y H2 => rd v y H2 fun z H3 => ∃ dx' fs', H3 a = some (.ins C dx' fs') /\ fs'.length < 1000 /\ D.nx O (upd H3 a (.ins C dx' (Zgf f z fs')))
section
variable {o value : Expr} {f : Str} {pos' tpos : Pos} {ta tv : TE}
def ZjJ : V -> V -> Hp -> VK -> Prop := fun x y H Q => ∃ i j, x = .int i /\ y = .int j /\ Q (.int (i + j)) H
def ZjZ : V -> V -> Hp -> VK -> Prop := fun x y H Q => ∃ i j, x = .int i /\ y = .int j /\ Q (.int (i - j)) H
end
section
variable {E : Value -> Shared -> Prop} {c : Value} {b : Bool}
inductive EN (K : Fk) (H : Hp) : V -> Value -> Prop where
 | non : EN K H .non (.type "NoneType")
 | bl (x : Bool) : EN K H (.bl x) (.type "bool")
 | int (i : Int) : EN K H (.int i) (.type "int")
 | str (x : Str) : EN K H (.str x) (.type "str")
 | flt (x : UInt64) : EN K H (.flt x) (.type "float")
 | lst {a : Addr} {xs : List V} (e : H a = some (.lst xs)) : EN K H (.ref a) (.type "list")
 | frz {a : Addr} {o : Obj} {xs : List V} (e : H a = some (.frz o (.lst xs))) : EN K H (.ref a) (.type "list")
 | tup {a : Addr} {xs : List V} (e : H a = some (.tup xs)) : EN K H (.ref a) (.type "tuple")
 | dK {a : Addr} {kvs : List (Key × V)} (e : H a = some (.dK kvs)) : EN K H (.ref a) (.type "dict")
 | dT {a : Addr} {kvs : List (List Key × V)} (e : H a = some (.dT kvs)) : EN K H (.ref a) (.type "dict")
 | ins {a C dx : Addr} {fs : List (Str × V)} (e : H a = some (.ins C dx fs)) (cl : Cls K C) (ha : PySem.W.findIn K (.ref C) "__class__" = some (some (.builtin "object.__class__")))
   (hn : PySem.W.specialIn K (.builtin "object.__class__") "__get__" = some (some (.builtin "getset_descriptor.__get__"))) (htk : PySem.W.takesIn K (.builtin "object.__class__") = some true)
   (hm : PySem.W.mroIn K C (.type "object") = some true) : EN K H (.ref a) (.ref C)
end
end L2
namespace L2
structure V6 (k : Nat) (A : Around) : Prop where
 hd : A.handled = none
 dp : A.depth + 3 * k + 5 < recursionLimit
 un : A.units + 16 * k + 200 < cLine
 gd : A.guards = some []
theorem V6.mono {k : Nat} (r : V6 k A) (h : j <= k) : V6 j A := ⟨r.hd, by have := r.dp; omega, by have := r.un; omega, r.gd⟩
theorem V6.deeper {k : Nat} (r : V6 (k + 1) A) (env : Env) : V6 k (A.deeper env) :=
 ⟨r.hd, by have := r.dp; show A.depth + 1 + 3 * k + 5 < _; omega, by have := r.un; show A.units + 3 + 16 * k + 200 < _; omega, r.gd⟩
theorem V6.depth {k : Nat} (r : V6 k A) : A.depth < recursionLimit := by have := r.dp; omega
theorem V6.units {k : Nat} (r : V6 k A) : A.units + 64 < cLine := by have := r.un; omega
def Zjl : TA := fun _ H Q => Q [] H
def Zgo (ta : TE) (tr : TA) : TA := fun O H Q => ta O H fun x H1 => tr O H1 fun xs H2 => Q (x :: xs) H2
section
variable {es : List Expr} {te : TE} {t : TA}
theorem Fc : PA X [] Zjl := fun _ _ _ _ H Q I h => Calls.spliced_nil ⟨[], H, I, .nil, h⟩
theorem Bx (ha : PE X e te) (hr : PA X es t) (hs : autoParam (starEach (e :: es) X.env = (false, eval e X.env) :: starEach es X.env) zz3._auto_1) : PA X (e :: es) (Zgo te t) := by
 intro pos pins s O H Q I h;rw [hs];show wpAny _ _ (spliced ((false, eval e X.env) :: backTo pos (starEach es X.env))) _ _ s;refine Calls.spliced_cons (thn (ha pins s O H _ I h) fun u s1 ⟨x, H1, I1, r1, q1⟩ => ?_);exact thn (hr pos pins s1 O H1 _ I1 q1) fun us s2 ⟨xs, H2, I2, r2, q2⟩ => ⟨x :: xs, H2, I2, .cons r1 r2, q2⟩
def Zja (t : TA) : TE := fun O H Q => t O H fun xs H1 => xs.length <= sizeLine /\ ∀ p, H1 p = none -> Q (.ref p) (upd H1 p (.tup xs))
def Zi3 (t : TA) : TE := fun O H Q => t O H fun xs H1 => xs.length <= sizeLine /\ ∀ p, H1 p = none -> Q (.ref p) (upd H1 p (.lst xs))
theorem Zcb {x1} (h : PA X es t) : PE X (.Tuple es x1 pos) (Zja t) := by
 intro pins s O H Q I hq;refine wpAny_Tuple_spliced (thn (h pos pins s O H _ I hq) fun us s1 ⟨xs, H1, I1, r, z, q⟩ => ⟨by rw [<- r.length]; exact z, ?_⟩);have hf : H1 s1.heap.objs.size = none := I1.hok.fresh (Nat.le_refl _);refine ⟨.ref s1.heap.objs.size, upd H1 s1.heap.objs.size (.tup xs), I1.laid (t' := s1.toks) (fun b u e => Heap.get?_push_of_some _ e) (Nat.le_refl _) ?_, rfl, q _ hf⟩;exact ⟨z, us, r, ⟨_, Heap.get?_push_size _ rfl, rfl, _, rfl⟩⟩
theorem P2 (h : PA X es t) : PE X (.List es pos) (Zi3 t) := by
 intro pins s O H Q I hq;refine wpAny_List_spliced (thn (h pos pins s O H _ I hq) fun us s1 ⟨xs, H1, I1, r, z, q⟩ => ⟨by rw [<- r.length]; exact z, ?_⟩);have hf : H1 s1.heap.objs.size = none := I1.hok.fresh (Nat.le_refl _);refine ⟨.ref s1.heap.objs.size, upd H1 s1.heap.objs.size (.lst xs), I1.laid (t' := s1.toks) (fun b u e => Heap.get?_push_of_some _ e) (Nat.le_refl _) ?_, rfl, q _ hf⟩;exact ⟨z, us, 0, r, Heap.get?_push_size _ rfl⟩
end
abbrev Sp := List V -> Hp -> VK -> XK -> Prop
abbrev CXT := List Env -> Hp -> Shared -> XK -> Value -> Shared -> Prop
structure ZeT (P : Program) (w : World) (K : Fk) (mg : Str -> Option Value) (base : Heap) (A : Around) (outer : List Env) (s : Shared) (H : Hp) : Prop where
 frames : A.frames = some outer
 mod : Mod K mg base
 bs : ∀ b o, base.get? b = some o -> s.heap.get? b = some o /\ H b = none
 bsz : base.objs.size <= s.heap.objs.size
 HA : s.heap.FunFrames base outer
 frf : ∀ b ∈ frs outer, H b = none
 hok : HOk P w H s.heap
 bare : AllBare s.gens
def CE (outer : List Env) (P : Program) (w : World) (H : Hp) (s : Shared) (Q : VK) (u : Value) (s' : Shared) : Prop :=
 ∃ v H', s'.os = s.os /\ AllBare s'.gens /\ Un (frs outer) [] H H' s.heap s'.heap /\ HOk P w H' s'.heap /\ RelV v u /\ Q v H'
def CR (CX : CXT) (outer : List Env) (P : Program) (w : World) (H : Hp) (s : Shared) (Q : VK) (E : XK) (r : Result) (s' : Shared) : Prop :=
 match r with
 | .ok (.ret u) => CE outer P w H s Q u s'
 | .ok _ => False
 | .error e => CX outer H s E e s'
structure ZD (P : Program) (w : World) (K : Fk) (mg : Str -> Option Value) (base : Heap) (CX : CXT) (k : Nat) (f : Addr) (fd : FuncData) (ps : List Str) (sp : Sp) : Prop where
 len : ∀ vs H Q E, sp vs H Q E -> vs.length = ps.length
 run : ∀ (A : Around) (outer : List Env) (s : Shared) (H : Hp) (args : Args) (us : List Value) (vs : List V) (Q : VK) (E : XK), V6 k A -> ZeT P w K mg base A outer s H -> BindsTo s fd args (ps.zip us) -> Vals vs us -> sp vs H Q E ->
  codeAny (model P w) A (.call (.ref f) args) (CR CX outer P w H s Q E) s
theorem ZD.imp {base : Heap} {CX : CXT} {k : Nat} {ps : List Str} {sp sp' : Sp} (F : ZD P w K mg base CX k f fd ps sp)
  (h : ∀ vs H Q E, sp' vs H Q E -> sp vs H Q E) : ZD P w K mg base CX k f fd ps sp' :=
 ⟨fun vs H Q E q => F.len vs H Q E (h _ _ _ _ q), fun A outer s H args us vs Q E hr he hb hv hs => F.run A outer s H args us vs Q E hr he hb hv (h _ _ _ _ hs)⟩
section
variable {s' : Shared}
theorem Inv.Zim (I : Inv X pins O H s) : ZeT X.prog X.w X.K X.mg X.base X.A X.stack s H :=
 ⟨I.ok.frames, I.ok.mod, I.bs, Nat.le_trans I.ok.bsz I.sz, I.stack, I.Lv, I.hok, I.bare⟩
theorem Inv.after {Q : VK} (I : Inv X pins O H s) (h : CE X.stack X.prog X.w H s Q u s') : EP X pins O Q u s' := by
 obtain ⟨v, H', os, bare, un, hok, r, q⟩ := h;obtain ⟨hh, g, d, t, os'⟩ := s';obtain rfl : os' = s.os := os;exact ⟨v, H', I.call (h' := hh) (g' := g) (d' := d) (t' := t) (ch := []) un hok bare (fun b z => absurd z (by simp)), r, q⟩
end
def Zfh (sp : Sp) (dvs : List V) (E : XK) (t : TA) : TE := fun O H Q => t O H fun vs H1 => sp (vs ++ dvs) H1 Q E
def Zih (C : Addr) (m : Str) (sp : Sp) (dvs : List V) (E : XK) (ta : TE) (t : TA) : TE := fun O H Q => ta O H fun x H1 => ∃ a dx fs, x = .ref a /\ H1 a = some (.ins C dx fs) /\ fs.lookup m = none /\
 t O H1 fun vs H2 => sp (x :: (vs ++ dvs)) H2 Q E
def Zik (C : Addr) (sp : Sp) (dvs : List V) (E : XK) (t : TA) : TE := fun O H Q => t O H fun vs H1 => ∀ x dx, H1 x = none -> H1 dx = none -> dx ≠ x ->
 sp (.ref x :: (vs ++ dvs)) (upd (upd H1 dx (.own x)) x (.ins C dx [])) (fun v H2 => v = .non /\ Q (.ref x) H2) E
def Binds (K : Fk) (fd : FuncData) (ps : List Str) (ds : List Value) : Prop :=
 ∀ (s : Shared) (us : List Value), K.In s.heap -> (us ++ ds).length = ps.length -> BindsTo s fd ⟨us, []⟩ (ps.zip (us ++ ds))
theorem Binds.all {ps : List Str} (h : ∀ us : List Value, us.length = ps.length -> bindArgs fd ⟨us, []⟩ = pure (ps.zip us)) : Binds K fd ps [] := fun s us _ hl => by
 rw [List.append_nil] at hl ⊢;exact .of_eq (h us hl)
def Passes (CX : CXT) (X : Cx) (E : XK) : Prop := ∀ (pins : List (Addr × Obj)) (O : St) (H : Hp) (s : Shared) (e : Value) (s' : Shared), Inv X pins O H s -> CX X.stack H s E e s' -> X.xe e s'
section
variable {CX : CXT} {k : Nat} {C : Addr} {ps : List Str} {sp : Sp} {dvs : List V} {ds : List Value} {E : XK} {m : Str} {p apos : Pos} {o : Expr} {es : List Expr} {ta : TE} {t : TA}
theorem ZcH {pins : List (Addr × Obj)} {O : St} {H : Hp} {s : Shared} {Q : VK} {us : List Value} {vs : List V} (F : ZD X.prog X.w X.K X.mg X.base CX k f fd ps sp) (hr : V6 k X.A) (hb : Binds X.K fd ps ds) (hd : Vals dvs ds) (hx : Passes CX X E)
  (I : Inv X pins O H s) (r : Vals vs us) (h : sp (vs ++ dvs) H Q E) : wpAny (model X.prog X.w) X.A (call (.ref f) us) (EP X pins O Q) X.xe s := by
 have r2 : Vals (vs ++ dvs) (us ++ ds) := r.append hd;have hl : (us ++ ds).length = ps.length := by rw [<- r2.length]; exact F.len _ _ _ _ h
 refine wpAny_call (codeAny_mono (F.run X.A X.stack s H ⟨us, []⟩ (us ++ ds) (vs ++ dvs) Q E hr I.Zim (hb s us I.kIn hl) r2 h) fun r s' hq => ?_);cases r with
 | error e => exact hx pins O H s e s' I hq
 | ok fl =>
  cases fl with
  | ret u => exact I.after hq
  | next => exact False.elim hq
  | brk => exact False.elim hq
  | cont => exact False.elim hq
theorem SS (F : ZD X.prog X.w X.K X.mg X.base CX k f fd ps sp) (hr : V6 k X.A) (hg : Gl X x) (hm : X.mg x = some (.ref f)) (hk : PySem.W.keepIn X.K (.ref f) = true) (hb : Binds X.K fd ps ds) (hd : Vals dvs ds) (hx : Passes CX X E)
  (ha : PA X (e :: es) t) (hdb : autoParam ((x == ("__debug__" : Str)) = false) zz1._auto_1) (he : autoParam (starEach (e :: es) X.env = (false, eval e X.env) :: starEach es X.env) zz3._auto_1) (hpl : autoParam ((backTo pos (starEach es X.env)).any (·.1) = false) zz3._auto_1) :
  PE X (.Call (.Name x p) (e :: es) [] pos) (Zfh sp dvs E t) := by
 intro pins s O H Q I h;refine wpAny_Call_Name_kw (LV I hg hm ?_ hdb);refine PySem.W.callWith_K (h₀ := X.base) I.ok.mod.kin hk (thn (ha pos pins s O H _ I h) fun us s1 ⟨vs, H1, I1, r, q⟩ => ⟨I1.kIn, ?_⟩) he hpl;exact ZcH F hr hb hd hx I1 r q
structure Mk (K : Fk) (C f : Addr) : Prop where
 makes : PySem.W.makesIn K C = true
 init : PySem.W.findIn K (.ref C) "__init__" = some (some (.ref f))
 fn : PySem.W.isFn K (.ref f) = true
 kp : PySem.W.keepIn K (.ref C) = true
end
def PK (X : Cx) (kws : List Keyword) (t : TA) : Prop :=
 ∀ (pos : Pos) (pins : List (Addr × Obj)) (s : Shared) (O : St) (H : Hp) (Q : List V -> Hp -> Prop), Inv X pins O H s -> t O H Q -> wpAny (model X.prog X.w) X.A (evalAll ((backToKw pos (keywordEach kws X.env)).map (·.2))) (AP X pins O Q) X.xe s
section
variable {CX : CXT} {k : Nat} {C : Addr} {ps : List Str} {sp : Sp} {E : XK} {m : Str} {p apos kpos : Pos} {o : Expr} {es : List Expr} {kws : List Keyword} {te ta : TE} {t tk : TA} {nm : Option Str}
structure Zhw (K : Fk) (fd : FuncData) (ps ks : List Str) (g : List Value -> List Value -> List Value) (gV : List V -> List V -> List V) : Prop where
 to : ∀ (s : Shared) (us ws : List Value), K.In s.heap -> (g us ws).length = ps.length -> BindsTo s fd ⟨us, ks.zip ws⟩ (ps.zip (g us ws))
 rel : ∀ {vs : List V} {us : List Value} {zs : List V} {ws : List Value}, Vals vs us -> Vals zs ws -> Vals (gV vs zs) (g us ws)
def Zh3 (sp : Sp) (gV : List V -> List V -> List V) (E : XK) (t tk : TA) : TE := fun O H Q => t O H fun vs H1 => tk O H1 fun zs H2 => sp (gV vs zs) H2 Q E
variable {g : List Value -> List Value -> List Value} {gV : List V -> List V -> List V}
end
structure Zq (N P : List Str) (sc : Scope) : Prop where
 kind : sc.kind = .function
 co : sc.isCoroutine = false
 gen : sc.isGenerator = false
 nd : N.Nodup
 pre : N.take P.length = P
 par : ∀ x ∈ P, sc.names.lookup x = some .local \/ sc.names.lookup x = some .cell
 nofree : ∀ y ∈ sc.names, y.2 ≠ .free
theorem GJ {kindOf : Str -> Option NameKind} : ∀ {binds : List (Str × Value)} {m : Str -> Option Value}, (∀ v, (x, v) ∉ binds) -> bindL kindOf binds m x = m x
 | [], _, _ => rfl
 | (n, v) :: r, m, h => by
  unfold bindL;rw [GJ fun w hw => h w (List.mem_cons_of_mem _ hw)]
  split
  ·have : x ≠ n := by rintro rfl; exact h v List.mem_cons_self
   simp [this]
  ·rfl
theorem GL {kindOf : Str -> Option NameKind} : ∀ {binds : List (Str × Value)} {m : Str -> Option Value}, (∀ v, (x, v) ∉ binds) -> bindC kindOf binds m x = m x
 | [], _, _ => rfl
 | (n, v) :: r, m, h => by
  unfold bindC;rw [GL fun w hw => h w (List.mem_cons_of_mem _ hw)]
  split
  ·rfl
  ·have : x ≠ n := by rintro rfl; exact h v List.mem_cons_self
   simp [this]
theorem UU {kindOf : Str -> Option NameKind} {v : Value} : ∀ {P : List Str} {vs : List Value} {i : Nat} {m : Str -> Option Value}, P.Nodup -> P[i]? = some x -> vs[i]? = some v -> kindOf x = some .local ->
  bindL kindOf (P.zip vs) m x = some v
 | [], _, _, _, _, h, _, _ => by simp at h
 | _ :: _, [], _, _, _, _, h, _ => by simp at h
 | p :: P, w :: vs, 0, m, nd, h1, h2, hk => by
  simp at h1 h2; subst h1; subst h2;show bindL kindOf ((p, w) :: P.zip vs) m p = _;unfold bindL;rw [GJ fun v hv => (List.nodup_cons.mp nd).1 (List.of_mem_zip hv).1, if_pos hk];simp
 | p :: P, w :: vs, i + 1, m, nd, h1, h2, hk => by
  show bindL kindOf ((p, w) :: P.zip vs) m x = _;unfold bindL;exact UU (i := i) (List.nodup_cons.mp nd).2 (by simpa using h1) (by simpa using h2) hk
theorem Gj {kindOf : Str -> Option NameKind} {v : Value} : ∀ {P : List Str} {vs : List Value} {i : Nat} {m : Str -> Option Value}, P.Nodup -> P[i]? = some x -> vs[i]? = some v -> kindOf x ≠ some .local ->
  bindC kindOf (P.zip vs) m x = some v
 | [], _, _, _, _, h, _, _ => by simp at h
 | _ :: _, [], _, _, _, _, h, _ => by simp at h
 | p :: P, w :: vs, 0, m, nd, h1, h2, hk => by
  simp at h1 h2; subst h1; subst h2;show bindC kindOf ((p, w) :: P.zip vs) m p = _;unfold bindC;rw [GL fun v hv => (List.nodup_cons.mp nd).1 (List.of_mem_zip hv).1, if_neg hk];simp
 | p :: P, w :: vs, i + 1, m, nd, h1, h2, hk => by
  show bindC kindOf ((p, w) :: P.zip vs) m x = _;unfold bindC;exact Gj (i := i) (List.nodup_cons.mp nd).2 (by simpa using h1) (by simpa using h2) hk
noncomputable def start (N : List Str) (vs : List V) : St := vs.map some ++ List.replicate (N.length - vs.length) none
noncomputable def Pj (CX : CXT) (P : Program) (w : World) (K : Fk) (mg : Str -> Option Value) (base : Heap) (N : List Str) (qual : Str) (scope : Scope) (f : Addr) (cd : Value) (A : Around) (outer : List Env) (s : Shared) (H : Hp) (E : XK) : Cx where
 prog := P
 w := w
 K := K
 mg := mg
 base := base
 A := A.deeper (envOfC qual scope s.heap.objs.size f cd)
 N := N
 s₀ := s
 H₀ := H
 env := envOfC qual scope s.heap.objs.size f cd
 outer := outer
 stack := envOfC qual scope s.heap.objs.size f cd :: outer
 ex := []
 calm := true
 fn := fun _ => true
 pn := []
 xe := fun e s' => wpAny (model P w) (A.deeper (envOfC qual scope s.heap.objs.size f cd)) (leaving (envOfC qual scope s.heap.objs.size f cd) e) (fun _ s'' => CX outer H s E e s'') (fun e' s'' => CX outer H s E e' s'') s'
theorem CI {sc : Scope} (h : sc.names.lookup x = some .cell) : ∃ c, (cellsFrom n sc.names []).lookup x = some c := by
 have q := PySem.W.cellsFrom_some sc.names n [] (.inl h);exact Option.isSome_iff_exists.mp q
theorem LW {CX : CXT} {P : Program} {w : World} {K : Fk} {mg : Str -> Option Value} {base : Heap} {N ps : List Str} {qual : Str} {scope : Scope} {f : Addr} {cd : Value} {A : Around} {outer : List Env} {s s1 : Shared} {H : Hp} {E : XK} {us : List Value} {vs : List V}
  (S : Zq N ps scope) (hd : A.handled = none) (e0 : ZeT P w K mg base A outer s H) (hl : vs.length = ps.length) (r : Vals vs us)
  (x : InCallC s s.heap.objs.size (bindL (envOfC qual scope s.heap.objs.size f cd).kindOf (ps.zip us) fun _ => none) (cellsFrom (s.heap.objs.size + 1) scope.names []) (bindC (envOfC qual scope s.heap.objs.size f cd).kindOf (ps.zip us) fun _ => none) s1) :
  Inv (Pj CX P w K mg base N qual scope f cd A outer s H E) [] (start N vs) H s1 := by
 have hpl : ps.length <= N.length := by have := congrArg List.length S.pre; rw [List.length_take] at this; omega
 obtain ⟨h1, tk, rfl, hk⟩ := x.done;have noA : ∀ b : Addr, b ∉ (Pj CX P w K mg base N qual scope f cd A outer s H E).ex := fun b z => absurd (show b ∈ ([] : List Addr) from z) (by simp)
 refine ⟨⟨e0.mod, S.kind, rfl, rfl, Nat.le_refl _, fun y z c h1 h2 => ?_, fun y hy => ?_, fun y c _ h => ?_, fun _ => hd, Around.frames_deeper e0.frames, .inr ⟨rfl, rfl⟩, fun b z => absurd z (noA b), e0.bs, e0.bsz, fun b _ _ => noA b, fun b z => absurd z (noA b), e0.HA, e0.frf⟩,
  rfl, e0.bare, Un.kept hk, ⟨_, x.toInCall.ns, fun i y v h1 h2 h3 => ?_⟩, fun y c h => ⟨_, x.cell y c h⟩, e0.hok.fresh (Nat.le_refl _), fun y c h => ?_, fun p hp => absurd (show p ∈ ([] : List (Addr × Obj)) from hp) (by simp), e0.hok.kept hk, ?_⟩
 ·exact name_of_addr x.apart (PySem.mem_of_lookup h1) (PySem.mem_of_lookup h2)
 ·have hy : scope.names.lookup y = some .cell \/ scope.names.lookup y = some .free := hy
  rcases hy with hy | hy
  ·exact CI hy
  ·exact absurd rfl (S.nofree _ (PySem.mem_of_lookup hy))
 ·exact Nat.le_of_lt (x.above y c (PySem.mem_of_lookup h))
 ·have hi : i < vs.length := by
   unfold start at h2
   by_cases hi : i < vs.length
   ·exact hi
   ·rw [List.getElem?_append_right (by simpa using hi)] at h2;rw [List.getElem?_replicate] at h2
    split at h2 <;> cases h2
  have ha : vs[i]? = some v := by
   unfold start at h2;rw [List.getElem?_append_left (by simpa using hi), List.getElem?_map] at h2;cases e : vs[i]? with
   | none => rw [e] at h2; cases h2
   | some a => rw [e] at h2; cases h2; rfl
  obtain ⟨u, hu, rv⟩ := r.get ha;have hp : ps[i]? = some y := by
   rw [<- S.pre, List.getElem?_take_of_lt (by omega)]; exact h1
  have ndP : ps.Nodup := by rw [<- S.pre]; exact S.nd.sublist (List.take_sublist _ _)
  refine ⟨u, rv, ?_⟩
  rcases S.par y (List.mem_of_getElem? hp) with k | k
  ·exact .inl ⟨k, UU ndP hp hu k⟩
  ·obtain ⟨c, e⟩ := CI (n := s.heap.objs.size + 1) k;refine .inr ⟨.inl k, c, e, ?_⟩;have q := x.cell y c e;rw [Gj ndP hp hu (by show scope.names.lookup y ≠ _; rw [k]; decide)] at q;exact q
 ·exact e0.hok.fresh (Nat.le_of_lt (x.above y c (PySem.mem_of_lookup h)))
 ·unfold start;show _ = N.length;rw [List.length_append, List.length_map, List.length_replicate];omega
theorem Zf7 {CX : CXT} {P : Program} {w : World} {K : Fk} {mg : Str -> Option Value} {base : Heap} {k : Nat} {f : Addr} {name qual : Str} {params : Arguments} {body : List Stmt} {scope : Scope} {dV kV doc pm cdv ct oc : Value} {an od : Option Addr}
  {osl : Array (Option Value)} {N ps : List Str} {sp : Sp} (lk : K.lookup f = some ⟨oc, od, .func (PySem.W.fnOf name qual params body scope dV kV doc pm an cdv ct), osl⟩) (hcd : PySem.W.codeIn K cdv qual = true) (S : Zq N ps scope)
  (len : ∀ vs H Q E, sp vs H Q E -> vs.length = ps.length)
  (hbody : ∀ (A : Around) (outer : List Env) (s : Shared) (H : Hp) (vs : List V) (Q : VK) (E : XK), V6 k (A.deeper (envOfC qual scope s.heap.objs.size f cdv)) -> sp vs H Q E ->
   ∃ t, PSs (Pj CX P w K mg base N qual scope f cdv A outer s H E) body t /\ t { nx := fun _ H' => Q .non H', rt := Q } (start N vs) H) :
  ZD P w K mg base CX (k + 1) f (PySem.W.fnOf name qual params body scope dV kV doc pm an cdv ct) ps sp := by
 refine ⟨len, fun A outer s H args us vs Q E hr e0 hb r hsp => ?_⟩;have hl := len _ _ _ _ hsp;have KX : K.In s.heap := e0.mod.kin.keeps fun b o e => (e0.bs b o e).1;have lim : s.heap.NoLimit := e0.mod.nolimit.keeps fun b o e => (e0.bs b o e).1;have hkind : ∀ y ∈ ps.zip us, scope.names.lookup y.1 = some .local \/ (scope.names.lookup y.1 = some .cell /\ ((cellsFrom (s.heap.objs.size + 1) scope.names []).lookup y.1).isSome = true) := fun ⟨n, v⟩ hy => by
  rcases S.par n (List.of_mem_zip hy).1 with q | q
  ·exact .inl q
  ·exact .inr ⟨q, PySem.W.cellsFrom_some _ _ _ (.inl q)⟩
 refine codeAny_call_function hr.depth (KX _ _ lk) rfl S.co S.gen rfl (PySem.W.codeRec_of KX hcd) (hb _ _ _ _ ?_);refine wpAny_newFunctionEnv_cells S.kind hkind fun env he s1 x => ?_;subst he;refine ⟨lim.keeps x.toInCall.keep, codeAny_func ?_⟩;obtain ⟨t, ht, hq⟩ := hbody A outer s H vs Q E (hr.deeper _) hsp;have I : Inv (Pj CX P w K mg base N qual scope f cdv A outer s H E) [] (start N vs) H s1 := LW S hr.hd e0 hl r x;refine wpAny_mono (ht [] s1 (start N vs) H _ I hq) (fun fl s' hs => ?_) fun e s' hs => hs;have fin : ∀ {σ' : St} {H' : Hp} {v : V} {u : Value}, Inv (Pj CX P w K mg base N qual scope f cdv A outer s H E) [] σ' H' s' -> RelV v u -> Q v H' -> CE outer P w H s Q u s' :=
  fun {σ' H' v u} J rv q => ⟨v, H', J.os, J.bare, J.base, J.hok, rv, q⟩
 cases fl with
 | ret u =>
  obtain ⟨v, σ', H', J, rv, q⟩ := hs;exact fin J rv q
 | next =>
  obtain ⟨σ', H', J, q⟩ := hs;exact fin (v := V.non) (u := Value.none) J rfl q
 | brk =>
  obtain ⟨_, _, _, q⟩ := hs;exact False.elim q
 | cont =>
  obtain ⟨_, _, _, q⟩ := hs;exact False.elim q
end L2
namespace L2
section
variable {p : Pos} {es : List Expr} {t : TA} {id T : String} {r : List V -> Hp -> VK -> Prop}
def tCB (r : List V -> Hp -> VK -> Prop) (t : TA) : TE := fun O H Q => t O H fun vs H1 => r vs H1 Q
theorem NR (hc : Vz X (.builtin id) r) (hg : Gl X x) (hm : X.mg x = none) (hv : bootBuiltins x = some (.builtin id)) (ha : PA X (e :: es) t) (hn : autoParam (x ≠ "__name__") zz1._auto_1) (hdb : autoParam ((x == ("__debug__" : Str)) = false) zz1._auto_1)
  (he : autoParam (starEach (e :: es) X.env = (false, eval e X.env) :: starEach es X.env) zz3._auto_1) (hpl : autoParam ((backTo pos (starEach es X.env)).any (·.1) = false) zz3._auto_1) : PE X (.Call (.Name x p) (e :: es) [] pos) (tCB r t) := by
 intro pins s O H Q I h;refine wpAny_Call_Name_kw (Vx I hg hm hv ?_ hn hdb);exact PyProof.Rows.callWith_builtin1 (thn (ha pos pins s O H _ I h) fun us s1 ⟨vs, H1, I1, r1, q1⟩ => hc pins s1 O H1 vs us Q I1 r1 q1) he hpl
theorem LD (hc : Vz X (.type T) r) (hg : Gl X x) (hm : X.mg x = none) (hv : bootBuiltins x = some (.type T)) (ha : PA X (e :: es) t) (hn : autoParam (x ≠ "__name__") zz1._auto_1) (hdb : autoParam ((x == ("__debug__" : Str)) = false) zz1._auto_1)
  (he : autoParam (starEach (e :: es) X.env = (false, eval e X.env) :: starEach es X.env) zz3._auto_1) (hpl : autoParam ((backTo pos (starEach es X.env)).any (·.1) = false) zz3._auto_1) : PE X (.Call (.Name x p) (e :: es) [] pos) (tCB r t) := by
 intro pins s O H Q I h;refine wpAny_Call_Name_kw (Vx I hg hm hv ?_ hn hdb);exact PyProof.Rows.callWith_type1 (thn (ha pos pins s O H _ I h) fun us s1 ⟨vs, H1, I1, r1, q1⟩ => hc pins s1 O H1 vs us Q I1 r1 q1) he hpl
end
end L2
namespace HT
noncomputable def lexLt : List Int -> List Int -> Bool
 | [], [] => false
 | [], _ :: _ => true
 | _ :: _, [] => false
 | x :: xs, y :: ys => if x = y then lexLt xs ys else decide (x < y)
section
open PySem.SeqAt
open PySem.AutoSeq1 (wpAny_loadPart')
open PySem.MeetsSeq PySem.MeetsSeq2 PySem.MeetsSeq3
end
section
variable {prog : Program} {E : Value -> Shared -> Prop}
theorem R9 {t : Addr} {vs ws : List Value} {Q : Value -> Shared -> Prop} (ht : IsTup s.heap t vs.toArray) (hb : IsTup s.heap b ws.toArray) (hv : vs ≠ [])
  (h1 : ws = [] -> Q (.ref t) s) (h2 : ws ≠ [] -> Q (.ref s.heap.objs.size) { s with heap := s.heap.push { cls := .type "tuple", data := .seq (vs ++ ws).toArray } })
  (hsz : vs.length + ws.length <= sizeLine) : wpAny (model prog w) A (binaryOp .Add (.ref t) (.ref b)) Q E s := by
 obtain ⟨⟨cls, dd, data, sl⟩, ho, hc, n, hd⟩ := id ht;obtain ⟨⟨cls2, dd2, data2, sl2⟩, ho2, hc2, n2, hd2⟩ := id hb;simp only at hc hd hc2 hd2;subst hc hd hc2 hd2;have e : vs.toArray ++ ws.toArray = (vs ++ ws).toArray := by simp
 by_cases hw : ws = []
 ·exact concat_meets ⟨_, ho, rfl⟩ ⟨_, ho2, rfl⟩ noFill_tuple_add seq_tuple_add PySem.F.slot_tuple_add PySem.F.entry_tuple_add (PySem.F.args_tuple_add_2 _ _)
   (tuple_addW1 t b vs.toArray ws.toArray n n2 dd dd2 sl sl2 (by simpa using hv) (by simp [hw])) ⟨ho, ho2, h1 hw⟩
 ·refine concat_meets ⟨_, ho, rfl⟩ ⟨_, ho2, rfl⟩ noFill_tuple_add seq_tuple_add PySem.F.slot_tuple_add PySem.F.entry_tuple_add (PySem.F.args_tuple_add_2 _ _)
   (tuple_addW2 t b vs.toArray ws.toArray n n2 dd dd2 sl sl2 (by simpa using hv) (by simpa using hw) (by rw [List.size_toArray, List.size_toArray]; exact hsz)) ⟨ho, ho2, ?_⟩
  rw [e];exact h2 hw
noncomputable def sIx (n d : Nat) : Option Int -> Nat
 | none => d
 | some v => if v < 0 then (v + (n : Int)).toNat else min v.toNat n
theorem Ul (n d : Nat) : sIx n d none = d := rfl
theorem SY (n d k : Nat) : sIx n d (some (k : Int)) = min k n := by
 show (if (k : Int) < 0 then ((k : Int) + (n : Int)).toNat else min (k : Int).toNat n) = min k n;rw [if_neg (by omega), Int.toNat_natCast]
theorem K4 (n d : Nat) (hd : d <= n) (o : Option Int) : sIx n d o <= n := by
 cases o with
 | none => exact hd
 | some v =>
  show (if v < 0 then (v + (n : Int)).toNat else min v.toNat n) <= n
  by_cases hv : v < 0
  ·rw [if_pos hv]; omega
  ·rw [if_neg hv]; exact Nat.min_le_right _ _
theorem BU (v : Int) (n d : Nat) : (if v < 0 then max (v + (n : Int)) 0 else min v (n : Int)) = ((sIx n d (some v) : Nat) : Int) := by
 show (if v < 0 then max (v + (n : Int)) 0 else min v (n : Int)) = (((if v < 0 then (v + (n : Int)).toNat else min v.toNat n) : Nat) : Int)
 by_cases hv : v < 0
 ·simp only [if_pos hv]; omega
 ·simp only [if_neg hv]; omega
theorem DH (lo hi : Option Int) (n : Nat) : Builtin.Slice.sliceAdjust lo hi 1 (n : Int) = (((sIx n 0 lo : Nat) : Int), ((sIx n n hi : Nat) : Int)) := by
 have h1 : ¬ ((1 : Int) < 0) := by omega
 unfold Builtin.Slice.sliceAdjust;simp only [h1, if_false];refine Prod.ext ?_ ?_
 ·cases lo with
  | none => rfl
  | some v => exact BU v n 0
 ·cases hi with
  | none => rfl
  | some v => exact BU v n n
theorem ED (i j : Nat) : Builtin.Slice.slicePlaces (i : Int) (j : Int) 1 = j - i := by
 unfold Builtin.Slice.slicePlaces;have h1 : (1 : Int) > 0 := by omega
 simp only [h1, if_true, Int.ediv_one]
 split <;> omega
theorem We {v : Value} {o : Option Int} {Q : Option Int -> Shared -> Prop} (p : IsPart v o) (h : Q o s) : wpAny (model prog w) A (Builtin.Slice.slicePartIndex v) Q E s := by
 cases p with
 | none => exact slicePart_none h
 | int i t => exact slicePart_int h
theorem Vv {sl : Addr} {vl vu : Value} {lo hi : Option Int} {n : Nat} {Q : Int × Int × Nat -> Shared -> Prop} (hs : s.heap.IsSliceOf sl vl vu .none) (pl : IsPart vl lo) (pu : IsPart vu hi)
  (h : Q (((sIx n 0 lo : Nat) : Int), 1, sIx n n hi - sIx n 0 lo) s) : wpAny (model prog w) A (Builtin.Slice.sliceApplied (.ref sl) (pure (n : Int))) Q E s := by
 obtain ⟨os, hos, hcs, hds⟩ := id hs;unfold Builtin.Slice.sliceApplied Builtin.Slice.sliceFields;refine wpAny_bind (wpAny_bind (wpAny_field hos hds (x := vl) rfl (wpAny_bind (wpAny_field hos hds (x := vu) rfl (wpAny_bind (wpAny_field hos hds (x := .none) rfl (wpAny_pure ?_)))))));refine wpAny_bind (slicePart_none ?_);show wpAny _ _ (if ((1 : Int) == 0) = true then _ else _) _ _ s;rw [if_neg (by decide)];refine wpAny_bind (We pl (wpAny_bind (We pu (wpAny_bind (wpAny_pure ?_)))));show wpAny _ _ (match Builtin.Slice.sliceAdjust lo hi 1 (n : Int) with | (lo, hi) => pure (lo, (1 : Int), Builtin.Slice.slicePlaces lo hi 1)) _ _ s;rw [DH lo hi n];show wpAny _ _ (pure (((sIx n 0 lo : Nat) : Int), (1 : Int), Builtin.Slice.slicePlaces ((sIx n 0 lo : Nat) : Int) ((sIx n n hi : Nat) : Int) 1)) _ _ s;rw [ED];exact wpAny_pure h
theorem OT (xs : Array Value) (i k : Nat) : ((List.range k).filterMap fun (m : Nat) => xs[((i : Int) + (m : Int) * 1).toNat]?).toArray = ((xs.toList.drop i).take k).toArray := by
 have e : (fun (m : Nat) => xs[((i : Int) + (m : Int) * 1).toNat]?) = fun m => xs[i + m]? := by
  funext m
  have : ((i : Int) + (m : Int) * 1).toNat = i + m := by omega
  rw [this]
 rw [e];have := pick_run xs i k;rw [List.filterMap_map] at this;have e2 : ((fun x => xs[x]?) ∘ fun x => i + x) = fun m => xs[i + m]? := rfl;rw [e2] at this;rw [this]
theorem Xt {t sl : Addr} {items : Array Value} {vl vu : Value} {lo hi : Option Int} {Q : Value -> Shared -> Prop} (ht : IsTup s.heap t items) (hs : s.heap.IsSliceOf sl vl vu .none) (pl : IsPart vl lo) (pu : IsPart vu hi)
  (hw : ¬ (sIx items.size 0 lo = 0 /\ sIx items.size items.size hi = items.size))
  (h : Q (.ref s.heap.objs.size) { s with heap := s.heap.push { cls := .type "tuple", data := .seq ((items.toList.drop (sIx items.size 0 lo)).take (sIx items.size items.size hi - sIx items.size 0 lo)).toArray } })
  (hsz : items.size <= sizeLine) : wpAny (model prog w) A (getItem (.ref t) (.ref sl)) Q E s := by
 have htake : sizeOk (.seq ((items.toList.drop (sIx items.size 0 lo)).take (sIx items.size items.size hi - sIx items.size 0 lo)).toArray) := by
  show ((items.toList.drop (sIx items.size 0 lo)).take (sIx items.size items.size hi - sIx items.size 0 lo)).toArray.size <= sizeLine;rw [List.size_toArray, List.length_take, List.length_drop, Array.length_toList];omega
 have hj : sIx items.size items.size hi <= items.size := K4 _ _ (Nat.le_refl _) hi;obtain ⟨os, hos, hcs, hds⟩ := id hs;have hTs : s.TypeIs (.ref sl) "slice" := ⟨os, hos, hcs⟩
 unfold getItem
 try with_reducible refine wpAny_holding ?_
 first | refine wpAny_bind (wpAny_pure ?_) | skip
 refine wpAny_bind (wpAny_sequenceKey ht.typeIs (by decide) ?_)
 refine wpAny_bind (wpAny_callSpecial?_slot (name := Str.ofString "__getitem__") ht.typeIs PyProof.Rows.slot_tuple_getitem
  (wpAny_call_entry PyProof.Rows.slot_tuple_getitem ht.typeIs entry_tuple_getitem ?_ (args_tuple_getitem _ _)))
 show wpAny _ _ (Builtin.Tuple.tupleItemsOf (.ref t) >>= _) _ _ s;refine wpAny_bind (tupleItemsOf_ ht ?_);refine wpAny_bind (wpAny_typeOf hTs ?_);rw [if_pos (by decide)];refine wpAny_bind (Vv hs pl pu ?_);have hno : ¬ ((((sIx items.size 0 lo : Nat) : Int) == 0 && (1 : Int) == 1 && (sIx items.size items.size hi - sIx items.size 0 lo) == items.size) = true) := by
  intro q;rw [Bool.and_eq_true, Bool.and_eq_true] at q;have q1 : ((sIx items.size 0 lo : Nat) : Int) = 0 := eq_of_beq q.1.1;have q2 : sIx items.size items.size hi - sIx items.size 0 lo = items.size := eq_of_beq q.2;exact hw ⟨by omega, by omega⟩
 show wpAny _ _ (if (((sIx items.size 0 lo : Nat) : Int) == 0 && (1 : Int) == 1 && (sIx items.size items.size hi - sIx items.size 0 lo) == items.size) = true then _ else _) _ _ s;rw [if_neg hno, OT]
 first
  | exact wpAny_bind (m := Builtin.Tuple.tupleExact _) (wpAny_newObj_type (wpAny_pure ⟨_, rfl, wpAny_pure h⟩) htake)
  | exact wpAny_bind (m := Builtin.Tuple.tupleExact _) (wpAny_newObj_type (wpAny_bind (wpAny_pure (wpAny_pure ⟨_, rfl, wpAny_pure h⟩))) htake)
  | exact wpAny_bind (wpAny_bind (m := Builtin.Tuple.tupleExact _) (wpAny_newObj_type (wpAny_pure (wpAny_pure ⟨_, rfl, wpAny_pure h⟩)) htake))
  | exact wpAny_bind (wpAny_bind (m := Builtin.Tuple.tupleExact _) (wpAny_newObj_type (wpAny_pure ⟨_, rfl, wpAny_pure h⟩) htake))
end
end HT
namespace L2
abbrev TO := St -> Hp -> (Option Int -> Hp -> Prop) -> Prop
def PO (X : Cx) (e : Option Expr) (t : TO) : Prop :=
 ∀ (pins : List (Addr × Obj)) (s : Shared) (O : St) (H : Hp) (Q : Option Int -> Hp -> Prop), Inv X pins O H s -> t O H Q ->
  wpAny (model X.prog X.w) X.A (evalPart e X.env) (fun u s' => ∃ o H', Inv X pins O H' s' /\ IsPart u o /\ Q o H') X.xe s
def Rq : TO := fun _ H Q => Q none H
def Zfm (t : TE) : TO := fun O H Q => t O H fun x H1 => ∃ i, x = .int i /\ Q (some i) H1
theorem intsAre_of {ns : List Int} : ∀ {us : List Value}, Vals (ns.map V.int) us -> IntsAre us ns := by
 induction ns with
 | nil => intro us r; rw [List.map_nil] at r; cases r; exact .nil
 | cons n ns ih =>
  intro us r;rw [List.map_cons] at r;cases r with
  | cons r1 r2 =>
   obtain ⟨t, e⟩ := r1;subst e;exact .cons n t (ih r2)
section
variable {te : TE} {lo hi : Option Expr} {tl th : TO}
theorem So : PO X none Rq := by
 intro pins s O H Q I h;rw [evalPart_none];exact wpAny_pure ⟨none, H, I, .none, h⟩
theorem TN (h : PE X e te) : PO X (some e) (Zfm te) := by
 intro pins s O H Q I hw;rw [evalPart_some];refine thn (h pins s O H _ I hw) fun u s1 ⟨x, H1, I1, r1, q1⟩ => ?_;obtain ⟨i, rfl, q⟩ := q1;obtain ⟨t, rfl⟩ := r1;exact ⟨some i, H1, I1, .int i t, q⟩
def SlR (X : Cx) (r : V -> Option Int -> Option Int -> Hp -> VK -> Prop) : Prop :=
 ∀ (pins : List (Addr × Obj)) (s : Shared) (O : St) (H : Hp) (x : V) (v vl vu : Value) (lo hi : Option Int) (sl : Addr) (Q : VK), Inv X pins O H s -> RelV x v -> s.heap.IsSliceOf sl vl vu .none -> IsPart vl lo -> IsPart vu hi -> r x lo hi H Q ->
  ∃ T id, typeLookup (.type T) "__getitem__" = pure (some (.builtin id)) /\ s.TypeIs v T /\ wpAny (model X.prog X.w) X.A (getItem v (.ref sl)) (EP X pins O Q) X.xe s
theorem SlR.or {r r' : V -> Option Int -> Option Int -> Hp -> VK -> Prop} (h : SlR X r) (h' : SlR X r') : SlR X (fun x lo hi H Q => r x lo hi H Q \/ r' x lo hi H Q) := by
 intro pins s O H x v vl vu lo hi sl Q I rx hs pl pu q
 rcases q with q | q
 ·exact h pins s O H x v vl vu lo hi sl Q I rx hs pl pu q
 ·exact h' pins s O H x v vl vu lo hi sl Q I rx hs pl pu q
def tSl (r : V -> Option Int -> Option Int -> Hp -> VK -> Prop) (te : TE) (tl th : TO) : TE := fun O H Q => te O H fun x H1 => tl O H1 fun l H2 => th O H2 fun u H3 => r x l u H3 Q
theorem WN {r : V -> Option Int -> Option Int -> Hp -> VK -> Prop} (hr : SlR X r) (he : PE X e te) (hl : PO X lo tl) (hu : PO X hi th) : PE X (.Subscript e (.Slice lo hi none p2) pos) (tSl r te tl th) := by
 intro pins s O H Q I h;refine Subscript_ (thn (he pins s O H _ I h) fun v s1 ⟨x, H1, I1, r1, q1⟩ => ?_);refine wpAny_Slice (thn (hl pins s1 O H1 _ I1 q1) fun vl s2 ⟨l, H2, I2, pl, q2⟩ => thn (hu pins s2 O H2 _ I2 q2) fun vu s3 ⟨u, H3, I3, pu, q3⟩ => ?_);rw [evalPart_none];refine wpAny_pure ?_;have I4 : Inv X pins O H3 { s3 with heap := s3.heap.push { cls := .type "slice", data := .fields #[vl, vu, .none] } } := I3.kept (t' := s3.toks) fun b ob q => Heap.get?_push_of_some _ q;obtain ⟨T, id, hT, ht, hg⟩ := hr pins { s3 with heap := s3.heap.push { cls := .type "slice", data := .fields #[vl, vu, .none] } } O H3 x v vl vu l u s3.heap.objs.size Q I4 r1 (Heap.IsSliceOf.new ..) pl pu q3;show wpAny (model X.prog X.w) X.A (subscriptTail e (.Slice lo hi none p2) v (.ref s3.heap.objs.size)) (EP X pins O Q) X.xe { s3 with heap := s3.heap.push { cls := .type "slice", data := .fields #[vl, vu, .none] } };exact tail_any (ops := [.ref s3.heap.objs.size, v]) ht hT hg (by with_unfolding_all rfl)
noncomputable def Pf (xs : List V) (lo hi : Option Int) : List V := (xs.drop (HT.sIx xs.length 0 lo)).take (HT.sIx xs.length xs.length hi - HT.sIx xs.length 0 lo)
theorem X1 (xs : List V) (lo hi : Option Int) : (Pf xs lo hi).length <= xs.length := by
 unfold Pf;rw [List.length_take, List.length_drop];omega
def ZiX (K : Fk) : V -> Option Int -> Option Int -> Hp -> VK -> Prop := fun x lo hi H Q => ∃ a xs, x = .ref a /\ SqT K H a xs /\
 ¬ (HT.sIx xs.length 0 lo = 0 /\ HT.sIx xs.length xs.length hi = xs.length) /\ ∀ p, H p = none -> Q (.ref p) (upd H p (.tup (Pf xs lo hi)))
theorem Zch : SlR X (ZiX X.K) := by
 intro pins s O H x v vl vu lo hi sl Q I rx hs pl pu h;obtain ⟨a, xs, rfl, hx, hw, q⟩ := h;cases rx;obtain ⟨its, r, ht, hz⟩ := I.tuple hx;have hlen : its.toArray.size = xs.length := by rw [List.size_toArray]; exact r.length.symm
 refine ⟨"tuple", _, PyProof.Rows.slot_tuple_getitem.lookup, ht.typeIs, ?_⟩;refine HT.Xt ht hs pl pu (by rw [hlen]; exact hw) ?_ (by rw [hlen]; exact hz);rw [hlen];refine ⟨.ref s.heap.objs.size, _, I.laid (t' := s.toks) (o := .tup (Pf xs lo hi)) (fun b ob q => Heap.get?_push_of_some _ q) (Nat.le_refl _) ?_, rfl, q _ (I.hok.fresh (Nat.le_refl _))⟩;exact ⟨Nat.le_trans (X1 xs lo hi) hz, _, (r.drop (HT.sIx xs.length 0 lo)).take (HT.sIx xs.length xs.length hi - HT.sIx xs.length 0 lo), IsTup.new _ _⟩
def Zka (K : Fk) : R2 := fun x y H Q => ∃ a b ns ms, x = .ref a /\ y = .ref b /\ SqT K H a (ns.map V.int) /\ SqT K H b (ms.map V.int) /\ Q (.bl (HT.lexLt ns ms)) H
def Zgw (K : Fk) : R2 := fun x y H Q => ∃ a b xs ys, x = .ref a /\ y = .ref b /\ SqT K H a xs /\ SqT K H b ys /\ xs ≠ [] /\ xs.length + ys.length <= sizeLine /\
 (ys = [] -> Q (.ref a) H) /\ (ys ≠ [] -> ∀ p, H p = none -> Q (.ref p) (upd H p (.tup (xs ++ ys))))
theorem Vals.WX (r : Vals xs us) : us = [] ↔ xs = [] := by
 cases r with
 | nil => simp
 | cons _ _ => simp
theorem Tv : OpR X (binaryOp .Add) (Zgw X.K) := by
 intro pins s O H x y v u Q I rx ry h;obtain ⟨a, b, xs, ys, rfl, rfl, ha, hb, hx, hz, q1, q2⟩ := h;cases rx;cases ry;obtain ⟨its, r1, p1, _⟩ := I.tuple ha;obtain ⟨its2, r2, p2, _⟩ := I.tuple hb;refine HT.R9 p1 p2 (fun z => hx (r1.WX.mp z)) (fun z => ⟨.ref a, H, I, rfl, q1 (r2.WX.mp z)⟩) (fun z => ?_) (by rw [<- r1.length, <- r2.length]; exact hz);refine ⟨.ref s.heap.objs.size, _, I.laid (t' := s.toks) (o := .tup (xs ++ ys)) (fun b ob q => Heap.get?_push_of_some _ q) (Nat.le_refl _) ?_, rfl, q2 (fun w => z (r2.WX.mpr w)) _ (I.hok.fresh (Nat.le_refl _))⟩;exact ⟨by rw [List.length_append]; exact hz, _, r1.append r2, IsTup.new _ _⟩
end
end L2
namespace L2
noncomputable def ixN (n : Nat) (i : Int) : Option Nat := if 0 <= i then (if i < n then some i.toNat else none) else if -(n : Int) <= i then some (i + n).toNat else none
noncomputable def atI {α : Type} (xs : List α) (i : Int) : Option α := (ixN xs.length i).bind fun j => xs[j]?
theorem LN {i : Int} (h : ixN n i = some j) : seqIndex? i n = some j /\ j < n /\ -(n : Int) <= i /\ i < n := by
 unfold ixN at h
 by_cases h0 : 0 <= i
 ·rw [if_pos h0] at h
  by_cases h1 : i < n
  ·rw [if_pos h1] at h;have e : i.toNat = j := Option.some.inj h;exact ⟨by rw [seqIndex_of h0 h1, e], by omega, by omega, h1⟩
  ·rw [if_neg h1] at h; cases h
 ·rw [if_neg h0] at h
  by_cases h1 : -(n : Int) <= i
  ·rw [if_pos h1] at h;have e : (i + n).toNat = j := Option.some.inj h;exact ⟨by rw [seqIndex_neg (by omega) h1, e], by omega, h1, by omega⟩
  ·rw [if_neg h1] at h; cases h
theorem Bp {α : Type} {xs : List α} {i : Int} {v : α} (h : atI xs i = some v) : ∃ j, seqIndex? i xs.length = some j /\ xs[j]? = some v /\ j < xs.length /\ -(xs.length : Int) <= i /\ i < xs.length := by
 unfold atI at h;cases e : ixN xs.length i with
 | none => rw [e] at h; cases h
 | some j =>
  rw [e] at h;obtain ⟨h1, h2, h3, h4⟩ := LN e;exact ⟨j, h1, h, h2, h3, h4⟩
theorem Vj {α : Type} {xs : List α} {j : Nat} {v : α} (h : xs[j]? = some v) : atI xs (j : Int) = some v := by
 have hj : j < xs.length := (List.getElem?_eq_some_iff.mp h).1;have e : ixN xs.length (j : Int) = some j := by
  unfold ixN;rw [if_pos (by omega), if_pos (by omega)]; simp
 unfold atI; rw [e]; exact h
def BI (b : Expr) : Prop := ∀ o i, subscripted b false o i = operate [o, i] (getItem o i)
def IxR (X : Cx) (r : R2) : Prop :=
 ∀ (value slice : Expr) (pins : List (Addr × Obj)) (s : Shared) (O : St) (H : Hp) (x y : V) (v u : Value) (Q : VK), Inv X pins O H s -> RelV x v -> RelV y u -> r x y H Q ->
  subscripted slice false v u = operate [v, u] (getItem v u) -> wpAny (model X.prog X.w) X.A (subscriptTail value slice v u) (EP X pins O Q) X.xe s
def MtR (X : Cx) (id : String) (r : V -> List V -> Hp -> VK -> Prop) : Prop :=
 ∀ (pins : List (Addr × Obj)) (s : Shared) (O : St) (H : Hp) (x : V) (xs : List V) (v : Value) (us : List Value) (Q : VK), Inv X pins O H s -> RelV x v -> Vals xs us -> r x xs H Q ->
  wpAny (model X.prog X.w) X.A (call (.builtin id) (v :: us)) (EP X pins O Q) X.xe s
section
variable {a b : Expr} {ta tb : TE}
theorem IxR.or {r r' : R2} (h : IxR X r) (h' : IxR X r') : IxR X (fun x y H Q => r x y H Q \/ r' x y H Q) := by
 intro value slice pins s O H x y v u Q I rx ry q hs
 rcases q with q | q
 ·exact h value slice pins s O H x y v u Q I rx ry q hs
 ·exact h' value slice pins s O H x y v u Q I rx ry q hs
theorem Zd5 {r : R2} (hr : IxR X r) (ha : PE X a ta) (hb : PE X b tb) (hs : BI b) : PE X (.Subscript a b pos) (tOp r ta tb) := by
 intro pins s O H Q I h;exact Subscript_ (ZfJ ha hb I h fun v u s2 x y H2 I2 rx ry q => hr a b pins s2 O H2 x y v u Q I2 rx ry q (hs _ _))
def ZhW (K : Fk) : R2 := fun x y H Q => ∃ p xs i v, x = .ref p /\ y = .int i /\ SqL K H p xs /\ atI xs i = some v /\ Q v H
def ZgT (K : Fk) : R2 := fun x y H Q => ∃ p xs i v, x = .ref p /\ y = .int i /\ SqT K H p xs /\ atI xs i = some v /\ Q v H
def Zib : R2 := fun x y H Q => ∃ z i c, x = .str z /\ y = .int i /\ z.length <= sizeLine /\ atI z.cps.toList i = some c /\ Q (.str ⟨#[c]⟩) H
theorem SN : IxR X (ZhW X.K) := by
 intro value slice pins s O H x y v u Q I rx ry h hs;obtain ⟨p, xs, i, z, rfl, rfl, hq, he, q⟩ := h;cases rx;obtain ⟨t, rfl⟩ := ry;obtain ⟨its, r, pl, hz⟩ := I.list hq;obtain ⟨j, h1, h2, h3, h4, h5⟩ := Bp he;obtain ⟨w, ew, rw'⟩ := r.get h2;have hl := r.length;have hn := Wa;have fin : EP X pins O Q w s := ⟨z, H, I, rw', q⟩
 by_cases h0 : 0 <= i
 ·have hj : i.toNat = j := by
   rw [seqIndex_of h0 h5] at h1;exact Option.some.inj h1
  exact item_listR pl.isList h0 (by omega) (by rw [hj]; simpa using ew) fin hs
 ·have hj : (i + (its.toArray.size : Int)).toNat = j := by
   rw [seqIndex_neg (by omega) h4] at h1;rw [List.size_toArray, <- hl];exact Option.some.inj h1
  exact subscriptTail_builtinR (x := w) pl.isList.typeIs slot_list_getitem.lookup
   (wpAny_getItem_list_neg (Q := fun r s' => r = w /\ EP X pins O Q r s') pl.isList (by omega) (by rw [List.size_toArray] <;> omega) (by omega) (by rw [hj]; simpa using ew) ⟨rfl, fin⟩) hs
theorem ZdQ : IxR X (ZgT X.K) := by
 intro value slice pins s O H x y v u Q I rx ry h hs;obtain ⟨p, xs, i, z, rfl, rfl, hq, he, q⟩ := h;cases rx;obtain ⟨t, rfl⟩ := ry;obtain ⟨its, r, pl, hz⟩ := I.tuple hq;obtain ⟨j, h1, h2, h3, h4, h5⟩ := Bp he;obtain ⟨w, ew, rw'⟩ := r.get h2;have hl := r.length;have hn := Wa;have fin : EP X pins O Q w s := ⟨z, H, I, rw', q⟩
 exact subscriptTail_builtinR (x := w) pl.typeIs slot_tuple_getitem.lookup
  (getItem_tuple (j := j) (Q := fun r s' => r = w /\ EP X pins O Q r s') pl (by omega) (by omega) (by rw [List.size_toArray, <- hl]; exact h1) (by simpa using ew) ⟨rfl, fin⟩) hs
theorem PM : IxR X Zib := by
 intro value slice pins s O H x y v u Q I rx ry h hs;obtain ⟨z, i, c, rfl, rfl, hz, he, q⟩ := h;obtain ⟨t, rfl⟩ := rx;obtain ⟨t', rfl⟩ := ry;obtain ⟨j, h1, h2, h3, h4, h5⟩ := Bp he;have hl : z.cps.toList.length = z.length := by simp [Str.length]
 rw [hl] at h1 h4 h5;have hn := Wa
 exact tail_any (typeIs_str s z t) slot_str_getitem.lookup (getItem_str (c := c) (by
  have e1 : decide (i < -(2 ^ 63 : Int)) = false := decide_eq_false (by omega);have e2 : decide (i ≥ 2 ^ 63) = false := decide_eq_false (by omega)
  rw [e1, e2, Bool.or_false]) (by rw [h1]; simpa using h2) ⟨.str ⟨#[c]⟩, H, I.tok _, ⟨_, rfl⟩, q⟩) hs
def rIx (K : Fk) : R2 := fun x y H Q => ZhW K x y H Q \/ ZgT K x y H Q \/ Zib x y H Q
theorem Zdr : IxR X (rIx X.K) := SN.or (ZdQ.or PM)
theorem D6 (its : List Value) (n j : Nat) (u : Value) : Obj.mapSeq (·.setIfInBounds j u) { cls := .type "list", data := .seq its.toArray n } = { cls := .type "list", data := .seq (its.set j u).toArray n } := by
 simp [Obj.mapSeq]
theorem Inv.lst (I : Inv X pins O H s) (h : H p = some (.lst xs)) :
  ∃ (its : List Value) (n : Nat), Vals xs its /\ s.heap.get? p = some { cls := .type "list", data := .seq its.toArray n } /\ xs.length <= sizeLine := by
 obtain ⟨z, its, n, r, e⟩ := I.hok p _ h;exact ⟨its, n, r, e, z⟩
theorem Inv.ZbH {ys : List V} {its its' : List Value} {n n' : Nat} {f : Obj -> Obj} (I : Inv X pins O H s) (h : H p = some (.lst xs))
  (ho : s.heap.get? p = some { cls := .type "list", data := .seq its.toArray n }) (hf : f { cls := .type "list", data := .seq its.toArray n } = { cls := .type "list", data := .seq its'.toArray n' }) (r : Vals ys its') (hz : ys.length <= sizeLine) (t : Nat) :
  Inv X pins O (upd H p (.lst ys)) { s with heap := s.heap.update p f, toks := t } := by
 have e : (s.heap.update p f).get? p = some { cls := .type "list", data := .seq its'.toArray n' } := by
  rw [Heap.get?_update_self f ho (by rw [hf] <;> rfl), hf]
 refine I.write (x := p) (e := p) (by rw [h]; trivial) (.inl rfl) (fun b u hb q => (Heap.get?_update_other _ _ (Ne.symm hb)).trans q) ⟨_, e⟩ ?_;exact ⟨hz, its', n', r, e⟩
def Ze1 : V -> V -> V -> Hp -> (Hp -> Prop) -> Prop := fun o i v H Q => ∃ p xs k j, o = .ref p /\ i = .int k /\ H p = some (.lst xs) /\ ixN xs.length k = some j /\ Q (upd H p (.lst (xs.set j v)))
theorem set_list : Zg9 X Ze1 := by
 intro pins s O H o i v ov iv u Q I ro ri rv h;obtain ⟨p, xs, k, j, rfl, rfl, hp, hj, q⟩ := h;cases ro;obtain ⟨t, rfl⟩ := ri;obtain ⟨its, n, r, ho, hz⟩ := I.lst hp;obtain ⟨h1, h2, h3, h4⟩ := LN hj;have hl := r.length;have hn := Wa;have I' : Inv X pins O (upd H p (.lst (xs.set j v))) { s with heap := s.heap.update p (Obj.mapSeq (·.setIfInBounds j u)) } :=
  I.ZbH hp ho (D6 its n j u) (r.set rv j) (by rw [List.length_set]; exact hz) s.toks
 by_cases h0 : 0 <= k
 ·have hk : k.toNat = j := by
   rw [seqIndex_of h0 h4] at h1;exact Option.some.inj h1
  exact PySem.W.ki_setAt ho h0 (by omega) (by rw [List.size_toArray, <- hl]; exact h4) (by rw [hk]; exact ⟨_, I', q⟩)
 ·have hk : (k + (its.toArray.size : Int)).toNat = j := by
   rw [seqIndex_neg (by omega) h3] at h1;rw [List.size_toArray, <- hl];exact Option.some.inj h1
  exact PySem.W.ki_setBack ho (by omega) (by rw [List.size_toArray, <- hl]; exact h3) (by omega) (by rw [hk]; exact ⟨_, I', q⟩)
theorem Gv (lo hi : Option Int) (n : Nat) : (sliceBounds lo hi none n).1 = ((HT.sIx n 0 lo : Nat) : Int) /\ (sliceBounds lo hi none n).2.1 = ((HT.sIx n n hi : Nat) : Int) /\ (sliceBounds lo hi none n).2.2 = 1 := by
 refine ⟨?_, ?_, rfl⟩
 ·cases lo with
  | none => simp [sliceBounds, HT.sIx]
  | some i =>
   simp only [sliceBounds, HT.sIx, Option.getD_none, show (1 : Int) > 0 by decide, if_true]
   by_cases h : i < 0
   ·simp only [h, if_true] <;> omega
   ·simp only [h, if_false] <;> omega
 ·cases hi with
  | none => simp [sliceBounds, HT.sIx]
  | some i =>
   simp only [sliceBounds, HT.sIx, Option.getD_none, show (1 : Int) > 0 by decide, if_true]
   by_cases h : i < 0
   ·simp only [h, if_true] <;> omega
   ·simp only [h, if_false] <;> omega
theorem WU (its : List Value) (lo hi : Option Int) : slicePick its.toArray lo hi none = ((its.drop (HT.sIx its.length 0 lo)).take (HT.sIx its.length its.length hi - HT.sIx its.length 0 lo)).toArray := by
 obtain ⟨h1, h2, h3⟩ := Gv lo hi its.toArray.size;unfold slicePick;rw [h1, h2, h3];simp only [sliceRange_one, pick_run, List.size_toArray] <;> rfl
def ZiW (K : Fk) : V -> Option Int -> Option Int -> Hp -> VK -> Prop := fun x lo hi H Q => ∃ a xs, x = .ref a /\ SqL K H a xs /\ ∀ p, H p = none -> Q (.ref p) (upd H p (.lst (Pf xs lo hi)))
theorem RC : SlR X (ZiW X.K) := by
 intro pins s O H x v vl vu lo hi sl Q I rx hs pl pu h;obtain ⟨a, xs, rfl, hx, q⟩ := h;cases rx;obtain ⟨its, r, ht, hz⟩ := I.list hx;have hlen := r.length;refine ⟨"list", _, slot_list_getitem.lookup, ht.isList.typeIs, ?_⟩;refine wpAny_getItem_list_slice ht.isList hs pl pu .none (by simp) ?_ (by rw [List.size_toArray] <;> omega);rw [WU, <- hlen];refine ⟨.ref s.heap.objs.size, _, I.laid (t' := s.toks) (o := .lst (Pf xs lo hi)) (fun b ob q => Heap.get?_push_of_some _ q) (Nat.le_refl _) ?_, rfl, q _ (I.hok.fresh (Nat.le_refl _))⟩;exact ⟨Nat.le_trans (X1 xs lo hi) hz, _, 0, (r.drop (HT.sIx xs.length 0 lo)).take (HT.sIx xs.length xs.length hi - HT.sIx xs.length 0 lo), Heap.get?_push_size _ rfl⟩
noncomputable def ZcA : V -> Bool
 | .non => true
 | .bl _ => true
 | .int _ => true
 | .str _ => true
 | _ => false
noncomputable def eqV : V -> V -> Bool
 | .non, .non => true
 | .bl a, .bl b => a == b
 | .bl a, .int b => (if a then 1 else 0) == b
 | .int a, .bl b => a == (if b then 1 else 0)
 | .int a, .int b => a == b
 | .str a, .str b => a == b
 | _, _ => false
noncomputable def eqU (x : V) (u : Value) : Bool := match u with
 | .none => eqV .non x
 | .bool b => eqV (.bl b) x
 | .int i _ => eqV (.int i) x
 | .str z _ => eqV (.str z) x
 | _ => false
noncomputable def inV (x : V) (xs : List V) : Bool := xs.any fun y => eqV y x
def rIn (K : Fk) (neg : Bool) : R2 := fun x y H Q => ∃ p xs, y = .ref p /\ (SqL K H p xs \/ SqT K H p xs) /\ ZcA x = true /\ xs.all ZcA = true /\ Q (.bl (if neg then !inV x xs else inV x xs)) H
theorem GP : Vz X (.builtin "len") (fun xs H Q => ∃ p ys, xs = [.ref p] /\ (SqL X.K H p ys \/ SqT X.K H p ys) /\ Q (.int ys.length) H) := by
 intro pins s O H xs us Q I r h;obtain ⟨p, ys, rfl, hq, q⟩ := h;obtain ⟨u, rfl, rx⟩ := vals1 r;cases rx;have hn := Wa
 rcases hq with hq | hq
 ·obtain ⟨its, r', pl, hz⟩ := I.list hq;have hlen := r'.length;exact Calls.call_len_list pl.isList (by simp only [List.size_toArray] <;> omega) ⟨.int ys.length, H, I.tok _, ⟨s.toks + 1, by rw [List.size_toArray, hlen]⟩, q⟩
 ·obtain ⟨its, r', pl, hz⟩ := I.tuple hq;have hlen := r'.length;exact len_tuple pl (by simp only [List.size_toArray] <;> omega) ⟨.int ys.length, H, I.tok _, ⟨s.toks + 1, by rw [List.size_toArray, hlen]⟩, q⟩
theorem GA : Vz X (.builtin "len") (fun xs H Q => ∃ z, xs = [.str z] /\ z.length <= sizeLine /\ Q (.int z.length) H) := by
 intro pins s O H xs us Q I r h;obtain ⟨z, rfl, hz, q⟩ := h;obtain ⟨u, rfl, t, rfl⟩ := vals1 r;have hn := Wa;exact len_str (by omega) ⟨.int z.length, H, I.tok _, ⟨_, rfl⟩, q⟩
theorem US : Vz X (.type "list") (fun xs H Q => ∃ p ys, xs = [.ref p] /\ (SqL X.K H p ys \/ SqT X.K H p ys) /\ ∀ l, H l = none -> Q (.ref l) (upd H l (.lst ys))) := by
 intro pins s O H xs us Q I r h;obtain ⟨p, ys, rfl, hq, q⟩ := h;obtain ⟨u, rfl, rx⟩ := vals1 r;cases rx;have fin : ∀ (its : List Value), Vals ys its -> ys.length <= sizeLine -> ∀ (h' : Heap) (c' : Nat), (∀ b o', s.heap.get? b = some o' -> h'.get? b = some o') ->
   h'.get? s.heap.objs.size = some { cls := .type "list", dict := none, data := .seq its.toArray c', slots := #[] } -> EP X pins O Q (.ref s.heap.objs.size) { s with heap := h' } := fun its r' hz h' c' kp e =>
  ⟨.ref s.heap.objs.size, _, I.laid (t' := s.toks) kp (Nat.le_refl _) (show QO X.prog X.w _ h' _ (.lst ys) from ⟨hz, its, c', r', e⟩), rfl, q _ (I.hok.fresh (Nat.le_refl _))⟩
 rcases hq with hq | hq
 ·obtain ⟨its, r', pl, hz⟩ := I.list hq;have hlen := r'.length;obtain ⟨o, ho, hc, n, hd⟩ := pl.isList;exact call_list_seq p (.inl rfl) ho hc hd (fun h' c' kp e => fin its r' hz h' c' kp e) (by simp only [List.size_toArray] <;> omega)
 ·obtain ⟨its, r', pl, hz⟩ := I.tuple hq;have hlen := r'.length;obtain ⟨o, ho, hc, n, hd⟩ := pl;exact call_list_seq p (.inr rfl) ho hc hd (fun h' c' kp e => fin its r' hz h' c' kp e) (by simp only [List.size_toArray] <;> omega)
theorem W3 : Vz X (.type "tuple") (fun xs H Q => ∃ p ys, xs = [.ref p] /\ ((SqL X.K H p ys /\ ∀ l, H l = none -> Q (.ref l) (upd H l (.tup ys))) \/ (SqT X.K H p ys /\ Q (.ref p) H))) := by
 intro pins s O H xs us Q I r h;obtain ⟨p, ys, rfl, h⟩ := h;obtain ⟨u, rfl, rx⟩ := vals1 r;cases rx
 rcases h with ⟨hq, q⟩ | ⟨hq, q⟩
 ·obtain ⟨its, r', pl, hz⟩ := I.list hq;have hlen := r'.length;refine call_tuple_list pl.isList (fun h' kp => ?_) (by simp only [List.size_toArray] <;> omega);have I1 : Inv X pins O H { s with heap := h' } := I.kept (t' := s.toks) kp;have I2 : Inv X pins O (upd H h'.objs.size (.tup ys)) { s with heap := h'.push { cls := .type "tuple", data := .seq its.toArray } } :=
   I1.laid (t' := s.toks) (fun b o e => Heap.get?_push_of_some _ e) (Nat.le_refl _) (show QO X.prog X.w _ _ _ (.tup ys) from ⟨hz, its, r', IsTup.new _ _⟩)
  exact ⟨.ref h'.objs.size, _, I2, rfl, q _ (I1.hok.fresh (Nat.le_refl _))⟩
 ·obtain ⟨its, r', pl, hz⟩ := I.tuple hq;exact call_tuple_same pl ⟨.ref p, H, I, rfl, q⟩
def tyV (K : Fk) (T : String) (x : V) (H : Hp) : Prop := match x with
 | .str _ => T = "str"
 | .int _ => T = "int"
 | .ref p => (T = "list" /\ ∃ xs, SqL K H p xs) \/ (T = "tuple" /\ ∃ o, K.lookup p = some o /\ o.cls = .type "tuple" /\ o.dict = none) \/
   (T = "dict" /\ ((∃ kvs, H p = some (.dK kvs)) \/ ∃ kvs, H p = some (.dT kvs))) \/ (T = "set" /\ ∃ S n, H p = some (.set S n))
 | _ => False
theorem LC {T : String} {x : V} {v : Value} (I : Inv X pins O H s) (r : RelV x v) (ty : tyV X.K T x H) :
  s.TypeIs v T /\ ∀ a, v = .ref a -> ∃ ob, s.heap.get? a = some ob /\ ob.dict = none := by
 cases x with
 | str z =>
  obtain ⟨t, rfl⟩ := r;cases (show T = "str" from ty);exact ⟨typeIs_str s z t, fun _ e => nomatch e⟩
 | int i =>
  obtain ⟨t, rfl⟩ := r;cases (show T = "int" from ty);exact ⟨typeIs_int s i t, fun _ e => nomatch e⟩
 | ref p =>
  cases r
  rcases ty with ⟨rfl, xs, hq⟩ | ⟨rfl, o, hk, hc, hd⟩ | ⟨rfl, hk⟩ | ⟨rfl, S, n, hk⟩
  ·obtain ⟨its, _, pl, _⟩ := I.list hq;refine ⟨pl.isList.typeIs, fun a e => ?_⟩;cases e;obtain ⟨o, n, e, c, hd, _⟩ := pl;exact ⟨o, e, hd⟩
  ·refine ⟨⟨o, I.kIn p o hk, hc⟩, fun a e => ?_⟩;cases e;exact ⟨o, I.kIn _ o hk, hd⟩
  ·have z : ∃ o, s.heap.get? p = some o /\ o.ExactDict := by
    rcases hk with ⟨kvs, hk⟩ | ⟨kvs, hk⟩
    ·obtain ⟨_, _, _, _, o, _, _, e, ex, _⟩ := I.hok p _ hk;exact ⟨o, e, ex⟩
    ·obtain ⟨_, _, _, _, o, _, _, e, ex, _⟩ := I.hok p _ hk;exact ⟨o, e, ex⟩
   obtain ⟨o, e, ex⟩ := z;refine ⟨⟨o, e, ex.1⟩, fun a e2 => ?_⟩;cases e2;exact ⟨o, e, ex.2.1⟩
  ·obtain ⟨o, _, _, _, e, ex, _⟩ := I.hok p _ hk;refine ⟨⟨o, e, ex.1⟩, fun a e2 => ?_⟩;cases e2;exact ⟨o, e, ex.2.1⟩
 | _ => exact False.elim ty
def ZjN (K : Fk) (T : String) (r : V -> List V -> Hp -> VK -> Prop) (to : TE) : TE := fun O H Q => to O H fun x H1 => tyV K T x H1 /\ r x [] H1 Q
def tBM (K : Fk) (T : String) (r : V -> List V -> Hp -> VK -> Prop) (to : TE) (t : TA) : TE := fun O H Q => to O H fun x H1 => tyV K T x H1 /\ t O H1 fun xs H2 => r x xs H2 Q
variable {o : Expr} {es : List Expr} {to : TE} {t : TA} {name : Str} {apos cpos : Pos} {T id : String} {r : V -> List V -> Hp -> VK -> Prop}
theorem ZbQ (pa : PlainAttrs T) (slot : Slot T name id) (hty : typeOf (.builtin id) = pure (.type "method_descriptor")) (hm : MtR X id r) (ho : PE X o to) (ha : PA X (e :: es) t)
  (hbase : autoParam (attributeBase o name X.env (eval o X.env) = eval o X.env) zz3._auto_1)
  (hfew : ((backTo cpos (starEach (e :: es) X.env)).all (fun x => !x.1) && (backToKw cpos (keywordEach [] X.env)).all (fun x => x.1.isSome)
   && decide ((e :: es).length + ([] : List Keyword).length + (if ([] : List Keyword).isEmpty then 0 else 1) < 30)) = true := by rfl)
  (hline : autoParam ((apos.endLine == cpos.line) = true) zz3._auto_1) (hs : autoParam (starEach (e :: es) X.env = (false, eval e X.env) :: starEach es X.env) zz3._auto_1) (hplain : autoParam ((backTo cpos (starEach es X.env)).any (·.1) = false) zz3._auto_1) :
  PE X (.Call (.Attribute o name apos) (e :: es) [] cpos) (tBM X.K T r to t) := by
 intro pins s O H Q I h;refine wpAny_Call_method_late hbase hfew hline rfl (thn (ho pins s O H _ I h) fun v s1 ⟨x, H1, I1, r1, ty, q1⟩ => ?_);obtain ⟨h1, h2⟩ := LC I1 r1 ty;refine ⟨T, id, pa, slot, hty, h1, h2, ?_⟩;have hA := ha cpos pins s1 O H1 _ I1 q1;rw [hs] at hA ⊢;refine Calls.callWith_builtin (by show (false || (backTo cpos (starEach es X.env)).any (·.1)) = false; rw [hplain] <;> rfl) (Calls.evalArgs_plain ?_);exact thn hA fun us s2 ⟨vs, H2, I2, r2, q2⟩ => hm pins s2 O H2 x vs v us Q I2 r1 r2 q2
end
end L2
namespace L2
def MtM (X : Cx) (id : String) (r : V -> List V -> Hp -> VK -> Prop) : Prop :=
 ∀ (pins : List (Addr × Obj)) (s : Shared) (O : St) (H : Hp) (x : V) (xs : List V) (v : Value) (us : List Value) (Q : VK), Inv X pins O H s -> RelV x v -> Vals xs us -> r x xs H Q ->
  wpAny (model X.prog X.w) X.A (call (.builtin id) (v :: us)) (EP X pins O Q) X.xe s
theorem Vals.one : ∀ {x : V} {us : List Value}, Vals [x] us -> ∃ u, us = [u] /\ RelV x u
 | _, _, .cons r .nil => ⟨_, rfl, r⟩
theorem Vals.two : ∀ {x y : V} {us : List Value}, Vals [x, y] us -> ∃ u v, us = [u, v] /\ RelV x u /\ RelV y v
 | _, _, _, .cons r (.cons q .nil) => ⟨_, _, rfl, r, q⟩
theorem Vals.zero : ∀ {us : List Value}, Vals [] us -> us = []
 | _, .nil => rfl
theorem Vals.rep (h : Vals xs us) : ∀ k : Nat, Vals (List.replicate k xs).flatten (List.replicate k us).flatten
 | 0 => .nil
 | k + 1 => by
  rw [List.replicate_succ, List.replicate_succ, List.flatten_cons, List.flatten_cons];exact Vals.append h (Vals.rep h k)
theorem foldl_rep (its : List Value) : ∀ (k : Nat) (acc : List Value),
  List.foldl (fun x1 x2 => x1 ++ x2) acc.toArray (List.replicate k its.toArray) = (acc ++ (List.replicate k its).flatten).toArray
 | 0, acc => by simp
 | k + 1, acc => by
  have e : acc.toArray ++ its.toArray = (acc ++ its).toArray := by simp
  have e2 : (acc ++ its) ++ (List.replicate k its).flatten = acc ++ (List.replicate (k + 1) its).flatten := by
   rw [List.replicate_succ, List.flatten_cons, List.append_assoc]
  rw [<- e2, <- foldl_rep its k (acc ++ its), <- e, List.replicate_succ, List.foldl_cons]
section
variable {l : Addr} {ys zs : List V}
theorem Inv.Zjh {its its' : List Value} {n : Nat} {f : Array Value -> Array Value} {t' : Nat} (I : Inv X pins O H s) (hH : H l = some (.lst xs))
  (e : s.heap.get? l = some { cls := .type "list", data := .seq its.toArray n }) (hf : f its.toArray = its'.toArray) (hv : Vals ys its') (hz : ys.length <= sizeLine) :
  Inv X pins O (upd H l (.lst ys)) { s with heap := s.heap.update l (Obj.mapSeq f), toks := t' } := by
 have q := PySem.IsL.update e f;rw [hf] at q;refine I.write (x := l) (e := l) (by rw [hH]; exact trivial) (.inl rfl) (fun b' u hb hu => (Heap.get?_update_other s.heap (Obj.mapSeq f) (Ne.symm hb)).trans hu) ⟨_, q⟩ ?_;exact ⟨hz, its', _, hv, q⟩
theorem Inv.Zia {its : List Value} {t' : Nat} (I : Inv X pins O H s) (hv : Vals ys its) (hz : ys.length <= sizeLine) :
  Inv X pins O (upd H s.heap.objs.size (.lst ys)) { s with heap := s.heap.push { cls := .type "list", data := .seq its.toArray }, toks := t' } :=
 I.laid (fun _ _ q => Heap.get?_push_of_some _ q) (Nat.le_refl _) ⟨hz, its, 0, hv, Heap.get?_push_size _ rfl⟩
theorem Inv.fresh (I : Inv X pins O H s) : H s.heap.objs.size = none := I.hok.fresh (Nat.le_refl _)
theorem Inv.Zh1 (I : Inv X pins O H s) (hH : H l = some (.lst xs)) : xs.length <= sizeLine /\ ∃ (its : List Value) (n : Nat), Vals xs its /\ xs.length = its.length /\ s.heap.get? l = some { cls := .type "list", data := .seq its.toArray n } := by
 obtain ⟨z, its, n, r, e⟩ := I.hok l _ hH;exact ⟨z, its, n, r, r.length, e⟩
theorem ME (h : n <= sizeLine) : Builtin.List.listTooLong n = false := by
 unfold Builtin.List.listTooLong;exact decide_eq_false (by omega)
end
section
def Zai : V -> List V -> Hp -> VK -> Prop := fun x vs H Q => ∃ l xs y, x = .ref l /\ vs = [y] /\ H l = some (.lst xs) /\ xs.length < sizeLine /\ Q .non (upd H l (.lst (xs ++ [y])))
theorem FW : MtM X "list.append" Zai := by
 intro pins s O H x vs v us Q I rx rv h;obtain ⟨l, xs, y, rfl, rfl, hH, hz, q⟩ := h;cases rx;obtain ⟨u, rfl, ru⟩ := rv.one;obtain ⟨z, its, n, r, hl, e⟩ := I.Zh1 hH;refine call_meets F.slot_list_append ⟨_, e, rfl⟩ F.entry_list_append (F.args_list_append_2 _ _) (PySem.list_append l its.toArray n u (by rw [List.size_toArray]; omega)) ⟨e, ?_⟩;refine ⟨.non, _, I.Zjh (its' := its ++ [u]) hH e (by simp) (r.append (.cons ru .nil)) ?_, rfl, q⟩;rw [List.length_append, List.length_singleton];omega
def ZfO : V -> List V -> Hp -> VK -> Prop := fun x vs H Q => ∃ l b xs zs, x = .ref l /\ vs = [.ref b] /\ H l = some (.lst xs) /\ H b = some (.lst zs) /\ xs.length + zs.length <= sizeLine /\ Q .non (upd H l (.lst (xs ++ zs)))
def ZjS : V -> List V -> Hp -> VK -> Prop := fun x vs H Q => ∃ l xs y, x = .ref l /\ vs = [] /\ H l = some (.lst xs) /\ xs[xs.length - 1]? = some y /\ Q y (upd H l (.lst xs.dropLast))
def ZgU : V -> List V -> Hp -> VK -> Prop := fun x vs H Q => ∃ l xs i k y, x = .ref l /\ vs = [.int i] /\ H l = some (.lst xs) /\ -(2 ^ 63) <= i /\ i < 2 ^ 63 /\ seqIndex? i xs.length = some k /\ xs[k]? = some y /\ Q y (upd H l (.lst (xs.eraseIdx k)))
def ZeX : V -> List V -> Hp -> VK -> Prop := fun x vs H Q => ∃ l xs, x = .ref l /\ vs = [] /\ H l = some (.lst xs) /\ Q .non (upd H l (.lst xs.reverse))
def ZhX : V -> List V -> Hp -> VK -> Prop := fun x vs H Q => ∃ l xs, x = .ref l /\ vs = [] /\ H l = some (.lst xs) /\ Q .non (upd H l (.lst []))
def Zj7 : R2 := fun x y H Q => ∃ l b xs zs, x = .ref l /\ y = .ref b /\ H l = some (.lst xs) /\ H b = some (.lst zs) /\ xs.length + zs.length <= sizeLine /\ ∀ p, H p = none -> Q (.ref p) (upd H p (.lst (xs ++ zs)))
def Zjq : R2 := fun x y H Q => ∃ l k xs, x = .ref l /\ y = .int k /\ H l = some (.lst xs) /\ -(2 ^ 63) <= k /\ k < 2 ^ 63 /\ xs.length * k.toNat <= sizeLine /\
 ∀ p, H p = none -> Q (.ref p) (upd H p (.lst (List.replicate k.toNat xs).flatten))
theorem len_rep {α : Type} (xs : List α) (k : Nat) : (List.replicate k xs).flatten.length = k * xs.length := by
 induction k with
 | zero => simp
 | succ k ih => rw [List.replicate_succ, List.flatten_cons, List.length_append, ih, Nat.succ_mul, Nat.add_comm]
theorem ZbX : OpR X (binaryOp .Mult) Zjq := by
 intro pins s O H x y v u Q I rx ry h;obtain ⟨l, k, xs, rfl, rfl, hH, h1, h2, hz, q⟩ := h;cases rx;obtain ⟨t, rfl⟩ := ry;obtain ⟨z, its, n, r, hl, e⟩ := I.Zh1 hH;have hlen : its.toArray.size * k.toNat <= sizeLine := by rw [List.size_toArray, <- hl]; exact hz
 have hcap : ¬ its.toArray.size * k.toNat > (2 ^ 63 - 1) / 8 := by
  have : (sizeLine : Nat) <= (2 ^ 63 - 1) / 8 := by decide
  omega
 have hfit : ¬ (!Builtin.List.listFitsIndex k) = true := by
  rw [fitsIndex_both h1 h2];exact Bool.false_ne_true
 have hlong : ¬ Builtin.List.listTooLong (its.toArray.size * k.toNat) = true := by
  rw [ME hlen];exact Bool.false_ne_true
 have hnew : List.foldl (fun x1 x2 => x1 ++ x2) #[] (List.replicate (if its.toArray.isEmpty = true then 0 else k.toNat) its.toArray) = (List.replicate k.toNat its).flatten.toArray := by
  have f0 : ∀ m : Nat, List.foldl (fun x1 x2 => x1 ++ x2) #[] (List.replicate m its.toArray) = (List.replicate m its).flatten.toArray := fun m => by
   have := foldl_rep its m [];rw [List.nil_append] at this;exact this
  rw [f0];cases its with
  | nil => simp
  | cons a r' => rw [if_neg (by simp)]
 refine wpAny_binaryOp_repeat_ref (T := "list") (U := "int") (by decide) ⟨_, e, rfl⟩ (fun s' => typeIs_int s' k t) noFill_list_mul F.fills_int_mul F.slot_int_rmul repeat_list F.slot_int_index.lookup
  (call_meets F.slot_int_rmul (typeIs_int s k t) F.entry_int_rmul (F.args_int_rmul_2 _ _) (int___rmul___int_list k t l its.toArray n)
   ⟨e, rfl, ⟨_, e, rfl⟩, call_meets F.slot_list_mul ⟨_, e, rfl⟩ F.entry_list_mul (F.args_list_mul_2 _ _) (AutoListH.list___mul___list_int_3 l its.toArray n k t hfit hcap hlong) ⟨e, ?_⟩⟩)
 rw [hnew];exact ⟨.ref _, _, I.Zia (t' := s.toks) (r.rep k.toNat) (by rw [len_rep, Nat.mul_comm]; exact hz), rfl, q _ I.fresh⟩
end
section
variable {prog : Program} {E : Value -> Shared -> Prop}
set_option maxRecDepth 100000 in
end
section
end
end L2
namespace L2
section
variable {κ : Type} [DecidableEq κ]
noncomputable def Ws (kvs : List (κ × V)) (k : κ) : Option V := (kvs.find? fun kv => decide (kv.1 = k)).map (·.2)
noncomputable def putK (kvs : List (κ × V)) (k : κ) (v : V) : List (κ × V) :=
 if (kvs.any fun kv => decide (kv.1 = k)) = true then kvs.map (fun kv => if kv.1 = k then (kv.1, v) else kv) else kvs ++ [(k, v)]
noncomputable def FH (kvs : List (κ × V)) (k : κ) : List (κ × V) := kvs.filter fun kv => decide (kv.1 ≠ k)
theorem Uj {p : κ × V} {r : List (κ × V)} {k : κ} (e : p.1 = k) : Ws (p :: r) k = some p.2 := by simp [Ws, List.find?_cons, e]
theorem WQ {p : κ × V} {r : List (κ × V)} {k : κ} (e : ¬ p.1 = k) : Ws (p :: r) k = Ws r k := by simp [Ws, List.find?_cons, e]
theorem Dl (k : κ) : ∀ kvs : List (κ × V), (kvs.any fun kv => decide (kv.1 = k)) = (Ws kvs k).isSome
 | [] => rfl
 | p :: r => by
  rw [List.any_cons]
  by_cases e : p.1 = k
  ·simp only [Uj e, decide_eq_true e, Bool.true_or, Option.isSome_some]
  ·rw [WQ e, decide_eq_false e, Bool.false_or]; exact Dl k r
theorem Vk (kvs : List (κ × V)) (k : κ) (v : V) : (putK kvs k v).length <= kvs.length + 1 := by
 unfold putK
 split
 ·rw [List.length_map]; omega
 ·rw [List.length_append, List.length_cons, List.length_nil]; omega
theorem EK.Hw {o : Option V} {u : Option Value} (r : EK o u) : o.isSome = u.isSome := by
 cases o with
 | none => cases u with
  | none => rfl
  | some _ => exact (show False from r).elim
 | some _ => cases u with
  | none => exact (show False from r).elim
  | some _ => rfl
theorem EK.getD {o : Option V} {u : Option Value} {d : V} {d' : Value} (r : EK o u) (rd : RelV d d') : RelV (o.getD d) (u.getD d') := by
 cases o with
 | none => cases u with
  | none => exact rd
  | some _ => exact (show False from r).elim
 | some _ => cases u with
  | none => exact (show False from r).elim
  | some _ => exact r
theorem KV.val {kvs : List (κ × V)} {vs : List (κ × Value)} (r : KV kvs vs) (k : κ) : EK (Ws kvs k) (valueAt vs k) := by
 unfold KV at r
 induction r with
 | nil => exact True.intro
 | @cons p q ps qs h t ih =>
  obtain ⟨h1, h2⟩ := h
  by_cases e : p.1 = k
  ·have e' : q.1 = k := h1.symm.trans e;have b : valueAt (q :: qs) k = some q.2 := by simp [valueAt, List.find?_cons, e']
   rw [Uj e, b]; exact h2
  ·have e' : ¬ q.1 = k := fun z => e (h1.trans z);have b : valueAt (q :: qs) k = valueAt qs k := by simp [valueAt, List.find?_cons, e']
   rw [WQ e, b]; exact ih
theorem KV.any {kvs : List (κ × V)} {vs : List (κ × Value)} (r : KV kvs vs) (k : κ) : (kvs.any fun kv => decide (kv.1 = k)) = vs.any fun kv => decide (kv.1 = k) := by
 unfold KV at r
 induction r with
 | nil => rfl
 | cons h t ih => rw [List.any_cons, List.any_cons, ih, h.1]
theorem KV.Zac {kvs : List (κ × V)} {vs : List (κ × Value)} (r : KV kvs vs) (k : κ) (ry : RelV y u) :
  KV (kvs.map fun kv => if kv.1 = k then (kv.1, y) else kv) (vs.map fun kv => if kv.1 = k then (kv.1, u) else kv) := by
 unfold KV at r ⊢
 induction r with
 | nil => exact .nil
 | @cons p q ps qs h t ih =>
  rw [List.map_cons, List.map_cons];refine .cons ?_ ih;obtain ⟨h1, h2⟩ := h
  by_cases e : p.1 = k
  ·rw [if_pos e, if_pos (h1.symm.trans e)]; exact ⟨h1, ry⟩
  ·rw [if_neg e, if_neg (fun z => e (h1.trans z))]; exact ⟨h1, h2⟩
theorem KV.put {kvs : List (κ × V)} {vs : List (κ × Value)} (r : KV kvs vs) (k : κ) (ry : RelV y u) : KV (putK kvs k y) (stored vs k u) := by
 unfold putK stored;rw [r.any k]
 by_cases e : (vs.any fun kv => decide (kv.1 = k)) = true
 ·rw [if_pos e, if_pos e]; exact r.Zac k ry
 ·rw [if_neg e, if_neg e]; exact Paired.snoc r ⟨rfl, ry⟩
theorem KV.drop {kvs : List (κ × V)} {vs : List (κ × Value)} (r : KV kvs vs) (k : κ) : KV (FH kvs k) (without vs k) := by
 unfold KV at r ⊢;unfold FH without
 induction r with
 | nil => exact .nil
 | @cons p q ps qs h t ih =>
  obtain ⟨h1, h2⟩ := h;rw [List.filter_cons, List.filter_cons]
  by_cases e : p.1 = k
  ·have a : ¬ decide (p.1 ≠ k) = true := by simp [e]
   have b : ¬ decide (q.1 ≠ k) = true := by simp [h1.symm.trans e]
   rw [if_neg a, if_neg b]; exact ih
  ·have e' : ¬ q.1 = k := fun z => e (h1.trans z);have a : decide (p.1 ≠ k) = true := by simp [e]
   have b : decide (q.1 ≠ k) = true := by simp [e']
   rw [if_pos a, if_pos b]; exact .cons ⟨h1, h2⟩ ih
theorem KV.keys {kvs : List (κ × V)} {vs : List (κ × Value)} (r : KV kvs vs) : kvs.map (·.1) = vs.map (·.1) := by
 unfold KV at r
 induction r with
 | nil => rfl
 | cons h t ih => rw [List.map_cons, List.map_cons, ih, h.1]
theorem KV.length {kvs : List (κ × V)} {vs : List (κ × Value)} (r : KV kvs vs) : kvs.length = vs.length := Paired.length r
end
theorem DR {k : Key} (r : RelV (kV k) u) : (ZK P w).is k u = true := by
 cases k with
 | inl i => obtain ⟨t, e⟩ := (show ∃ t, u = Value.int i t from r); subst e; exact BW P w i t
 | inr x => obtain ⟨t, e⟩ := (show ∃ t, u = Value.str x t from r); subst e; exact Bk P w x t
theorem UZ : ∀ {ks : List Key} {us : List Value}, Vals (ks.map kV) us -> ItemsAre (ZK P w) ks us
 | [], _, r => by rw [List.map_nil] at r; cases r; exact .nil
 | k :: ks, _, r => by
  rw [List.map_cons] at r;cases r with
  | cons h t => exact .cons (DR h) (UZ t)
abbrev KT (H : Hp) : List (List Key × V) -> List (List Key × Addr × Value) -> Prop := Paired fun p q => p.1 = q.1 /\ H q.2.1 = some (.tup (p.1.map kV)) /\ RelV p.2 q.2.2
theorem KT.val {kvs : List (List Key × V)} {xs : List (List Key × Addr × Value)} (r : KT H kvs xs) (k : List Key) : EK (Ws kvs k) ((atKey xs k).map (·.2)) := by
 induction r with
 | nil => exact True.intro
 | @cons p q ps qs h t ih =>
  obtain ⟨h1, _, h2⟩ := h
  by_cases e : p.1 = k
  ·have e' : q.1 = k := h1.symm.trans e;have b : atKey (q :: qs) k = some q.2 := by simp [atKey, List.find?_cons, e']
   rw [Uj e, b]; exact h2
  ·have e' : ¬ q.1 = k := fun z => e (h1.trans z);have b : atKey (q :: qs) k = atKey qs k := by simp [atKey, List.find?_cons, e']
   rw [WQ e, b]; exact ih
theorem KT.Zac {kvs : List (List Key × V)} {xs : List (List Key × Addr × Value)} (r : KT H kvs xs) (k : List Key) (ry : RelV y u) :
  KT H (kvs.map fun kv => if kv.1 = k then (kv.1, y) else kv) (xs.map (putAt k u)) := by
 induction r with
 | nil => exact .nil
 | @cons p q ps qs h t ih =>
  rw [List.map_cons, List.map_cons];refine .cons ?_ ih;obtain ⟨h1, h2, h3⟩ := h;unfold putAt
  by_cases e : p.1 = k
  ·rw [if_pos e, if_pos (h1.symm.trans e)]; exact ⟨h1, h2, ry⟩
  ·rw [if_neg e, if_neg (fun z => e (h1.trans z))]; exact ⟨h1, h2, h3⟩
theorem KT.put {kvs : List (List Key × V)} {xs : List (List Key × Addr × Value)} (r : KT H kvs xs) (k : List Key) (hb : H b = some (.tup (k.map kV))) (ry : RelV y u) :
  KT H (putK kvs k y) (storedH xs k b u) := by
 have e : (kvs.any fun kv => decide (kv.1 = k)) = (atKey xs k).isSome := by
  rw [Dl, (r.val k).Hw, Option.isSome_map]
 unfold putK storedH;rw [e]
 by_cases q : (atKey xs k).isSome = true
 ·rw [if_pos q, if_pos q]; exact r.Zac k ry
 ·rw [if_neg q, if_neg q]; exact Paired.snoc r ⟨rfl, hb, ry⟩
theorem KT.keeps {kvs : List (List Key × V)} {xs : List (List Key × Addr × Value)} (r : KT H kvs xs) (ht : ∀ b ys, H b = some (.tup ys) -> H' b = some (.tup ys)) : KT H' kvs xs :=
 Paired.ZaE r fun _ _ z => ⟨z.1, ht _ _ z.2.1, z.2.2⟩
section
theorem ZcK {u : HO} (ok : HOk P w H h) (e : Rd H a u) : QO P w H h a u := e.ok ok
theorem Ff (ok : HOk P w H h) (e : Rd H a (.dK kvs)) : kvs.length <= sizeLine /\ (a == sysModules) = false /\ ∃ vs, KV kvs vs /\ h.DictOf (ZK P w) a vs :=
 show QO P w H h a (.dK kvs) from ZcK ok e
theorem Zeq (ok : HOk P w H h) (e : H a = some (.dK kvs)) : kvs.length <= sizeLine /\ (a == sysModules) = false /\ ∃ vs, KV kvs vs /\ h.DictOf (ZK P w) a vs := Ff ok (.inl e)
theorem De {ks : List Key} (ok : HOk P w H h) (e : H a = some (.tup (ks.map kV))) : (tupleKind (ZK P w)).is h ks a := by
 obtain ⟨_, its, r, o, h1, h2, n, h3⟩ := (show QO P w H h a (.tup (ks.map kV)) from ok a _ e)
 exact ⟨o, its.toArray, n, h1, h2, h3, by simpa using UZ r⟩
theorem Hj {kvs : List (List Key × V)} (ok : HOk P w H h) (e : Rd H a (.dT kvs)) : kvs.length <= sizeLine /\ (a == sysModules) = false /\
  ∃ xs, KT H kvs xs /\ h.DictOfH (tupleKind (ZK P w)) a xs := by
 obtain ⟨z, y, xs, r, o, es, ep, h1, h2, h3, h4, h5⟩ := (show QO P w H h a (.dT kvs) from ZcK ok e)
 refine ⟨z, y, xs, r, o, es, ep, h1, h2, h3, h4, fun x hx => ?_, h5⟩;have all : ∀ {l : List (List Key × V)} {m : List (List Key × Addr × Value)}, KT H l m -> ∀ x ∈ m, (tupleKind (ZK P w)).is h x.1 x.2.1 := by
  intro l m q
  induction q with
  | nil => intro x hx; exact nomatch hx
  | @cons p q ps qs hq t ih =>
   intro x hx
   rcases List.mem_cons.mp hx with e | hx
   ·subst e;exact De ok (by rw [<- hq.1]; exact hq.2.1)
   ·exact ih x hx
 exact all r x hx
theorem Zgh {kvs : List (List Key × V)} (ok : HOk P w H h) (e : H a = some (.dT kvs)) : kvs.length <= sizeLine /\ (a == sysModules) = false /\
  ∃ xs, KT H kvs xs /\ h.DictOfH (tupleKind (ZK P w)) a xs := Hj ok (.inl e)
end
def BF (H : Hp) (a : Addr) (y : V) (r : Option V) : Prop :=
 (∃ kvs k, Rd H a (.dK kvs) /\ y = kV k /\ r = Ws kvs k) \/ ∃ kvs k b, Rd H a (.dT kvs) /\ y = .ref b /\ H b = some (.tup (k.map kV)) /\ r = Ws kvs k
def Pe (H : Hp) (a : Addr) (y v : V) (H' : Hp) : Prop :=
 (∃ kvs k, H a = some (.dK kvs) /\ y = kV k /\ kvs.length < sizeLine /\ H' = upd H a (.dK (putK kvs k v))) \/
 ∃ kvs k b, H a = some (.dT kvs) /\ y = .ref b /\ H b = some (.tup (k.map kV)) /\ kvs.length < sizeLine /\ H' = upd H a (.dT (putK kvs k v))
theorem BF.k {k : Key} (e : H a = some (.dK kvs)) : BF H a (kV k) (Ws kvs k) := .inl ⟨kvs, k, .inl e, rfl, rfl⟩
theorem BF.t {kvs : List (List Key × V)} {k : List Key} (e : H a = some (.dT kvs)) (eb : H b = some (.tup (k.map kV))) : BF H a (.ref b) (Ws kvs k) := .inr ⟨kvs, k, b, .inl e, rfl, eb, rfl⟩
theorem Pe.k {k : Key} (e : H a = some (.dK kvs)) (hl : kvs.length < sizeLine) : Pe H a (kV k) v (upd H a (.dK (putK kvs k v))) := .inl ⟨kvs, k, e, rfl, hl, rfl⟩
theorem Pe.t {kvs : List (List Key × V)} {k : List Key} {v : V} (e : H a = some (.dT kvs)) (eb : H b = some (.tup (k.map kV))) (hl : kvs.length < sizeLine) :
  Pe H a (.ref b) v (upd H a (.dT (putK kvs k v))) := .inr ⟨kvs, k, b, e, rfl, eb, hl, rfl⟩
section
variable {r : Value} {o : Option V} {E : Value -> Shared -> Prop}
theorem Inv.big (I : Inv X pins O H s) : sysModules < s.heap.objs.size := by
 have h : mainGlobals < s.heap.objs.size := (I.mod.glob.keeps I.bk).lt;exact Nat.lt_trans (by decide) h
theorem LB (hu : A.units + 1 < cLine) (I : Inv X pins O H s) (g : BF H a y (some v)) (ry : RelV y u) (h : ∀ w' s', Inv X pins O H s' -> RelV v w' -> Q w' s') :
  wpAny (model X.prog X.w) A (getItem (.ref a) u) Q E s := by
 rcases g with ⟨kvs, k, e, ey, l⟩ | ⟨kvs, k, b, e, ey, eb, l⟩
 ·subst ey;obtain ⟨z, hd, vs, rel, dd⟩ := Ff I.hok e;obtain ⟨w', hw, rw'⟩ := EK.some_of (v := v) (o := valueAt vs k) (by rw [l]; exact rel.val k);exact wpAny_getItem_of (DR ry) dd.mapOf hw (h w' _ (I.tok _) rw')
 ·subst ey;cases (show u = Value.ref b from ry);obtain ⟨z, hd, xs, rel, dd⟩ := Hj I.hok e;obtain ⟨w', hw, rw'⟩ := EK.some_of (v := v) (o := (atKey xs k).map (·.2)) (by rw [l]; exact rel.val k);obtain ⟨p, hp, hp2⟩ := Option.map_eq_some_iff.mp hw;refine wpAny_getItem_heap (tupleKind_room_in1 hu) (De I.hok eb) dd hp ?_;rw [hp2];exact h w' _ (I.tok _) rw'
theorem Bj {t' : Nat} {ob : HO} (I : Inv X pins O H s) (mu : Mut (H a)) (hs : Heap.SameBut a s.heap h') (he : ∃ q, h'.get? a = some q) (new : QO X.prog X.w (upd H a ob) h' a ob) :
  Inv X pins O (upd H a ob) { s with heap := h', toks := t' } :=
 I.write (x := a) (e := a) mu (.inl rfl) (fun b q hb z => (hs.2 b hb).trans z) he new
theorem EM {H' : Hp} {vs : List (Key × Value)} (z : kvs.length <= sizeLine) (hd : (a == sysModules) = false) (rel : KV kvs vs) (dd : h'.DictOf (ZK P w) a vs) :
  QO P w H' h' a (.dK kvs) := ⟨z, hd, vs, rel, dd⟩
theorem FO {Q : Unit -> Shared -> Prop} (hu : A.units + 1 < cLine) (I : Inv X pins O H s) (g : Pe H a y v H') (ry : RelV y u) (rv : RelV v r) (h : ∀ s', Inv X pins O H' s' -> Q () s') :
  wpAny (model X.prog X.w) A (setItem (.ref a) u r) Q E s := by
 rcases g with ⟨kvs, k, e, ey, l, eH⟩ | ⟨kvs, k, b, e, ey, eb, l, eH⟩
 ·subst ey eH;obtain ⟨z, hd, vs, rel, dd⟩ := Zeq I.hok e;have hz : vs.length <= sizeLine := by rw [<- rel.length]; exact z
  have hl : (putK kvs k v).length <= sizeLine := by have := Vk kvs k v; omega
  refine wpAny_setItem_pairs (hsz := hz) (DR ry) dd fun h' dd' hs => h _ ?_;have he : ∃ q, h'.get? a = some q := let ⟨q, _, _, hq, _⟩ := dd'; ⟨q, hq⟩;exact Bj I (by rw [e]; exact True.intro) hs he (EM hl hd (rel.put k rv) dd')
 ·subst ey eH;cases (show u = Value.ref b from ry);obtain ⟨z, hd, xs, rel, dd⟩ := Zgh I.hok e;have hz : xs.length <= sizeLine := by rw [<- Paired.length rel]; exact z
  have hl : (putK kvs k v).length <= sizeLine := by have := Vk kvs k v; omega
  refine wpAny_setItem_heap (hsz := hz) (tupleKind_room_in1 hu) (De I.hok eb) dd fun h' dd' hs => h _ ?_;obtain ⟨q, es, ep, hq, h2, h3, h4, _, h5⟩ := dd';refine Bj I (by rw [e]; exact True.intro) hs ⟨q, hq⟩ ⟨hl, hd, _, (rel.put k eb rv).keeps fun c ys ec => ?_, q, es, ep, hq, h2, h3, h4, h5⟩;rw [ZV (Zgg ec e (fun z => nomatch z))];exact ec
end
section
variable {k : Key} {E : Value -> Shared -> Prop}
end
def ZfY (i : Expr) : Prop := ∀ ov iv, subscripted i false ov iv = operate [ov, iv] (getItem ov iv)
theorem TF {prog : Program} {w : World} {A : Around} {E : Value -> Shared -> Prop} {s : Shared} {env : Env} {value slice : Expr} {pos : Pos} {T id : String} {Q : Value -> Shared -> Prop}
  (hl : typeLookup (.type T) "__getitem__" = pure (some (.builtin id))) (hs : ZfY slice)
  (h : wpAny (model prog w) A (eval value env) (fun o s₁ => wpAny (model prog w) A (eval slice env) (fun i s₂ => s₂.TypeIs o T /\ wpAny (model prog w) A (getItem o i) Q E s₂) E s₁) E s) :
  wpAny (model prog w) A (eval (.Subscript value slice pos) env) Q E s := by
 refine Subscript_ (wpAny_mono h (fun o s₁ h₁ => wpAny_mono h₁ (fun i s₂ h₂ => ?_) fun _ _ x => x) fun _ _ x => x);obtain ⟨hT, h₂⟩ := h₂;unfold subscriptTail;refine wpAny_bind ?_;rw [getitemInPython_of_ne hT.not_modules];refine wpAny_bind (wpAny_specialOf hT hl ?_);have fin : wpAny (model prog w) A (subscripted slice false o i) (fun r s₃ => wpAny (model prog w) A (letTemporaryGo value o r >>= fun _ => pure r) Q E s₃) E s₂ := by
  rw [hs o i];exact wpAny_operating (wpAny_mono h₂ (fun r s₃ h₃ => wpAny_bind (wpAny_letTemporaryGo (wpAny_pure h₃))) fun _ _ x => x)
 first
  | exact wpAny_pure (wpAny_bind fin)
  | exact wpAny_bind (wpAny_pure (wpAny_bind fin))
  | exact wpAny_bind fin
theorem Bm {o : Option V} (I : Inv X pins O H s) (g : BF H a y o) : s.TypeIs (.ref a) "dict" := by
 rcases g with ⟨kvs, k, e, _, _⟩ | ⟨kvs, k, b, e, _, _, _⟩
 ·obtain ⟨_, _, vs, _, dd⟩ := Ff I.hok e;exact dd.typeIs
 ·obtain ⟨_, _, xs, _, dd⟩ := Hj I.hok e;exact dd.typeIs
def ZfM (td ty : TE) : TE := fun O H Q => td O H fun x H1 => ty O H1 fun y H2 => ∃ a v, x = .ref a /\ BF H2 a y (some v) /\ Q v H2
def Zj1 (ty td : TE) : TE := fun O H Q => ty O H fun y H1 => td O H1 fun x H2 => ∃ a o, x = .ref a /\ BF H2 a y o /\ Q (.bl o.isSome) H2
def ZfQ (ty td : TE) : TE := fun O H Q => ty O H fun y H1 => td O H1 fun x H2 => ∃ a o, x = .ref a /\ BF H2 a y o /\ Q (.bl (!o.isSome)) H2
def Zgn (td ty tv : TE) : TS := fun D O H => tv O H fun v H1 => td O H1 fun x H2 => ty O H2 fun y H3 => ∃ a H4, x = .ref a /\ Pe H3 a y v H4 /\ D.nx O H4
def Zin (td ty tv : TE) (rd : V -> V -> Hp -> VK -> Prop) : TS := fun D O H => td O H fun x H1 => ty O H1 fun y H2 => ∃ a v, x = .ref a /\ BF H2 a y (some v) /\
 tv O H2 fun y2 H3 => rd v y2 H3 fun z H4 => ∃ H5, Pe H4 a y z H5 /\ D.nx O H5
def Zjs (td ty : TE) : TS := fun D O H => td O H fun x H1 => ty O H1 fun y H2 => ∃ a kvs k, x = .ref a /\ H2 a = some (.dK kvs) /\ y = kV k /\ (Ws kvs k).isSome = true /\ D.nx O (upd H2 a (.dK (FH kvs k)))
section
variable {o i value : Expr} {pos' tpos : Pos} {td ty tv : TE}
theorem Sr (hu : X.A.units + 1 < cLine) (ho : PE X o td) (hi : PE X i ty) (hs : ZfY i) : PE X (.Subscript o i pos) (ZfM td ty) := by
 intro pins s O H Q I h;refine TF PySem.F.slot_dict_getitem.lookup hs (thn (ho pins s O H _ I h) fun u s1 ⟨x, H1, I1, rx, q1⟩ => thn (hi pins s1 O H1 _ I1 q1) fun iv s2 ⟨y, H2, I2, ry, a, v, ex, g, q2⟩ => ?_);subst ex;obtain rfl : u = Value.ref a := rx;exact ⟨Bm I2 g, LB hu I2 g ry fun w' s3 I3 rw' => ⟨v, H2, I3, rw', q2⟩⟩
theorem RV (hu : X.A.units + 1 < cLine) (ho : PE X o td) (hi : PE X i ty) (hv : PE X value tv) (hs : swapsWith value (some (.Subscript o i pos')) pos.line X.env = pure false) :
  PS X (.Assign [.Subscript o i pos'] value pos) (Zgn td ty tv) := by
 intro pins s O H D I h;refine wpAny_Assign_Subscript (thn (hv pins s O H _ I h) fun r s1 ⟨v, H1, I1, rv, q1⟩ => thn (ho pins s1 O H1 _ I1 q1) fun u s2 ⟨x, H2, I2, rx, q2⟩ => thn (hi pins s2 O H2 _ I2 q2) fun iv s3 ⟨y, H3, I3, ry, a, H4, ex, g, q3⟩ => ?_) hs;subst ex;obtain rfl : u = Value.ref a := rx;exact FO hu I3 g ry rv fun s4 I4 => ⟨O, H4, I4, q3⟩
end
theorem CP (h : Heap) (hb : sysModules < h.objs.size) : QO P w H (h.push { cls := .type "dict", data := .dict #[] }) h.objs.size (.dK []) :=
 ⟨Nat.zero_le _, beq_eq_false_iff_ne.mpr (Ne.symm (Nat.ne_of_lt hb)), [], .nil, Heap.DictOf.new h⟩
def ZcX : TE := fun _ H Q => ∀ p, H p = none -> Q (.ref p) (upd H p (.dK []))
def ZgY : TE := fun _ H Q => ∀ p, H p = none -> Q (.ref p) (upd H p (.dT []))
section
theorem C9 : PE X (.Dict [] [] pos) ZcX := fun pins s O H Q I h =>
 wpAny_Dict_empty ⟨.ref s.heap.objs.size, _, I.laid (a := s.heap.objs.size) (o := .dK []) (t' := s.toks) (fun _ _ q => Heap.get?_push_of_some _ q) (Nat.le_refl _) (CP s.heap I.big), rfl, h _ (I.hok.fresh (Nat.le_refl _))⟩
end
def CY : List (TE × TE) -> St -> Hp -> (List (V × V) -> Hp -> Prop) -> Prop
 | [], _, H, Q => Q [] H
 | (tk, tv) :: r, O, H, Q => tk O H fun x H1 => tv O H1 fun y H2 => CY r O H2 fun ps H3 => Q ((x, y) :: ps) H3
abbrev VV : List (V × V) -> List (Value × Value) -> Prop := Paired fun p q => RelV p.1 q.1 /\ RelV p.2 q.2
def PPs (X : Cx) (pos : Pos) (keys : List (Option Expr)) (values : List Expr) (trs : List (TE × TE)) : Prop :=
 ∀ (pins : List (Addr × Obj)) (s : Shared) (O : St) (H : Hp) (Q : List (V × V) -> Hp -> Prop), Inv X pins O H s -> CY trs O H Q ->
  wpAny (model X.prog X.w) X.A (evalPairs (pairTrees keys values X.env pos)) (fun vs s' => ∃ ps H', Inv X pins O H' s' /\ VV ps vs /\ Q ps H') X.xe s
theorem Tt : PPs X pos [] [] [] := fun pins s O H Q I h => pairTrees_nil_walk ⟨[], H, I, .nil, h⟩
theorem V1 {k v : Expr} {ks : List (Option Expr)} {vs : List Expr} {tk tv : TE} {trs : List (TE × TE)} (hk : PE X k tk) (hv : PE X v tv) (hr : PPs X pos ks vs trs) :
  PPs X pos (some k :: ks) (v :: vs) ((tk, tv) :: trs) := fun pins s O H Q I h =>
 pairTrees_cons_walk (thn (hk pins s O H _ I h) fun u s1 ⟨x, H1, I1, rx, q1⟩ => thn (hv pins s1 O H1 _ I1 q1) fun w2 s2 ⟨y, H2, I2, ry, q2⟩ =>
  thn (hr pins s2 O H2 _ I2 q2) fun ws s3 ⟨ps, H3, I3, rel, q3⟩ => ⟨(x, y) :: ps, H3, I3, .cons ⟨rx, ry⟩ rel, q3⟩)
noncomputable def XC (kvs more : List (Key × V)) : List (Key × V) := more.foldl (fun acc kv => putK acc kv.1 kv.2) kvs
theorem KV.merge : ∀ {more : List (Key × V)} {rs : List (Key × Value)} {kvs : List (Key × V)} {vs : List (Key × Value)}, KV more rs -> KV kvs vs -> KV (XC kvs more) (merged vs rs) := by
 intro more rs kvs vs r;unfold KV at r
 induction r generalizing kvs vs with
 | nil => intro q; exact q
 | @cons p q ps qs h t ih =>
  intro r0;have e : KV (putK kvs p.1 p.2) (stored vs q.1 q.2) := by
   have := r0.put p.1 h.2;rw [<- h.1]; exact this
  exact ih e
theorem YH : ∀ (more kvs : List (Key × V)), (XC kvs more).length <= kvs.length + more.length
 | [], kvs => by show kvs.length <= kvs.length + 0; omega
 | p :: r, kvs => by
  have h1 := YH r (putK kvs p.1 p.2);have h2 := Vk kvs p.1 p.2;show (XC (putK kvs p.1 p.2) r).length <= _;rw [List.length_cons]; omega
theorem K3 {P : Program} {w : World} : ∀ {kvs : List (Key × V)} {ws : List (Value × Value)}, VV (kvs.map fun kv => (kV kv.1, kv.2)) ws -> ∃ rs, Carries (ZK P w) ws rs /\ KV kvs rs
 | [], _, r => by rw [List.map_nil] at r; cases r; exact ⟨[], True.intro, .nil⟩
 | p :: kvs, _, r => by
  rw [List.map_cons] at r;cases r with
  | @cons a b as bs h t =>
   obtain ⟨rs, c, q⟩ := K3 (P := P) (w := w) t;obtain ⟨b1, b2⟩ := b;exact ⟨(p.1, b2) :: rs, ⟨DR h.1, rfl, c⟩, .cons ⟨rfl, h.2⟩ q⟩
def Zgk (trs : List (TE × TE)) : TE := fun O H Q => ∀ p, H p = none -> CY trs O (upd H p (.dK [])) fun ps H2 => H2 p = some (.dK []) /\ ∃ kvs : List (Key × V), ps = kvs.map (fun kv => (kV kv.1, kv.2)) /\ kvs.length <= 15 /\ Q (.ref p) (upd H2 p (.dK (XC [] kvs)))
theorem R8 {keys : List (Option Expr)} {values : List Expr} {trs : List (TE × TE)} (h : PPs X pos keys values trs) (hall : keys.all (·.isSome) = true) (hl : keys.length = values.length) (h0 : keys ≠ [])
  (h15 : keys.length <= 15) : PE X (.Dict keys values pos) (Zgk trs) := by
 intro pins s O H Q I q;have hn := I.hok.fresh (Nat.le_refl s.heap.objs.size);have I1 := I.laid (a := s.heap.objs.size) (o := .dK []) (h' := s.heap.push { cls := .type "dict", data := .dict #[] }) (t' := s.toks) (fun _ _ q => Heap.get?_push_of_some _ q) (Nat.le_refl _) (CP s.heap I.big);refine wpAny_Dict_walk (knd := ZK X.prog X.w) hall hl h0 h15 (thn (h pins _ O _ _ I1 (q _ hn)) fun ws s2 ⟨ps, H2, I2, rel, e, kvs, ep, lk, q2⟩ => ?_);subst ep;obtain ⟨rs, c, rk⟩ := K3 (P := X.prog) (w := X.w) rel;obtain ⟨z, hd, vs0, r0, dd⟩ := Zeq I2.hok e;cases r0;refine ⟨rs, c, dd, fun h' dd' hs => ⟨.ref s.heap.objs.size, _, ?_, rfl, q2⟩⟩;have hz : (XC [] kvs).length <= sizeLine := by
  have h1 := YH kvs [];rw [List.length_nil] at h1;rw [sizeLine_eq]; omega
 have he : ∃ q, h'.get? s.heap.objs.size = some q := let ⟨q, _, _, hq, _⟩ := dd'; ⟨q, hq⟩;exact Bj I2 (by rw [e]; exact True.intro) hs he (EM hz hd (rk.merge .nil) dd')
structure M1 (X : Cx) (o : Expr) (m : Str) (apos : Pos) (e : Expr) (cpos : Pos) : Prop where
 base : attributeBase o m X.env (eval o X.env) = eval o X.env
 few : ((backTo cpos (starEach [e] X.env)).all (fun x => !x.1) && (backToKw cpos (keywordEach [] X.env)).all (fun x => x.1.isSome)
  && decide (([e] : List Expr).length + ([] : List Keyword).length + (if ([] : List Keyword).isEmpty then 0 else 1) < 30)) = true
 line : (apos.endLine == cpos.line) = true
 trees : backTo cpos (starEach [e] X.env) = [(false, eval e X.env)]
structure M2 (X : Cx) (o : Expr) (m : Str) (apos : Pos) (e f : Expr) (cpos : Pos) : Prop where
 base : attributeBase o m X.env (eval o X.env) = eval o X.env
 few : ((backTo cpos (starEach [e, f] X.env)).all (fun x => !x.1) && (backToKw cpos (keywordEach [] X.env)).all (fun x => x.1.isSome)
  && decide (([e, f] : List Expr).length + ([] : List Keyword).length + (if ([] : List Keyword).isEmpty then 0 else 1) < 30)) = true
 line : (apos.endLine == cpos.line) = true
 trees : backTo cpos (starEach [e, f] X.env) = [(false, eval e X.env), (false, eval f X.env)]
def IsD (H : Hp) (a : Addr) : Prop := (∃ kvs, Rd H a (.dK kvs)) \/ ∃ kvs, Rd H a (.dT kvs)
theorem ZbS (I : Inv X pins O H s) (d : IsD H a) :
  s.TypeIs (.ref a) "dict" /\ (∀ b, Value.ref a = .ref b -> ∃ ob, s.heap.get? b = some ob /\ ob.dict = none) /\ (a == sysModules) = false := by
 rcases d with ⟨kvs, e⟩ | ⟨kvs, e⟩
 ·obtain ⟨_, hd, vs, _, dd⟩ := Ff I.hok e;refine ⟨dd.typeIs, fun b q => ?_, hd⟩;cases q;obtain ⟨ob, _, _, h1, h2, _⟩ := dd;exact ⟨ob, h1, h2.2.1⟩
 ·obtain ⟨_, hd, xs, _, dd⟩ := Hj I.hok e;refine ⟨dd.typeIs, fun b q => ?_, hd⟩;cases q;obtain ⟨ob, _, _, h1, h2, _⟩ := dd;exact ⟨ob, h1, h2.2.1⟩
section
variable {d : V} {r : Value} {o : Option V} {E : Value -> Shared -> Prop}
theorem Zck (hu : A.units + 1 < cLine) (I : Inv X pins O H s) (g : BF H a y o) (ry : RelV y u) (rd : RelV d r) (h : ∀ w' s', Inv X pins O H s' -> RelV (o.getD d) w' -> Q w' s') :
  wpAny (model X.prog X.w) A (call (.builtin "dict.get") [.ref a, u, r]) Q E s := by
 rcases g with ⟨kvs, k, e, ey, l⟩ | ⟨kvs, k, b, e, ey, eb, l⟩
 ·subst ey;obtain ⟨z, hd, vs, rel, dd⟩ := Ff I.hok e;refine call_meetsIn PySem.F.slot_dict_get dd.typeIs PySem.F.entry_dict_get (PySem.F.args_dict_get_3 _ _ _) (meets_dict_get_default (ZK X.prog X.w) a (DR ry) hd r) ⟨_, dd.mapOf, h _ _ (I.tok _) ?_⟩;rw [l];exact (rel.val k).getD rd
 ·subst ey;cases (show u = Value.ref b from ry);obtain ⟨z, hd, xs, rel, dd⟩ := Hj I.hok e;refine call_meetsIn PySem.F.slot_dict_get dd.typeIs PySem.F.entry_dict_get (PySem.F.args_dict_get_3 _ _ _) (meetsH_dict_get_default (tupleKind (ZK X.prog X.w)) a b hd r) ⟨tupleKind_room_in1 hu, k, xs, De I.hok eb, dd, h _ _ (I.tok _) ?_⟩;rw [l];exact (rel.val k).getD rd
end
def ZhK (td ty : TE) : TE := fun O H Q => td O H fun x H1 => ∃ a, x = .ref a /\ IsD H1 a /\ ty O H1 fun y H2 => ∃ o, BF H2 a y o /\ Q (o.getD .non) H2
def ZaJ (td ty tx : TE) : TE := fun O H Q => td O H fun x H1 => ∃ a, x = .ref a /\ IsD H1 a /\ ty O H1 fun y H2 => tx O H2 fun z H3 => ∃ o, BF H3 a y o /\ Q (o.getD z) H3
def ZhA (td ty : TE) : TE := fun O H Q => td O H fun x H1 => ∃ a, x = .ref a /\ IsD H1 a /\ ty O H1 fun y H2 => ∃ kvs k v, H2 a = some (.dK kvs) /\ y = kV k /\ Ws kvs k = some v /\ Q v (upd H2 a (.dK (FH kvs k)))
def ZgX (td ty tx : TE) : TE := fun O H Q => td O H fun x H1 => ∃ a, x = .ref a /\ IsD H1 a /\ ty O H1 fun y H2 => tx O H2 fun z H3 => ∃ kvs k, H3 a = some (.dK kvs) /\ y = kV k /\
 (∀ v, Ws kvs k = some v -> Q v (upd H3 a (.dK (FH kvs k)))) /\ (Ws kvs k = none -> Q z H3)
section
variable {o f : Expr} {apos cpos : Pos} {td ty tx : TE}
theorem O6 (hu : X.A.units + 1 < cLine) (ho : PE X o td) (he : PE X e ty) (hf : PE X f tx) (m : M2 X o "get" apos e f cpos) : PE X (.Call (.Attribute o "get" apos) [e, f] [] cpos) (ZaJ td ty tx) := by
 intro pins s O H Q I h;refine wpAny_Call_method m.base m.few m.line PySem.F.plainAttrs_dict PySem.F.slot_dict_get PySem.F.type_dict_get (thn (ho pins s O H _ I h) fun u s1 ⟨x, H1, I1, rx, a, ex, d, q1⟩ => ?_);subst ex;obtain rfl : u = Value.ref a := rx;obtain ⟨t1, t2, _⟩ := ZbS I1 d;refine ⟨t1, t2, ?_⟩;rw [m.trees]
 refine Calls.callWith_builtin rfl (Calls.evalArgs_plain (Calls.spliced_cons (thn (he pins s1 O H1 _ I1 q1) fun iv s2 ⟨y, H2, I2, ry, q2⟩ =>
  Calls.spliced_cons (thn (hf pins s2 O H2 _ I2 q2) fun fv s3 ⟨z, H3, I3, rz, ov, g, q3⟩ => Calls.spliced_nil ?_))))
 exact Zck hu I3 g ry rz fun w' s4 I4 rw' => ⟨_, H3, I4, rw', q3⟩
end
section
variable {E : Value -> Shared -> Prop}
end
section
variable {E : Value -> Shared -> Prop}
end
end L2
namespace Att
open PySem.W PySem.Calls
theorem Kp {P : Params} : ∀ (ns : List Int) (vs : List Value), WellAll P h vs (ns.map WData.int) -> IntsAre vs ns := by
 intro ns
 induction ns with
 | nil =>
  intro vs w;rw [List.map_nil] at w;cases w;exact .nil
 | cons n ns ih =>
  intro vs w;rw [List.map_cons] at w;cases w with
  | cons a b =>
   cases a;exact .cons _ _ (ih _ b)
theorem H0 {l : OpenLaw} (hn : l.most = some n) {P : Params} {h : Heap} {args : List WData} {vals : List Value}
  (hpre : l.row.toRowW.claim.pre args = true) (hwl : WellAll P h vals args) :
  ∃ a vs ns, vals = [Value.ref a] /\ args = [WData.list (ns.map WData.int)] /\ h.get? a = some { cls := .type "list", data := .seq vs.toArray } /\ IntsAre vs ns /\ ns.length <= n := by
 have hsh : WShape.hasAll [] args [.list .int] = true := (pre_splitW hpre).1;have hc : l.pre.holds [] { args := args } = true := (pre_splitW hpre).2;obtain ⟨d, r, rfl, h1, h2⟩ := hasAllW_cons hsh;obtain rfl := hasAllW_nil h2;obtain ⟨xs, rfl, h3⟩ := hasW_list h1;obtain ⟨ns, rfl⟩ := items_int h3;have hlen : ns.length <= n := by
  unfold OpenLaw.pre at hc;have h4 : (WTm.not (.lt (.lit (.int (n : Int))) (.len (.arg 0)))).holds [] { args := [.list (ns.map .int)] } = true := by
   have h4 := (holds_andW hc).1;rw [hn] at h4;exact h4
  have h5 := condW_of h4 (w_not (w_lt w_lit (w_len_list (w_arg rfl))));rw [List.length_map] at h5;refine Nat.le_of_not_lt fun q => ?_;have q' : (n : Int) < ((ns.length : Nat) : Int) := by omega
  first
   | (rw [decide_eq_true q'] at h5; exact absurd h5 (by decide))
   | (simp at h5; omega)
 cases hwl with
 | cons w1 w2 =>
  cases w2;cases w1 with
  | list ho hall => exact ⟨_, _, ns, rfl, rfl, ho, Kp ns _ hall, hlen⟩
theorem Ln (l : OpenLaw) (args : List WData) : l.row.toRowW.claim.post args (.bool true) args = true :=
 postW_of (r := l.row.toRowW) (X := (true == true))
  (show WShape.has [] (.bool true) .bool = true by first | rfl | decide | simp [WShape.has, WShape.arms, WShape.armsAll])
  (show (WTm.eq .res (.lit (.bool true))).value [] { args := args, res := some (.bool true), after := args } = some (.bool (true == true)) from w_eq_bool (w_res rfl) w_lit) rfl
theorem Bo {l : OpenLaw} {n : Nat} {q : Program} {loose : List Str} {XP : (Str -> Option Value) -> Heap -> Prop} {YP : World -> Heap -> Prop} {d : DefRec}
  (hn : l.most = some n) (hdf : d.params.defaults = [])
  (call : ∀ (w : World) (s₀ s₁ : Shared) (mg mb : Str -> Option Value) (fa : Addr) (o : Obj) (pm cd doc : Value) (a : Addr) (vs : List Value) (ns : List Int),
   Ground q loose [] XP w s₀ mg mb s₁.heap -> YP w s₁.heap ->
   s₁.heap.get? fa = some o -> o.data = .func (docDef d.name d.params d.body d.scope pm cd doc) -> s₁.heap.CodeRec cd d.name -> mg d.name = some (.ref fa) ->
   s₁.heap.get? a = some { cls := .type "list", data := .seq vs.toArray } -> IntsAre vs ns -> ns.length <= n -> s₁.gens = #[] ->
   codeAny (model l.prog w) callerA (.call (.ref fa) ⟨[.ref a], []⟩) (fun r s' => r = .ok (.ret (.bool true)) /\ OldK s₁.heap s'.heap /\ s'.os = s₁.os /\ AllBare s'.gens) s₁) :
  WalkO q loose XP YP l.row.toRowW d [] (fun f vs => PySem.call f vs) := by
 intro w s₀ s₁ mg mb G Y fa o pm cd doc dV kV ho hd hcd hD hmg hg args vals as hpre hlay hrd hwl hlo;obtain rfl : dV = .none := Dflts.none hD hdf;obtain rfl : kV = .none := Dflts.noKw hD;obtain ⟨a, vs, ns, rfl, rfl, hobj, hints, hlen⟩ := H0 hn hpre hwl;refine enter_call (codeAny_mono (call w s₀ s₁ mg mb fa o pm cd doc a vs ns G Y ho (fd_plain hd) hcd hmg hobj hints hlen hg) fun r s' hq => ?_);obtain ⟨rfl, h2, h3, h4⟩ := hq;exact ⟨.inl ⟨.bool true, .bool true, [], rfl, fun _ => rfl, .bool true, Ln l _, fun _ => ⟨List.Pairwise.nil, fun _ hm => (nomatch hm)⟩⟩, h2, h3, h4⟩
section
variable {prog : Program} {E : Value -> Shared -> Prop} {K : Frag}
noncomputable def Zhs (h : Heap) : Heap := { h with objs := #[] }
noncomputable def ledger (h : Heap) (L d : Addr) : List (Addr × Obj) := (List.range h.objs.size).filterMap fun a => if a = L \/ a = d then none else (h.get? a).map fun o => (a, o)
end
end Att
namespace L2
theorem GU : ∀ {vs : List Value} {ns : List Int}, IntsAre vs ns -> Vals (ns.map V.int) vs
 | _, _, .nil => .nil
 | _, _, .cons n t h => .cons ⟨t, rfl⟩ (GU h)
def Zey (H : Hp) : Prop := ∀ b, H b = none \/ ∃ o xs, H b = some (.frz o (.lst xs))
theorem Nw {P : Program} {w : World} {K : Fk} {mg mb : Str -> Option Value} {CX : CXT} {k : Nat} {fa a : Addr} {fd : FuncData} {x : Str} {sp : Sp} {s₁ : Shared} {vs : List Value} {ns : List Int}
  (KX : K.In s₁.heap) (hns : s₁.heap.Ns mainGlobals mg) (hb : s₁.heap.Ns builtinsNs mb) (hbb : ∀ x : Str, x ≠ "__name__" -> mb x = bootBuiltins x) (hlim : s₁.heap.NoLimit) (hg : s₁.gens = #[])
  (ha : s₁.heap.get? a = some { cls := .type "list", data := .seq vs.toArray }) (hi : IntsAre vs ns) (hl : ns.length <= sizeLine) (hr : V6 k callerA)
  (F : ∀ base : Heap, K.In base -> base.Ns mainGlobals mg -> ZD P w K mg base CX k fa fd [x] sp) (hbind : ∀ (s : Shared) (u : Value), BindsTo s fd ⟨[u], []⟩ [(x, u)])
  (hsp : ∀ H : Hp, Zey H -> SqL K H a (ns.map V.int) -> sp [.ref a] H (fun v _ => v = .bl true) fun _ _ _ => False)
  (hCX : ∀ H e s', CX [] H s₁ (fun _ _ _ => False) e s' -> False) :
  codeAny (model P w) callerA (.call (.ref fa) ⟨[.ref a], []⟩) (fun r s' => r = .ok (.ret (.bool true)) /\ OldK s₁.heap s'.heap /\ s'.os = s₁.os /\ AllBare s'.gens) s₁ := by
 have rv := GU hi;have lenV := hi.length;have core : ∀ H : Hp, Zey H -> SqL K H a (ns.map V.int) -> HOk P w H s₁.heap -> (∀ b, H b ≠ none -> b = a) -> (H a ≠ none -> K.lookup a = none) ->
   codeAny (model P w) callerA (.call (.ref fa) ⟨[.ref a], []⟩) (fun r s' => r = .ok (.ret (.bool true)) /\ OldK s₁.heap s'.heap /\ s'.os = s₁.os /\ AllBare s'.gens) s₁ := by
  intro H hO hS hok hA hK;have base_of : ∀ {b : Addr} {o : Obj}, s₁.heap.get? b = some o -> H b = none -> (Nv s₁.heap H).get? b = some o := fun e n => Oh e n;have noA : ∀ {b : Addr} {o : Obj} {es : Array DictEntry} {ep : Nat}, s₁.heap.get? b = some o -> o.data = .dict es ep -> H b = none := fun {b o es ep} e d => by
   cases q : H b with
   | none => rfl
   | some u =>
    have e' : b = a := hA b (by rw [q]; simp);subst e';rw [ha] at e; cases e;have d' : Data.seq vs.toArray _ = Data.dict es ep := d;cases d'
  have nsK : ∀ {b : Addr} {m : Str -> Option Value}, s₁.heap.Ns b m -> (Nv s₁.heap H).Ns b m := fun {b m} ⟨o, es, ep, e, d, r⟩ => ⟨o, es, ep, base_of e (noA e d), d, r⟩
  have hKb : K.In (Nv s₁.heap H) := fun b o e => base_of (KX b o e) (by
   cases q : H b with
   | none => rfl
   | some u =>
    have e' : b = a := hA b (by rw [q]; simp);subst e'
    rw [hK (by rw [q]; simp)] at e; cases e)
  have hM : Mod K mg (Nv s₁.heap H) := ⟨hKb, nsK hns, ⟨mb, nsK hb, hbb⟩, let ⟨mc, h1, h2⟩ := hlim; ⟨mc, nsK h1, h2⟩⟩
  have e0 : ZeT P w K mg (Nv s₁.heap H) callerA [] s₁ H := ⟨rfl, hM, fun b o e => Zaw e, Nat.le_of_eq (Hb _ _), trivial, fun b hb => absurd (show b ∈ ([] : List Addr) from hb) (by simp), hok, .of_eq hg⟩
  refine codeAny_mono ((F _ hKb (nsK hns)).run callerA [] s₁ H ⟨[.ref a], []⟩ [.ref a] [.ref a] _ _ hr e0 (hbind s₁ (.ref a)) (.cons rfl .nil) (hsp H hO hS)) fun r s' h => ?_;cases r with
  | error e => exact (hCX H e s' h).elim
  | ok fl =>
   cases fl with
   | next => exact False.elim h
   | brk => exact False.elim h
   | cont => exact False.elim h
   | ret u =>
    obtain ⟨v, H', os, bare, un, hok', r', q⟩ := h;have q' : v = .bl true := q;subst q';obtain rfl : u = Value.bool true := r';refine ⟨rfl, OldK.of_keep fun b o e => ?_, os, bare⟩;cases q : H b with
    | none => exact un.keep b o e q (by intro z; exact absurd (show b ∈ ([] : List Addr) from z) (by simp)) (by simp)
    | some u =>
     rcases hO b with z | ⟨ob, xs, z⟩
     ·rw [q] at z; cases z
     ·have z2 := un.frzs b ob _ z;obtain ⟨e1, _⟩ := hok b _ z;obtain ⟨e2, _⟩ := hok' b _ z2;rw [e] at e1; cases e1;exact e2
 cases hk : K.lookup a with
 | some o =>
  have e := KX a o hk;rw [ha] at e;cases e;refine core (fun _ => none) (fun _ => .inl rfl) (.inr ⟨_, vs.toArray, _, hk, rfl, rfl, rfl, by rw [List.size_toArray, lenV]; exact hl, by simpa using rv⟩) (fun b u z => by have z' : (none : Option HO) = some u := z; cases z') (fun b z => absurd rfl z) fun z => absurd rfl z
 | none =>
  refine core (fun b => if b = a then some (.frz { cls := .type "list", data := .seq vs.toArray } (.lst (ns.map V.int))) else none) (fun b => ?_) (.inl (.inr ⟨{ cls := .type "list", data := .seq vs.toArray }, if_pos rfl⟩)) (fun b u z => ?_) (fun b z => ?_) fun _ => hk
  ·by_cases hb : b = a
   ·exact .inr ⟨_, _, if_pos hb⟩
   ·exact .inl (if_neg hb)
  ·by_cases hb : b = a
   ·have z' := (if_pos hb).symm.trans z;cases z';subst hb;exact ⟨ha, by rw [List.length_map]; exact hl, vs, _, rv, ha⟩
   ·have z' := (if_neg hb).symm.trans z;cases z'
  ·by_cases hb : b = a
   ·exact hb
   ·exact absurd (if_neg hb) z
end L2
namespace L2
noncomputable abbrev KOf (_ : K.In h) : Fk := K
theorem T1 {l : PySem.W.OpenLaw} {n k : Nat} {q : Program} {loose : List Str} {XP : (Str -> Option Value) -> Heap -> Prop} {YP : World -> Heap -> Prop} {d : DefRec} {K : Params -> Fk} {CX : World -> CXT} {sp : World -> Sp} {x : Str}
  (hn : l.most = some n) (hn2 : n <= sizeLine) (hdf : d.params.defaults = []) (hr : V6 k callerA)
  (hY : ∀ (w : World) (h : Heap), YP w h -> (K w.params).In h)
  (F : ∀ (w : World) (mg : Str -> Option Value) (fa : Addr) (h : Heap), (K w.params).In h -> h.Ns mainGlobals mg -> mg d.name = some (.ref fa) ->
   ∃ fd : FuncData, (∀ (s : Shared) (u : Value), BindsTo s fd ⟨[u], []⟩ [(x, u)]) /\
    ∀ base : Heap, (K w.params).In base -> base.Ns mainGlobals mg -> ZD l.prog w (K w.params) mg base (CX w) k fa fd [x] (sp w))
  (hsp : ∀ (w : World) (H : Hp) (a : Addr) (ns : List Int), ns.length <= n -> Zey H -> SqL (K w.params) H a (ns.map V.int) -> sp w [.ref a] H (fun v _ => v = .bl true) fun _ _ _ => False)
  (hCX : ∀ (w : World) (H : Hp) (s : Shared) (e : Value) (s' : Shared), CX w [] H s (fun _ _ _ => False) e s' -> False) :
  PySem.W.WalkO q loose XP YP l.row.toRowW d [] (fun f vs => PySem.call f vs) := by
 refine Att.Bo hn hdf fun w s₀ s₁ mg mb fa o pm cd doc a vs ns G Y ho hd hcd hmg hobj hints hlen hg => ?_;have KX := hY w _ Y;obtain ⟨fd, hb, hF⟩ := F w mg fa _ KX G.T.g hmg;exact Nw KX G.T.g G.T.b G.T.builtins G.T.nolimit hg hobj hints (Nat.le_trans hlen hn2) hr hF hb (fun H hO hS => hsp w H a ns hlen hO hS) fun H e s' => hCX w H s₁ e s'
end L2
namespace L2
noncomputable def inClass (s : Stmt) (j : Nat) : Stmt := match s with
 | .ClassDef _ _ _ body _ _ _ _ _ _ _ => body.getD j (.Pass ⟨0, 0, 0, 0⟩)
 | _ => .Pass ⟨0, 0, 0, 0⟩
noncomputable def Zr (s : Stmt) : Arguments := match s with
 | .FunctionDef _ a _ _ _ _ _ _ _ _ => a
 | _ => { posonlyargs := [], args := [], vararg := none, kwonlyargs := [], kw_defaults := [], kwarg := none, defaults := [] }
noncomputable def Zo (s : Stmt) : List Stmt := match s with
 | .FunctionDef _ _ b _ _ _ _ _ _ _ => b
 | _ => []
noncomputable def Ze (s : Stmt) : Scope := match s with
 | .FunctionDef _ _ _ _ _ _ sc _ _ _ => sc
 | _ => { kind := .function, names := [], isGenerator := false, isCoroutine := false }
abbrev CX0 : CXT := fun _ _ _ _ _ _ => False
abbrev E0 : XK := fun _ _ _ => False
theorem Zm : Passes CX0 X E0 := fun _ _ _ _ _ _ _ h => h.elim
structure Fun (K : Fk) (x qual : Str) (st : Stmt) (f : Addr) (fd : FuncData) : Prop where
 ex : ∃ (oc : Value) (od : Option Addr) (kV doc pm : Value) (an : Option Addr) (cdv ct : Value) (osl : Array (Option Value)),
  fd = PySem.W.fnOf x qual (Zr st) (Zo st) (Ze st) .none kV doc pm an cdv ct /\ K.lookup f = some ⟨oc, od, .func fd, osl⟩ /\ PySem.W.codeIn K cdv qual = true
 kp : PySem.W.keepIn K (.ref f) = true
section
variable {base : Heap}
theorem Fun.ok {ps : List Str} {k : Nat} {sp : Sp} (F : Fun K x qual st f fd) (S : Zq N ps (Ze st)) (len : ∀ vs H Q E, sp vs H Q E -> vs.length = ps.length)
  (hbody : ∀ (cdv : Value) (A : Around) (outer : List Env) (s : Shared) (H : Hp) (vs : List V) (Q : VK) (E : XK), V6 k (A.deeper (envOfC qual (Ze st) s.heap.objs.size f cdv)) -> sp vs H Q E ->
   ∃ t, PSs (Pj CX0 P w K mg base N qual (Ze st) f cdv A outer s H E).nox (Zo st) t /\ t { nx := fun _ H' => Q .non H', rt := Q } (start N vs) H) : ZD P w K mg base CX0 (k + 1) f fd ps sp := by
 obtain ⟨oc, od, kV, doc, pm, an, cdv, ct, osl, rfl, lk, hcd⟩ := F.ex;refine Zf7 lk hcd S len fun A outer s H vs Q E hr hsp => ?_;obtain ⟨t, h, q⟩ := hbody cdv A outer s H vs Q E hr hsp;exact ⟨t, h.nox, q⟩
theorem Fun.binds {ps : List Str} (F : Fun K x qual st f fd)
  (h : ∀ (kV doc pm : Value) (an : Option Addr) (cdv ct : Value) (us : List Value), us.length = ps.length -> bindArgs (PySem.W.fnOf x qual (Zr st) (Zo st) (Ze st) .none kV doc pm an cdv ct) ⟨us, []⟩ = pure (ps.zip us)) : Binds K fd ps [] := by
 obtain ⟨oc, od, kV, doc, pm, an, cdv, ct, osl, rfl, lk, hcd⟩ := F.ex;exact .all (h kV doc pm an cdv ct)
theorem Zz {oc : Value} {od an : Option Addr} {osl : Array (Option Value)} {kV doc pm cdv ct : Value} (l : K.lookup f = some ⟨oc, od, .func (PySem.W.fnOf x qual (Zr st) (Zo st) (Ze st) .none kV doc pm an cdv ct), osl⟩)
  (c : PySem.W.codeIn K cdv qual = true) (k : PySem.W.keepIn K (.ref f) = true) : Fun K x qual st f (PySem.W.fnOf x qual (Zr st) (Zo st) (Ze st) .none kV doc pm an cdv ct) := ⟨⟨oc, od, kV, doc, pm, an, cdv, ct, osl, rfl, l, c⟩, k⟩
end
section
end
def Py (H H' : Hp) : Prop := ∀ b o, H b = some o -> H' b = some o
theorem Py.refl (H : Hp) : Py H H := fun _ _ h => h
theorem Py.trans {H1 H2 : Hp} (a : Py H H1) (b : Py H1 H2) : Py H H2 := fun c o h => b c o (a c o h)
theorem Py.free (e : Py H H') {l : Addr} (h : H' l = Option.none) : H l = Option.none := by
 cases q : H l with
 | none => rfl
 | some o =>
  rw [e l o q] at h;cases h
end L2
namespace DL
inductive DV where
 | dat (d : PyData)
 | own (a : Addr)
 | ty (n : String)
  | mix (xs : List DV)
inductive OO where
 | lst (ds : List PyData)
  | dct (ks : List (List Key))
  | dtv (kvs : List (List Key × PyData))
  | dkv (kvs : List (Key × PyData))
  | dko (kvs : List (Key × DV))
  | fdk (o : Obj) (kvs : List (Key × PyData))
  | lsv (n : Nat) (xs : List DV)
  | ext (φ : Heap -> Prop)
abbrev Mp := Addr -> Option OO
noncomputable def ZM (M : Mp) (a : Addr) (o : OO) : Mp := fun b => if b = a then some o else M b
noncomputable def Yy (M : Mp) (a : Addr) : Mp := fun b => if b = a then none else M b
theorem Zv {M : Mp} {o : OO} : ZM M a o a = some o := by unfold ZM; rw [if_pos rfl]
theorem Z5 {M : Mp} {o : OO} (h : b ≠ a) : ZM M a o b = M b := by unfold ZM; rw [if_neg h]
theorem UG {M : Mp} {o u : OO} : ZM (ZM M a o) a u = ZM M a u := by
 funext b; unfold ZM; split <;> rfl
theorem YJ {M : Mp} : Yy M a a = none := by unfold Yy; rw [if_pos rfl]
theorem JE {M : Mp} (h : b ≠ a) : Yy M a b = M b := by unfold Yy; rw [if_neg h]
noncomputable def kD : Key -> PyData
 | .inl i => .int i
 | .inr x => .str x
def KTu (K : Fk) (a : Addr) (xs : List V) : Prop :=
 ∃ (o : Obj) (its : Array Value) (n : Nat), K.lookup a = some o /\ o.cls = .type "tuple" /\ o.data = .seq its n /\ its.size <= sizeLine /\ Vals xs its.toList
def KLs (K : Fk) (a : Addr) (xs : List V) : Prop :=
 ∃ (o : Obj) (its : Array Value) (n : Nat), K.lookup a = some o /\ o.cls = .type "list" /\ o.dict = none /\ o.data = .seq its n /\ its.size <= sizeLine /\ Vals xs its.toList
def TupAt (K : Fk) (M : Mp) (H : Hp) (a : Addr) (xs : List V) : Prop := (M a = none /\ Rd H a (.tup xs)) \/ KTu K a xs
def LstAt (K : Fk) (M : Mp) (H : Hp) (a : Addr) (xs : List V) : Prop := (M a = none /\ Rd H a (.lst xs)) \/ KLs K a xs
theorem TupAt.sq {M : Mp} (h : TupAt K M H a xs) : SqT K H a xs := by
 rcases h with ⟨_, h⟩ | h
 ·exact .inl h
 ·exact .inr h
theorem LstAt.sq {M : Mp} (h : LstAt K M H a xs) : SqL K H a xs := by
 rcases h with ⟨_, h⟩ | h
 ·exact .inl h
 ·exact .inr h
mutual
inductive Dt (K : Fk) (M : Mp) (H : Hp) : V -> PyData -> Prop
 | non : Dt K M H .non .none
 | bl (b : Bool) : Dt K M H (.bl b) (.bool b)
 | int (i : Int) : Dt K M H (.int i) (.int i)
 | str (x : Str) : Dt K M H (.str x) (.str x)
 | tup {a : Addr} {xs : List V} {ds : List PyData} : TupAt K M H a xs -> Dts K M H xs ds -> Dt K M H (.ref a) (.tuple ds)
 | lst {a : Addr} {xs : List V} {ds : List PyData} : LstAt K M H a xs -> Dts K M H xs ds -> Dt K M H (.ref a) (.list ds)
 | dK {a : Addr} {kvs : List (Key × V)} {ds : List PyData} : M a = none -> H a = some (.dK kvs) -> Dts K M H (kvs.map (·.2)) ds -> Dt K M H (.ref a) (.dict ((kvs.map fun kv => kD kv.1).zip ds))
 | dT {a : Addr} {kvs : List (List Key × V)} {ds : List PyData} : M a = none -> H a = some (.dT kvs) -> Dts K M H (kvs.map (·.2)) ds -> kvs ≠ [] -> Dt K M H (.ref a) (.dict ((kvs.map fun kv => PyData.tuple (kv.1.map kD)).zip ds))
 | dX {a b : Addr} {φ : Heap -> Prop} {v : V} {dk d : PyData} : M a = none -> H a = some (.ext φ) -> (a == sysModules) = false ->
   (∀ h, φ h -> ∃ o es n u, h.get? a = some o /\ o.cls = .type "dict" /\ o.data = .dict es n /\ es.toList.map (·.key) = [.ref b] /\ es.toList.map (·.val) = [u] /\ RelV v u) -> Dt K M H (.ref b) dk -> Dt K M H v d -> Dt K M H (.ref a) (.dict [(dk, d)])
inductive Dts (K : Fk) (M : Mp) (H : Hp) : List V -> List PyData -> Prop
 | nil : Dts K M H [] []
 | cons {x : V} {xs : List V} {d : PyData} {ds : List PyData} : Dt K M H x d -> Dts K M H xs ds -> Dts K M H (x :: xs) (d :: ds)
end
structure Step (M : Mp) (H : Hp) (M' : Mp) (H' : Hp) : Prop where
 keep : ∀ b o, M b = none -> H b = some o -> H' b = some o
 free : ∀ b o, M b = none -> H b = some o -> M' b = none
theorem Step.refl {M : Mp} : Step M H M H := ⟨fun _ _ _ h => h, fun _ _ h _ => h⟩
theorem Step.trans {M M1 M2 : Mp} {H1 H2 : Hp} (a : Step M H M1 H1) (b : Step M1 H1 M2 H2) : Step M H M2 H2 :=
 ⟨fun c o h1 h2 => b.keep c o (a.free c o h1 h2) (a.keep c o h1 h2), fun c o h1 h2 => b.free c o (a.free c o h1 h2) (a.keep c o h1 h2)⟩
section
variable {M M' : Mp}
theorem Hl {u : HO} (st : Step M H M' H') (hm : M a = none) (h : Rd H a u) : M' a = none /\ Rd H' a u := by
 rcases h with h | ⟨o, h⟩
 ·exact ⟨st.free _ _ hm h, .inl (st.keep _ _ hm h)⟩
 ·exact ⟨st.free _ _ hm h, .inr ⟨o, st.keep _ _ hm h⟩⟩
theorem TupAt.step (h : TupAt K M H a xs) (st : Step M H M' H') : TupAt K M' H' a xs := by
 rcases h with ⟨h1, h2⟩ | h
 ·exact .inl (Hl st h1 h2)
 ·exact .inr h
theorem LstAt.step (h : LstAt K M H a xs) (st : Step M H M' H') : LstAt K M' H' a xs := by
 rcases h with ⟨h1, h2⟩ | h
 ·exact .inl (Hl st h1 h2)
 ·exact .inr h
mutual
theorem Dt.step (st : Step M H M' H') : ∀ {v : V} {d : PyData}, Dt K M H v d -> Dt K M' H' v d
 | _, _, .non => .non
 | _, _, .bl b => .bl b
 | _, _, .int i => .int i
 | _, _, .str x => .str x
 | _, _, .tup h1 h2 => .tup (h1.step st) (Dts.step st h2)
 | _, _, .lst h1 h2 => .lst (h1.step st) (Dts.step st h2)
 | _, _, .dK h0 h1 h2 => .dK (st.free _ _ h0 h1) (st.keep _ _ h0 h1) (Dts.step st h2)
 | _, _, .dT h0 h1 h2 h3 => .dT (st.free _ _ h0 h1) (st.keep _ _ h0 h1) (Dts.step st h2) h3
 | _, _, .dX h0 h1 h2 h3 h4 h5 => .dX (st.free _ _ h0 h1) (st.keep _ _ h0 h1) h2 h3 (Dt.step st h4) (Dt.step st h5)
theorem Dts.step (st : Step M H M' H') : ∀ {vs : List V} {ds : List PyData}, Dts K M H vs ds -> Dts K M' H' vs ds
 | _, _, .nil => .nil
 | _, _, .cons h1 h2 => .cons (Dt.step st h1) (Dts.step st h2)
end
theorem Dts.length : ∀ {vs : List V} {ds : List PyData}, Dts K M H vs ds -> vs.length = ds.length
 | _, _, .nil => rfl
 | _, _, .cons _ h => by rw [List.length_cons, List.length_cons, Dts.length h]
theorem Dts.get : ∀ {vs : List V} {ds : List PyData} {i : Nat} {d : PyData}, Dts K M H vs ds -> ds[i]? = some d -> ∃ v, vs[i]? = some v /\ Dt K M H v d
 | _, _, _, _, .nil, e => by simp at e
 | _, _, 0, _, .cons h _, e => by simp at e; subst e; exact ⟨_, rfl, h⟩
 | _, _, i + 1, d, .cons _ h, e => by
  obtain ⟨v, h1, h2⟩ := Dts.get (i := i) (d := d) h (by simpa using e);exact ⟨v, by simpa using h1, h2⟩
theorem Dts.ZaD : ∀ {vs : List V} {ds : List PyData} {i : Nat} {v : V}, Dts K M H vs ds -> vs[i]? = some v -> ∃ d, ds[i]? = some d /\ Dt K M H v d
 | _, _, _, _, .nil, e => by simp at e
 | _, _, 0, _, .cons h _, e => by simp at e; subst e; exact ⟨_, rfl, h⟩
 | _, _, i + 1, v, .cons _ h, e => by
  obtain ⟨d, h1, h2⟩ := Dts.ZaD (i := i) (v := v) h (by simpa using e);exact ⟨d, by simpa using h1, h2⟩
theorem Dts.append : ∀ {vs ws : List V} {ds es : List PyData}, Dts K M H vs ds -> Dts K M H ws es -> Dts K M H (vs ++ ws) (ds ++ es)
 | _, _, _, _, .nil, h => h
 | _, _, _, _, .cons h1 h2, h => .cons h1 (Dts.append h2 h)
theorem Dts.take : ∀ {vs : List V} {ds : List PyData} (n : Nat), Dts K M H vs ds -> Dts K M H (vs.take n) (ds.take n)
 | _, _, 0, _ => .nil
 | _, _, _ + 1, .nil => .nil
 | _, _, n + 1, .cons h1 h2 => .cons h1 (Dts.take n h2)
theorem Dts.drop : ∀ {vs : List V} {ds : List PyData} (n : Nat), Dts K M H vs ds -> Dts K M H (vs.drop n) (ds.drop n)
 | _, _, 0, h => h
 | _, _, _ + 1, .nil => .nil
 | _, _, n + 1, .cons _ h2 => Dts.drop n h2
theorem Dts.set (h : Dt K M H v d) : ∀ {vs : List V} {ds : List PyData} (i : Nat), Dts K M H vs ds -> Dts K M H (vs.set i v) (ds.set i d)
 | _, _, _, .nil => .nil
 | _, _, 0, .cons _ t => .cons h t
 | _, _, i + 1, .cons q t => .cons q (Dts.set h i t)
theorem Dts.ints : ∀ (ns : List Int), Dts K M H (ns.map V.int) (ns.map PyData.int)
 | [] => .nil
 | n :: ns => .cons (.int n) (Dts.ints ns)
theorem Y9 : ∀ {vs : List V} {ns : List Int}, Dts K M H vs (ns.map PyData.int) -> vs = ns.map V.int
 | vs, [], h => by
  rw [List.map_nil] at h;cases h;rfl
 | vs, n :: ns, h => by
  rw [List.map_cons] at h;cases h with
  | cons h1 h2 =>
   cases h1;rw [Y9 h2, List.map_cons]
mutual
inductive Mx (K : Fk) (M : Mp) (H : Hp) : V -> List DV -> Prop
 | mk {a : Addr} {vs : List V} {xs : List DV} : M a = none -> H a = some (.tup vs) -> Mxs K M H vs xs -> Mx K M H (.ref a) xs
inductive Mxs (K : Fk) (M : Mp) (H : Hp) : List V -> List DV -> Prop
 | nil : Mxs K M H [] []
 | dat {v : V} {d : PyData} {vs : List V} {xs : List DV} : Dt K M H v d -> Mxs K M H vs xs -> Mxs K M H (v :: vs) (.dat d :: xs)
 | own {b : Addr} {vs : List V} {xs : List DV} : Mxs K M H vs xs -> Mxs K M H (.ref b :: vs) (.own b :: xs)
 | mix {v : V} {ys : List DV} {vs : List V} {xs : List DV} : Mx K M H v ys -> Mxs K M H vs xs -> Mxs K M H (v :: vs) (.mix ys :: xs)
end
mutual
theorem Mx.step (st : Step M H M' H') : ∀ {v : V} {xs : List DV}, Mx K M H v xs -> Mx K M' H' v xs
 | _, _, .mk h1 h2 h3 => .mk (st.free _ _ h1 h2) (st.keep _ _ h1 h2) (Mxs.step st h3)
theorem Mxs.step (st : Step M H M' H') : ∀ {vs : List V} {xs : List DV}, Mxs K M H vs xs -> Mxs K M' H' vs xs
 | _, _, .nil => .nil
 | _, _, .dat h1 h2 => .dat (Dt.step st h1) (Mxs.step st h2)
 | _, _, .own h2 => .own (Mxs.step st h2)
 | _, _, .mix h1 h2 => .mix (Mx.step st h1) (Mxs.step st h2)
end
def VR0 (K : Fk) (M : Mp) (H : Hp) (v : V) : DV -> Prop
 | .dat d => Dt K M H v d
 | .own b => v = .ref b
 | .ty _ => False
 | .mix xs => Mx K M H v xs
theorem VR0.step {x : DV} (h : VR0 K M H v x) (st : Step M H M' H') : VR0 K M' H' v x := by
 cases x with
 | dat d => exact Dt.step st h
 | own b => exact h
 | ty n => exact h
 | mix xs => exact Mx.step st h
def OOk (K : Fk) (M : Mp) (H : Hp) (a : Addr) : OO -> Prop
 | .lst ds => ∃ vs, H a = some (.lst vs) /\ Dts K M H vs ds
 | .dct ks => ∃ kvs, H a = some (.dT kvs) /\ kvs.map (·.1) = ks
 | .dtv ps => ∃ kvs, H a = some (.dT kvs) /\ kvs.map (·.1) = ps.map (·.1) /\ Dts K M H (kvs.map (·.2)) (ps.map (·.2))
 | .dkv ps => ∃ kvs, H a = some (.dK kvs) /\ kvs.map (·.1) = ps.map (·.1) /\ Dts K M H (kvs.map (·.2)) (ps.map (·.2))
 | .dko ps => ∃ kvs, H a = some (.dK kvs) /\ Paired (fun (p : Key × V) (q : Key × DV) => p.1 = q.1 /\ VR0 K M H p.2 q.2) kvs ps
 | .fdk o ps => ∃ kvs, H a = some (.frz o (.dK kvs)) /\ kvs.map (·.1) = ps.map (·.1) /\ Dts K M H (kvs.map (·.2)) (ps.map (·.2))
 | .lsv _ xs => ∃ vs, H a = some (.lst vs) /\ Paired (VR0 K M H) vs xs
 | .ext φ => H a = some (.ext φ)
theorem OOk.step {o : OO} (h : OOk K M H a o) (st : Step M H M' H') (e : ∀ u, H a = some u -> H' a = some u) : OOk K M' H' a o := by
 cases o with
 | lst ds => obtain ⟨vs, e1, e2⟩ := h; exact ⟨vs, e _ e1, e2.step st⟩
 | dct ks => obtain ⟨vs, e1, e2⟩ := h; exact ⟨vs, e _ e1, e2⟩
 | dtv ps => obtain ⟨vs, e1, e2, e3⟩ := h; exact ⟨vs, e _ e1, e2, e3.step st⟩
 | dkv ps => obtain ⟨vs, e1, e2, e3⟩ := h; exact ⟨vs, e _ e1, e2, e3.step st⟩
 | dko ps => obtain ⟨vs, e1, e2⟩ := h; exact ⟨vs, e _ e1, Paired.ZaE e2 fun _ _ z => ⟨z.1, z.2.step st⟩⟩
 | fdk o ps => obtain ⟨vs, e1, e2, e3⟩ := h; exact ⟨vs, e _ e1, e2, e3.step st⟩
 | lsv n xs => obtain ⟨vs, e1, e2⟩ := h; exact ⟨vs, e _ e1, Paired.ZaE e2 fun _ _ z => z.step st⟩
 | ext φ => exact e _ h
theorem OOk.some {o : OO} (h : OOk K M H a o) : ∃ u, H a = some u := by
 cases o with
 | lst ds => obtain ⟨vs, e1, _⟩ := h; exact ⟨_, e1⟩
 | dct ks => obtain ⟨vs, e1, _⟩ := h; exact ⟨_, e1⟩
 | dtv ps => obtain ⟨vs, e1, _⟩ := h; exact ⟨_, e1⟩
 | dkv ps => obtain ⟨vs, e1, _⟩ := h; exact ⟨_, e1⟩
 | dko ps => obtain ⟨vs, e1, _⟩ := h; exact ⟨_, e1⟩
 | fdk o ps => obtain ⟨vs, e1, _⟩ := h; exact ⟨_, e1⟩
 | lsv n xs => obtain ⟨vs, e1, _⟩ := h; exact ⟨_, e1⟩
 | ext φ => exact ⟨_, h⟩
structure ZR (K : Fk) (M : Mp) (H : Hp) : Prop where
 ok : ∀ a o, M a = some o -> OOk K M H a o
theorem ZR.ls (r : ZR K M H) (a : Addr) (ds : List PyData) (h : M a = some (.lst ds)) : ∃ vs, H a = some (.lst vs) /\ Dts K M H vs ds := r.ok a _ h
theorem ZR.tracked (r : ZR K M H) (h : H a = none) : M a = none := by
 cases q : M a with
 | none => rfl
 | some o =>
  obtain ⟨u, e⟩ := (r.ok a o q).some;rw [h] at e;cases e
theorem Step.new {o : HO} (h : H p = none) : Step M H M (upd H p o) :=
 ⟨fun b u _ e => by rw [ZV (ZE e h)]; exact e, fun _ _ h _ => h⟩
theorem ZR.step_same (r : ZR K M H) (st : Step M H M H') (hk : ∀ a u, M a ≠ none -> H a = some u -> H' a = some u) : ZR K M H' :=
 ⟨fun a o e => (r.ok a o e).step st fun u hu => hk a u (by rw [e]; simp) hu⟩
theorem ZR.new (r : ZR K M H) {o : HO} (h : H p = none) : ZR K M (upd H p o) :=
 r.step_same (Step.new h) fun a vs _ e => by rw [ZV (ZE e h)]; exact e
theorem Step.Va {o : HO} {q : OO} (h : H p = none) : Step M H (ZM M p q) (upd H p o) :=
 ⟨fun b u _ e => by rw [ZV (ZE e h)]; exact e, fun b u hm e => by rw [Z5 (ZE e h)]; exact hm⟩
theorem Step.Mh {o : HO} {q q' : OO} (h : M p = some q) : Step M H (ZM M p q') (upd H p o) := by
 have ne : ∀ b, M b = none -> b ≠ p := fun b hb e => by rw [e, h] at hb; cases hb
 exact ⟨fun b u hb e => by rw [ZV (ne b hb)]; exact e, fun b u hb e => by rw [Z5 (ne b hb)]; exact hb⟩
theorem ZR.PD (r : ZR K M H) {u : HO} {o : OO} (st : Step M H (ZM M p o) (upd H p u)) (h : OOk K (ZM M p o) (upd H p u) p o) : ZR K (ZM M p o) (upd H p u) := by
 refine ⟨fun a q e => ?_⟩
 by_cases ha : a = p
 ·subst ha;rw [Zv] at e;cases e;exact h
 ·rw [Z5 ha] at e;exact (r.ok a q e).step st fun v hv => by rw [ZV ha]; exact hv
theorem ZR.Wx (r : ZR K M H) (st : Step M H (ZM M p (.lst ds)) (upd H p (.lst vs))) (hv : Dts K M H vs ds) :
  ZR K (ZM M p (.lst ds)) (upd H p (.lst vs)) := r.PD st ⟨vs, Jp, hv.step st⟩
theorem Step.frz : Step M H (Yy M p) H :=
 ⟨fun _ _ _ h => h, fun b o hb _ => by unfold Yy; split <;> first | rfl | exact hb⟩
theorem ZR.frz (r : ZR K M H) : ZR K (Yy M p) H := by
 refine ⟨fun a o e => ?_⟩;have hne : a ≠ p := fun z => by rw [z, YJ] at e; cases e
 rw [JE hne] at e;exact (r.ok a o e).step Step.frz fun _ h => h
def QC (K : Fk) (M : Mp) (H : Hp) (v : V) : DV -> Prop
 | .dat d => Dt K M H v d
 | .own a => v = .ref a
 | .ty n => v = .ty n
 | .mix xs => Mx K M H v xs
theorem QC.step {x : DV} (h : QC K M H v x) (st : Step M H M' H') : QC K M' H' v x := by
 cases x with
 | dat d => exact Dt.step st h
 | own a => exact h
 | ty n => exact h
 | mix xs => exact Mx.step st h
abbrev YU (K : Fk) (M : Mp) (H : Hp) : List V -> List DV -> Prop := Paired (QC K M H)
theorem YU.step {xs : List DV} (h : YU K M H vs xs) (st : Step M H M' H') : YU K M' H' vs xs := Paired.ZaE h fun _ _ q => QC.step q st
theorem YU.ZeE : ∀ {vs : List V} {ds : List PyData}, YU K M H vs (ds.map DV.dat) -> Dts K M H vs ds
 | vs, [], h => by rw [List.map_nil] at h; cases h; exact .nil
 | vs, d :: ds, h => by
  rw [List.map_cons] at h;cases h with
  | cons h1 h2 => exact .cons h1 (YU.ZeE h2)
def onV (o : Option (Option DV)) (P : DV -> Prop) : Prop := match o with | some (some x) => P x | _ => False
theorem CZ {o : Option (Option DV)} {P : DV -> Prop} (h : onV o P) : ∃ x, o = some (some x) /\ P x := by
 unfold onV at h
 split at h
 ·exact ⟨_, rfl, h⟩
 ·exact h.elim
def onI (x : DV) (P : Int -> Prop) : Prop := match x with | .dat (.int i) => P i | _ => False
theorem Zcm (i : Int) (P : Int -> Prop) : onI (.dat (.int i)) P = P i := rfl
theorem ZS {x : DV} {P : Int -> Prop} (h : onI x P) : ∃ i, x = .dat (.int i) /\ P i := by
 unfold onI at h
 split at h
 ·exact ⟨_, rfl, h⟩
 ·exact h.elim
def onB (x : DV) (P : Bool -> Prop) : Prop := match x with | .dat (.bool i) => P i | _ => False
theorem GZ {x : DV} {P : Bool -> Prop} (h : onB x P) : ∃ i, x = .dat (.bool i) /\ P i := by
 unfold onB at h
 split at h
 ·exact ⟨_, rfl, h⟩
 ·exact h.elim
def onS (x : DV) (P : Str -> Prop) : Prop := match x with | .dat (.str i) => P i | _ => False
theorem Qo {x : DV} {P : Str -> Prop} (h : onS x P) : ∃ i, x = .dat (.str i) /\ P i := by
 unfold onS at h
 split at h
 ·exact ⟨_, rfl, h⟩
 ·exact h.elim
def onT (x : DV) (P : List PyData -> Prop) : Prop := match x with | .dat (.tuple i) => P i | _ => False
theorem Xz {x : DV} {P : List PyData -> Prop} (h : onT x P) : ∃ i, x = .dat (.tuple i) /\ P i := by
 unfold onT at h
 split at h
 ·exact ⟨_, rfl, h⟩
 ·exact h.elim
def onL (x : DV) (P : List PyData -> Prop) : Prop := match x with | .dat (.list i) => P i | _ => False
theorem Dg {x : DV} {P : List PyData -> Prop} (h : onL x P) : ∃ i, x = .dat (.list i) /\ P i := by
 unfold onL at h
 split at h
 ·exact ⟨_, rfl, h⟩
 ·exact h.elim
def onD (x : DV) (P : PyData -> Prop) : Prop := match x with | .dat i => P i | _ => False
theorem ZX {x : DV} {P : PyData -> Prop} (h : onD x P) : ∃ i, x = .dat i /\ P i := by
 unfold onD at h
 split at h
 ·exact ⟨_, rfl, h⟩
 ·exact h.elim
def onO (x : DV) (P : Addr -> Prop) : Prop := match x with | .own i => P i | _ => False
theorem Z9 {x : DV} {P : Addr -> Prop} (h : onO x P) : ∃ i, x = .own i /\ P i := by
 unfold onO at h
 split at h
 ·exact ⟨_, rfl, h⟩
 ·exact h.elim
def Vp (o : Option OO) (P : List PyData -> Prop) : Prop := match o with | some (.lst ds) => P ds | _ => False
theorem QJ (ds : List PyData) (P : List PyData -> Prop) : Vp (some (.lst ds)) P = P ds := rfl
theorem Vs {o : Option OO} {P : List PyData -> Prop} (h : Vp o P) : ∃ ds, o = some (.lst ds) /\ P ds := by
 unfold Vp at h
 split at h
 ·exact ⟨_, rfl, h⟩
 ·exact h.elim
def RK (o : Option OO) (P : List (List Key) -> Prop) : Prop := match o with | some (.dct ks) => P ks | _ => False
def onQ (x : DV) (M : Mp) (P : List PyData -> Prop) : Prop := match x with | .dat (.tuple ds) => P ds | .dat (.list ds) => P ds | .own l => Vp (M l) P | _ => False
theorem LO {x : DV} {M : Mp} {P : List PyData -> Prop} (h : onQ x M P) : ∃ ds, (x = .dat (.tuple ds) \/ x = .dat (.list ds) \/ ∃ l, x = .own l /\ M l = some (.lst ds)) /\ P ds := by
 unfold onQ at h
 split at h
 ·exact ⟨_, .inl rfl, h⟩
 ·exact ⟨_, .inr (.inl rfl), h⟩
 ·replace h := Vs h;obtain ⟨ds, e, h⟩ := h;exact ⟨ds, .inr (.inr ⟨_, rfl, e⟩), h⟩
 ·exact h.elim
def onK (x : DV) (M : Mp) (P : List PyData -> Prop) : Prop := match x with | .dat (.list ds) => P ds | .own l => Vp (M l) P | _ => False
theorem YV {x : DV} {M : Mp} {P : List PyData -> Prop} (h : onK x M P) : ∃ ds, (x = .dat (.list ds) \/ ∃ l, x = .own l /\ M l = some (.lst ds)) /\ P ds := by
 unfold onK at h
 split at h
 ·exact ⟨_, .inl rfl, h⟩
 ·replace h := Vs h;obtain ⟨ds, e, h⟩ := h;exact ⟨ds, .inr ⟨_, rfl, e⟩, h⟩
 ·exact h.elim
def on1 (xs : List DV) (P : DV -> Prop) : Prop := match xs with | [x] => P x | _ => False
theorem Zw {xs : List DV} {P : DV -> Prop} (h : on1 xs P) : ∃ x, xs = [x] /\ P x := by
 unfold on1 at h
 split at h
 ·exact ⟨_, rfl, h⟩
 ·exact h.elim
def on2 (xs : List DV) (P : DV -> DV -> Prop) : Prop := match xs with | [x, y] => P x y | _ => False
theorem ZO {xs : List DV} {P : DV -> DV -> Prop} (h : on2 xs P) : ∃ x y, xs = [x, y] /\ P x y := by
 unfold on2 at h
 split at h
 ·exact ⟨_, _, rfl, h⟩
 ·exact h.elim
def on3 (xs : List DV) (P : DV -> DV -> DV -> Prop) : Prop := match xs with | [x, y, z] => P x y z | _ => False
theorem JF {xs : List DV} {P : DV -> DV -> DV -> Prop} (h : on3 xs P) : ∃ x y z, xs = [x, y, z] /\ P x y z := by
 unfold on3 at h
 split at h
 ·exact ⟨_, _, _, rfl, h⟩
 ·exact h.elim
def on4 (xs : List DV) (P : DV -> DV -> DV -> DV -> Prop) : Prop := match xs with | [x0, x1, x2, x3] => P x0 x1 x2 x3 | _ => False
def on5 (xs : List DV) (P : DV -> DV -> DV -> DV -> DV -> Prop) : Prop := match xs with | [x0, x1, x2, x3, x4] => P x0 x1 x2 x3 x4 | _ => False
def on6 (xs : List DV) (P : DV -> DV -> DV -> DV -> DV -> DV -> Prop) : Prop := match xs with | [x0, x1, x2, x3, x4, x5] => P x0 x1 x2 x3 x4 x5 | _ => False
noncomputable def Nu : List DV -> Option (List PyData)
 | [] => some []
 | .dat d :: r => match Nu r with | some ds => some (d :: ds) | none => none
 | _ :: _ => none
theorem CD : ∀ {xs : List DV} {ds : List PyData}, Nu xs = some ds -> xs = ds.map DV.dat
 | [], _, h => by cases h; rfl
 | .dat d :: r, ds, h => by
  rw [Nu] at h
  split at h
  ·rename_i es e;cases h;rw [List.map_cons, <- CD e]
  ·cases h
 | .own _ :: _, _, h => by cases h
 | .ty _ :: _, _, h => by cases h
 | .mix _ :: _, _, h => by cases h
def Kl (xs : List DV) (P : List PyData -> Prop) : Prop := match Nat.ble xs.length 100 with
 | true => (match Nu xs with | some ds => P ds | none => False)
 | false => False
theorem Cd {xs : List DV} {P : List PyData -> Prop} (h : Kl xs P) : ∃ ds, xs = ds.map DV.dat /\ ds.length <= 100 /\ P ds := by
 unfold Kl at h
 split at h
 ·rename_i e
  split at h
  ·rename_i ds e2;have e3 := CD e2;refine ⟨ds, e3, ?_, h⟩;have e4 := Nat.le_of_ble_eq_true e
   rwa [e3, List.length_map] at e4
  ·exact h.elim
 ·exact h.elim
abbrev DSt := List (Option DV)
structure Js (K : Fk) (M : Mp) (H : Hp) (O : L2.St) (Z : DSt) : Prop where
 len : O.length = Z.length
 at' : ∀ (i : Nat) (x : DV), Z[i]? = some (some x) -> ∃ v, O[i]? = some (some v) /\ QC K M H v x
theorem Js.step {O : L2.St} {Z : DSt} (h : Js K M H O Z) (st : Step M H M' H') : Js K M' H' O Z :=
 ⟨h.len, fun i x e => let ⟨v, e1, e2⟩ := h.at' i x e; ⟨v, e1, e2.step st⟩⟩
theorem Js.set {O : L2.St} {Z : DSt} {x : DV} (h : Js K M H O Z) (r : QC K M H v x) : Js K M H (O.set i (some v)) (Z.set i (some x)) := by
 refine ⟨by rw [List.length_set, List.length_set, h.len], fun j y e => ?_⟩
 by_cases hj : i = j
 ·subst hj
  by_cases hl : i < Z.length
  ·rw [List.getElem?_set_self hl] at e;cases e;exact ⟨v, List.getElem?_set_self (by rw [h.len]; exact hl), r⟩
  ·rw [List.getElem?_eq_none (by rw [List.length_set]; omega)] at e;cases e
 ·rw [List.getElem?_set_ne hj] at e;rw [List.getElem?_set_ne hj];exact h.at' j y e
noncomputable def XA (N : List Str) (xs : List DV) : DSt := xs.map some ++ List.replicate (N.length - xs.length) none
theorem Paired.ZfS {α β : Type} {F : α -> β -> Prop} : ∀ {l : List α} {m : List β} {i : Nat} {b : β}, Paired F l m -> m[i]? = some b -> ∃ a, l[i]? = some a /\ F a b
 | _, _, _, _, .nil, e => by simp at e
 | _, _, 0, _, .cons h _, e => by simp at e; subst e; exact ⟨_, rfl, h⟩
 | _, _, i + 1, b, .cons _ h, e => by
  obtain ⟨a, h1, h2⟩ := Paired.ZfS (i := i) (b := b) h (by simpa using e);exact ⟨a, by simpa using h1, h2⟩
theorem Js.start {xs : List DV} (h : YU K M H vs xs) : Js K M H (start N vs) (XA N xs) := by
 have hl : vs.length = xs.length := Paired.length h;refine ⟨by unfold L2.start XA; simp [hl], fun i x e => ?_⟩;unfold XA at e;unfold L2.start
 by_cases hi : i < xs.length
 ·rw [List.getElem?_append_left (by simpa using hi), List.getElem?_map] at e;cases q : xs[i]? with
  | none => rw [q] at e; cases e
  | some y =>
   rw [q] at e;cases e;obtain ⟨v, h1, h2⟩ := Paired.ZfS h q;exact ⟨v, by rw [List.getElem?_append_left (by simpa [hl] using hi), List.getElem?_map, h1]; rfl, h2⟩
 ·rw [List.getElem?_append_right (by simpa using hi), List.getElem?_replicate] at e
  split at e <;> cases e
end
abbrev DK := DV -> Mp -> Prop
abbrev DTE := DSt -> Mp -> DK -> Prop
abbrev DTT := DSt -> Mp -> (Bool -> Mp -> Prop) -> Prop
abbrev DTA := DSt -> Mp -> (List DV -> Mp -> Prop) -> Prop
structure Ql where
 nx : DSt -> Mp -> Prop
 rt : DK
 bk : DSt -> Mp -> Prop := fun _ _ => False
 ct : DSt -> Mp -> Prop := fun _ _ => False
abbrev DTS := Ql -> DSt -> Mp -> Prop
def Rch (K : Fk) (M : Mp) (H : Hp) (Φ : DK) (Q : VK) : Prop := ∀ v H' x M', ZR K M' H' -> Step M H M' H' -> QC K M' H' v x -> Φ x M' -> Q v H'
theorem Rch.step {M M' : Mp} {Φ : DK} {Q : VK} (h : Rch K M H Φ Q) (st : Step M H M' H') : Rch K M' H' Φ Q := fun v H2 x M2 r s2 q f => h v H2 x M2 r (st.trans s2) q f
theorem Rch.dat {M M' : Mp} {Φ : DK} {Q : VK} (h : Rch K M H Φ Q) (r : ZR K M' H') (st : Step M H M' H') (hd : Dt K M' H' v d) (f : Φ (.dat d) M') : Q v H' := h v H' (.dat d) M' r st hd f
def DE (X : Cx) (e : Expr) (τ : DTE) : Prop := ∃ t, PE X e t /\ ∀ O H Z M Φ Q, ZR X.K M H -> Js X.K M H O Z -> τ Z M Φ -> Rch X.K M H Φ Q -> t O H Q
def DT (X : Cx) (e : Expr) (τ : DTT) : Prop := ∃ t, PT X e t /\ ∀ O H Z M Φ (Q : Bool -> Hp -> Prop), ZR X.K M H -> Js X.K M H O Z -> τ Z M Φ ->
 (∀ b H' M', ZR X.K M' H' -> Step M H M' H' -> Φ b M' -> Q b H') -> t O H Q
def DW (X : Cx) (e : Expr) (τ : DTT) : Prop := ∃ t, PW X e t /\ ∀ O H Z M Φ (Q : Bool -> Hp -> Prop), ZR X.K M H -> Js X.K M H O Z -> τ Z M Φ ->
 (∀ b H' M', ZR X.K M' H' -> Step M H M' H' -> Φ b M' -> Q b H') -> t O H Q
def DA (X : Cx) (es : List Expr) (τ : DTA) : Prop := ∃ t, PA X es t /\ ∀ O H Z M Φ (Q : List V -> Hp -> Prop), ZR X.K M H -> Js X.K M H O Z -> τ Z M Φ ->
 (∀ vs H' xs M', ZR X.K M' H' -> Step M H M' H' -> YU X.K M' H' vs xs -> Φ xs M' -> Q vs H') -> t O H Q
structure Ka (K : Fk) (M : Mp) (H : Hp) (D : Ql) (E : Ends) : Prop where
 nx : ∀ σ' H' Δ' M', ZR K M' H' -> Step M H M' H' -> Js K M' H' σ' Δ' -> D.nx Δ' M' -> E.nx σ' H'
 rt : Rch K M H D.rt E.rt
 bk : ∀ σ' H' Δ' M', ZR K M' H' -> Step M H M' H' -> Js K M' H' σ' Δ' -> D.bk Δ' M' -> E.bk σ' H'
 ct : ∀ σ' H' Δ' M', ZR K M' H' -> Step M H M' H' -> Js K M' H' σ' Δ' -> D.ct Δ' M' -> E.ct σ' H'
theorem Ka.step {M M' : Mp} {D : Ql} {E : Ends} (h : Ka K M H D E) (st : Step M H M' H') : Ka K M' H' D E :=
 ⟨fun a b c d r s => h.nx a b c d r (st.trans s), h.rt.step st, fun a b c d r s => h.bk a b c d r (st.trans s), fun a b c d r s => h.ct a b c d r (st.trans s)⟩
def DS (X : Cx) (st : Stmt) (τ : DTS) : Prop := ∃ t, PS X st t /\ ∀ O H Z M D E, ZR X.K M H -> Js X.K M H O Z -> τ D Z M -> Ka X.K M H D E -> t E O H
def DSs (X : Cx) (st : List Stmt) (τ : DTS) : Prop := ∃ t, PSs X st t /\ ∀ O H Z M D E, ZR X.K M H -> Js X.K M H O Z -> τ D Z M -> Ka X.K M H D E -> t E O H
section
variable {a b c : Expr} {ta tb tc : DTE}
def ZgI (i : Nat) : DTE := fun Z M Φ => onV Z[i]? fun x => Φ x M
def dC (d : PyData) : DTE := fun _ M Φ => Φ (.dat d) M
theorem Zb (i : Nat) {pos : Pos} (hN : autoParam (X.N[i]? = some x) zz3._auto_1) (hv : autoParam (Vis X.env.scope x) zz5._auto_1) (hd : autoParam ((x == ("__debug__" : Str)) = false) zz1._auto_1)
  (hcd : autoParam ((x == ("__classdict__" : Str)) = false) zz1._auto_1) : DE X (.Name x pos) (ZgI i) := by
 refine ⟨_, Pw hN hv hd hcd, fun O H Z M Φ Q r e h k => ?_⟩;replace h := CZ h;obtain ⟨x, e1, h⟩ := h;obtain ⟨v, e2, q⟩ := e.at' i x e1;exact ⟨v, e2, k v H x M r Step.refl q h⟩
theorem YX (h : PE X e (tC v)) (q : ∀ M H, Dt X.K M H v d) : DE X e (dC d) :=
 ⟨_, h, fun _ H _ M _ _ r _ h k => k v H (.dat d) M r Step.refl (q M H) h⟩
theorem Zc {i j pos} : DE X (.Constant (.int i) j pos) (dC (.int i)) := YX Zei fun _ _ => .int i
theorem KP {b j pos} : DE X (.Constant (.bool b) j pos) (dC (.bool b)) := YX ZgJ fun _ _ => .bl b
theorem P0 {j pos} : DE X (.Constant .none j pos) (dC .none) := YX Zbe fun _ _ => .non
theorem Zs {x j pos} : DE X (.Constant (.str x) j pos) (dC (.str x)) := YX Ra fun _ _ => .str x
theorem YN {i : Int} {t : Tok} (hg : Gl X x) (hm : X.mg x = some (.int i t)) (hd : autoParam ((x == ("__debug__" : Str)) = false) zz1._auto_1) : DE X (.Name x pos) (dC (.int i)) :=
 YX (TU (v := .int i) hg hm ⟨t, rfl⟩ hd) fun _ _ => .int i
def dTy (n : String) : DTE := fun _ M Φ => Φ (.ty n) M
theorem Ca {n : String} (hg : Gl X x) (hm : X.mg x = none) (hv : bootBuiltins x = some (.type n)) (hn : autoParam (x ≠ "__name__") zz1._auto_1) (hdb : autoParam ((x == ("__debug__" : Str)) = false) zz1._auto_1) : DE X (.Name x pos) (dTy n) :=
 ⟨_, RX (v := .ty n) hg hm hv rfl hn hdb, fun _ H _ M _ _ r _ h k => k (.ty n) H (.ty n) M r Step.refl rfl h⟩
end
end DL
open DL
variable {M M' : Mp} {te : DTE} {o : OO} {tc : DTT}
namespace DL
section
theorem QC.bool {b : Bool} (h : QC K M H v (.dat (.bool b))) : v = .bl b := by cases (show Dt K M H v (.bool b) from h); rfl
theorem QC.int {i : Int} (h : QC K M H v (.dat (.int i))) : v = .int i := by cases (show Dt K M H v (.int i) from h); rfl
theorem QC.str (h : QC K M H v (.dat (.str x))) : v = .str x := by cases (show Dt K M H v (.str x) from h); rfl
theorem QC.tup (h : QC K M H v (.dat (.tuple ds))) : ∃ a xs, v = .ref a /\ TupAt K M H a xs /\ Dts K M H xs ds := by
 cases (show Dt K M H v (.tuple ds) from h) with
 | tup h1 h2 => exact ⟨_, _, rfl, h1, h2⟩
theorem QC.lst (h : QC K M H v (.dat (.list ds))) : ∃ a xs, v = .ref a /\ LstAt K M H a xs /\ Dts K M H xs ds := by
 cases (show Dt K M H v (.list ds) from h) with
 | lst h1 h2 => exact ⟨_, _, rfl, h1, h2⟩
theorem Dt.K8 (r : ZR K M H) (hp : H p = none) (h : Dts K M H xs ds) : Dt K M (upd H p (.tup xs)) (.ref p) (.tuple ds) :=
 .tup (.inl ⟨r.tracked hp, .inl Jp⟩) (h.step (Step.new hp))
theorem Dt.Y0 (r : ZR K M H) (hp : H p = none) (h : Dts K M H xs ds) : Dt K M (upd H p (.lst xs)) (.ref p) (.list ds) :=
 .lst (.inl ⟨r.tracked hp, .inl Jp⟩) (h.step (Step.new hp))
end
def Snd (K : Fk) (t : TE) (τ : DTE) : Prop := ∀ O H Z M Φ Q, ZR K M H -> Js K M H O Z -> τ Z M Φ -> Rch K M H Φ Q -> t O H Q
theorem Snd.bin {ta tb : TE} {τa τb : DTE} (qa : Snd K ta τa) (qb : Snd K tb τb) {O : L2.St} {Z : DSt} {S : DV -> DV -> Mp -> Prop} {R : V -> V -> Hp -> Prop} (r : ZR K M H) (e : Js K M H O Z)
  (h : τa Z M fun x M1 => τb Z M1 fun y M2 => S x y M2)
  (k : ∀ v u H2 x y M2, ZR K M2 H2 -> Step M H M2 H2 -> QC K M2 H2 v x -> QC K M2 H2 u y -> S x y M2 -> R v u H2) : ta O H fun v H1 => tb O H1 fun u H2 => R v u H2 :=
 qa O H Z M _ _ r e h fun v H1 x M1 r1 st rv hx => qb O H1 Z M1 _ _ r1 (e.step st) hx fun u H2 y M2 r2 st2 ru hy => k v u H2 x y M2 r2 (st.trans st2) (rv.step st2) ru hy
abbrev D2 := DV -> DV -> Mp -> DK -> Prop
def OpD (X : Cx) (f : Value -> Value -> Sem Value) (δ : D2) : Prop := ∃ r : R2, OpR X f r /\ ∀ v u H x y M Φ Q, ZR X.K M H -> QC X.K M H v x -> QC X.K M H u y -> δ x y M Φ -> Rch X.K M H Φ Q -> r v u H Q
def dOp (δ : D2) (ta tb : DTE) : DTE := fun Z M Φ => ta Z M fun x M1 => tb Z M1 fun y M2 => δ x y M2 Φ
section
variable {a b c : Expr} {ta tb tc : DTE} {op op' : CmpOp} {δ δ' : D2}
theorem Snd.opn {ta' tb' : TE} {r : R2} (ha : Snd X.K ta' ta) (hb : Snd X.K tb' tb) (q : ∀ v u H x y M Φ Q, ZR X.K M H -> QC X.K M H v x -> QC X.K M H u y -> δ x y M Φ -> Rch X.K M H Φ Q -> r v u H Q) : Snd X.K (tOp r ta' tb') (dOp δ ta tb) :=
 fun _ _ _ _ _ _ dr e h k => Snd.bin ha hb dr e h fun v u H2 x y M2 r2 st rv ru hs => q v u H2 x y M2 _ _ r2 rv ru hs (k.step st)
theorem Zj {bop : Operator} (ho : OpD X (binaryOp bop) δ) (ha : DE X a ta) (hb : DE X b tb) : DE X (.BinOp a bop b pos) (dOp δ ta tb) := by
 obtain ⟨ta', pa, qa⟩ := ha;obtain ⟨tb', pb, qb⟩ := hb;obtain ⟨r, hr, q⟩ := ho;exact ⟨_, ZfR hr pa pb, Snd.opn qa qb q⟩
theorem Jm (ho : OpD X (compareOp op) δ) (ha : DE X a ta) (hb : DE X b tb) (hm : autoParam (behindInMarks op b = false) zz6._auto_1) : DE X (.Compare a [op] [b] pos) (dOp δ ta tb) := by
 obtain ⟨ta', pa, qa⟩ := ha;obtain ⟨tb', pb, qb⟩ := hb;obtain ⟨r, hr, q⟩ := ho;exact ⟨_, Zam hr pa pb hm, Snd.opn qa qb q⟩
def dB (t : DTE) : DTT := fun Z M Φ => t Z M fun x M1 => onB x fun c => Φ c M1
theorem Snd.test {t : TE} {τ : DTE} (h : Snd X.K t τ) {O : L2.St} {Z : DSt} {Φ : Bool -> Mp -> Prop} {Q : Bool -> Hp -> Prop} (r : ZR X.K M H) (e : Js X.K M H O Z) (hw : dB τ Z M Φ)
  (k : ∀ b H' M', ZR X.K M' H' -> Step M H M' H' -> Φ b M' -> Q b H') : t O H fun x H1 => ∃ c, x = .bl c /\ Q c H1 := by
 refine h O H Z M _ _ r e hw fun v H1 x M1 r1 st rv hx => ?_;replace hx := GZ hx;obtain ⟨c, rfl, hx⟩ := hx;exact ⟨c, rv.bool, k c H1 M1 r1 st hx⟩
theorem ZG (ho : OpD X (compareOp op) δ) (ha : DE X a ta) (hb : DE X b tb) (hm : autoParam (behindInMarks op b = false) zz6._auto_1) : DT X (.Compare a [op] [b] pos) (dB (dOp δ ta tb)) := by
 obtain ⟨ta', pa, qa⟩ := ha;obtain ⟨tb', pb, qb⟩ := hb;obtain ⟨r, hr, q⟩ := ho;exact ⟨_, Zau hr pa pb hm, fun _ _ _ _ _ _ dr e h k => Snd.test (Snd.opn qa qb q) dr e h k⟩
theorem QR {τ : DTE} (h : DE X e τ) (he : autoParam (∀ whole, isTrue e X.env whole = (do let v <- whole; standAt e.pos; holding [v] (truthy v))) zz2._auto_1) : DT X e (dB τ) := by
 obtain ⟨t, p, q⟩ := h;exact ⟨_, Zdp p he, fun _ _ _ _ _ _ dr e h k => Snd.test q dr e h k⟩
def Cy (δ δ' : D2) (ta tb tc : DTE) : DTE := fun Z M Φ => ta Z M fun x M1 => tb Z M1 fun y M2 => δ x y M2 fun z M3 => onB z fun k => (if k = true then tc Z M3 fun w' M4 => δ' y w' M4 Φ else Φ (.dat (.bool false)) M3)
theorem Snd.chain {ta' tb' tc' : TE} {r r' : R2} (ha : Snd X.K ta' ta) (hb : Snd X.K tb' tb) (hc : Snd X.K tc' tc) (q : ∀ v u H x y M Φ Q, ZR X.K M H -> QC X.K M H v x -> QC X.K M H u y -> δ x y M Φ -> Rch X.K M H Φ Q -> r v u H Q)
  (q' : ∀ v u H x y M Φ Q, ZR X.K M H -> QC X.K M H v x -> QC X.K M H u y -> δ' x y M Φ -> Rch X.K M H Φ Q -> r' v u H Q) : Snd X.K (He r r' ta' tb' tc') (Cy δ δ' ta tb tc) := by
 intro O H Z M Φ Q dr e h k;refine Snd.bin ha hb dr e h fun v u H2 x y M2 r2 st rv ru hs => ?_;refine q v u H2 x y M2 _ _ r2 rv ru hs fun z H3 zd M3 r3 st3 rz hz => ?_;replace hz := GZ hz;obtain ⟨kb, rfl, hz⟩ := hz;refine ⟨kb, rz.bool, ?_⟩;cases kb with
 | true =>
  have hz' : tc Z M3 fun w' M4 => δ' y w' M4 Φ := by simpa using hz
  rw [if_pos rfl];refine hc O H3 Z M3 _ _ r3 (e.step (st.trans st3)) hz' fun w' H4 wd M4 r4 st4 rw4 hw4 => ?_;exact q' u w' H4 y wd M4 _ _ r4 (ru.step (st3.trans st4)) rw4 hw4 (k.step (st.trans (st3.trans st4)))
 | false =>
  have hz' : Φ (.dat (.bool false)) M3 := by simpa using hz
  rw [if_neg Bool.false_ne_true];exact k.dat r3 (st.trans st3) (Dt.bl false) hz'
theorem Uq (ho : OpD X (compareOp op) δ) (ho' : OpD X (compareOp op') δ') (ha : DE X a ta) (hb : DE X b tb) (hc : DE X c tc) (hm : autoParam (lastMarks [op, op'] [b, c] = false) zz4._auto_1) :
  DE X (.Compare a [op, op'] [b, c] pos) (Cy δ δ' ta tb tc) := by
 obtain ⟨ta', pa, qa⟩ := ha;obtain ⟨tb', pb, qb⟩ := hb;obtain ⟨tc', pc, qc⟩ := hc;obtain ⟨r, hr, q⟩ := ho;obtain ⟨r', hr', q'⟩ := ho';exact ⟨_, NT hr hr' pa pb pc hm, Snd.chain qa qb qc q q'⟩
theorem CV (ho : OpD X (compareOp op) δ) (ho' : OpD X (compareOp op') δ') (ha : DE X a ta) (hb : DE X b tb) (hc : DE X c tc) (hm : autoParam (lastMarks [op, op'] [b, c] = false) zz4._auto_1) :
  DT X (.Compare a [op, op'] [b, c] pos) (dB (Cy δ δ' ta tb tc)) := by
 obtain ⟨ta', pa, qa⟩ := ha;obtain ⟨tb', pb, qb⟩ := hb;obtain ⟨tc', pc, qc⟩ := hc;obtain ⟨r, hr, q⟩ := ho;obtain ⟨r', hr', q'⟩ := ho';exact ⟨_, OA hr hr' pa pb pc hm, fun _ _ _ _ _ _ dr e h k => Snd.test (Snd.chain qa qb qc q q') dr e h k⟩
variable {tA tB' : DTT} {rest : List Expr}
def Zhh (t u : DTT) : DTT := fun Z M Φ => t Z M fun c M1 => if c = true then u Z M1 Φ else Φ false M1
def dOr (t u : DTT) : DTT := fun Z M Φ => t Z M fun c M1 => if c = true then Φ true M1 else u Z M1 Φ
def Zhj (t : DTT) : DTT := fun Z M Φ => t Z M fun c M1 => Φ (!c) M1
theorem DW.dt {τ : DTT} (h : DW X e τ) : DT X e τ := by
 obtain ⟨t, p, q⟩ := h;exact ⟨t, p.pt, q⟩
theorem Y6 (ha : DT X a tA) : DW X (.BoolOp .And [a] pos) tA := by
 obtain ⟨t, p, q⟩ := ha;exact ⟨t, TK p, q⟩
theorem Ya (ha : DT X a tA) : DW X (.BoolOp .Or [a] pos) tA := by
 obtain ⟨t, p, q⟩ := ha;exact ⟨t, Zcd p, q⟩
theorem XW (ha : DT X a tA) (hb : DW X (.BoolOp .And (b :: rest) pos) tB') : DW X (.BoolOp .And (a :: b :: rest) pos) (Zhh tA tB') := by
 obtain ⟨t, p, q⟩ := ha;obtain ⟨u, p2, q2⟩ := hb;refine ⟨_, Zb5 p p2, fun O H Z M Φ Q r e h k => ?_⟩;refine q O H Z M _ _ r e h fun c H1 M1 r1 st hc => ?_;cases c with
 | true => rw [if_pos rfl]; exact q2 O H1 Z M1 Φ Q r1 (e.step st) (by simpa using hc) fun b H2 M2 r2 st2 hb => k b H2 M2 r2 (st.trans st2) hb
 | false => rw [if_neg Bool.false_ne_true]; exact k false H1 M1 r1 st (by simpa using hc)
theorem KQ (ha : DT X a tA) (hb : DW X (.BoolOp .Or (b :: rest) pos) tB') : DW X (.BoolOp .Or (a :: b :: rest) pos) (dOr tA tB') := by
 obtain ⟨t, p, q⟩ := ha;obtain ⟨u, p2, q2⟩ := hb;refine ⟨_, ZfZ p p2, fun O H Z M Φ Q r e h k => ?_⟩;refine q O H Z M _ _ r e h fun c H1 M1 r1 st hc => ?_;cases c with
 | false => rw [if_neg Bool.false_ne_true]; exact q2 O H1 Z M1 Φ Q r1 (e.step st) (by simpa using hc) fun b H2 M2 r2 st2 hb => k b H2 M2 r2 (st.trans st2) hb
 | true => rw [if_pos rfl]; exact k true H1 M1 r1 st (by simpa using hc)
theorem QS (ha : DT X a tA) : DT X (.UnaryOp .Not a pos) (Zhj tA) := by
 obtain ⟨t, p, q⟩ := ha;exact ⟨_, ZdW p, fun O H Z M Φ Q r e h k => q O H Z M _ _ r e h fun c H1 M1 r1 st hc => k _ H1 M1 r1 st hc⟩
def Zbt (ta tb : DTE) : DTE := fun Z M Φ => ta Z M fun x M1 => onB x fun c => if c = true then tb Z M1 Φ else Φ (.dat (.bool false)) M1
def ZhO (ta tb : DTE) : DTE := fun Z M Φ => ta Z M fun x M1 => onB x fun c => if c = true then Φ (.dat (.bool true)) M1 else tb Z M1 Φ
def ZcE (ta : DTE) : DTE := fun Z M Φ => ta Z M fun x M1 => onB x fun c => Φ (.dat (.bool (!c))) M1
theorem JO {bop} (h : DE X a ta) : DE X (.BoolOp bop [a] pos) ta := by
 obtain ⟨t, p, q⟩ := h;exact ⟨t, Zb6 p, q⟩
theorem QE (ha : DE X a ta) (hb : DE X (.BoolOp .And (b :: rest) pos) tb) : DE X (.BoolOp .And (a :: b :: rest) pos) (Zbt ta tb) := by
 obtain ⟨t, p, q⟩ := ha;obtain ⟨u, p2, q2⟩ := hb;refine ⟨_, ZdV p p2, fun O H Z M Φ Q r e h k => ?_⟩;refine q O H Z M _ _ r e h fun v H1 x M1 r1 st rv hx => ?_;replace hx := GZ hx;obtain ⟨c, rfl, hx⟩ := hx;refine ⟨c, rv.bool, ?_⟩;cases c with
 | true => rw [if_pos rfl]; exact q2 O H1 Z M1 Φ Q r1 (e.step st) (by simpa using hx) (k.step st)
 | false => rw [if_neg Bool.false_ne_true]; exact k.dat r1 st (Dt.bl false) (by simpa using hx)
theorem ZgS (ha : DE X a ta) (hb : DE X (.BoolOp .Or (b :: rest) pos) tb) : DE X (.BoolOp .Or (a :: b :: rest) pos) (ZhO ta tb) := by
 obtain ⟨t, p, q⟩ := ha;obtain ⟨u, p2, q2⟩ := hb;refine ⟨_, ZfA p p2, fun O H Z M Φ Q r e h k => ?_⟩;refine q O H Z M _ _ r e h fun v H1 x M1 r1 st rv hx => ?_;replace hx := GZ hx;obtain ⟨c, rfl, hx⟩ := hx;refine ⟨c, rv.bool, ?_⟩;cases c with
 | false => rw [if_neg Bool.false_ne_true]; exact q2 O H1 Z M1 Φ Q r1 (e.step st) (by simpa using hx) (k.step st)
 | true => rw [if_pos rfl]; exact k.dat r1 st (Dt.bl true) (by simpa using hx)
theorem Zec (ha : DE X a ta) : DE X (.UnaryOp .Not a pos) (ZcE ta) := by
 obtain ⟨t, p, q⟩ := ha;refine ⟨_, Zbg p, fun O H Z M Φ Q r e h k => ?_⟩;refine q O H Z M _ _ r e h fun v H1 x M1 r1 st rv hx => ?_;replace hx := GZ hx;obtain ⟨c, rfl, hx⟩ := hx;exact ⟨c, rv.bool, k.dat r1 st (Dt.bl (!c)) hx⟩
def dIf (t : DTT) (ta tb : DTE) : DTE := fun Z M Φ => t Z M fun c M1 => if c = true then ta Z M1 Φ else tb Z M1 Φ
def Zh8 (g : Int -> Int) (ta : DTE) : DTE := fun Z M Φ => ta Z M fun x M1 => onI x fun i => Φ (.dat (.int (g i))) M1
theorem Pz (ha : DE X a ta) : DE X (.UnaryOp .USub a pos) (Zh8 (fun i => -i) ta) := by
 obtain ⟨t, p, q⟩ := ha;refine ⟨_, ZgO ZaO p, fun O H Z M Φ Q r e h k => ?_⟩;refine q O H Z M _ _ r e h fun v H1 x M1 r1 st rv hx => ?_;replace hx := ZS hx;obtain ⟨i, rfl, hx⟩ := hx;exact ⟨i, rv.int, k.dat r1 st (Dt.int (-i)) hx⟩
def δI (C : Int -> Int -> Prop) (g : Int -> Int -> PyData) : D2 := fun x y M Φ => onI x fun i => onI y fun j => C i j /\ Φ (.dat (g i j)) M
def δI0 (g : Int -> Int -> PyData) : D2 := fun x y M Φ => onI x fun i => onI y fun j => Φ (.dat (g i j)) M
theorem Zeo {f : Value -> Value -> Sem Value} {C : Int -> Int -> Prop} {g : Int -> Int -> Int} (h : OpR X f (rI C fun i j => .int (g i j))) : OpD X f (δI C fun i j => .int (g i j)) :=
 ⟨_, h, fun v u H x y M Φ Q r rv ru h k => by
  replace h := ZS h;obtain ⟨i, e1, h⟩ := h;replace h := ZS h;obtain ⟨j, e2, hc, q⟩ := h;subst e1 e2
  exact ⟨i, j, rv.int, ru.int, hc, k.dat r Step.refl (Dt.int _) q⟩⟩
theorem Zb0 {f : Value -> Value -> Sem Value} {g : Int -> Int -> Int} (h : OpR X f (rI0 fun i j => .int (g i j))) : OpD X f (δI0 fun i j => .int (g i j)) :=
 ⟨_, h, fun v u H x y M Φ Q r rv ru h k => by
  replace h := ZS h;obtain ⟨i, e1, h⟩ := h;replace h := ZS h;obtain ⟨j, e2, q⟩ := h;subst e1 e2
  exact ⟨i, j, rv.int, ru.int, k.dat r Step.refl (Dt.int _) q⟩⟩
theorem Nr {f : Value -> Value -> Sem Value} {g : Int -> Int -> Bool} (h : OpR X f (rI0 fun i j => .bl (g i j))) : OpD X f (δI0 fun i j => .bool (g i j)) :=
 ⟨_, h, fun v u H x y M Φ Q r rv ru h k => by
  replace h := ZS h;obtain ⟨i, e1, h⟩ := h;replace h := ZS h;obtain ⟨j, e2, q⟩ := h;subst e1 e2
  exact ⟨i, j, rv.int, ru.int, k.dat r Step.refl (Dt.bl _) q⟩⟩
theorem ZC : OpD X (binaryOp .Add) (δI0 fun i j => .int (i + j)) := Zb0 Zbs
theorem QP : OpD X (binaryOp .Sub) (δI0 fun i j => .int (i - j)) := Zb0 Zc6
theorem Jj : OpD X (binaryOp .Mult) (δI ZeP fun i j => .int (i * j)) := Zeo ZcJ
theorem BY : OpD X (binaryOp .FloorDiv) (δI ZhV fun i j => .int (i / j)) := Zeo RM
theorem J1 : OpD X (binaryOp .Mod) (δI (fun _ j => 0 < j) fun i j => .int (i % j)) := Zeo Za1
theorem VJ : OpD X (binaryOp .Pow) (δI ZgR fun i j => .int (i ^ j.toNat)) := Zeo ZbA
theorem DF : OpD X (compareOp .Lt) (δI0 fun i j => .bool (decide (i < j))) := Nr ZfE
theorem Kd : OpD X (compareOp .LtE) (δI0 fun i j => .bool (decide (i <= j))) := Nr ZgG
theorem Zbw : OpD X (compareOp .Gt) (δI0 fun i j => .bool (decide (j < i))) := Nr Zfa
theorem ZcT : OpD X (compareOp .GtE) (δI0 fun i j => .bool (decide (j <= i))) := Nr ZgQ
def δB (g : Bool -> Bool -> Bool) : D2 := fun x y M Φ => onB x fun c => onB y fun d => Φ (.dat (.bool (g c d))) M
def Zdc : D2 := fun x y M Φ => onT x fun ds => onT y fun es => ds ≠ [] /\ ds.length + es.length <= sizeLine /\ Φ (.dat (.tuple (ds ++ es))) M
theorem Nx : OpR X (binaryOp .Add) (fun x y H Q => ∃ l b xs zs, x = .ref l /\ y = .ref b /\ SqL X.K H l xs /\ SqL X.K H b zs /\ xs.length + zs.length <= sizeLine /\ ∀ p, H p = none -> Q (.ref p) (upd H p (.lst (xs ++ zs)))) := by
 intro pins s O H x y v u Q I rx ry h;obtain ⟨l, b, xs, zs, rfl, rfl, hl, hb, hz, q⟩ := h;cases rx;cases ry;obtain ⟨its, r1, p1, _⟩ := I.list hl;obtain ⟨its2, r2, p2, _⟩ := I.list hb;obtain ⟨⟨cls, dd, data, sl⟩, ho, hc, n, hd⟩ := p1.isList;obtain ⟨⟨cls2, dd2, data2, sl2⟩, ho2, hc2, n2, hd2⟩ := p2.isList;simp only at hc hd hc2 hd2;subst hc hd hc2 hd2;have e : its.toArray ++ its2.toArray = (its ++ its2).toArray := by simp
 have hsz : its.toArray.size + its2.toArray.size <= sizeLine := by rw [List.size_toArray, List.size_toArray, <- r1.length, <- r2.length]; exact hz
 refine concat_meets ⟨_, ho, rfl⟩ ⟨_, ho2, rfl⟩ noFill_list_add seq_list_add PySem.F.slot_list_add PySem.F.entry_list_add (PySem.F.args_list_add_2 _ _) (list_addW l b its.toArray its2.toArray n n2 dd dd2 sl sl2 hsz) ⟨ho, ho2, ?_⟩;rw [e];exact ⟨.ref _, _, I.Zia (t' := s.toks) (r1.append r2) (by rw [List.length_append]; exact hz), rfl, q _ I.fresh⟩
def ZcP : D2 := fun x y M Φ => onL x fun ds => onL y fun es => ds.length + es.length <= sizeLine /\ Φ (.dat (.list (ds ++ es))) M
def Zak : D2 := fun x y M Φ => onL x fun ds => onL y fun es => ds.length + es.length <= sizeLine /\ ∀ p, M p = none -> Φ (.own p) (ZM M p (.lst (ds ++ es)))
end
def Zg4 : DTA := fun _ M Φ => Φ [] M
def ZdA (ta : DTE) (tr : DTA) : DTA := fun Z M Φ => ta Z M fun x M1 => tr Z M1 fun xs M2 => Φ (x :: xs) M2
section
variable {es : List Expr} {t : DTA}
theorem Zd : DA X [] Zg4 := ⟨_, Fc, fun _ H _ M _ _ r _ h k => k [] H [] M r Step.refl .nil h⟩
theorem Za (ha : DE X e te) (hr : DA X es t) (hs : autoParam (starEach (e :: es) X.env = (false, eval e X.env) :: starEach es X.env) zz3._auto_1) : DA X (e :: es) (ZdA te t) := by
 obtain ⟨u, p, q⟩ := ha;obtain ⟨w, p2, q2⟩ := hr;refine ⟨_, Bx p p2 hs, fun O H Z M Φ Q r e h k => ?_⟩;refine q O H Z M _ _ r e h fun v H1 x M1 r1 st rv hx => ?_;exact q2 O H1 Z M1 _ _ r1 (e.step st) hx fun vs H2 xs M2 r2 st2 rvs hxs => k (v :: vs) H2 (x :: xs) M2 r2 (st.trans st2) (.cons (rv.step st2) rvs) hxs
def Zh9 (t : DTA) : DTE := fun Z M Φ => t Z M fun xs M1 => Kl xs fun ds => Φ (.dat (.tuple ds)) M1
def Zhq (t : DTA) : DTE := fun Z M Φ => t Z M fun xs M1 => Kl xs fun ds => Φ (.dat (.list ds)) M1
def Za9 (t : DTA) : DTE := fun Z M Φ => t Z M fun xs M1 => Kl xs fun ds => ∀ p, M1 p = none -> Φ (.own p) (ZM M1 p (.lst ds))
theorem ZZ {x1} (h : DA X es t) : DE X (.Tuple es x1 pos) (Zh9 t) := by
 obtain ⟨u, p, q⟩ := h;refine ⟨_, Zcb p, fun O H Z M Φ Q r e h k => ?_⟩;refine q O H Z M _ _ r e h fun vs H1 xs M1 r1 st rv hx => ?_;replace hx := Cd hx;obtain ⟨ds, rfl, hz', hx⟩ := hx;have hz : ds.length <= sizeLine := by rw [sizeLine_eq]; omega
 have hd := rv.ZeE;refine ⟨by rw [hd.length]; exact hz, fun p hp => ?_⟩;exact k.dat (r1.new hp) (st.trans (Step.new hp)) (Dt.K8 r1 hp hd) hx
theorem Ja (h : DA X es t) : DE X (.List es pos) (Zhq t) := by
 obtain ⟨u, p, q⟩ := h;refine ⟨_, P2 p, fun O H Z M Φ Q r e h k => ?_⟩;refine q O H Z M _ _ r e h fun vs H1 xs M1 r1 st rv hx => ?_;replace hx := Cd hx;obtain ⟨ds, rfl, hz', hx⟩ := hx;have hz : ds.length <= sizeLine := by rw [sizeLine_eq]; omega
 have hd := rv.ZeE;refine ⟨by rw [hd.length]; exact hz, fun p hp => ?_⟩;exact k.dat (r1.new hp) (st.trans (Step.new hp)) (Dt.Y0 r1 hp hd) hx
theorem Yt (h : DA X es t) : DE X (.List es pos) (Za9 t) := by
 obtain ⟨u, p, q⟩ := h;refine ⟨_, P2 p, fun O H Z M Φ Q r e h k => ?_⟩;refine q O H Z M _ _ r e h fun vs H1 xs M1 r1 st rv hx => ?_;replace hx := Cd hx;obtain ⟨ds, rfl, hz', hx⟩ := hx;have hz : ds.length <= sizeLine := by rw [sizeLine_eq]; omega
 have hd := rv.ZeE;refine ⟨by rw [hd.length]; exact hz, fun p hp => ?_⟩;exact k _ _ (.own p) _ (r1.Wx (Step.Va hp) hd) (st.trans (Step.Va hp)) rfl (hx p (r1.tracked hp))
def Zg3 (t : DTE) : DTE := fun Z M Φ => t Z M fun x M1 => onO x fun l => Vp (M1 l) fun ds => Φ (.dat (.list ds)) (Yy M1 l)
theorem CJ (h : DE X e te) : DE X e (Zg3 te) := by
 obtain ⟨u, p, q⟩ := h;refine ⟨u, p, fun O H Z M Φ Q r e h k => ?_⟩;refine q O H Z M _ _ r e h fun v H1 x M1 r1 st rv hx => ?_;replace hx := Z9 hx;obtain ⟨l, rfl, hx⟩ := hx;replace hx := Vs hx;obtain ⟨ds, hm, hx⟩ := hx;obtain ⟨vs, e1, e2⟩ := r1.ls l ds hm;cases (show v = .ref l from rv);exact k.dat r1.frz (st.trans Step.frz) (Dt.lst (.inl ⟨YJ, .inl e1⟩) (e2.step Step.frz)) hx
def Er : List PyData -> Nat -> (PyData -> Prop) -> Prop
 | [], _, _ => False
 | d :: _, 0, P => P d
 | _ :: r, n + 1, P => Er r n P
def KR (ds : List PyData) (i : Int) (P : PyData -> Prop) : Prop := match i with
 | Int.ofNat n => Er ds n P
 | Int.negSucc n => Er ds.reverse n P
theorem Ui : ∀ {ds : List PyData} {n : Nat} {P : PyData -> Prop}, Er ds n P -> ∃ d, ds[n]? = some d /\ P d
 | [], _, _, h => h.elim
 | d :: _, 0, _, h => ⟨d, rfl, h⟩
 | _ :: r, n + 1, _, h => by
  obtain ⟨d, e, hp⟩ := Ui (ds := r) (n := n) h;exact ⟨d, by rw [List.getElem?_cons_succ]; exact e, hp⟩
theorem Uk : ∀ {ds : List PyData} {n : Nat} {P : PyData -> Prop} {d : PyData}, ds[n]? = some d -> P d -> Er ds n P
 | [], _, _, _, e, _ => by simp at e
 | d :: _, 0, _, _, e, h => by simp at e; subst e; exact h
 | _ :: r, n + 1, _, _, e, h => Uk (ds := r) (n := n) (by rw [List.getElem?_cons_succ] at e; exact e) h
theorem TH {i : Int} {P : PyData -> Prop} (h : KR ds i P) : ∃ d, atI ds i = some d /\ P d := by
 unfold KR at h
 split at h
 ·rename_i n;replace h := Ui h;obtain ⟨d, e, hp⟩ := h;exact ⟨d, Vj e, hp⟩
 ·rename_i n;replace h := Ui h;obtain ⟨d, e, hp⟩ := h;refine ⟨d, ?_, hp⟩;have hl := (List.getElem?_eq_some_iff.mp e).1;rw [List.length_reverse] at hl;rw [List.getElem?_reverse hl] at e;unfold L2.atI ixN;have e1 : ¬ (0 <= Int.negSucc n) := by omega
  rw [if_neg e1];have e2 : -(ds.length : Int) <= Int.negSucc n := by omega
  rw [if_pos e2];have e3 : (Int.negSucc n + (ds.length : Int)).toNat = ds.length - 1 - n := by omega
  simp only [e3];exact e
theorem VD {i : Int} {P : PyData -> Prop} (e : atI ds i = some d) (h : P d) : KR ds i P := by
 unfold L2.atI at e;cases i with
 | ofNat n =>
  have hh : ixN ds.length (Int.ofNat n) = if n < ds.length then some n else none := by
   unfold ixN;rw [if_pos (show (0 : Int) <= Int.ofNat n from Int.natCast_nonneg n)]
   by_cases hn : n < ds.length
   ·rw [if_pos hn, if_pos (show Int.ofNat n < _ by show ((n : Nat) : Int) < _; omega)];rfl
   ·rw [if_neg hn, if_neg (show ¬ Int.ofNat n < _ by show ¬ ((n : Nat) : Int) < _; omega)]
  rw [hh] at e
  split at e
  ·exact Uk (by exact e) h
  ·cases e
 | negSucc n =>
  unfold ixN at e;rw [if_neg (by omega)] at e
  by_cases hn : -(ds.length : Int) <= Int.negSucc n
  ·rw [if_pos hn] at e;have e3 : (Int.negSucc n + (ds.length : Int)).toNat = ds.length - 1 - n := by omega
   simp only [e3] at e;refine Uk (d := d) ?_ h;rw [List.getElem?_reverse (by omega)];exact e
  ·rw [if_neg hn] at e;cases e
theorem HE (l : List PyData) (a : PyData) (P : PyData -> Prop) : KR (l ++ [a]) (-1) P = P a := by
 show Er (l ++ [a]).reverse 0 P = P a;rw [List.reverse_append];rfl
def δIx : D2 := fun x y M Φ => onQ x M fun ds => onI y fun i => KR ds i fun d => Φ (.dat d) M
theorem Dts.atI {i : Int} (h : Dts K M H vs ds) (e : L2.atI ds i = some d) : ∃ v, L2.atI vs i = some v /\ Dt K M H v d := by
 unfold L2.atI at e ⊢;rw [h.length];cases q : ixN ds.length i with
 | none => rw [q] at e; cases e
 | some j =>
  rw [q] at e;exact h.get e
theorem Zl {a b : Expr} {ta tb : DTE} (ha : DE X a ta) (hb : DE X b tb) (hs : autoParam (BI b) zz7._auto_1) : DE X (.Subscript a b pos) (dOp δIx ta tb) := by
 obtain ⟨ta', pa, qa⟩ := ha;obtain ⟨tb', pb, qb⟩ := hb;refine ⟨_, Zd5 Zdr pa pb hs, Snd.opn qa qb fun v u H x y M Φ Q r rv ru h k => ?_⟩;replace h := LO h;obtain ⟨ds, hx, h⟩ := h;replace h := ZS h;obtain ⟨i, rfl, h⟩ := h;replace h := TH h;obtain ⟨d, hd, q⟩ := h;cases ru.int
 rcases hx with rfl | rfl | ⟨l, rfl, hm⟩
 ·obtain ⟨p, xs, rfl, h1, h2⟩ := rv.tup;obtain ⟨w', e1, e2⟩ := h2.atI hd;exact .inr (.inl ⟨p, xs, i, w', rfl, rfl, h1.sq, e1, k.dat r Step.refl e2 q⟩)
 ·obtain ⟨p, xs, rfl, h1, h2⟩ := rv.lst;obtain ⟨w', e1, e2⟩ := h2.atI hd;exact .inl ⟨p, xs, i, w', rfl, rfl, h1.sq, e1, k.dat r Step.refl e2 q⟩
 ·cases (show v = .ref l from rv);obtain ⟨vs, g1, g2⟩ := r.ls l ds hm;obtain ⟨w', e1, e2⟩ := g2.atI hd;exact .inl ⟨l, vs, i, w', rfl, rfl, SqL.of g1, e1, k.dat r Step.refl e2 q⟩
end
abbrev D1 := List DV -> Mp -> DK -> Prop
def Vy (X : Cx) (f : Value) (δ : D1) : Prop := ∃ r, Vz X f r /\ ∀ vs H xs M Φ Q, ZR X.K M H -> YU X.K M H vs xs -> δ xs M Φ -> Rch X.K M H Φ Q -> r vs H Q
def dCB (δ : D1) (t : DTA) : DTE := fun Z M Φ => t Z M fun xs M1 => δ xs M1 Φ
section
variable {es : List Expr} {t : DTA} {p : Pos} {id : String} {δ : D1}
theorem Zk (hc : Vy X (.builtin id) δ) (hg : Gl X x) (hm : X.mg x = none) (hv : bootBuiltins x = some (.builtin id)) (ha : DA X (e :: es) t) (hn : autoParam (x ≠ "__name__") zz1._auto_1) (hdb : autoParam ((x == ("__debug__" : Str)) = false) zz1._auto_1)
  (he : autoParam (starEach (e :: es) X.env = (false, eval e X.env) :: starEach es X.env) zz3._auto_1) (hpl : autoParam ((backTo pos (starEach es X.env)).any (·.1) = false) zz3._auto_1) : DE X (.Call (.Name x p) (e :: es) [] pos) (dCB δ t) := by
 obtain ⟨u, p, q⟩ := ha;obtain ⟨r, hr, qr⟩ := hc;refine ⟨_, NR hr hg hm hv p hn hdb he hpl, fun O H Z M Φ Q r e h k => ?_⟩;exact q O H Z M _ _ r e h fun vs H1 xs M1 r1 st rv hx => qr vs H1 xs M1 _ _ r1 rv hx (k.step st)
theorem Q8 (hc : Vy X (.type id) δ) (hg : Gl X x) (hm : X.mg x = none) (hv : bootBuiltins x = some (.type id)) (ha : DA X (e :: es) t) (hn : autoParam (x ≠ "__name__") zz1._auto_1) (hdb : autoParam ((x == ("__debug__" : Str)) = false) zz1._auto_1)
  (he : autoParam (starEach (e :: es) X.env = (false, eval e X.env) :: starEach es X.env) zz3._auto_1) (hpl : autoParam ((backTo pos (starEach es X.env)).any (·.1) = false) zz3._auto_1) : DE X (.Call (.Name x p) (e :: es) [] pos) (dCB δ t) := by
 obtain ⟨u, p, q⟩ := ha;obtain ⟨r, hr, qr⟩ := hc;refine ⟨_, LD hr hg hm hv p hn hdb he hpl, fun O H Z M Φ Q r e h k => ?_⟩;exact q O H Z M _ _ r e h fun vs H1 xs M1 r1 st rv hx => qr vs H1 xs M1 _ _ r1 rv hx (k.step st)
theorem Paired.one {α β : Type} {F : α -> β -> Prop} {l : List α} {b : β} (h : Paired F l [b]) : ∃ a, l = [a] /\ F a b := by
 cases h with
 | cons h1 h2 => cases h2; exact ⟨_, rfl, h1⟩
theorem Paired.two {α β : Type} {F : α -> β -> Prop} {l : List α} {b c : β} (h : Paired F l [b, c]) : ∃ a a', l = [a, a'] /\ F a b /\ F a' c := by
 cases h with
 | cons h1 h2 =>
  obtain ⟨a, rfl, h3⟩ := Paired.one h2;exact ⟨_, a, rfl, h1, h3⟩
def ZbC : D1 := fun xs M Φ => on1 xs fun x => onQ x M fun ds => Φ (.dat (.int ds.length)) M
theorem Qp : Vy X (.builtin "len") ZbC := by
 refine ⟨_, GP, fun vs H xs M Φ Q r rv h k => ?_⟩;replace h := Zw h;obtain ⟨x, rfl, h⟩ := h;replace h := LO h;obtain ⟨ds, hx, q⟩ := h;have fin : Q (.int ds.length) H := k.dat r Step.refl (Dt.int _) q
 rcases hx with rfl | rfl | ⟨l, rfl, hm⟩
 ·obtain ⟨v, rfl, h1⟩ := Paired.one rv;obtain ⟨p, ys, rfl, g1, g2⟩ := QC.tup h1;exact ⟨p, ys, rfl, .inr g1.sq, by rw [g2.length]; exact fin⟩
 ·obtain ⟨v, rfl, h1⟩ := Paired.one rv;obtain ⟨p, ys, rfl, g1, g2⟩ := QC.lst h1;exact ⟨p, ys, rfl, .inl g1.sq, by rw [g2.length]; exact fin⟩
 ·obtain ⟨v, rfl, h1⟩ := Paired.one rv;cases (show v = .ref l from h1);obtain ⟨ws, g1, g2⟩ := r.ls l ds hm;exact ⟨l, ws, rfl, .inl (SqL.of g1), by rw [g2.length]; exact fin⟩
def Rl : D1 := fun xs M Φ => on1 xs fun x => onS x fun z => z.length <= sizeLine /\ Φ (.dat (.int z.length)) M
theorem Li : Vy X (.builtin "len") Rl := by
 refine ⟨_, GA, fun vs H xs M Φ Q r rv h k => ?_⟩;replace h := Zw h;obtain ⟨x, rfl, h⟩ := h;replace h := Qo h;obtain ⟨z, rfl, hz, q⟩ := h;obtain ⟨v, rfl, h1⟩ := Paired.one rv;exact ⟨z, by rw [QC.str h1], hz, k.dat r Step.refl (Dt.int _) q⟩
def Rb : D1 := fun xs M Φ => on1 xs fun x => onI x fun i => i.natAbs.log2 < 1920 /\ Φ (.dat (.str (toString i))) M
theorem SQ : Vy X (.type "str") Rb := by
 refine ⟨_, Gd, fun vs H xs M Φ Q r rv h k => ?_⟩;replace h := Zw h;obtain ⟨x, rfl, h⟩ := h;replace h := ZS h;obtain ⟨i, rfl, hz, q⟩ := h;obtain ⟨v, rfl, h1⟩ := Paired.one rv;exact ⟨i, by rw [QC.int h1], hz, k.dat r Step.refl (Dt.str _) q⟩
def Zcf : D1 := fun xs M Φ => on1 xs fun x => onI x fun i => Φ (.dat (.int (if i < 0 then -i else i))) M
theorem Hk : Vy X (.builtin "abs") Zcf := by
 refine ⟨_, OF, fun vs H xs M Φ Q r rv h k => ?_⟩;replace h := Zw h;obtain ⟨x, rfl, h⟩ := h;replace h := ZS h;obtain ⟨i, rfl, q⟩ := h;obtain ⟨v, rfl, h1⟩ := Paired.one rv;exact ⟨i, by rw [QC.int h1], k.dat r Step.refl (Dt.int _) q⟩
def δ2I (g : Int -> Int -> Int) : D1 := fun xs M Φ => on2 xs fun x y => onI x fun i => onI y fun j => Φ (.dat (.int (g i j))) M
theorem Sq (hc : X.calm = true) : Vy X (.builtin "max") (δ2I fun i j => max i j) := by
 refine ⟨_, Hq hc, fun vs H xs M Φ Q r rv h k => ?_⟩;replace h := ZO h;obtain ⟨x, y, rfl, h⟩ := h;replace h := ZS h;obtain ⟨i, rfl, h⟩ := h;replace h := ZS h;obtain ⟨j, rfl, q⟩ := h;obtain ⟨v, u, rfl, h1, h2⟩ := Paired.two rv;have e : (if j > i then j else i) = max i j := by rw [Int.max_def]; split <;> split <;> omega
 exact ⟨i, j, by rw [QC.int h1, QC.int h2], by rw [e]; exact k.dat r Step.refl (Dt.int _) q⟩
def Mr : D1 := fun xs M Φ => on1 xs fun x => onQ x M fun ds => Φ (.dat (.list ds)) M
end
end DL
namespace DL
mutual
noncomputable def Z3 : PyData -> Bool
 | .none | .bool _ | .int _ | .str _ => false
 | .list _ => true
 | .tuple xs => ZI xs
 | .dict kvs => Q6 kvs
noncomputable def ZI : List PyData -> Bool
 | [] => false
 | x :: xs => Z3 x || ZI xs
noncomputable def Q6 : List (PyData × PyData) -> Bool
 | [] => false
 | (k, v) :: r => Z3 k || Z3 v || Q6 r
end
theorem VO : ∀ (ks ds : List PyData), ks.length = ds.length -> Q6 (ks.zip ds) = false -> ZI ds = false
 | [], [], _, _ => by simp [ZI]
 | k :: ks, d :: ds, h, e => by
  rw [List.zip_cons_cons, Q6] at e;have e' : (Z3 k = false /\ Z3 d = false) /\ Q6 (ks.zip ds) = false := by simpa using e
  rw [ZI, e'.1.2, VO ks ds (by simpa using h) e'.2]; rfl
 | [], _ :: _, h, _ => by simp at h
 | _ :: _, [], h, _ => by simp at h
section
variable {O : L2.St}
theorem Gn : ∀ {es : List DictEntry} {kvs : List (Key × Value)}, Pairs (ZK P w) es kvs -> ReadsAll h (es.map (·.key)) (kvs.map fun kv => kD kv.1) []
 | _, _, .nil => .nil
 | _, _, .cons (e := e) (kv := kv) h1 _ h3 => by
  rw [List.map_cons, List.map_cons];have hk : Reads h e.key (kD kv.1) [] := by
   rcases Z1 (k := kv.1) (v := e.key) h1 with ⟨i, t, e1, e2⟩ | ⟨x, t, e1, e2⟩
   ·rw [e1, e2]; exact .int i t
   ·rw [e1, e2]; exact .str x t
  exact .cons (as := []) (bs := []) hk (Gn h3)
theorem Wn : ∀ {es : List DictEntry} {kvs : List (Key × Value)}, Pairs (ZK P w) es kvs -> es.map (·.val) = kvs.map (·.2)
 | _, _, .nil => rfl
 | _, _, .cons h1 h2 h3 => by rw [List.map_cons, List.map_cons, h2, Wn h3]
theorem KV.vals {vs : List (Key × Value)} (r : KV kvs vs) : Vals (kvs.map (·.2)) (vs.map (·.2)) /\ (kvs.map fun kv => kD kv.1) = vs.map fun kv => kD kv.1 := by
 unfold KV at r
 induction r with
 | nil => exact ⟨.nil, rfl⟩
 | cons h _ ih => exact ⟨.cons h.2 ih.1, by rw [List.map_cons, List.map_cons, h.1, ih.2]⟩
theorem HX : ∀ {ks : List Key} {us : List Value}, Vals (ks.map kV) us -> ReadsAll h us (ks.map kD) []
 | [], _, r => by rw [List.map_nil] at r; cases r; exact .nil
 | k :: ks, _, r => by
  rw [List.map_cons] at r;cases r with
  | cons r1 r2 =>
   rw [List.map_cons];refine .cons (as := []) (bs := []) ?_ (HX r2);cases k with
   | inl i => obtain ⟨t, rfl⟩ := r1; exact .int i t
   | inr x => obtain ⟨t, rfl⟩ := r1; exact .str x t
theorem KT.read (I : Inv X pins O H s) {kvs : List (List Key × V)} {xs : List (List Key × Addr × Value)} (r : KT H kvs xs) :
  ReadsAll s.heap (xs.map fun x => Value.ref x.2.1) (kvs.map fun kv => PyData.tuple (kv.1.map kD)) [] /\ Vals (kvs.map (·.2)) (xs.map fun x => x.2.2) := by
 induction r with
 | nil => exact ⟨.nil, .nil⟩
 | @cons p q ps qs h _ ih =>
  obtain ⟨its, r, ⟨o, ho, hc, n, hd⟩, _⟩ := I.tuple (SqT.of (K := X.K) h.2.1);rw [List.map_cons, List.map_cons, List.map_cons, List.map_cons];exact ⟨.cons (as := []) (bs := []) (.tuple ho hc hd (by simpa using HX r)) ih.1, .cons h.2.2 ih.2⟩
mutual
theorem Dt.reads (I : Inv X pins O H s) : ∀ {v : V} {d : PyData}, Dt X.K M H v d -> ∀ {u : Value}, RelV v u -> ∃ as, Reads s.heap u d as /\ (Z3 d = false -> sysModules ∉ as)
 | _, _, .non, _, r => by cases r; exact ⟨[], .none, fun _ h => nomatch h⟩
 | _, _, .bl b, _, r => by cases r; exact ⟨[], .bool b, fun _ h => nomatch h⟩
 | _, _, .int i, _, r => by obtain ⟨t, rfl⟩ := r; exact ⟨[], .int i t, fun _ h => nomatch h⟩
 | _, _, .str x, _, r => by obtain ⟨t, rfl⟩ := r; exact ⟨[], .str x t, fun _ h => nomatch h⟩
 | _, _, .tup h1 h2, _, r => by
  cases r;obtain ⟨its, rv, ⟨o, ho, hc, n, hd⟩, _⟩ := I.tuple h1.sq;obtain ⟨as, ra, hs⟩ := Dts.reads I h2 rv;exact ⟨as, .tuple ho hc hd (by simpa using ra), fun h => hs (by simpa [Z3] using h)⟩
 | _, _, .lst h1 h2, _, r => by
  cases r;obtain ⟨its, rv, ⟨o, n, ho, hc, _, hd⟩, _⟩ := I.list h1.sq;obtain ⟨as, ra, hs⟩ := Dts.reads I h2 rv;exact ⟨_, .list ho hc hd (by simpa using ra), fun h => by simp [Z3] at h⟩
 | _, _, .dK (a := a) (kvs := kvs) (ds := ds) h0 h1 h2, _, r => by
  cases r;obtain ⟨_, hsys, vs, rel, o, es, ep, ho, hc, hd, _, hp, _⟩ := (show QO X.prog X.w H s.heap a (.dK kvs) from I.hok a _ h1)
  obtain ⟨rv, hk⟩ := KV.vals rel;obtain ⟨bs, rb, hs⟩ := Dts.reads I h2 rv;have hl : (kvs.map fun kv => kD kv.1).length = ds.length := by rw [List.length_map, <- h2.length, List.length_map]
  refine ⟨a :: [] ++ bs, .dict (as := []) ho hc.1 hd ?_ ?_, fun h => ?_⟩
  ·rw [List.map_fst_zip (Nat.le_of_eq hl), hk];exact Gn hp
  ·rw [List.map_snd_zip (Nat.le_of_eq hl.symm), Wn hp];exact rb
  ·have h' : ZI ds = false := VO _ _ hl (by rw [Z3] at h; exact h);intro hm
   rcases List.mem_cons.mp hm with e | hm
   ·rw [<- e] at hsys;simp at hsys
   ·exact hs h' hm
 | _, _, .dT (a := a) (kvs := kvs) (ds := ds) h0 h1 h2 _, _, r => by
  cases r;obtain ⟨_, hsys, xs, rel, o, es, ep, ho, hc, hd, he, _⟩ := (show QO X.prog X.w H s.heap a (.dT kvs) from I.hok a _ h1)
  obtain ⟨rk, rv⟩ := KT.read I rel;obtain ⟨bs, rb, hs⟩ := Dts.reads I h2 rv;have hl : (kvs.map fun kv => PyData.tuple (kv.1.map kD)).length = ds.length := by rw [List.length_map, <- h2.length, List.length_map]
  refine ⟨a :: [] ++ bs, .dict (as := []) ho hc.1 hd ?_ ?_, fun h => ?_⟩
  ·rw [List.map_fst_zip (Nat.le_of_eq hl), he, List.map_map];exact rk
  ·rw [List.map_snd_zip (Nat.le_of_eq hl.symm), he, List.map_map];exact rb
  ·have h' : ZI ds = false := VO _ _ hl (by rw [Z3] at h; exact h);intro hm
   rcases List.mem_cons.mp hm with e | hm
   ·rw [<- e] at hsys;simp at hsys
   ·exact hs h' hm
 | _, _, .dX (a := a) (dk := dk) (d := d) h0 h1 hsys h3 h4 h5, _, r => by
  cases r;obtain ⟨hφ, _⟩ := (show QO X.prog X.w H s.heap a (.ext _) from I.hok a _ h1)
  obtain ⟨o, es, n, u, ho, hc, hd, ek, ev, ru⟩ := h3 s.heap hφ;obtain ⟨as, ra, ha⟩ := Dt.reads I h4 (u := .ref _) rfl;obtain ⟨bs, rb, hb⟩ := Dt.reads I h5 ru;refine ⟨a :: (as ++ []) ++ (bs ++ []), .dict ho hc hd ?_ ?_, fun h => ?_⟩
  ·rw [ek]; exact .cons ra .nil
  ·rw [ev]; exact .cons rb .nil
  ·have h' : Z3 dk = false /\ Z3 d = false := by simpa [Z3, Q6] using h
   intro hm;rw [List.append_nil, List.append_nil, List.cons_append] at hm
   rcases List.mem_cons.mp hm with e | hm
   ·rw [<- e] at hsys;simp at hsys
   ·rcases List.mem_append.mp hm with hm | hm
    ·exact ha h'.1 hm
    ·exact hb h'.2 hm
theorem Dts.reads (I : Inv X pins O H s) : ∀ {vs : List V} {ds : List PyData}, Dts X.K M H vs ds -> ∀ {us : List Value}, Vals vs us -> ∃ as, ReadsAll s.heap us ds as /\ (ZI ds = false -> sysModules ∉ as)
 | _, _, .nil, _, r => by cases r; exact ⟨[], .nil, fun _ h => nomatch h⟩
 | _, _, .cons (d := d) (ds := ds) h1 h2, _, r => by
  cases r with
  | cons r1 r2 =>
   obtain ⟨as, ra, ha⟩ := Dt.reads I h1 r1;obtain ⟨bs, rb, hb⟩ := Dts.reads I h2 r2;refine ⟨as ++ bs, .cons ra rb, fun h hm => ?_⟩;have h' : Z3 d = false /\ ZI ds = false := by simpa [ZI] using h
   rcases List.mem_append.mp hm with hm | hm
   ·exact ha h'.1 hm
   ·exact hb h'.2 hm
end
end
section
theorem K7 (hg : X.A.guards = some []) (hu : X.A.units + 100 < cLine) : Vz X (.builtin "repr") (fun xs H Q => ∃ v d M, xs = [v] /\ Dt X.K M H v d /\ d.showable = true /\ (d.hasDict && Z3 d) = false /\ d.depth <= 64 /\
  d.shown.length <= sizeLine /\ Q (.str d.shown) H) := by
 intro pins s O H xs us Q I r h;obtain ⟨v, d, M, rfl, hd, hs, hm, hdp, hz, q⟩ := h;obtain ⟨u, rfl, ru⟩ := vals1 r;have ref : ∀ a, u = .ref a -> wpAny (model X.prog X.w) X.A (call (.builtin "repr") [u]) (EP X pins O Q) X.xe s := fun a e => by
  obtain ⟨as, ra, hsm⟩ := hd.reads I ru;subst e;refine repr_of_reads' ra hs (fun hx => hsm ?_) hg (by omega) (fun _ _ e => e) (fun h' u tk k => ⟨.str d.shown, H, I.kept k, ⟨_, rfl⟩, q⟩) hz;rw [hx, Bool.true_and] at hm;exact hm
 cases hd with
 | non => cases ru; simp only [PyData.shown] at q; exact PySem.P.repr_of_none ⟨.str _, H, I.tok _, ⟨_, rfl⟩, q⟩
 | bl b => cases ru; simp only [PyData.shown] at q; exact PySem.P.repr_of_bool ⟨.str _, H, I.tok _, ⟨_, rfl⟩, q⟩
 | int i => obtain ⟨t, rfl⟩ := ru; simp only [PyData.shown] at q; exact PySem.P.repr_of_int (by simpa [PyData.showable] using hs) ⟨.str _, H, I.tok _, ⟨_, rfl⟩, q⟩
 | str x => obtain ⟨t, rfl⟩ := ru; simp only [PyData.shown] at q hz; exact PySem.P.repr_of_str ⟨.str _, H, I.tok _, ⟨_, rfl⟩, q⟩ hz
 | tup _ _ => exact ref _ ru
 | lst _ _ => exact ref _ ru
 | dK _ _ _ => exact ref _ ru
 | dT _ _ _ _ => exact ref _ ru
 | dX _ _ _ _ _ _ => exact ref _ ru
structure Shw (d : PyData) : Prop where
 s : d.showable = true
 m : (d.hasDict && Z3 d) = false
 dp : d.depth <= 64
 z : d.shown.length <= sizeLine
def PZ : D1 := fun xs M Φ => on1 xs fun x => onD x fun d => Shw d /\ Φ (.dat (.str d.shown)) M
theorem BC {k : Nat} (hr : V6 k X.A) : Vy X (.builtin "repr") PZ := by
 refine ⟨_, K7 hr.gd (by have := hr.un; omega), fun vs H xs M Φ Q r rv h k => ?_⟩;replace h := Zw h;obtain ⟨x, rfl, h⟩ := h;replace h := ZX h;obtain ⟨d, rfl, hs, q⟩ := h;obtain ⟨v, rfl, h1⟩ := Paired.one rv;exact ⟨v, d, M, rfl, h1, hs.s, hs.m, hs.dp, hs.z, k.dat r Step.refl (Dt.str _) q⟩
noncomputable def tyN : PyData -> String
 | .none => "NoneType"
 | .bool _ => "bool"
 | .int _ => "int"
 | .str _ => "str"
 | .list _ => "list"
 | .tuple _ => "tuple"
 | .dict _ => "dict"
theorem EO : Vz X (.builtin "isinstance") (fun xs H Q => ∃ v d M T b, xs = [v, .ty T] /\ Dt X.K M H v d /\ PySem.W.kitOne X.K (.type (tyN d)) (.type T) = some b /\ Q (.bl b) H) := by
 intro pins s O H xs us Q I r h;obtain ⟨v, d, M, T, b, rfl, hd, e, q⟩ := h;obtain ⟨u, w', rfl, ru, rt⟩ := vals2 r;cases (show w' = Value.type T from rt);have fin : ∀ tk, EP X pins O Q (.bool b) { s with toks := tk } := fun tk => ⟨.bl b, H, I.tok tk, rfl, q⟩;cases hd with
 | non => cases ru; exact PySem.W.kia_one PySem.W.kitx_none I.kIn True.intro e (fun z => nomatch z) fin
 | bl y => cases ru; exact PySem.W.kia_one PySem.W.kitx_bool I.kIn True.intro e (fun z => nomatch z) fin
 | int i => obtain ⟨t, rfl⟩ := ru; exact PySem.W.kia_one PySem.W.kitx_int I.kIn True.intro e (fun z => nomatch z) fin
 | str y => obtain ⟨t, rfl⟩ := ru; exact PySem.W.kia_one PySem.W.kitx_str I.kIn True.intro e (fun z => nomatch z) fin
 | tup h1 _ =>
  cases ru;obtain ⟨_, _, ⟨o, ho, hc, _⟩, _⟩ := I.tuple h1.sq;exact PySem.W.kia_one PySem.W.kitx_tuple I.kIn ⟨o, ho, hc⟩ e (fun z => nomatch z) fin
 | lst h1 _ =>
  cases ru;obtain ⟨_, _, ⟨o, n, ho, hc, _⟩, _⟩ := I.list h1.sq;exact PySem.W.kia_one PySem.W.kitx_list I.kIn ⟨o, ho, hc⟩ e (fun z => nomatch z) fin
 | dK _ h1 _ =>
  cases ru;obtain ⟨_, _, vs, _, p⟩ := (show QO X.prog X.w H s.heap _ (.dK _) from I.hok _ _ h1)
  obtain ⟨o, es, ep, g1, g2, _⟩ := p;exact PySem.W.kia_one PySem.W.kitx_dict I.kIn ⟨o, g1, g2.1⟩ e (fun z => nomatch z) fin
 | dT _ h1 _ _ =>
  cases ru;obtain ⟨_, _, xs, _, o, es, ep, g1, g2, _⟩ := (show QO X.prog X.w H s.heap _ (.dT _) from I.hok _ _ h1)
  exact PySem.W.kia_one PySem.W.kitx_dict I.kIn ⟨o, g1, g2.1⟩ e (fun z => nomatch z) fin
 | dX _ h1 _ h3 _ _ =>
  cases ru;obtain ⟨hφ, _⟩ := (show QO X.prog X.w H s.heap _ (.ext _) from I.hok _ _ h1)
  obtain ⟨o, es, n, u, ho, hc, _⟩ := h3 s.heap hφ;exact PySem.W.kia_one PySem.W.kitx_dict I.kIn ⟨o, ho, hc⟩ e (fun z => nomatch z) fin
noncomputable def ZJ (T : String) (d : PyData) : Bool := tyN d == T || (T == "int" && tyN d == "bool")
theorem Sy (K : Fk) (d : PyData) : PySem.W.kitOne K (.type (tyN d)) (.type "int") = some (ZJ "int" d) := by cases d <;> rfl
theorem NN (K : Fk) (d : PyData) : PySem.W.kitOne K (.type (tyN d)) (.type "bool") = some (ZJ "bool" d) := by cases d <;> rfl
theorem kit_tuple (K : Fk) (d : PyData) : PySem.W.kitOne K (.type (tyN d)) (.type "tuple") = some (ZJ "tuple" d) := by cases d <;> rfl
theorem Sa (K : Fk) (d : PyData) : PySem.W.kitOne K (.type (tyN d)) (.type "str") = some (ZJ "str" d) := by cases d <;> rfl
def SJ (T : String) : D1 := fun xs M Φ => match xs with | [.dat d, .ty t] => t = T /\ Φ (.dat (.bool (ZJ T d))) M | _ => False
theorem Ko {T : String} (ht : ∀ d, PySem.W.kitOne X.K (.type (tyN d)) (.type T) = some (ZJ T d)) : Vy X (.builtin "isinstance") (SJ T) := by
 refine ⟨_, EO, fun vs H xs M Φ Q r rv h k => ?_⟩;replace h : ∃ d, xs = [.dat d, .ty T] /\ Φ (.dat (.bool (ZJ T d))) M := by
  unfold SJ at h
  split at h
  ·exact ⟨_, by rw [h.1], h.2⟩
  ·exact h.elim
 obtain ⟨d, rfl, q⟩ := h;obtain ⟨v, u, rfl, h1, h2⟩ := Paired.two rv;cases (show u = .ty T from h2);exact ⟨v, d, M, T, _, rfl, h1, ht d, k.dat r Step.refl (Dt.bl _) q⟩
theorem PN (hu : X.A.units + 64 < cLine) : OpR X (compareOp .Eq) (fun x y H Q => ∃ M d e, Dt X.K M H x d /\ Dt X.K M H y e /\ d.canLay0 = true /\ e.canLay0 = true /\ min d.depth e.depth <= 64 /\ Q (.bl (PyData.eqv d e)) H) := by
 intro pins s O H x y v u Q I rx ry h;obtain ⟨M, d, e, h1, h2, c1, c2, hdp, q⟩ := h;obtain ⟨as, ra, _⟩ := h1.reads I rx;obtain ⟨bs, rb, _⟩ := h2.reads I ry;exact PySem.SeqAt.compareEq_reads ra rb c1 c2 (by omega) ⟨.bl _, H, I, rfl, q⟩
theorem Zcc (hu : X.A.units + 64 < cLine) : OpR X (compareOp .NotEq) (fun x y H Q => ∃ M d e, Dt X.K M H x d /\ Dt X.K M H y e /\ d.canLay0 = true /\ e.canLay0 = true /\ min d.depth e.depth <= 64 /\ Q (.bl (!PyData.eqv d e)) H) := by
 intro pins s O H x y v u Q I rx ry h;obtain ⟨M, d, e, h1, h2, c1, c2, hdp, q⟩ := h;obtain ⟨as, ra, _⟩ := h1.reads I rx;obtain ⟨bs, rb, _⟩ := h2.reads I ry;exact PySem.SeqAt.compareNe_reads ra rb c1 c2 (by omega) ⟨.bl _, H, I, rfl, q⟩
noncomputable def EJ (d e : PyData) : Bool := d.canLay0 && e.canLay0 && Nat.ble (min d.depth e.depth) 64
def eqD : PyData -> PyData -> (Bool -> Prop) -> Prop
 | .int i, .int j, P => P (decide (i = j))
 | .str s, .str t, P => P (decide (s = t))
 | .bool a, .bool b, P => P (a == b)
 | d, e, P => EJ d e = true /\ P (PyData.eqv d e)
theorem Pn {e : PyData} {P : Bool -> Prop} (h : eqD d e P) : (d.canLay0 = true /\ e.canLay0 = true /\ min d.depth e.depth <= 64 /\ P (PyData.eqv d e)) \/ ∃ s t, d = .str s /\ e = .str t /\ P (decide (s = t)) := by
 unfold eqD at h
 split at h
 ·refine .inl ⟨by simp [PyData.canLay0], by simp [PyData.canLay0], by simp [PyData.depth], ?_⟩;simp only [PyData.eqv];rw [Bool.beq_eq_decide_eq];exact h
 ·exact .inr ⟨_, _, rfl, rfl, h⟩
 ·refine .inl ⟨by simp [PyData.canLay0], by simp [PyData.canLay0], by simp [PyData.depth], ?_⟩;simp only [PyData.eqv];exact h
 ·have h1 := h.1;unfold EJ at h1;simp only [Bool.and_eq_true] at h1;exact .inl ⟨h1.1.1, h1.1.2, Nat.le_of_ble_eq_true h1.2, h.2⟩
theorem Zd0 {f : Value -> Value -> Sem Value} {r1 r2 : R2} (h1 : OpR X f r1) (h2 : OpR X f r2) : OpR X f (fun x y H Q => r1 x y H Q \/ r2 x y H Q) :=
 fun pins s O H x y v u Q I rx ry h => h.elim (h1 pins s O H x y v u Q I rx ry) (h2 pins s O H x y v u Q I rx ry)
def δEq : D2 := fun x y M Φ => onD x fun d => onD y fun e => eqD d e fun b => Φ (.dat (.bool b)) M
def δNe : D2 := fun x y M Φ => onD x fun d => onD y fun e => eqD d e fun b => Φ (.dat (.bool (!b))) M
theorem Yg {k : Nat} (hr : V6 k X.A) : OpD X (compareOp .Eq) δEq :=
 ⟨_, Zd0 (PN hr.units) ZfX, fun v u H x y M Φ Q r rv ru h k => by
  obtain ⟨d, e1, h⟩ := ZX h;obtain ⟨e, e2, h⟩ := ZX h;subst e1 e2
  rcases Pn h with ⟨c1, c2, hdp, q⟩ | ⟨s, t, rfl, rfl, q⟩
  ·exact .inl ⟨M, d, e, rv, ru, c1, c2, hdp, k.dat r Step.refl (Dt.bl _) q⟩
  ·have q' : Q (.bl (decide (s = t))) H := k.dat r Step.refl (Dt.bl _) q;refine .inr ⟨by rw [rv.str, ru.str]; rfl, ?_⟩;rw [rv.str, ru.str, Kw, Bool.beq_eq_decide_eq]
   exact q'⟩
theorem Zf2 {k : Nat} (hr : V6 k X.A) : OpD X (compareOp .NotEq) δNe :=
 ⟨_, Zd0 (Zcc hr.units) Zdx, fun v u H x y M Φ Q r rv ru h k => by
  obtain ⟨d, e1, h⟩ := ZX h;obtain ⟨e, e2, h⟩ := ZX h;subst e1 e2
  rcases Pn h with ⟨c1, c2, hdp, q⟩ | ⟨s, t, rfl, rfl, q⟩
  ·exact .inl ⟨M, d, e, rv, ru, c1, c2, hdp, k.dat r Step.refl (Dt.bl _) q⟩
  ·have q' : Q (.bl (!decide (s = t))) H := k.dat r Step.refl (Dt.bl _) q;refine .inr ⟨by rw [rv.str, ru.str]; rfl, ?_⟩;rw [rv.str, ru.str, Kw, Bool.beq_eq_decide_eq]
   exact q'⟩
def Zbc : D2 := fun x y M Φ => onS x fun s => onS y fun t => Φ (.dat (.bool (!decide (s = t)))) M
theorem FZ : OpD X (compareOp .NotEq) Zbc :=
 ⟨_, Zdx, fun v u H x y M Φ Q r rv ru h k => by
  obtain ⟨s, e1, h⟩ := Qo h;obtain ⟨t, e2, q⟩ := Qo h;subst e1 e2;have q' : Q (.bl (!decide (s = t))) H := k.dat r Step.refl (Dt.bl _) q;refine ⟨by rw [rv.str, ru.str]; rfl, ?_⟩;rw [rv.str, ru.str, Kw, Bool.beq_eq_decide_eq]
  exact q'⟩
def Zfl : D2 := fun x y M Φ => onS x fun s => onS y fun t => Φ (.dat (.bool (decide (s = t)))) M
abbrev DTO := DSt -> Mp -> (Option Int -> Mp -> Prop) -> Prop
def DO (X : Cx) (e : Option Expr) (τ : DTO) : Prop := ∃ t, PO X e t /\ ∀ O H Z M Φ (Q : Option Int -> Hp -> Prop), ZR X.K M H -> Js X.K M H O Z -> τ Z M Φ -> (∀ o H' M', ZR X.K M' H' -> Step M H M' H' -> Φ o M' -> Q o H') -> t O H Q
def HP : DTO := fun _ M Φ => Φ none M
def ZdR (t : DTE) : DTO := fun Z M Φ => t Z M fun x M1 => onI x fun i => Φ (some i) M1
theorem Q1 : DO X none HP := ⟨_, So, fun _ H _ M _ _ r _ h k => k none H M r Step.refl h⟩
theorem Qw (h : DE X e te) : DO X (some e) (ZdR te) := by
 obtain ⟨t, p, q⟩ := h;refine ⟨_, TN p, fun O H Z M Φ Q r e h k => ?_⟩;refine q O H Z M _ _ r e h fun v H1 x M1 r1 st rv hx => ?_;replace hx := ZS hx;obtain ⟨i, rfl, hx⟩ := hx;exact ⟨i, rv.int, k _ H1 M1 r1 st hx⟩
noncomputable def cutD (xs : List PyData) (lo hi : Option Int) : List PyData := (xs.drop (HT.sIx xs.length 0 lo)).take (HT.sIx xs.length xs.length hi - HT.sIx xs.length 0 lo)
theorem Dts.cut (h : Dts K M H vs ds) (lo hi : Option Int) : Dts K M H (Pf vs lo hi) (cutD ds lo hi) := by
 unfold Pf cutD;rw [h.length];exact (h.drop _).take _
def ZiA (te : DTE) (tl th : DTO) : DTE := fun Z M Φ => te Z M fun x M1 => tl Z M1 fun l M2 => th Z M2 fun u M3 => onT x fun ds => ¬ (HT.sIx ds.length 0 l = 0 /\ HT.sIx ds.length ds.length u = ds.length) /\ Φ (.dat (.tuple (cutD ds l u))) M3
end
end DL
namespace DL
def Zea : DTS := fun D Z M => D.nx Z M
def ZeN (t u : DTS) : DTS := fun D Z M => t { D with nx := u D } Z M
section
variable {rest : List Stmt} {t u : DTS}
theorem Zy : DSs X [] Zea := ⟨_, Zaz, fun O H Z M D E r e h k => k.nx O H Z M r Step.refl e h⟩
theorem Zf (h1 : DS X st t) (h2 : DSs X rest u) : DSs X (st :: rest) (ZeN t u) := by
 obtain ⟨t1, p1, q1⟩ := h1;obtain ⟨t2, p2, q2⟩ := h2;refine ⟨_, MM p1 p2, fun O H Z M D E r e h k => ?_⟩;refine q1 O H Z M { D with nx := u D } { E with nx := t2 E } r e h ⟨fun σ' H' Δ' M' r' st' e' hn => ?_, k.rt, k.bk, k.ct⟩;exact q2 σ' H' Δ' M' D E r' e' hn (k.step st')
theorem Zh (h1 : DS X st t) : DSs X [st] t := by
 obtain ⟨t1, p1, q1⟩ := h1;exact ⟨_, TM p1, q1⟩
def Zdw : DTS := fun D Z M => D.bk Z M
def ZfV : DTS := fun D Z M => D.ct Z M
def Zco (te : DTE) : DTS := fun D Z M => te Z M fun _ M1 => D.nx Z M1
theorem JT (he : DE X e te) (hs : autoParam (swapsWith e none pos.line X.env = pure false) zz3._auto_1) : DS X (.Expr e pos) (Zco te) := by
 obtain ⟨t, p, q⟩ := he;refine ⟨_, Sk p hs, fun O H Z M D E r e h k => ?_⟩;exact q O H Z M _ _ r e h fun v H1 x M1 r1 st rv hx => k.nx O H1 Z M1 r1 st (e.step st) hx
def Zhz (te : DTE) : DTS := fun D Z M => te Z M D.rt
theorem Zp (he : DE X e te) : DS X (.Return (some e) pos) (Zhz te) := by
 obtain ⟨t, p, q⟩ := he;exact ⟨_, Zdv p, fun O H Z M D E r e h k => q O H Z M _ _ r e h k.rt⟩
def Zf4 : DTS := fun D _ M => D.rt (.dat .none) M
def Zh6 (c : DTT) (t u : DTS) : DTS := fun D Z M => c Z M fun b M1 => if b = true then t D Z M1 else u D Z M1
theorem Qb {c : Expr} {a b : List Stmt} (hc : DT X c tc) (ha : DSs X a t) (hb : DSs X b u) : DS X (.If c a b pos) (Zh6 tc t u) := by
 obtain ⟨t0, p0, q0⟩ := hc;obtain ⟨t1, p1, q1⟩ := ha;obtain ⟨t2, p2, q2⟩ := hb;refine ⟨_, Ze7 p0 p1 p2, fun O H Z M D E r e h k => ?_⟩;refine q0 O H Z M _ _ r e h fun c H1 M1 r1 st hc => ?_;cases c with
 | true => rw [if_pos rfl]; exact q1 O H1 Z M1 D E r1 (e.step st) (by simpa using hc) (k.step st)
 | false => rw [if_neg Bool.false_ne_true]; exact q2 O H1 Z M1 D E r1 (e.step st) (by simpa using hc) (k.step st)
abbrev DTG := DV -> DSt -> Mp -> (DSt -> Mp -> Prop) -> Prop
abbrev Mn := List DV -> DSt -> Mp -> (DSt -> Mp -> Prop) -> Prop
def DG (X : Cx) (tg : Expr) (τ : DTG) : Prop := ∃ t, PG X tg t /\ ∀ v O H x Z M Φ (Q : L2.St -> Hp -> Prop), ZR X.K M H -> Js X.K M H O Z -> QC X.K M H v x -> τ x Z M Φ ->
 (∀ σ' H' Δ' M', ZR X.K M' H' -> Step M H M' H' -> Js X.K M' H' σ' Δ' -> Φ Δ' M' -> Q σ' H') -> t v O H Q
def DGs (X : Cx) (ts : List Expr) (τ : Mn) : Prop := ∃ t, PGs X ts t /\ ∀ vs O H xs Z M Φ (Q : L2.St -> Hp -> Prop), ZR X.K M H -> Js X.K M H O Z -> YU X.K M H vs xs -> τ xs Z M Φ ->
 (∀ σ' H' Δ' M', ZR X.K M' H' -> Step M H M' H' -> Js X.K M' H' σ' Δ' -> Φ Δ' M' -> Q σ' H') -> t vs O H Q
def U5 (i : Nat) : DTG := fun x Z M Φ => Φ (Z.set i (some x)) M
theorem Zu (i : Nat) (hN : X.N.Nodup) (hi : autoParam (X.N[i]? = some x) zz3._auto_1) (hx : autoParam (Loc X.env.scope x) zz8._auto_1) (hf : autoParam (X.fn x = true \/ X.env.scope.names.lookup x = some .local) zz0._auto_1) :
  DG X (.Name x pos) (U5 i) :=
 ⟨_, L6 hN hi hx hf, fun v O H x Z M Φ Q r e rv h k => k _ H _ M r Step.refl (e.set rv) h⟩
def Zeb : Mn := fun xs Z M Φ => match xs with | [] => Φ Z M | _ => False
def Rj (t : DTG) (u : Mn) : Mn := fun xs Z M Φ => match xs with | x :: r => t x Z M fun Δ' M' => u r Δ' M' Φ | [] => False
theorem W0 : DGs X [] Zeb := ⟨_, RW, fun vs O H xs Z M Φ Q r e rv h k => by
 cases xs with
 | cons x r => exact h.elim
 | nil =>
 have h2 : Φ Z M := h;cases rv
 exact ⟨rfl, k O H Z M r Step.refl e h2⟩⟩
theorem JQ {es : List Expr} {t : DTG} {u : Mn} (h1 : DG X e t) (h2 : DGs X es u)
  (hs : autoParam ((assignEach (e :: es) X.env).map (·.2) = assign e X.env :: (assignEach es X.env).map (·.2)) zz3._auto_1) : DGs X (e :: es) (Rj t u) := by
 obtain ⟨t1, p1, q1⟩ := h1;obtain ⟨t2, p2, q2⟩ := h2;refine ⟨_, OW p1 p2 hs, fun vs O H xs Z M Φ Q r e rv h k => ?_⟩;obtain ⟨x, xr, e1, h⟩ : ∃ x xr, xs = x :: xr /\ t x Z M fun Δ' M' => u xr Δ' M' Φ := by
  cases xs with
  | nil => exact h.elim
  | cons x xr => exact ⟨x, xr, rfl, h⟩
 subst e1;cases rv with
 | cons ra rr =>
  refine ⟨_, _, rfl, q1 _ O H x Z M _ _ r e ra h fun σ' H' Δ' M' r' st e' h' => ?_⟩;exact q2 _ σ' H' xr Δ' M' Φ Q r' e' (YU.step rr st) h' fun σ2 H2 Δ2 M2 r2 st2 e2 hΦ => k σ2 H2 Δ2 M2 r2 (st.trans st2) e2 hΦ
def Pq : Nat -> List PyData -> (List DV -> Prop) -> Prop
 | 0, [], P => P []
 | n + 1, d :: r, P => Pq n r fun xs => P (.dat d :: xs)
 | 0, _ :: _, _ => False
 | _ + 1, [], _ => False
theorem FK : ∀ {n : Nat} {ds : List PyData} {P : List DV -> Prop}, Pq n ds P -> ds.length = n /\ P (ds.map DV.dat)
 | 0, [], _, h => ⟨rfl, h⟩
 | n + 1, d :: r, P, h => by
  obtain ⟨a, b⟩ := FK (n := n) (ds := r) h;exact ⟨by rw [List.length_cons, a], b⟩
 | 0, _ :: _, _, h => h.elim
 | _ + 1, [], _, h => h.elim
def Zc8 (n : Nat) (t : Mn) : DTG := fun x Z M Φ => onT x fun ds => Pq n ds fun xs => t xs Z M Φ
theorem Dts.Zes : ∀ {vs : List V} {ds : List PyData}, Dts K M H vs ds -> YU K M H vs (ds.map DV.dat)
 | _, _, .nil => .nil
 | _, _, .cons h1 h2 => .cons h1 (Dts.Zes h2)
theorem CN {es : List Expr} {k : Nat} {t : Mn} (hc : X.calm = true) (h : DGs X es t) (hn : autoParam ((assignEach es X.env).length = n) zz3._auto_1) (hst : autoParam ((assignEach es X.env).findIdx? (·.1) = none) zz3._auto_1) : DG X (.Tuple es k pos) (Zc8 n t) := by
 obtain ⟨t1, p1, q1⟩ := h;refine ⟨_, Zd4 hc p1 hn hst, fun v O H x Z M Φ Q r e rv h k => ?_⟩;replace h := Xz h;obtain ⟨ds, rfl, h⟩ := h;replace h := FK h;obtain ⟨hl, h⟩ := h;obtain ⟨a, xs, rfl, h1, h2⟩ := rv.tup;exact ⟨a, xs, rfl, h1.sq, by rw [h2.length]; exact hl, q1 xs O H _ Z M Φ Q r e h2.Zes h k⟩
def ZdD (to ti : DTE) : DTG := fun x Z M Φ => to Z M fun o M1 => ti Z M1 fun i M2 => onO o fun l => onI i fun k => onD x fun d => Vp (M2 l) fun ds => ∃ j, ixN ds.length k = some j /\ Φ Z (ZM M2 l (.lst (ds.set j d)))
theorem Wj {o i : Expr} {to ti : DTE} (ho : DE X o to) (hi : DE X i ti)
  (ha : ∀ v, assign (.Subscript o i pos) X.env v = (do
   let ov <- holding [v] (eval o X.env)
   let iv <- holding [v, ov] (eval i X.env)
   standAt pos
   holding [v, ov, iv] (setItem ov iv v)
   release [v, ov, iv] []) := by intro _; rfl) : DG X (.Subscript o i pos) (ZdD to ti) := by
 obtain ⟨t1, p1, q1⟩ := ho;obtain ⟨t2, p2, q2⟩ := hi;refine ⟨_, Zdy p1 p2 set_list ha, fun v O H x Z M Φ Q r e rv h k => ?_⟩;refine Snd.bin q1 q2 r e h fun w1 w2 H2 o' i' M2 r2 st ro ri hs => ?_;replace hs := Z9 hs;obtain ⟨l, rfl, hs⟩ := hs;replace hs := ZS hs;obtain ⟨kk, rfl, hs⟩ := hs;replace hs := ZX hs;obtain ⟨d, rfl, hs⟩ := hs;replace hs := Vs hs;obtain ⟨ds, hm, j, hj, hΦ⟩ := hs;obtain ⟨vs, g1, g2⟩ := r2.ls l ds hm;cases (show w1 = .ref l from ro);have rv2 : Dt X.K M2 H2 v d := Dt.step st rv;have st2 : Step M2 H2 (ZM M2 l (.lst (ds.set j d))) (upd H2 l (.lst (vs.set j v))) := Step.Mh hm;refine ⟨l, vs, kk, j, rfl, ri.int, g1, by rw [g2.length]; exact hj, ?_⟩;exact k O _ Z _ (r2.Wx st2 (g2.set rv2 j)) (st.trans st2) (e.step (st.trans st2)) hΦ
def ZaX (te : DTE) (g : DTG) : DTS := fun D Z M => te Z M fun x M1 => g x Z M1 D.nx
theorem XB {g : DTG} (he : DE X e te) (hg : DG X tg g) (hs : autoParam (swapsWithSole [tg] e pos.line X.env = pure false) zz3._auto_1) (hw : autoParam (swappedStores [tg] e X.env = pure none) zz3._auto_1)
  (h1 : autoParam ((assignEach [tg] X.env).map (·.2) = [assign tg X.env]) zz3._auto_1) : DS X (.Assign [tg] e pos) (ZaX te g) := by
 obtain ⟨t1, p1, q1⟩ := he;obtain ⟨t2, p2, q2⟩ := hg;refine ⟨_, Zb3 p1 p2 hs hw h1, fun O H Z M D E r e h k => ?_⟩;refine q1 O H Z M _ _ r e h fun v H1 x M1 r1 st rv hx => ?_;exact q2 v O H1 x Z M1 _ _ r1 (e.step st) rv hx fun σ' H' Δ' M' r' st' e' hn => k.nx σ' H' Δ' M' r' (st.trans st') e' hn
theorem Zt (i : Nat) {pos' : Pos} (hN : X.N.Nodup) (he : DE X e te) (hi : autoParam (X.N[i]? = some x) zz3._auto_1) (hx : autoParam (Loc X.env.scope x) zz8._auto_1) (hs : autoParam (swapsWith e (some (.Name x pos')) pos.line X.env = pure false) zz3._auto_1)
  (hf : autoParam (X.fn x = true \/ X.env.scope.names.lookup x = some .local) zz0._auto_1) : DS X (.Assign [.Name x pos'] e pos) (ZaX te (U5 i)) := by
 obtain ⟨t1, p1, q1⟩ := he;refine ⟨_, Zeh hN hi hx p1 hs hf, fun O H Z M D E r e h k => ?_⟩;refine q1 O H Z M _ _ r e h fun v H1 x M1 r1 st rv hx => ?_;exact k.nx _ H1 _ M1 r1 st ((e.step st).set rv) hx
def Lo (to te : DTE) : DTE := fun Z M Φ => to Z M fun x M1 => onO x fun l => Vp (M1 l) fun _ => te Z M1 fun y M2 => onD y fun d => Vp (M2 l) fun ds => ds.length < sizeLine /\ Φ (.dat .none) (ZM M2 l (.lst (ds ++ [d])))
theorem Qm {o : Expr} {to : DTE} {apos cpos : Pos} (ho : DE X o to) (he : DE X e te) (hbase : autoParam (attributeBase o "append" X.env (eval o X.env) = eval o X.env) zz3._auto_1)
  (hfew : ((backTo cpos (starEach [e] X.env)).all (fun x => !x.1) && (backToKw cpos (keywordEach [] X.env)).all (fun x => x.1.isSome)
   && decide ([e].length + ([] : List Keyword).length + (if ([] : List Keyword).isEmpty then 0 else 1) < 30)) = true := by rfl)
  (hline : autoParam ((apos.endLine == cpos.line) = true) zz3._auto_1) (hs : autoParam (starEach [e] X.env = (false, eval e X.env) :: starEach [] X.env) zz3._auto_1) (hplain : autoParam ((backTo cpos (starEach [] X.env)).any (·.1) = false) zz3._auto_1) :
  DE X (.Call (.Attribute o "append" apos) [e] [] cpos) (Lo to te) := by
 obtain ⟨t1, p1, q1⟩ := ho;obtain ⟨t2, p2, q2⟩ := he;refine ⟨_, ZbQ PySem.F.plainAttrs_list PySem.F.slot_list_append PySem.F.type_list_append FW p1 (Bx p2 Fc hs) hbase hfew hline hs hplain, fun O H Z M Φ Q r e h k => ?_⟩;refine q1 O H Z M _ _ r e h fun v H1 x M1 r1 st rv hx => ?_;replace hx := Z9 hx;obtain ⟨l, rfl, hx⟩ := hx;replace hx := Vs hx;obtain ⟨oo, ho, hx⟩ := hx;cases (show v = .ref l from rv);have ty : tyV X.K "list" (.ref l) H1 := by
  obtain ⟨vs, g1, _⟩ := r1.ls l oo ho;exact .inl ⟨rfl, vs, SqL.of g1⟩
 refine ⟨ty, q2 O H1 Z M1 _ _ r1 (e.step st) hx fun w H2 y M2 r2 st2 rw2 hy => ?_⟩;replace hy := ZX hy;obtain ⟨d, rfl, hy⟩ := hy;replace hy := Vs hy;obtain ⟨ds, hm, hz, hy⟩ := hy;obtain ⟨vs, g1, g2⟩ := r2.ls l ds hm;have st3 : Step M2 H2 (ZM M2 l (.lst (ds ++ [d]))) (upd H2 l (.lst (vs ++ [w]))) := Step.Mh hm;refine ⟨l, vs, w, rfl, rfl, g1, by rw [g2.length]; exact hz, ?_⟩;exact k.dat (r2.Wx st3 (g2.append (.cons rw2 .nil))) (st.trans (st2.trans st3)) Dt.non hy
end
section
variable {body : List Stmt} {g : DTG} {tb : DTS}
def Ej (g : DTG) (tb : DTS) (D : Ql) (ds : List PyData) (Z : DSt) (M : Mp) : Prop :=
 ∃ J : Nat -> DSt -> Mp -> Prop, J 0 Z M /\ (∀ i d Z M, ds[i]? = some d -> J i Z M -> g (.dat d) Z M fun Δ2 M2 => tb { D with nx := J (i + 1), ct := J (i + 1), bk := D.nx } Δ2 M2) /\ ∀ Z M, J ds.length Z M -> D.nx Z M
def Zdb (te : DTE) (g : DTG) (tb : DTS) : DTS := fun D Z M => te Z M fun x M1 => onL x fun ds => Ej g tb D ds Z M1
def Ze0 (te : DTE) (g : DTG) (tb : DTS) : DTS := fun D Z M => te Z M fun x M1 => onT x fun ds => Ej g tb D ds Z M1
theorem Xi (he : DE X iter te) (hg : DG X tg g) (hb : DSs X body tb) (hp : PassesOwn (model X.prog X.w) X.A X.env X.xe) (hc : X.calm = true) (hs : autoParam (∀ x, foldedSetIterable iter X.env x = pure x) zz2._auto_1) :
  DS X (.For tg iter body [] pos) (Zdb te g tb) := by
 obtain ⟨t1, p1, q1⟩ := he;obtain ⟨t2, p2, q2⟩ := hg;obtain ⟨t3, p3, q3⟩ := hb;refine ⟨_, Hm hp hc (Lf p1) p2 p3 hs, fun O H Z M D E r e h k => ?_⟩;refine q1 O H Z M _ _ r e h fun v H1 x M1 r1 st rv hx => ?_;replace hx := Dg hx;obtain ⟨ds, rfl, J, j0, jt, jd⟩ := hx;obtain ⟨a, xs, rfl, h1, h2⟩ := rv.lst
 refine ⟨a, rfl, ⟨xs, h1.sq⟩, MC (xs := xs) (fun i O H => ∃ Z M, ZR X.K M H /\ Step M1 H1 M H /\ Js X.K M H O Z /\ J i Z M) ⟨Z, M1, r1, Step.refl, e.step st, j0⟩
  (fun i O H _ ⟨Z, M, _, st', _, _⟩ => (h1.step st').sq) (fun i y O H hi ⟨Z, M, r', st', e', j⟩ => ?_) (fun O H ⟨Z, M, r', st', e', j⟩ => ?_)⟩
 ·obtain ⟨d, hd, hy⟩ := h2.ZaD hi;refine q2 y O H (.dat d) Z M _ _ r' e' (Dt.step st' hy) (jt i d Z M hd j) fun σ2 H2 Δ2 M2 r2 st2 e2 hb2 => ?_;refine q3 σ2 H2 Δ2 M2 _ _ r2 e2 hb2 ?_;have s12 : Step M1 H1 M2 H2 := st'.trans st2
  exact ⟨fun σ' H' Δ' M' a b c d => ⟨Δ', M', a, s12.trans b, c, d⟩, k.rt.step (st.trans s12), fun σ' H' Δ' M' a b c d => k.nx σ' H' Δ' M' a ((st.trans s12).trans b) c d,
   fun σ' H' Δ' M' a b c d => ⟨Δ', M', a, s12.trans b, c, d⟩⟩
 ·rw [h2.length] at j;exact k.nx O H Z M r' (st.trans st') e' (jd Z M j)
def GV (g : DTG) (tb : DTS) (D : Ql) (lo : Int) (n : Nat) (Z : DSt) (M : Mp) : Prop :=
 ∃ J : Nat -> DSt -> Mp -> Prop, J 0 Z M /\ (∀ i Z M, i < n -> J i Z M -> g (.dat (.int (lo + i))) Z M fun Δ2 M2 => tb { D with nx := J (i + 1), ct := J (i + 1), bk := D.nx } Δ2 M2) /\ ∀ Z M, J n Z M -> D.nx Z M
theorem Zc5 {g' : TG} {tb' : TS} {lo : Int} {n : Nat} (q2 : ∀ v O H x Z M Φ (Q : L2.St -> Hp -> Prop), ZR X.K M H -> Js X.K M H O Z -> QC X.K M H v x -> g x Z M Φ ->
  (∀ σ' H' Δ' M', ZR X.K M' H' -> Step M H M' H' -> Js X.K M' H' σ' Δ' -> Φ Δ' M' -> Q σ' H') -> g' v O H Q)
  (q3 : ∀ O H Z M D E, ZR X.K M H -> Js X.K M H O Z -> tb D Z M -> Ka X.K M H D E -> tb' E O H) {D : Ql} {E : Ends} {O : L2.St} {H : Hp} {Z : DSt} {M : Mp} (r : ZR X.K M H) (e : Js X.K M H O Z) (h : GV g tb D lo n Z M) (k : Ka X.K M H D E) :
  ∃ W : Nat -> Nat -> L2.St -> Hp -> Prop, (∃ m, W 0 m O H) /\ ∀ i m O H, W i m O H ->
   ((Itr lo n).stop i H /\ E.nx O H) \/ ((Itr lo n).go i H /\ ∃ N : L2.St -> Hp -> Prop, (∀ σ' H', N σ' H' -> ∃ m', m' < m /\ W (i + 1) m' σ' H') /\ ∀ x H', (Itr lo n).yld i H x H' -> g' x O H' fun σ2 H2 => tb' { E with nx := N, ct := N, bk := E.nx } σ2 H2) := by
 obtain ⟨J, j0, jt, jd⟩ := h;refine FE (fun i σ' H' => ∃ Δ' M', ZR X.K M' H' /\ Step M H M' H' /\ Js X.K M' H' σ' Δ' /\ J i Δ' M') ⟨Z, M, r, Step.refl, e, j0⟩ (fun i σ1 H1 hi ⟨Δ1, M1, r', st', e', j⟩ => ?_) (fun σ1 H1 ⟨Δ1, M1, r', st', e', j⟩ => ?_)
 ·refine q2 _ σ1 H1 (.dat (.int (lo + i))) Δ1 M1 _ _ r' e' (Dt.int _) (jt i Δ1 M1 hi j) fun σ2 H2 Δ2 M2 r2 st2 e2 hb2 => ?_;refine q3 σ2 H2 Δ2 M2 _ _ r2 e2 hb2 ?_;have s12 : Step M H M2 H2 := st'.trans st2
  exact ⟨fun σ' H' Δ' M' a b c d => ⟨Δ', M', a, s12.trans b, c, d⟩, k.rt.step s12, fun σ' H' Δ' M' a b c d => k.nx σ' H' Δ' M' a (s12.trans b) c d,
   fun σ' H' Δ' M' a b c d => ⟨Δ', M', a, s12.trans b, c, d⟩⟩
 ·exact k.nx σ1 H1 Δ1 M1 r' st' e' (jd Δ1 M1 j)
def InR (j : Int) : Prop := -(2 ^ 62) <= j /\ j < 2 ^ 62
def Rk (ta : DTA) (g : DTG) (tb : DTS) : DTS := fun D Z M => ta Z M fun xs M1 => on1 xs fun x => onI x fun j => InR j /\ GV g tb D 0 j.toNat Z M1
theorem VQ {a : Expr} {ta : DTA} {p p2 : Pos} (hg0 : Gl X "range") (hm : X.mg "range" = none) (ha : DA X [a] ta) (hg : DG X tg g) (hb : DSs X body tb) (hp : PassesOwn (model X.prog X.w) X.A X.env X.xe) (hc : X.calm = true)
  (hs : autoParam (starEach [a] X.env = [(false, eval a X.env)]) zz3._auto_1) (hs2 : autoParam (∀ x, foldedSetIterable (.Call (.Name "range" p) [a] [] p2) X.env x = pure x) zz2._auto_1) : DS X (.For tg (.Call (.Name "range" p) [a] [] p2) body [] pos) (Rk ta g tb) := by
 obtain ⟨t1, p1, q1⟩ := ha;obtain ⟨t2, p2, q2⟩ := hg;obtain ⟨t3, p3, q3⟩ := hb;refine ⟨_, Hm hp hc (GB hg0 hm p1 hs) p2 p3 hs2, fun O H Z M D E r e h k => ?_⟩;refine q1 O H Z M _ _ r e h fun vs H1 xs M1 r1 st rv hx => ?_;replace hx := Zw hx;obtain ⟨x, rfl, hx⟩ := hx;replace hx := ZS hx;obtain ⟨j, rfl, ⟨h1, h2⟩, hx⟩ := hx;obtain ⟨v, rfl, hv⟩ := Paired.one rv;exact ⟨j, by rw [QC.int hv], h1, h2, Zc5 q2 q3 r1 (e.step st) hx (k.step st)⟩
def Zer (ta : DTA) (g : DTG) (tb : DTS) : DTS := fun D Z M => ta Z M fun xs M1 => on2 xs fun x y => onI x fun i => onI y fun j => (InR i /\ InR j) /\ GV g tb D i (j - i).toNat Z M1
end
abbrev DSp := List DV -> Mp -> DK -> Prop
def lift (K : Fk) (S : DSp) : Sp := fun vs H Q _ => ∃ xs M Φ, ZR K M H /\ YU K M H vs xs /\ S xs M Φ /\ Rch K M H Φ Q
def ZdS (S : DSp) (t : DTA) : DTE := fun Z M Φ => t Z M fun xs M1 => S xs M1 Φ
section
variable {CX : CXT} {k : Nat} {ps : List Str} {S : DSp} {E : XK} {p : Pos} {es : List Expr} {t : DTA}
theorem Zg (F : ZD X.prog X.w X.K X.mg X.base CX k f fd ps (lift X.K S)) (hr : V6 k X.A) (hg : Gl X x) (hm : X.mg x = some (.ref f)) (hk : PySem.W.keepIn X.K (.ref f) = true) (hb : Binds X.K fd ps []) (hx : Passes CX X E)
  (ha : DA X (e :: es) t) (hdb : autoParam ((x == ("__debug__" : Str)) = false) zz1._auto_1) (he : autoParam (starEach (e :: es) X.env = (false, eval e X.env) :: starEach es X.env) zz3._auto_1) (hpl : autoParam ((backTo pos (starEach es X.env)).any (·.1) = false) zz3._auto_1) :
  DE X (.Call (.Name x p) (e :: es) [] pos) (ZdS S t) := by
 obtain ⟨t1, p1, q1⟩ := ha;refine ⟨_, SS F hr hg hm hk hb .nil hx p1 hdb he hpl, fun O H Z M Φ Q r e h k => ?_⟩;refine q1 O H Z M _ _ r e h fun vs H1 xs M1 r1 st rv hx => ?_;show lift X.K S (vs ++ []) H1 Q E;rw [List.append_nil];exact ⟨xs, M1, Φ, r1, rv, hx, k.step st⟩
end
section
variable {base : Heap}
theorem okD {ps : List Str} {k : Nat} {S : DSp} (F : Fun K x qual st f fd) (Sc : Zq N ps (Ze st)) (len : ∀ xs M Φ, S xs M Φ -> xs.length = ps.length)
  (hbody : ∀ (cdv : Value) (A : Around) (outer : List Env) (s : Shared) (H : Hp) (E : XK), V6 k (A.deeper (envOfC qual (Ze st) s.heap.objs.size f cdv)) ->
   ∃ τ, DSs (Pj CX0 P w K mg base N qual (Ze st) f cdv A outer s H E).nox (Zo st) τ /\ ∀ xs M Φ, S xs M Φ -> τ { nx := fun _ M' => Φ (.dat .none) M', rt := Φ } (XA N xs) M) : ZD P w K mg base CX0 (k + 1) f fd ps (lift K S) := by
 refine F.ok Sc (fun vs H Q E h => ?_) fun cdv A outer s H vs Q E hr h => ?_
 ·obtain ⟨xs, M, Φ, _, rv, hs, _⟩ := h;rw [Paired.length rv];exact len xs M Φ hs
 ·obtain ⟨xs, M, Φ, r, rv, hs, kk⟩ := h;obtain ⟨τ, ⟨t, p, q⟩, hτ⟩ := hbody cdv A outer s H E hr;refine ⟨t, p, q (start N vs) H (XA N xs) M _ _ r (Js.start rv) (hτ xs M Φ hs) ⟨fun σ' H' Δ' M' r' st' e' hn => ?_, kk, fun _ _ _ _ _ _ _ h => h.elim, fun _ _ _ _ _ _ _ h => h.elim⟩⟩;exact kk.dat r' st' Dt.non hn
end
end DL
namespace DL
section
variable {k v : Expr}
def At (X : Cx) (e : Expr) (τ : DTE) : Prop := ∃ t, PE X e t /\ ∀ O H Z M Φ, Js X.K M H O Z -> τ Z M Φ -> ∃ v x, QC X.K M H v x /\ Φ x M /\ ∀ (H' : Hp) (Q : VK), Q v H' -> t O H' Q
theorem Wo (i : Nat) {pos : Pos} (hN : autoParam (X.N[i]? = some x) zz3._auto_1) (hv : autoParam (Vis X.env.scope x) zz5._auto_1) (hd : autoParam ((x == ("__debug__" : Str)) = false) zz1._auto_1)
  (hcd : autoParam ((x == ("__classdict__" : Str)) = false) zz1._auto_1) : At X (.Name x pos) (ZgI i) := by
 refine ⟨_, Pw hN hv hd hcd, fun O H Z M Φ e h => ?_⟩;replace h := CZ h;obtain ⟨x, e1, h⟩ := h;obtain ⟨v, e2, q⟩ := e.at' i x e1;exact ⟨v, x, q, h, fun H' Q hq => ⟨v, e2, hq⟩⟩
theorem Wm {x j pos} : At X (.Constant (.str x) j pos) (dC (.str x)) := ⟨_, Ra, fun _ H _ M Φ _ h => ⟨.str x, .dat (.str x), Dt.str x, h, fun _ _ hq => hq⟩⟩
def PU : DTE := fun _ M Φ => Φ (.dat (.dict [])) M
theorem CC : DE X (.Dict [] [] pos) PU := by
 refine ⟨_, C9, fun O H Z M Φ Q r e h k p hp => ?_⟩;exact k _ _ (.dat (.dict [])) M (r.new hp) (Step.new hp) (Dt.dK (kvs := []) (ds := []) (r.tracked hp) Jp .nil) h
def K1 (x : DV) (P : Key -> Prop) : Prop := match x with | .dat (.int i) => P (.inl i) | .dat (.str s) => P (.inr s) | _ => False
noncomputable def MY : List PyData -> Option (List Key)
 | [] => some []
 | .int i :: r => (MY r).map (.inl i :: ·)
 | .str s :: r => (MY r).map (.inr s :: ·)
 | _ :: _ => none
def Zf8 (ds : List PyData) (P : List Key -> Prop) : Prop := match MY ds with | some ks => P ks | none => False
def ZbP (tk tv : DTE) : DTE := fun Z M Φ => tk Z M fun x M1 => tv Z M1 fun y M2 => K1 x fun k => onD y fun d => Φ (.dat (.dict [(kD k, d)])) M2
def ZbI (tk tv tk' tv' : DTE) : DTE := fun Z M Φ => tk Z M fun x M1 => tv Z M1 fun y M2 => tk' Z M2 fun x' M3 => tv' Z M3 fun y' M4 => K1 x fun k => onD y fun d => K1 x' fun k' => onD y' fun d' => k ≠ k' /\ Φ (.dat (.dict [(kD k, d), (kD k', d')])) M4
def Zj3 (a b : Addr) (v : V) (h : Heap) : Prop := ∃ o es n u, h.get? a = some o /\ o.cls = .type "dict" /\ o.data = .dict es n /\ es.toList.map (·.key) = [.ref b] /\ es.toList.map (·.val) = [u] /\ RelV v u
def Tc (tk tv : DTE) : DTE := fun Z M Φ => tk Z M fun x M1 => tv Z M1 fun y M2 => onT x fun ds => Zf8 ds fun ks => onD y fun d => Φ (.dat (.dict [(.tuple (ks.map kD), d)])) M2
theorem SqT.new {o : HO} (h : SqT K H a xs) (hp : H p = none) : SqT K (upd H p o) a xs := by
 rcases h with (h | ⟨ob, h⟩) | h
 ·exact .inl (.inl (by rw [ZV (ZE h hp)]; exact h))
 ·exact .inl (.inr ⟨ob, by rw [ZV (ZE h hp)]; exact h⟩)
 ·exact .inr h
end
end DL
namespace DL
mutual
noncomputable def cost : PyData -> Nat
 | .none => 4
 | .bool _ => 5
 | .int _ => 1921
 | .str x => (reprText x).length
 | .list xs => Qt xs + 2
 | .tuple xs => Qt xs + 3
 | .dict kvs => YM kvs + 2
noncomputable def Qt : List PyData -> Nat
 | [] => 0
 | x :: xs => cost x + 2 + Qt xs
noncomputable def YM : List (PyData × PyData) -> Nat
 | [] => 0
 | (k, v) :: r => cost k + 2 + cost v + 2 + YM r
end
theorem KG : ∀ (ts : List Str) (k : Nat) (acc : Str), (textFrom k acc ts).length <= acc.length + piled ts
 | [], k, acc => Nat.le_add_right _ _
 | t :: r, k, acc => by
  have h := KG r (k + 1) (acc ++ (if k > 0 then ", " else "" : String) ++ t);have e : (acc ++ (if k > 0 then ", " else "" : String) ++ t).length = acc.length + (if k > 0 then 2 else 0) + t.length := by
   rw [strLen_append, strLen_append]
   split <;> rfl
  have d1 : (if k > 0 then 2 else 0 : Nat) <= 2 := by split <;> omega
  rw [e] at h;rw [piled_cons];show (textFrom (k + 1) _ r).length <= _;omega
theorem Fl (ts : List Str) : (Str.join ", " ts).length <= piled ts := by
 by_cases h : ts = []
 ·subst h; exact Nat.le_of_eq rfl
 ·have := join_length_add ts h;omega
mutual
theorem Jv : ∀ d : PyData, d.showable = true -> d.shown.length <= cost d
 | .none, _ => by simp only [PyData.shown, cost]; exact Nat.le_of_eq rfl
 | .bool b, _ => by
  simp only [PyData.shown, cost];cases b
  ·exact Nat.le_of_eq rfl
  ·exact (by decide : 4 <= 5)
 | .int i, h => by
  simp only [PyData.shown, cost];exact int_text_len_1921 (by simpa [PyData.showable] using h)
 | .str x, _ => by simp only [PyData.shown, cost]; exact Nat.le_refl _
 | .list xs, h => by
  have h1 := Vq xs (by simpa [PyData.showable] using h);have h2 := KG (PyData.shownAll xs) 0 "[";have e1 : ((("[" : String) : Str)).length = 1 := rfl;have e2 : ((("]" : String) : Str)).length = 1 := rfl;simp only [PyData.shown, cost];unfold listText;rw [strLen_append, e2];rw [e1] at h2;omega
 | .tuple xs, h => by
  have h1 := Vq xs (by simpa [PyData.showable] using h);have h2 := Fl (PyData.shownAll xs);have e1 : ((("(" : String) : Str)).length = 1 := rfl;have e3 : (((if (PyData.shownAll xs).length == 1 then ",)" else ")" : String) : Str)).length <= 2 := by split <;> decide
  simp only [PyData.shown, cost];unfold tupleText;rw [strLen_append, strLen_append, e1];omega
 | .dict kvs, h => by
  have h1 := XD kvs (by simpa [PyData.showable] using h);have h2 := Fl (PyData.shownKv kvs);have e : (dictText (PyData.shownKv kvs)).length = 1 + (Str.join ", " (PyData.shownKv kvs)).length + 1 := by
   unfold dictText;rw [strLen_append, strLen_append]; rfl
  simp only [PyData.shown, cost];omega
theorem Vq : ∀ xs : List PyData, PyData.showableAll xs = true -> piled (PyData.shownAll xs) <= Qt xs
 | [], _ => by simp only [PyData.shownAll, Qt]; exact Nat.le_of_eq rfl
 | x :: xs, h => by
  have h' : x.showable = true /\ PyData.showableAll xs = true := by simpa [PyData.showableAll] using h
  have h1 := Jv x h'.1;have h2 := Vq xs h'.2;simp only [PyData.shownAll, Qt];rw [piled_cons];omega
theorem XD : ∀ kvs : List (PyData × PyData), PyData.showableKv kvs = true -> piled (PyData.shownKv kvs) <= YM kvs
 | [], _ => by simp only [PyData.shownKv, YM]; exact Nat.le_of_eq rfl
 | (k, v) :: r, h => by
  have h' : (k.showable = true /\ v.showable = true) /\ PyData.showableKv r = true := by simpa [PyData.showableKv] using h
  have h1 := Jv k h'.1.1;have h2 := Jv v h'.1.2;have h3 := XD r h'.2;have e : ((k.shown ++ ": " ++ v.shown : Str)).length = k.shown.length + 2 + v.shown.length := by rw [strLen_append, strLen_append]; rfl
  simp only [PyData.shownKv, YM];rw [piled_cons, e];omega
end
theorem Shw.of (s : d.showable = true) (m : (d.hasDict && Z3 d) = false) (dp : d.depth <= 64) (z : cost d <= 1000000) : Shw d :=
 ⟨s, m, dp, Nat.le_trans (Jv d s) (Nat.le_trans z (by rw [sizeLine_eq]; decide))⟩
structure Own (K : Fk) (mg : Str -> Option Value) (x : Str) (st : Stmt) (ps : List Str) (f : Addr) (fd : FuncData) : Prop where
 F : Fun K x x st f fd
 m : mg x = some (.ref f)
 b : Binds K fd ps []
def Mb : DSp := fun xs M Φ => ∃ ns : List Int, xs = [.dat (.list (ns.map PyData.int))] /\ ns.length <= 63 /\ ∀ M', Φ (.dat (.bool true)) M'
theorem EW {ns : List Int} (hl : ns.length <= 63) (_ : Zey H) (hS : SqL K H a (ns.map V.int)) : lift K Mb [.ref a] H (fun v _ => v = .bl true) fun _ _ _ => False := by
 refine ⟨[.dat (.list (ns.map PyData.int))], fun _ => none, fun x _ => x = .dat (.bool true), (show ZR K (fun _ => none) H from ⟨fun b o e => (by cases e)⟩), Paired.cons (Dt.lst ?_ (Dts.ints ns)) Paired.nil, ⟨ns, rfl, hl, fun _ => rfl⟩, fun v H' x M' _ _ rv hx => ?_⟩
 ·rcases hS with h | h
  ·exact .inl ⟨rfl, h⟩
  ·exact .inr h
 ·subst hx;exact rv.bool
end DL
namespace DL
theorem L0 {α : Type} {l : List α} {i : Int} (h0 : 0 <= i) (h1 : i < l.length) : ∃ d, atI l i = some d /\ d ∈ l := by
 have hl : i.toNat < l.length := by omega
 refine ⟨l[i.toNat], ?_, List.getElem_mem hl⟩;have q : atI l ((i.toNat : Nat) : Int) = some l[i.toNat] := Vj (by simp [hl]);rw [show ((i.toNat : Nat) : Int) = i by omega] at q;exact q
theorem ZbR : ixN 3 0 = some 0 := rfl
theorem Zet : ixN 3 1 = some 1 := rfl
theorem Zby : ixN 3 2 = some 2 := rfl
theorem Tr {ns : List Int} {j : Int} (h0 : 0 <= j) (h1 : j < ns.length) : ∃ c : Int, atI (ns.map PyData.int) j = some (.int c) := by
 obtain ⟨d, e, hm⟩ := L0 (l := ns.map PyData.int) h0 (by rw [List.length_map]; exact h1);obtain ⟨c, _, rfl⟩ := List.mem_map.mp hm;exact ⟨c, e⟩
theorem Uo (x : Int) {m : Int} (h : 0 < m) : 0 <= x % m /\ x % m < m := ⟨Int.emod_nonneg _ (by omega), Int.emod_lt_of_pos _ h⟩
def sp1 (f : PyData -> Bool) : DSp := fun xs M Φ => ∃ d, xs = [.dat d] /\ Φ (.dat (.bool (f d))) M
theorem FC (k : Int) (h : 0 <= k /\ k <= 1000000) : ZgR 10 k := ⟨h.1, h.2, by decide⟩
theorem J5 (h : M a = none) : Yy (ZM M a o) a = M := by
 funext b
 unfold Yy ZM
 split
 ·rename_i e; rw [e, h]
 ·rfl
theorem Zn {p : Prop} [Decidable p] {A B : Prop} (h1 : p -> A) (h2 : ¬ p -> B) : if decide p = true then A else B := by
 by_cases h : p
 ·rw [decide_eq_true h, if_pos rfl]; exact h1 h
 ·rw [decide_eq_false h, if_neg Bool.false_ne_true]; exact h2 h
end DL
namespace DL
noncomputable def LY (env : Env) : List (Str × NameKind) -> List (Str × Addr) -> List (Str × Addr)
 | [], cs => cs
 | (n, k) :: r, cs => LY env r (if (k == NameKind.free) = true then (n, (env.cells.lookup n).getD 0) :: cs else cs)
theorem Wq {env : Env} (f : Str × NameKind -> List (Str × Addr) -> Sem (ForInStep (List (Str × Addr)))) : ∀ (l : List (Str × NameKind)) (cs : List (Str × Addr)),
  (∀ y ∈ l, ∀ cs, f y cs = pure (.yield (if (y.2 == NameKind.free) = true then (y.1, (env.cells.lookup y.1).getD 0) :: cs else cs))) -> forIn l cs f = pure (LY env l cs)
 | [], cs, _ => by rw [List.forIn_nil]; rfl
 | (n, k) :: r, cs, h => by
  rw [List.forIn_cons, h _ List.mem_cons_self, pure_bind];exact Wq f r _ fun y hy => h y (List.mem_cons_of_mem _ hy)
theorem X2 (h : ∀ y ∈ scope.names, y.2 = .free -> ∃ c, env.cells.lookup y.1 = some c) : closureFor scope env = pure (LY env scope.names []) := by
 simp only [closureFor]
 rw [Wq (env := env) _ scope.names [] (fun y hy cs => by
  obtain ⟨n, k⟩ := y
  by_cases hk : k = .free
  ·subst hk;obtain ⟨c, e⟩ := h _ hy rfl;have e' : env.cells.lookup n = some c := e;simp only [beq_self_eq_true, if_true, cellOf, e', Option.getD_some, pure_bind]
  ·have : (k == NameKind.free) = false := by simpa using hk
   simp only [this, Bool.false_eq_true, if_false])]
 rfl
theorem Dk : ∀ {l : List (Str × NameKind)} {cs : List (Str × Addr)} {x : Str} {c : Addr}, (x, c) ∈ LY env l cs -> (x, c) ∈ cs \/ ((x, NameKind.free) ∈ l /\ c = (env.cells.lookup x).getD 0)
 | [], _, _, _, h => .inl h
 | (n, k) :: r, cs, x, c, h => by
  rcases Dk (l := r) h with h | ⟨h1, h2⟩
  ·by_cases hk : k = .free
   ·subst hk;rw [if_pos (by simp)] at h
    rcases List.mem_cons.mp h with h | h
    ·cases h;exact .inr ⟨List.mem_cons_self, rfl⟩
    ·exact .inl h
   ·have : (k == NameKind.free) = false := by simpa using hk
    rw [if_neg (by rw [this]; exact Bool.false_ne_true)] at h;exact .inl h
  ·exact .inr ⟨List.mem_cons_of_mem _ h1, h2⟩
theorem Dh : ∀ {l : List (Str × NameKind)} {cs : List (Str × Addr)} {x : Str}, ((x, NameKind.free) ∈ l \/ ∃ c, (x, c) ∈ cs) -> ∃ c, (x, c) ∈ LY env l cs
 | [], _, _, h => h.elim (fun z => nomatch z) id
 | (n, k) :: r, cs, x, h => by
  refine Dh (l := r) ?_
  rcases h with h | ⟨c, h⟩
  ·rcases List.mem_cons.mp h with h | h
   ·cases h;exact .inr ⟨_, by rw [if_pos (by simp)]; exact List.mem_cons_self⟩
   ·exact .inl h
  ·refine .inr ⟨c, ?_⟩
   split
   ·exact List.mem_cons_of_mem _ h
   ·exact h
theorem X6 {β : Type} : ∀ {l : List (Str × β)} {x : Str} {c : β}, (x, c) ∈ l -> ∃ c', l.lookup x = some c'
 | [], _, _, h => nomatch h
 | (n, d) :: r, x, c, h => by
  rw [List.lookup_cons];cases e : x == n with
  | true => exact ⟨d, rfl⟩
  | false =>
   rcases List.mem_cons.mp h with h | h
   ·cases h;simp at e
   ·exact X6 h
theorem Q4 {names : List (Str × NameKind)} (hf : ∀ y ∈ names, y.2 = .free -> ∃ c, env.cells.lookup y.1 = some c) {c : Addr} (h : (LY env names []).lookup x = some c) :
  env.cells.lookup x = some c /\ (x, NameKind.free) ∈ names := by
 rcases Dk (PySem.mem_of_lookup h) with h | ⟨h1, h2⟩
 ·exact nomatch h
 ·obtain ⟨c', e⟩ := hf _ h1 rfl;have e' : env.cells.lookup x = some c' := e;rw [e', Option.getD_some] at h2;subst h2;exact ⟨e', h1⟩
theorem Dr {names : List (Str × NameKind)} (hf : ∀ y ∈ names, y.2 = .free -> ∃ c, env.cells.lookup y.1 = some c) (h : (x, NameKind.free) ∈ names) : ∃ c, (LY env names []).lookup x = some c /\ env.cells.lookup x = some c := by
 obtain ⟨c, hm⟩ := Dh (env := env) (cs := []) (.inl h);obtain ⟨c', e⟩ := X6 hm;exact ⟨c', e, (Q4 hf e).1⟩
noncomputable def Z2 (X : Cx) (scope : Scope) (C : Addr) (N : List Str) (ex : List Addr) (s : Shared) (H : Hp) : Cx :=
 { X with N := N, s₀ := s, H₀ := H, env := compEnvC scope (LY X.env scope.names []) C X.env, outer := X.stack, ex := ex, fn := fun _ => false, pn := [], xe := fun _ _ => False }
noncomputable def VN (ix : List (Option Nat)) (O : L2.St) : L2.St := ix.map fun o => o.bind fun i => (O[i]?).join
noncomputable def C1 (ix : List (Option Nat)) (Z : DSt) : DSt := ix.map fun o => o.bind fun i => (Z[i]?).join
structure YK (X : Cx) (scope : Scope) (N : List Str) (ix : List (Option Nat)) : Prop where
 kind : scope.kind = .function
 cellF : ∀ y ∈ scope.names, y.2 ≠ .cell
 names : ∀ y ∈ scope.names, y.2 = .local -> scope.names.lookup y.1 = some .local
 free : ∀ y ∈ scope.names, y.2 = .free -> X.env.kindOf y.1 = some .cell
 len : N.length = ix.length
 cap : ∀ (j : Nat) (x : Str) (i : Nat), N[j]? = some x -> ix[j]? = some (some i) -> X.N[i]? = some x /\ (x, NameKind.free) ∈ scope.names /\ (relabel scope X.env).names.lookup x = some .cell
theorem Fu {O : L2.St} (h : (VN ix O)[j]? = some (some v)) : ∃ i, ix[j]? = some (some i) /\ O[i]? = some (some v) := by
 unfold VN at h;rw [List.getElem?_map] at h;cases e : ix[j]? with
 | none => rw [e] at h; cases h
 | some o =>
  rw [e] at h;cases o with
  | none => simp at h
  | some i =>
   refine ⟨i, rfl, ?_⟩;have h' : (O[i]?).join = some v := by simpa using h
   cases q : O[i]? with
   | none => rw [q] at h'; cases h'
   | some o' => rw [q] at h'; exact congrArg some h'
theorem Js.cap {O : L2.St} {Z : DSt} (h : Js K M H O Z) (ix : List (Option Nat)) : Js K M H (VN ix O) (C1 ix Z) := by
 refine ⟨by unfold VN C1; rw [List.length_map, List.length_map], fun j x e => ?_⟩;unfold C1 at e;rw [List.getElem?_map] at e;cases q : ix[j]? with
 | none => rw [q] at e; cases e
 | some o =>
  rw [q] at e;cases o with
  | none => simp at e
  | some i =>
   have e' : (Z[i]?).join = some x := by simpa using e
   have e2 : Z[i]? = some (some x) := by
    cases q2 : Z[i]? with
    | none => rw [q2] at e'; cases e'
    | some o' => rw [q2] at e'; exact congrArg some e'
   obtain ⟨v, hv, rv⟩ := h.at' i x e2;refine ⟨v, ?_, rv⟩;unfold VN;rw [List.getElem?_map, q];simp [hv]
section
variable {O : L2.St} {H2 : Hp} {s2 : Shared} {C : Addr} {fp : List Addr}
theorem ZaM (ok : YK X scope N ix) (I2 : Inv X pins O H2 s2) : ∀ y ∈ scope.names, y.2 = .free -> ∃ c, X.env.cells.lookup y.1 = some c := fun y hy hk => I2.ok.has y.1 (.inl (ok.free y hy hk))
theorem DM (ok : YK X scope N ix) (I2 : Inv X pins O H2 s2) (f2 : ∀ b ∈ fp, El X pins H2 b) (ex : ∀ b ∈ fp, ∃ o, s2.heap.get? b = some o) (hC : s2.heap.objs.size <= C) : (Z2 X scope C N fp s2 H2).Ok := by
 have hf := ZaM ok I2
 refine ⟨I2.ok.mod, ok.kind, I2.ok.glob, I2.ok.blt, hC, fun x y c h1 h2 => I2.ok.inj x y c (Q4 hf h1).1 (Q4 hf h2).1, fun x hx => ?_, fun x c h => absurd h Bool.false_ne_true, I2.ok.hd, I2.ok.frames, .inl rfl, fun b hb => ?_, fun b o e => I2.bs b o e, Nat.le_trans I2.ok.bsz I2.sz,
  fun b o e hb => ?_, fun b hb z => ?_, I2.stack, I2.Lv⟩
 ·have hx' : (relabel scope X.env).names.lookup x = some .cell \/ (relabel scope X.env).names.lookup x = some .free := hx;have key : (x, NameKind.free) ∈ scope.names := by
   have go : ∀ k', (relabel scope X.env).names.lookup x = some k' -> (k' = .cell \/ k' = .free) -> (x, NameKind.free) ∈ scope.names := fun k' e hk => by
    have hm := PySem.mem_of_lookup e;obtain ⟨⟨n, k⟩, hn, q⟩ := List.mem_map.mp hm
    by_cases hr : (k == NameKind.free && X.env.scope.kind == .function && X.env.kindOf n == some .cell) = true
    ·have q' : (n, NameKind.cell) = (x, k') := by rw [<- q]; simp [hr]
     cases q';have : k = .free := by simp only [Bool.and_eq_true] at hr; simpa using hr.1.1
     subst this;exact hn
    ·have q' : (n, k) = (x, k') := by rw [<- q]; simp [hr]
     cases q'
     rcases hk with rfl | rfl
     ·exact absurd rfl (ok.cellF _ hn)
     ·exact hn
   rcases hx' with h | h
   ·exact go _ h (.inl rfl)
   ·exact go _ h (.inr rfl)
  obtain ⟨c, h1, _⟩ := Dr hf key;exact ⟨c, h1⟩
 ·obtain ⟨o, e⟩ := ex b hb;exact ⟨Nat.ne_of_lt (Nat.lt_of_lt_of_le (Heap.lt_size e) hC), fun x c h => (f2 b hb).2.2.2.2.1 x c (Q4 hf h).1⟩
 ·rcases (f2 b hb).2.2.2.1 with z | z
  ·exact I2.ok.noex b o e z
  ·exact absurd (Nat.lt_of_lt_of_le (Heap.lt_size e) (Nat.le_trans I2.ok.bsz z)) (Nat.lt_irrefl _)
 ·rcases List.mem_cons.mp (I2.LR b z) with z | z
  ·exact (f2 b hb).2.1 z
  ·exact (f2 b hb).2.2.1 z
theorem CM (ok : YK X scope N ix) (I2 : Inv X pins O H2 s2) (f2 : ∀ b ∈ fp, El X pins H2 b) {m : Str -> Option Value} (u : Un (frs X.stack) fp H2 H s2.heap s.heap) :
  ∀ (i : Nat) (x : Str) (v : V), N[i]? = some x -> (VN ix O)[i]? = some (some v) -> ∃ w, RelV v w /\ Look (Z2 X scope C N fp s2 H2).env s.heap m x w := fun j x v hN hv => by
 obtain ⟨i, hi, hs⟩ := Fu hv;obtain ⟨hx, hm, hr⟩ := ok.cap j x i hN hi;have hk : X.env.kindOf x = some .cell := ok.free _ hm rfl;obtain ⟨m0, _, hl⟩ := I2.loc;obtain ⟨w, r, l⟩ := hl i x v hx hs (.inr (.inl hk));refine ⟨w, r, .inr ⟨.inl hr, ?_⟩⟩
 rcases l with ⟨z, _⟩ | ⟨_, c, e, hc⟩
 ·rw [hk] at z; cases z
 ·obtain ⟨c', h1, h2⟩ := Dr (ZaM ok I2) hm;rw [e] at h2;cases h2;refine ⟨c, h1, ?_⟩;obtain ⟨o, ho, hd⟩ := hc;obtain ⟨sl, q⟩ := u.any ho (I2.freeC x c e) fun z => (f2 c z).2.2.2.2.1 x c e rfl;exact ⟨_, q, hd⟩
end
end DL
namespace DL
section
variable {prog : Program} {R : Result -> Shared -> Prop}
theorem Ga {elt target iter : Expr} {ifs : List Expr} {scope : Scope} {pos : Pos} {it acc : Value} {env : Env} (I : Nat -> Shared -> Prop)
  (turn : ∀ n s, I n s -> wpAny (model prog w) A (pyNext it) (fun r s₁ => match r with
   | none => R (.ok .next) s₁
   | some v => wpAny (model prog w) A (letOwnedTupleGo target it v) (fun _ s₁' => wpAny (model prog w) A (assign target env v) (fun _ s₂ =>
     wpAny (model prog w) A (forIn ifs true fun c r => if r = true then do let ok <- isTrue c env (eval c env); pure (ForInStep.yield ok) else pure (ForInStep.yield r)) (fun ok s₃ =>
      if ok = true then wpAny (model prog w) A (eval elt env) (fun x s₄ =>
       wpAny (model prog w) A (call (.builtin "list.append") [acc, x]) (fun _ s₅ => ∃ m, m < n /\ I m s₅) (fun _ _ => False) s₄) (fun _ _ => False) s₃
      else ∃ m, m < n /\ I m s₃) (fun _ _ => False) s₂) (fun _ _ => False) s₁') (fun _ _ => False) s₁) (fun _ _ => False) s)
  (n : Nat) (h : I n s) : codeAny (model prog w) A (.compLoop (.ListComp elt [⟨target, iter, ifs, 0⟩] scope pos) 0 it acc env) R s := by
 refine codeAny_loop rfl I (fun n s hI => ?_) n h;show wpAny _ A ((compTurn (.ListComp elt [⟨target, iter, ifs, 0⟩] scope pos) 0 it acc env).onRaise (fun x => do noteFrame x env; theTreesLotGoes x)) _ _ s;refine wpAny_noted ?_;rw [compTurn_list];refine wpAny_bind (wpAny_standAt (wpAny_bind (wpAny_mono (turn n s hI) (fun r s₁ h₁ => ?_) fun _ _ h' => h'.elim)));cases r with
 | none => exact wpAny_pure h₁
 | some v =>
  refine wpAny_bind (wpAny_mono h₁ (fun _ s₁' h₁' => ?_) fun _ _ h' => h'.elim);refine wpAny_bind (wpAny_mono h₁' (fun _ s₂ h₂ => wpAny_bind (wpAny_mono h₂ (fun ok s₃ h₃ => ?_) fun _ _ h' => h'.elim)) fun _ _ h' => h'.elim);cases ok with
  | false => exact wpAny_pure ⟨rfl, h₃⟩
  | true =>
   exact wpAny_bind (wpAny_bind (wpAny_mono h₃ (fun x s₄ h₄ => wpAny_bind (wpAny_mono h₄ (fun _ s₅ h₅ => wpAny_pure (wpAny_pure ⟨rfl, h₅⟩)) fun _ _ h' => h'.elim)) fun _ _ h' => h'.elim))
end
def Yl (K : Fk) (J : It) (ds : List PyData) (M : Mp) (H : Hp) : Prop := ∀ M2 H2, Step M H M2 H2 -> ∀ i,
 (i < ds.length -> J.go i H2 /\ ∀ x H', J.yld i H2 x H' -> ZR K M2 H2 -> ZR K M2 H' /\ Step M2 H2 M2 H' /\ ∃ d, ds[i]? = some d /\ Dt K M2 H' x d) /\ (ds.length <= i -> J.stop i H2)
abbrev Y4 := DSt -> Mp -> (List PyData -> Mp -> Prop) -> Prop
def DI (X : Cx) (tg iter : Expr) (src : Y4) : Prop := ∃ wi, PI X tg iter wi /\ ∀ O H Z M Ψ (R : It -> Hp -> Prop), ZR X.K M H -> Js X.K M H O Z -> src Z M Ψ ->
 (∀ J H' M' ds, ZR X.K M' H' -> Step M H M' H' -> Yl X.K J ds M' H' -> Ψ ds M' -> R J H') -> wi O H R
section
def ZhL (te : DTE) : Y4 := fun Z M Ψ => te Z M fun x M1 => onL x fun ds => Ψ ds M1
def Zh4 (te : DTE) : Y4 := fun Z M Ψ => te Z M fun x M1 => onT x fun ds => Ψ ds M1
theorem QZ (he : DE X iter te) : DI X tg iter (ZhL te) := by
 obtain ⟨t, p, q⟩ := he;refine ⟨_, Lf p, fun O H Z M Ψ R dr er h k => ?_⟩;refine q O H Z M _ _ dr er h fun v H1 x M1 r1 st rv hx => ?_;replace hx := Dg hx;obtain ⟨ds, rfl, hΨ⟩ := hx;obtain ⟨a, xs, rfl, h1, h2⟩ := rv.lst;refine ⟨a, rfl, ⟨xs, h1.sq⟩, k _ H1 M1 ds r1 st (fun M2 H2 st2 i => ⟨fun hi => ?_, fun hi => ?_⟩) hΨ⟩
 ·have hx : i < xs.length := by rw [h2.length]; exact hi
  refine ⟨⟨xs, xs[i], (h1.step st2).sq, by simp [hx]⟩, fun x H' y => ?_⟩;obtain ⟨e, y⟩ := y;obtain ⟨d, hd, hy⟩ := (h2.step st2).ZaD (y xs (h1.step st2).sq);subst e;exact fun r => ⟨r, Step.refl, d, hd, hy⟩
 ·exact ⟨xs, (h1.step st2).sq, by rw [h2.length]; exact hi⟩
theorem Zep (he : DE X iter te) : DI X tg iter (Zh4 te) := by
 obtain ⟨t, p, q⟩ := he;refine ⟨_, ZbD p, fun O H Z M Ψ R dr er h k => ?_⟩;refine q O H Z M _ _ dr er h fun v H1 x M1 r1 st rv hx => ?_;replace hx := Xz hx;obtain ⟨ds, rfl, hΨ⟩ := hx;obtain ⟨a, xs, rfl, h1, h2⟩ := rv.tup;refine ⟨a, rfl, ⟨xs, h1.sq⟩, k _ H1 M1 ds r1 st (fun M2 H2 st2 i => ⟨fun hi => ?_, fun hi => ?_⟩) hΨ⟩
 ·have hx : i < xs.length := by rw [h2.length]; exact hi
  refine ⟨⟨xs, xs[i], (h1.step st2).sq, by simp [hx]⟩, fun x H' y => ?_⟩;obtain ⟨e, y⟩ := y;obtain ⟨d, hd, hy⟩ := (h2.step st2).ZaD (y xs (h1.step st2).sq);subst e;exact fun r => ⟨r, Step.refl, d, hd, hy⟩
 ·exact ⟨xs, (h1.step st2).sq, by rw [h2.length]; exact hi⟩
noncomputable def W7 (lo : Int) (n : Nat) : List PyData := (List.range n).map fun (i : Nat) => PyData.int (lo + (i : Int))
theorem Z0 (lo : Int) (n : Nat) : (W7 lo n).length = n := by unfold W7; rw [List.length_map, List.length_range]
theorem YF {lo : Int} (h : i < n) : (W7 lo n)[i]? = some (.int (lo + (i : Int))) := by
 unfold W7;rw [List.getElem?_map, List.getElem?_range h];rfl
theorem C2 (lo : Int) (n : Nat) : Yl K (Itr lo n) (W7 lo n) M H := fun M2 H2 st2 i => by
 rw [Z0];refine ⟨fun hi => ⟨hi, fun x H' y => ?_⟩, fun hi => hi⟩;obtain ⟨e, y⟩ := y;subst y e;exact fun r => ⟨r, Step.refl, _, YF hi, Dt.int _⟩
def Zd6 (ta : DTA) : Y4 := fun Z M Ψ => ta Z M fun xs M1 => on1 xs fun x => onI x fun j => InR j /\ Ψ (W7 0 j.toNat) M1
theorem Jz {a : Expr} {ta : DTA} {p : Pos} (hg0 : Gl X "range") (hm : X.mg "range" = none) (ha : DA X [a] ta) (hs : autoParam (starEach [a] X.env = [(false, eval a X.env)]) zz3._auto_1) : DI X tg (.Call (.Name "range" p) [a] [] p2) (Zd6 ta) := by
 obtain ⟨t1, p1, q1⟩ := ha;refine ⟨_, GB hg0 hm p1 hs, fun O H Z M Ψ R dr er h k => ?_⟩;refine q1 O H Z M _ _ dr er h fun vs H1 xs M1 r1 st rv hx => ?_;replace hx := Zw hx;obtain ⟨x, rfl, hx⟩ := hx;replace hx := ZS hx;obtain ⟨j, rfl, ⟨h1, h2⟩, hΨ⟩ := hx;obtain ⟨v, rfl, hv⟩ := Paired.one rv;exact ⟨j, by rw [QC.int hv], h1, h2, k _ H1 M1 _ r1 st (C2 0 j.toNat) hΨ⟩
def Zem (ta : DTA) : Y4 := fun Z M Ψ => ta Z M fun xs M1 => on2 xs fun x y => onI x fun i => onI y fun j => (InR i /\ InR j) /\ Ψ (W7 i (j - i).toNat) M1
theorem HG {a b : Expr} {ta : DTA} {p p2 : Pos} (hg0 : Gl X "range") (hm : X.mg "range" = none) (ha : DA X [a, b] ta) (hs : autoParam (starEach [a, b] X.env = [(false, eval a X.env), (false, eval b X.env)]) zz3._auto_1) (hs2 : autoParam (starEach [b] X.env = [(false, eval b X.env)]) zz3._auto_1) :
  DI X tg (.Call (.Name "range" p) [a, b] [] p2) (Zem ta) := by
 obtain ⟨t1, p1, q1⟩ := ha;refine ⟨_, Fq hg0 hm p1 hs hs2, fun O H Z M Ψ R dr er h k => ?_⟩;refine q1 O H Z M _ _ dr er h fun vs H1 xs M1 r1 st rv hx => ?_;replace hx := ZO hx;obtain ⟨x, y, rfl, hx⟩ := hx;replace hx := ZS hx;obtain ⟨i, rfl, hx⟩ := hx;replace hx := ZS hx;obtain ⟨j, rfl, ⟨⟨a1, a2⟩, a3, a4⟩, hΨ⟩ := hx;have h1 : -(2 ^ 62) <= i /\ i < 2 ^ 62 /\ -(2 ^ 62) <= j /\ j < 2 ^ 62 := ⟨a1, a2, a3, a4⟩
 obtain ⟨v, u, rfl, hv, hu⟩ := Paired.two rv;exact ⟨i, j, by rw [QC.int hv, QC.int hu], h1, k _ H1 M1 _ r1 st (C2 i (j - i).toNat) hΨ⟩
end
def CT (ow : Bool) (Φ : DK) (acc : List PyData) (M : Mp) : Prop := match ow with | true => ∀ p, M p = none -> Φ (.own p) (ZM M p (.lst acc)) | false => Φ (.dat (.list acc)) M
def Mo (ow : Bool) (src : Y4) (ix : List (Option Nat)) (g : DTG) (tc : DTT) (te : DTE) : DTE := fun Z M Φ => src Z M fun ds M1 => ds.length <= sizeLine /\ ∃ J : Nat -> List PyData -> Mp -> Prop, J 0 [] M1 /\
 (∀ i d acc M', ds[i]? = some d -> J i acc M' -> g (.dat d) (C1 ix Z) M' fun Δ2 M2 => tc Δ2 M2 fun b M3 => if b = true then te Δ2 M3 fun y M4 => onD y fun e => J (i + 1) (acc ++ [e]) M4 else J (i + 1) acc M3) /\
 ∀ acc M', J ds.length acc M' -> CT ow Φ acc M'
def DTs (X : Cx) (ifs : List Expr) (τ : DTT) : Prop := ∀ (pins : List (Addr × Obj)) (s : Shared) (O : L2.St) (H : Hp) (Z : DSt) (M : Mp) (Φ : Bool -> Mp -> Prop), L2.Inv X pins O H s -> ZR X.K M H -> Js X.K M H O Z -> τ Z M Φ ->
 wpAny (model X.prog X.w) X.A (forIn ifs true fun c r => if r = true then do let ok <- isTrue c X.env (eval c X.env); pure (ForInStep.yield ok) else pure (ForInStep.yield r))
  (fun b s' => ∃ H' M', L2.Inv X pins O H' s' /\ ZR X.K M' H' /\ Step M H M' H' /\ Φ b M') X.xe s
def Zhr : DTT := fun _ M Φ => Φ true M
theorem Z7 : DTs X [] Zhr := fun pins s O H Z M Φ I dr er h => wpAny_tests_nil ⟨H, M, I, dr, Step.refl, h⟩
theorem Ub {c : Expr} {τ : DTT} (hc : DT X c τ) : DTs X [c] τ := fun pins s O H Z M Φ I dr er h => by
 obtain ⟨t, p, q⟩ := hc;refine wpAny_tests_one (thn (p pins s O H (fun b H' => ∃ M', ZR X.K M' H' /\ Step M H M' H' /\ Φ b M') I (q O H Z M Φ _ dr er h fun b H' M' a c d => ⟨M', a, c, d⟩)) fun b s' h => ?_);obtain ⟨H', I', M', a, c, d⟩ := h;exact ⟨H', M', I', a, c, d⟩
end DL
namespace DL
section
abbrev CompSrc (ds : List PyData) (M1 : Mp) (Z : DSt) (ix : List (Option Nat)) (g : DTG) (tc : DTT) (te : DTE) (ψ : List PyData -> Mp -> Prop) : Prop := ds.length <= sizeLine /\ ∃ J : Nat -> List PyData -> Mp -> Prop, J 0 [] M1 /\
 (∀ i d acc M', ds[i]? = some d -> J i acc M' -> g (.dat d) (C1 ix Z) M' fun Δ2 M2 => tc Δ2 M2 fun b M3 => if b = true then te Δ2 M3 fun y M4 => onD y fun e => J (i + 1) (acc ++ [e]) M4 else J (i + 1) acc M3) /\ ∀ acc M', J ds.length acc M' -> ψ acc M'
set_option maxHeartbeats 2000000 in
theorem Gi {elt : Expr} {ifs : List Expr} {pos ps : Pos} {src : Y4} {g : DTG} {tc : DTT} {te : DTE} {use : Option (Value -> Sem Unit)} {QQ : Value -> Shared -> Prop} {ψ : List PyData -> Mp -> Prop} (ok : YK X scope N ix) (hi : DI X tg iter src)
  (hg : ∀ C ex s H, DG (Z2 X scope C N ex s H) tg g) (ht : ∀ C ex s H, DTs (Z2 X scope C N ex s H) ifs tc) (he : ∀ C ex s H, DE (Z2 X scope C N ex s H) elt te) (hc : X.calm = true)
  (hs : ∀ x, foldedSetIterable iter X.env x = pure x) {O : L2.St} {H : Hp} {Z : DSt} {M : Mp} {pins : List (Addr × Obj)} {s : Shared} (dr : ZR X.K M H) (er : Js X.K M H O Z) (h : src Z M fun ds M1 => CompSrc ds M1 Z ix g tc te ψ) (I : L2.Inv X pins O H s)
  (hfin : ∀ (s4 : Shared) (C D : Addr) (H' : Hp) (M' : Mp) (vs : List V) (acc : List PyData), L2.Inv X pins O (upd H' D (.lst vs)) s4 -> H' D = none -> ZR X.K M' H' -> Step M H M' H' -> Dts X.K M' H' vs acc -> ψ acc M' -> (∃ m, s4.heap.Ns C m) -> El X pins (upd H' D (.lst vs)) C ->
   compPost (model X.prog X.w) X.A X.xe use QQ (.ref D) C (.ok .next) s4) :
  wpAny (model X.prog X.w) X.A (comprehension (.ListComp elt [⟨tg, iter, ifs, 0⟩] scope pos) scope X.env ps (newList []) false (eval iter X.env) use) QQ X.xe s := by
 obtain ⟨wi, pi, qi⟩ := hi;refine wpAny_comprehension_free (use := use) (cl := LY X.env scope.names []) rfl hs (X2 (ZaM ok I)) ok.kind ok.names ?_;show wpAny _ _ (eval iter X.env) _ _ s
 refine thn (pi pins s O H (fun J H' => ∃ M' ds, ZR X.K M' H' /\ Step M H M' H' /\ Yl X.K J ds M' H' /\ ds.length <= sizeLine /\ ∃ W : Nat -> List PyData -> Mp -> Prop, W 0 [] M' /\
   (∀ i d acc M', ds[i]? = some d -> W i acc M' -> g (.dat d) (C1 ix Z) M' fun Δ2 M2 => tc Δ2 M2 fun b M3 => if b = true then te Δ2 M3 fun y M4 => onD y fun e => W (i + 1) (acc ++ [e]) M4 else W (i + 1) acc M3) /\
   ∀ acc M', W ds.length acc M' -> ψ acc M') I (qi O H Z M _ _ dr er h fun J H' M' ds a b c d => ⟨M', ds, a, b, c, d⟩)) fun x s1 h1 => thn h1 fun itv s2 h2 => ?_
 obtain ⟨it, fp, tn, J, H2, e, I2, T, st2, f2, M1, ds, dr1, stp, yl, hz, W, w0, wt, wd⟩ := h2;subst e;have exo : ∀ b ∈ fp, ∃ o, s2.heap.get? b = some o := fun b hb => let ⟨o, q, _⟩ := T.obj 0 _ st2 b hb; ⟨o, q⟩;refine wpAny_newObj_type (wpAny_newFunctionEnv ok.cellF (by intro y hy; simp at hy) (fun h₁ hns₁ hsb₁ => ?_) ok.kind);dsimp only at hns₁ hsb₁ ⊢;generalize hH2 : s2.heap.push { cls := .type "list", dict := none, data := .seq ([] : List Value).toArray } = HH at hns₁ hsb₁ ⊢;have hC : HH.objs.size = s2.heap.objs.size + 1 := by rw [<- hH2, Heap.size_push]
 have hDC : s2.heap.objs.size ≠ HH.objs.size := by rw [hC]; exact Nat.ne_of_lt (Nat.lt_succ_self _)
 have hCle : s2.heap.objs.size <= HH.objs.size := by rw [hC]; exact Nat.le_succ _
 have below : ∀ b, b < s2.heap.objs.size -> b ≠ HH.objs.size /\ b ≠ s2.heap.objs.size := fun b hb => ⟨by rw [hC]; exact Nat.ne_of_lt (Nat.lt_succ_of_lt hb), Nat.ne_of_lt hb⟩;have old : ∀ b o, s2.heap.get? b = some o -> h₁.get? b = some o := fun b o e => hsb₁.extBut b o (below b (Heap.lt_size e)).1 (Heap.get?_push_of_some _ (hH2 ▸ Heap.get?_push_of_some _ e));have hacc : h₁.get? s2.heap.objs.size = some { cls := .type "list", data := .seq ([] : List Value).toArray } := hsb₁.extBut _ _ hDC (Heap.get?_push_of_some _ (hH2 ▸ Heap.get?_push_size _ rfl));generalize hCC : HH.objs.size = C at *;generalize hDD : s2.heap.objs.size = D at hDC hacc below hCle;have hDs : s2.heap.objs.size <= D := Nat.le_of_eq hDD;have hCs : s2.heap.objs.size <= C := by rw [hDD]; exact hCle
 have fD : ∀ b ∈ fp, b ≠ D /\ b ≠ C := fun b hb => by
  obtain ⟨o, q⟩ := exo b hb;exact ⟨(below b (by rw [<- hDD]; exact Heap.lt_size q)).2, (below b (by rw [<- hDD]; exact Heap.lt_size q)).1⟩
 have okY : (Z2 X scope C N fp s2 H2).Ok := DM ok I2 f2 exo hCs;have fsD : ∀ b ∈ frs X.stack, b < s2.heap.objs.size := fun b hb => by
  obtain ⟨_, o, ho, _⟩ := I2.stack.mem hb;exact Heap.lt_size ho
 have cellD : ∀ x c, (Z2 X scope C N fp s2 H2).env.cells.lookup x = some c -> c < s2.heap.objs.size /\ H2 c = none := fun x c e => by
  have e' := (Q4 (ZaM ok I2) e).1;obtain ⟨v, q⟩ := I2.cell x c e';exact ⟨q.lt, I2.freeC x c e'⟩
 have fpY : ∀ {H' : Hp} {ps : List (Addr × Obj)}, (∀ b ∈ fp, H' b = none) -> (∀ p ∈ ps, p.1 = D) -> ∀ b ∈ fp, El (Z2 X scope C N fp s2 H2) ps H' b := fun {H' ps} hn hp b hb =>
  ⟨hn b hb, (fD b hb).2, okY.exfs b hb, .inl hb, (okY.exf b hb).2, fun p hp' z => by
   have q : p ∈ ps := hp';rw [hp p q] at z
   exact (fD b hb).1 z.symm⟩
 have DZ : ∀ (o : Obj), ∀ p ∈ [(D, o)], p.1 = D := fun o p hp => by
  have q : p = (D, o) := by simpa using hp
  rw [q]
 have reloc : ∀ {ps : List (Addr × Obj)} {σ' : L2.St} {H' : Hp} {s' : Shared} {o : Obj}, L2.Inv (Z2 X scope C N fp s2 H2) ps σ' H' s' -> s'.heap.get? D = some o -> H' D = none -> (∀ v, o.data ≠ .cell v) ->
   L2.Inv (Z2 X scope C N fp s2 H2) [(D, o)] (VN ix O) H' s' := fun {ps σ' H' s' o} J' hD hn hd => by
  obtain ⟨m, hm, _⟩ := J'.loc;refine ⟨J'.ok, J'.os, J'.bare, J'.base, ⟨m, hm, fun i x v a b _ => CM ok I2 f2 J'.base i x v a b⟩, J'.cell, J'.free, J'.freeC, fun p hp => ?_, J'.hok, ?_⟩
  ·have q : p = (D, o) := by
    have z : p ∈ ([] : List (Addr × Obj)) ++ [(D, o)] := hp
    simpa using z
   subst q;exact ⟨hD, hn, hDC, fun z => absurd (fsD D z) (Nat.not_lt.mpr hDs), hd⟩
  ·show (VN ix O).length = N.length;unfold VN;rw [List.length_map, ok.len]
 have start : L2.Inv (Z2 X scope C N fp s2 H2) [(D, { cls := .type "list", data := .seq ([] : List Value).toArray })] (VN ix O) H2 { s2 with heap := h₁, toks := s2.toks + ([] : List (Str × Value)).length } := by
  refine ⟨okY, rfl, I2.bare, Un.kept old, ⟨_, hns₁, fun i x v a b _ => CM ok I2 f2 (Un.kept old) i x v a b⟩, fun x c e => ?_, I2.hok.fresh hCs, fun x c e => (cellD x c e).2, fun p hp => ?_, I2.hok.kept old, ?_⟩
  ·obtain ⟨v, o, ho, hd⟩ := I2.cell x c (Q4 (ZaM ok I2) e).1;exact ⟨v, o, old c o ho, hd⟩
  ·have q : p = (D, { cls := .type "list", data := .seq ([] : List Value).toArray }) := by
    have z : p ∈ ([] : List (Addr × Obj)) ++ [(D, { cls := .type "list", data := .seq ([] : List Value).toArray })] := hp
    simpa using z
   subst q;exact ⟨hacc, I2.hok.fresh hDs, hDC, fun z => absurd (fsD D z) (Nat.not_lt.mpr hDs), fun v z => nomatch z⟩
  ·show (VN ix O).length = N.length;unfold VN;rw [List.length_map, ok.len]
 have loop : ∀ s₃ : Shared, s₃ = { s2 with heap := h₁, toks := s2.toks + ([] : List (Str × Value)).length } ->
   codeAny (model X.prog X.w) X.A (.compLoop (.ListComp elt [⟨tg, iter, ifs, 0⟩] scope pos) 0 (.ref it) (.ref D) (compEnvC scope (LY X.env scope.names []) C X.env)) (compPost (model X.prog X.w) X.A X.xe use QQ (.ref D) C) s₃ := by
  rintro s₃ rfl
  refine Ga (fun n s' => ∃ (i : Nat) (acc : List PyData) (vs : List V) (its : List Value) (nn : Nat) (H' : Hp) (M' : Mp), L2.Inv (Z2 X scope C N fp s2 H2) [(D, { cls := .type "list", data := .seq its.toArray nn })] (VN ix O) H' s' /\
   tn i s'.heap /\ (∀ b ∈ fp, H' b = none) /\ ZR X.K M' H' /\ Step M1 H2 M' H' /\ Vals vs its /\ Dts X.K M' H' vs acc /\ W i acc M' /\ i <= ds.length /\ acc.length <= i /\ n = ds.length - i) ?_ ds.length
   ⟨0, [], [], [], 0, H2, M1, start, T.keep _ _ _ st2 (fun b _ o e => old b o e), fun b hb => (f2 b hb).1, dr1, Step.refl, .nil, .nil, w0, Nat.zero_le _, Nat.le_refl _, rfl⟩
  rintro n s' ⟨i, acc, vs, its, nn, H', M', IY, ti, fr, dr', stp', rv, rd, wi', hil, hal, rfl⟩;have pinD := IY.pin (D, { cls := .type "list", data := .seq its.toArray nn }) (by simp);have fok := fpY (ps := [(D, { cls := .type "list", data := .seq its.toArray nn })]) fr (DZ _);obtain ⟨ygo, ystop⟩ := yl M' H' stp' i
  by_cases hlt : i < ds.length
  ·obtain ⟨jgo, jyl⟩ := ygo hlt;refine thn (T.item (Z2 X scope C N fp s2 H2) rfl rfl rfl hc i _ s' (VN ix O) H' (fun _ _ => False) IY fok ti jgo) fun r s4 ⟨u, hr, h4⟩ => ?_;subst hr;refine thn h4 fun _ s5 ⟨x, H5, I5, r5, y5, st5, fr5⟩ => ?_;obtain ⟨dr5, stp5, d, hd, hxd⟩ := jyl x H5 y5 dr';replace dr' := dr5;replace stp' := stp'.trans stp5;replace rd := rd.step stp5;have I5' := I5.pinned (fpY (ps := [(D, { cls := .type "list", data := .seq its.toArray nn })]) fr5 (DZ _)) (T.obj _ _ st5);obtain ⟨tg', pg, qg⟩ := hg C fp s2 H2
   refine thn (pg _ s5 (VN ix O) H5 x u (fun σ6 H6 => ∃ Δ6 M6, ZR X.K M6 H6 /\ Step M' H5 M6 H6 /\ Js X.K M6 H6 σ6 Δ6 /\ tc Δ6 M6 fun b M3 => if b = true then te Δ6 M3 fun y M4 => onD y fun e => W (i + 1) (acc ++ [e]) M4 else W (i + 1) acc M3) I5' r5
    (qg x (VN ix O) H5 (.dat d) (C1 ix Z) M' _ _ dr' ((er.step (stp.trans stp')).cap ix) hxd (wt i d acc M' hd wi') fun σ6 H6 Δ6 M6 a b c d => ⟨Δ6, M6, a, b, c, d⟩)) fun _ s6 ⟨σ6, H6, I6, Δ6, M6, dr6, stp6, er6, q6⟩ => ?_
   refine thn (ht C fp s2 H2 _ s6 σ6 H6 Δ6 M6 _ I6 dr6 er6 q6) fun b s7 ⟨H7, M7, I7, dr7, stp7, q7⟩ => ?_;have keepD : ∀ {σz : L2.St} {Hz : Hp} {sz : Shared}, L2.Inv (Z2 X scope C N fp s2 H2) ([(D, { cls := .type "list", data := .seq its.toArray nn })] ++ UP fp s5.heap) σz Hz sz ->
     sz.heap.get? D = some { cls := .type "list", data := .seq its.toArray nn } /\ Hz D = none /\ tn (i + 1) sz.heap /\ ∀ b ∈ fp, Hz b = none := fun {σz Hz sz} Iz => by
    have a := Iz.pin (D, { cls := .type "list", data := .seq its.toArray nn }) (by simp);refine ⟨a.1, a.2.1, T.keep _ _ _ st5 fun b hb o e => (Iz.pin (b, o) (List.mem_append_right _ (List.mem_append_right _ (VX hb e)))).1, fun b hb => ?_⟩;obtain ⟨o, e, _⟩ := T.obj _ _ st5 b hb;exact (Iz.pin (b, o) (List.mem_append_right _ (List.mem_append_right _ (VX hb e)))).2.1
   cases b with
   | false =>
    have q7' : W (i + 1) acc M7 := by simpa using q7
    obtain ⟨a1, a2, a3, a4⟩ := keepD I7;have st17 : Step M' H5 M7 H7 := stp6.trans stp7;exact ⟨ds.length - (i + 1), by omega, i + 1, acc, vs, its, nn, H7, M7, reloc I7 a1 a2 (fun v z => nomatch z), a3, a4, dr7, stp'.trans st17, rv, rd.step st17, q7', hlt, by omega, rfl⟩
   | true =>
    have q7' : te Δ6 M7 fun y M4 => onD y fun e => W (i + 1) (acc ++ [e]) M4 := by simpa using q7
    obtain ⟨te', pe', qe'⟩ := he C fp s2 H2
    refine thn (pe' _ s7 σ6 H7 (fun v H8 => ∃ e M8, ZR X.K M8 H8 /\ Step M7 H7 M8 H8 /\ Dt X.K M8 H8 v e /\ W (i + 1) (acc ++ [e]) M8) I7 (qe' σ6 H7 Δ6 M7 _ _ dr7 (er6.step stp7) q7' fun v H8 x8 M8 a b c d => by
     replace d := ZX d;obtain ⟨e, rfl, w8⟩ := d
     exact ⟨e, M8, a, b, c, w8⟩)) fun y s8 ⟨v, H8, I8, r8, e, M8, dr8, stp8, dv8, w8⟩ => ?_
    obtain ⟨a1, a2, a3, a4⟩ := keepD I8;have st18 : Step M' H5 M8 H8 := stp6.trans (stp7.trans stp8);have lv := rv.length;have ld := rd.length;refine call_meets PySem.F.slot_list_append ⟨_, a1, rfl⟩ PySem.F.entry_list_append (PySem.F.args_list_append_2 _ _) (PySem.list_append D its.toArray nn y (by rw [List.size_toArray]; omega)) ⟨a1, ?_⟩;have q := PySem.IsL.update a1 (·.push y);have I8' : L2.Inv (Z2 X scope C N fp s2 H2) [] σ6 H8 s8 := I8.KJ fun p hp => nomatch hp;have I9 := I8'.turned (it := D) (h' := s8.heap.update D (Obj.mapSeq (·.push y))) (t' := s8.toks) (fun b o hb hu => (Heap.get?_update_other s8.heap (Obj.mapSeq (·.push y)) (Ne.symm hb)).trans hu) a2 hDC (.inr hDs)
     (fun x c e z => absurd (z ▸ (cellD x c e).1) (Nat.not_lt.mpr hDs)) (fun p hp => by have z : p ∈ ([] : List (Addr × Obj)) ++ [] := hp; simp at z)
    have ea : (its.toArray.push y) = (its ++ [y]).toArray := by simp
    rw [ea] at q
    refine ⟨ds.length - (i + 1), by omega, i + 1, acc ++ [e], vs ++ [v], its ++ [y], _, H8, M8, reloc I9 q a2 (fun v z => nomatch z), T.keep _ _ _ a3 (fun b hb o e => (Heap.get?_update_other s8.heap (Obj.mapSeq (·.push y)) (Ne.symm (fD b hb).1)).trans e), a4, dr8, stp'.trans st18,
     rv.append (.cons r8 .nil), (rd.step st18).append (.cons dv8 .nil), w8, hlt, by rw [List.length_append, List.length_singleton]; omega, rfl⟩
  ·have hie : i = ds.length := by omega
   refine thn (T.done (Z2 X scope C N fp s2 H2) rfl rfl rfl hc i _ s' (VN ix O) H' (fun _ _ => False) IY fok ti (ystop (by omega))) fun r s4 ⟨hr, I4⟩ => ?_;subst hr;obtain ⟨m4, hm4, _⟩ := I4.loc;have pD := I4.pin (D, { cls := .type "list", data := .seq its.toArray nn }) (by simp);have hCn : H' C = none := I4.free;have hDn : H' D = none := pD.2.1;have hok4 : HOk X.prog X.w (upd H' D (.lst vs)) s4.heap := fun b u e => by
    by_cases hb : b = D
    ·subst hb;rw [Jp] at e;cases e;exact ⟨by have := rv.length; have := rd.length; omega, its, nn, rv, pD.1⟩
    ·rw [ZV hb] at e;refine (I4.hok b u e).S9 (fun c v hc' q => q) (fun c q => ?_) fun c xs q => ?_
     ·rw [ZV (ZE q pD.2.1)]; exact q
     ·rw [ZV (ZE q pD.2.1)]; exact q
   have bu : Un (frs X.stack) fp H2 H' s2.heap s4.heap := I4.base;have un4 : Un (frs X.stack) fp H2 (upd H' D (.lst vs)) s2.heap s4.heap := by
    have nD : ∀ b o, s2.heap.get? b = some o -> b ≠ D /\ b ≠ C := fun b o e => ⟨fun z => absurd (z ▸ Heap.lt_size e) (Nat.not_lt.mpr hDs), fun z => absurd (z ▸ Heap.lt_size e) (Nat.not_lt.mpr hCs)⟩;refine ⟨fun b o e n hb hx => bu.keep b o e n hb hx, fun b o e n hb hx => bu.slot b o e n hb hx, fun b o e n hx => by rw [ZV (nD b o e).1]; exact bu.free b o e n hx, fun b o e hx => bu.there b o e hx, fun b xs e => ?_, fun b o xs e => ?_, fun b ps e => ?_⟩
    ·have q := bu.tups b xs e;rw [ZV (ZE q pD.2.1)]; exact q
    ·have q := bu.frzs b o xs e;rw [ZV (ZE q pD.2.1)]; exact q
    ·obtain ⟨mo, q⟩ := bu.tbls b ps e;exact ⟨mo, by rw [ZV (ZE q pD.2.1)]; exact q⟩
   have os4 : s4.os = s2.os := I4.os;have IX : L2.Inv X pins O (upd H' D (.lst vs)) s4 := I2.Zds (s' := s4) os4 un4 hok4 I4.bare fun b hb => ⟨(f2 b hb).2.2.2.1, (f2 b hb).2.1, (f2 b hb).2.2.2.2.1, (f2 b hb).2.2.2.2.2⟩;subst hie;exact hfin s4 C D H' M' vs acc IX hDn dr' (stp.trans stp') rd (wd acc M' wi') ⟨m4, hm4⟩ (I2.Ss hCs (by rw [ZV (Ne.symm hDC)]; exact hCn))
 have hst₁ : tn 0 h₁ := T.keep _ _ _ st2 fun b _ o e => old b o e;exact codeAny_compStart_list (loop _ rfl) (T.self _ 0 _ _ _ hst₁ (loop _ rfl))
theorem ZaT {C : Addr} {m : Str -> Option Value} (n : h.Ns C m) (k : ∀ o, h.get? C = some o -> h'.get? C = some o) : h'.Ns C m := by
 obtain ⟨o, es, ep, ho, r⟩ := n;exact ⟨o, es, ep, k o ho, r⟩
theorem gone {O : L2.St} {C : Addr} (I : L2.Inv X pins O H s) (f : El X pins H C) (hsb : Heap.SameBut C s.heap h') : L2.Inv X pins O H { s with heap := h' } :=
 I.turned (t' := s.toks) (fun b o hb e => hsb.extBut b o hb e) f.1 f.2.1 f.2.2.2.1 f.2.2.2.2.1 f.2.2.2.2.2
theorem ZaY {ow : Bool} {Φ : DK} {Q : VK} {D : Addr} {acc : List PyData} (dr' : ZR X.K M' H') (st : Step M H M' H') (rd : Dts X.K M' H' vs acc) (hDn : H' D = none) (fin : CT ow Φ acc M') (k : Rch X.K M H Φ Q) : Q (.ref D) (upd H' D (.lst vs)) := by
 cases ow with
 | true =>
  have fin' : ∀ p, M' p = none -> Φ (.own p) (ZM M' p (.lst acc)) := by simpa [CT] using fin
  exact k _ _ (.own D) _ (dr'.Wx (Step.Va hDn) rd) (st.trans (Step.Va hDn)) rfl (fin' D (dr'.tracked hDn))
 | false =>
  have fin' : Φ (.dat (.list acc)) M' := by simpa [CT] using fin
  exact k.dat (dr'.new hDn) (st.trans (Step.new hDn)) (Dt.Y0 dr' hDn rd) fin'
theorem Qc (ow : Bool) {elt : Expr} {ifs : List Expr} {pos : Pos} {src : Y4} {g : DTG} {tc : DTT} {te : DTE} (ok : YK X scope N ix) (hi : DI X tg iter src)
  (hg : ∀ C ex s H, DG (Z2 X scope C N ex s H) tg g) (ht : ∀ C ex s H, DTs (Z2 X scope C N ex s H) ifs tc) (he : ∀ C ex s H, DE (Z2 X scope C N ex s H) elt te) (hc : X.calm = true)
  (hs : autoParam (∀ x, foldedSetIterable iter X.env x = pure x) zz2._auto_1) : DE X (.ListComp elt [⟨tg, iter, ifs, 0⟩] scope pos) (Mo ow src ix g tc te) := by
 refine ⟨fun O H Q => ∀ pins s, L2.Inv X pins O H s -> wpAny (model X.prog X.w) X.A (eval (.ListComp elt [⟨tg, iter, ifs, 0⟩] scope pos) X.env) (EP X pins O Q) X.xe s, fun pins s O H Q I h => h pins s I, fun O H Z M Φ Q dr er h k pins s I => ?_⟩;rw [eval_ListComp];refine Gi (ψ := CT ow Φ) ok hi hg ht he hc hs dr er h I fun s4 C D H' M' vs acc IX hDn dr' st rd fin hm f => ?_;obtain ⟨m, hm⟩ := hm;exact ⟨m, hm, fun h' hsb => ⟨.ref D, _, gone IX f hsb, rfl, ZaY dr' st rd hDn fin k⟩⟩
theorem WK (i : Nat) (ow : Bool) {x : Str} {pos' spos : Pos} (hN : X.N.Nodup) {elt : Expr} {ifs : List Expr} {pos : Pos} {src : Y4} {g : DTG} {tc : DTT} {te : DTE} (ok : YK X scope N ix) (hi : DI X tg iter src)
  (hg : ∀ C ex s H, DG (Z2 X scope C N ex s H) tg g) (ht : ∀ C ex s H, DTs (Z2 X scope C N ex s H) ifs tc) (he : ∀ C ex s H, DE (Z2 X scope C N ex s H) elt te) (hc : X.calm = true)
  (hs : autoParam (∀ x, foldedSetIterable iter X.env x = pure x) zz2._auto_1) (hin : autoParam (X.N[i]? = some x) zz3._auto_1) (hx : autoParam (Loc X.env.scope x) zz8._auto_1)
  (hsw : autoParam (swapsWith (.ListComp elt [⟨tg, iter, ifs, 0⟩] scope pos) (some (.Name x pos')) spos.line X.env = pure true) zz3._auto_1)
  (hf : autoParam (X.fn x = true \/ X.env.scope.names.lookup x = some .local) zz0._auto_1) :
  DS X (.Assign [.Name x pos'] (.ListComp elt [⟨tg, iter, ifs, 0⟩] scope pos) spos) (ZaX (Mo ow src ix g tc te) (U5 i)) := by
 refine ⟨fun E O H => ∀ pins s, L2.Inv X pins O H s -> wpAny (model X.prog X.w) X.A (exec (.Assign [.Name x pos'] (.ListComp elt [⟨tg, iter, ifs, 0⟩] scope pos) spos) X.env) (SP X pins E) X.xe s, fun pins s O H E I h => h pins s I, fun O H Z M D E dr er h k pins s I => ?_⟩;rw [exec_Assign_Name_used _ _ _ _ hsw];refine wpAny_bind (wpAny_standAt (wpAny_bind ?_));show wpAny _ _ (do let _ <- comprehension (.ListComp elt [⟨tg, iter, ifs, 0⟩] scope pos) scope X.env _ (newList []) false (eval iter X.env) (some (assign (.Name x pos') X.env))) _ _ s
 refine wpAny_bind (wpAny_mono (Gi (QQ := fun _ s' => SP X pins E .next s') (use := some (assign (.Name x pos') X.env)) (ψ := CT ow fun y M1 => D.nx (Z.set i (some y)) M1) ok hi hg ht he hc hs dr er h I fun s4 C DD H' M' vs acc IX hDn dr' st rd fin hm f => ?_)
  (fun _ s' hq => wpAny_pure (wpAny_pure hq)) fun _ _ e => e)
 obtain ⟨m, hm⟩ := hm;have hm0 := hm;obtain ⟨oC, es, ep, hoC, hr1, hr2⟩ := hm0;have IP : L2.Inv X (pins ++ [(C, oC)]) O (upd H' DD (.lst vs)) s4 := IX.KJ fun p hp => by
  rcases List.mem_append.mp hp with hp | hp
  ·exact IX.pin p (List.mem_append_right _ hp)
  ·rw [List.mem_singleton.mp hp];exact ⟨hoC, f.1, f.2.1, f.2.2.1, fun v z => nomatch (hr1.symm.trans z)⟩
 have nxt : ∀ Q' : L2.St -> Hp -> Prop, (Q' (O.set i (some (.ref DD))) (upd H' DD (.lst vs))) -> wpAny (model X.prog X.w) X.A (assign (.Name x pos') X.env (.ref DD)) (fun _ s' => ∃ σ' H', L2.Inv X (pins ++ [(C, oC)]) σ' H' s' /\ Q' σ' H') X.xe s4 := fun Q' hq =>
  L6 (pos := pos') hN hin hx hf _ s4 O _ (.ref DD) (.ref DD) Q' IP rfl hq
 have kq : E.nx (O.set i (some (.ref DD))) (upd H' DD (.lst vs)) := by
  cases ow with
  | true =>
   have fin' : ∀ p, M' p = none -> D.nx (Z.set i (some (.own p))) (ZM M' p (.lst acc)) := by simpa [CT] using fin
   have st2 : Step M H (ZM M' DD (.lst acc)) (upd H' DD (.lst vs)) := st.trans (Step.Va hDn);exact k.nx _ _ _ _ (dr'.Wx (Step.Va hDn) rd) st2 ((er.step st2).set (v := .ref DD) (x := .own DD) rfl) (fin' DD (dr'.tracked hDn))
  | false =>
   have fin' : D.nx (Z.set i (some (.dat (.list acc)))) M' := by simpa [CT] using fin
   have st2 : Step M H M' (upd H' DD (.lst vs)) := st.trans (Step.new hDn);exact k.nx _ _ _ _ (dr'.new hDn) st2 ((er.step st2).set (v := .ref DD) (x := .dat (.list acc)) (Dt.Y0 dr' hDn rd)) fin'
 show wpAny _ _ (assign (.Name x pos') X.env (.ref DD)) _ _ s4;refine thn (nxt (fun σ' H' => σ' = O.set i (some (.ref DD)) /\ E.nx σ' H') ⟨rfl, kq⟩) fun _ s5 ⟨σ5, H5, I5, _, q5⟩ => ?_;have p5 := I5.pin (C, oC) (by simp);refine ⟨m, ZaT hm fun o ho => ?_, fun h' hsb => ⟨σ5, H5, ?_, q5⟩⟩
 ·rw [hoC] at ho;cases ho;exact p5.1
 ·have I6 : L2.Inv X pins σ5 H5 s5 := I5.KJ fun p hp => I5.pin p (List.mem_append_right _ (List.mem_append_left _ hp));exact gone I6 ⟨p5.2.1, f.2⟩ hsb
end
end DL
namespace DL
section
def VE (xs : List DV) (M : Mp) (ns : List Int) : Prop := xs = [.dat (.list (ns.map PyData.int))] \/ ∃ l, xs = [.own l] /\ M l = some (.lst (ns.map PyData.int))
theorem VE.sq {xs : List DV} {ns : List Int} (h : VE xs M ns) (r : ZR X.K M H) (rv : YU X.K M H vs xs) : ∃ p, vs = [.ref p] /\ SqL X.K H p (ns.map V.int) := by
 rcases h with rfl | ⟨l, rfl, hm⟩
 ·obtain ⟨v, rfl, h1⟩ := Paired.one rv;obtain ⟨p, ys, rfl, g1, g2⟩ := QC.lst h1;rw [Y9 g2] at g1;exact ⟨p, rfl, g1.sq⟩
 ·obtain ⟨v, rfl, h1⟩ := Paired.one rv;cases (show v = .ref l from h1);obtain ⟨ws, g1, g2⟩ := r.ls l _ hm;rw [Y9 g2] at g1;exact ⟨l, rfl, SqL.of g1⟩
def S0 : D1 := fun xs M Φ => ∃ ns : List Int, VE xs M ns /\ ns.length < 64 /\ ∀ ns' : List Int, ns'.Perm ns -> ns'.Pairwise (· <= ·) -> Φ (.dat (.list (ns'.map PyData.int))) M
theorem FN (hc : X.calm = true) : Vz X (.builtin "min") (fun xs H Q => ∃ (p : Addr) (ns : List Int), xs = [.ref p] /\ SqL X.K H p (ns.map V.int) /\ 0 < ns.length /\ ∀ m ∈ ns, (∀ a ∈ ns, m <= a) -> Q (.int m) H) := by
 intro pins s O H xs us Q I r h;obtain ⟨p, ns, rfl, hq, h0, q⟩ := h;obtain ⟨u, rfl, rx⟩ := vals1 r;cases rx;obtain ⟨its, rv, pl, hz⟩ := I.list hq;have hi : IntsAre its ns := intsAre_of rv;obtain ⟨xs, e⟩ := hi.allInts.items;have hns : ns = xs.toList.map (·.1) := by rw [<- hi.numsOf, <- nums_intItems, <- e]
 have hsz : 0 < xs.size := by
  have h3 := h0; rw [hns, List.length_map, Array.length_toList] at h3; exact h3
 have hl := pl.isList;rw [e] at hl;refine min_intList (I.ok.hd hc) hl hsz fun v h' tk hv hk => ?_;obtain ⟨t, rfl⟩ := intItems_at hv;obtain ⟨h1, h2⟩ := argBest_lt (numAt xs) (xs.size - 1);refine ⟨.int _, H, I.kept hk, ⟨t, rfl⟩, q _ ?_ fun a ha => ?_⟩
 ·rw [hns, numAt_eq]; exact getD_mem (by rw [List.length_map, Array.length_toList]; omega)
 ·rw [hns] at ha;obtain ⟨j, hj, rfl⟩ := mem_getD ha;rw [List.length_map, Array.length_toList] at hj;rw [<- numAt_eq]; exact h2 j (by omega)
theorem Lw (hc : X.calm = true) : Vz X (.builtin "max") (fun xs H Q => ∃ (p : Addr) (ns : List Int), xs = [.ref p] /\ SqL X.K H p (ns.map V.int) /\ 0 < ns.length /\ ∀ m ∈ ns, (∀ a ∈ ns, a <= m) -> Q (.int m) H) := by
 intro pins s O H xs us Q I r h;obtain ⟨p, ns, rfl, hq, h0, q⟩ := h;obtain ⟨u, rfl, rx⟩ := vals1 r;cases rx;obtain ⟨its, rv, pl, hz⟩ := I.list hq;have hi : IntsAre its ns := intsAre_of rv;obtain ⟨xs, e⟩ := hi.allInts.items;have hns : ns = xs.toList.map (·.1) := by rw [<- hi.numsOf, <- nums_intItems, <- e]
 have hsz : 0 < xs.size := by
  have h3 := h0; rw [hns, List.length_map, Array.length_toList] at h3; exact h3
 have hl := pl.isList;rw [e] at hl;refine max_intList (I.ok.hd hc) hl hsz fun v h' tk hv hk => ?_;obtain ⟨t, rfl⟩ := intItems_at hv;obtain ⟨h1, h2⟩ := argBest_gt (numAt xs) (xs.size - 1);refine ⟨.int _, H, I.kept hk, ⟨t, rfl⟩, q _ ?_ fun a ha => ?_⟩
 ·rw [hns, numAt_eq]; exact getD_mem (by rw [List.length_map, Array.length_toList]; omega)
 ·rw [hns] at ha;obtain ⟨j, hj, rfl⟩ := mem_getD ha;rw [List.length_map, Array.length_toList] at hj;rw [<- numAt_eq]; exact h2 j (by omega)
def PF : D1 := fun xs M Φ => ∃ ns : List Int, VE xs M ns /\ 0 < ns.length /\ ∀ m ∈ ns, (∀ a ∈ ns, m <= a) -> Φ (.dat (.int m)) M
def Rm : D1 := fun xs M Φ => ∃ ns : List Int, VE xs M ns /\ 0 < ns.length /\ ∀ m ∈ ns, (∀ a ∈ ns, a <= m) -> Φ (.dat (.int m)) M
theorem Tf (hc : X.calm = true) : Vy X (.builtin "min") PF := by
 refine ⟨_, FN hc, fun vs H xs M Φ Q r rv h k => ?_⟩;obtain ⟨ns, hx, h0, q⟩ := h;obtain ⟨p, rfl, hs⟩ := hx.sq r rv;exact ⟨p, ns, rfl, hs, h0, fun m a b => k.dat r Step.refl (Dt.int m) (q m a b)⟩
theorem TB (hc : X.calm = true) : Vy X (.builtin "max") Rm := by
 refine ⟨_, Lw hc, fun vs H xs M Φ Q r rv h k => ?_⟩;obtain ⟨ns, hx, h0, q⟩ := h;obtain ⟨p, rfl, hs⟩ := hx.sq r rv;exact ⟨p, ns, rfl, hs, h0, fun m a b => k.dat r Step.refl (Dt.int m) (q m a b)⟩
theorem Paired.three {α β : Type} {F : α -> β -> Prop} {l : List α} {b c d : β} (h : Paired F l [b, c, d]) : ∃ a a' a'', l = [a, a', a''] /\ F a b /\ F a' c /\ F a'' d := by
 cases h with
 | cons h1 h2 =>
  obtain ⟨a, a', rfl, h3, h4⟩ := Paired.two h2;exact ⟨_, a, a', rfl, h1, h3, h4⟩
def δ3I (g : Int -> Int -> Int -> Int) : D1 := fun xs M Φ => on3 xs fun x y z => onI x fun i => onI y fun j => onI z fun l => Φ (.dat (.int (g i j l))) M
theorem FR (hc : X.calm = true) : Vz X (.builtin "max") (fun xs H Q => ∃ i j l, xs = [.int i, .int j, .int l] /\ Q (.int (max i (max j l))) H) := by
 intro pins s O H xs us Q I r h;obtain ⟨i, j, l, rfl, q⟩ := h;obtain ⟨u, hu⟩ : ∃ u, us = u := ⟨us, rfl⟩
 cases r with
 | cons r1 r2 =>
  obtain ⟨u2, u3, rfl, r3, r4⟩ := vals2 r2;obtain ⟨t1, rfl⟩ := r1;obtain ⟨t2, rfl⟩ := r3;obtain ⟨t3, rfl⟩ := r4;refine max_three_ints (I.ok.hd hc) fun h' tk k => ⟨.int (max i (max j l)), H, I.kept k, ?_, q⟩
  by_cases c1 : j > i
  ·rw [if_pos c1]
   by_cases c2 : l > j
   ·rw [if_pos c2]; exact ⟨t3, by rw [show max i (max j l) = l by omega]⟩
   ·rw [if_neg c2]; exact ⟨t2, by rw [show max i (max j l) = j by omega]⟩
  ·rw [if_neg c1]
   by_cases c2 : l > i
   ·rw [if_pos c2]; exact ⟨t3, by rw [show max i (max j l) = l by omega]⟩
   ·rw [if_neg c2]; exact ⟨t1, by rw [show max i (max j l) = i by omega]⟩
theorem S3 (hc : X.calm = true) : Vy X (.builtin "max") (δ3I fun i j l => max i (max j l)) := by
 refine ⟨_, FR hc, fun vs H xs M Φ Q r rv h k => ?_⟩;replace h := JF h;obtain ⟨x, y, z, rfl, h⟩ := h;replace h := ZS h;obtain ⟨i, rfl, h⟩ := h;replace h := ZS h;obtain ⟨j, rfl, h⟩ := h;replace h := ZS h;obtain ⟨l, rfl, q⟩ := h;obtain ⟨v, u, w', rfl, h1, h2, h3⟩ := Paired.three rv;exact ⟨i, j, l, by rw [QC.int h1, QC.int h2, QC.int h3], k.dat r Step.refl (Dt.int _) q⟩
def LX : D1 := fun xs M Φ => on1 xs fun x => onQ x M fun ds => Φ (.dat (.tuple ds)) M
theorem JY : Vy X (.type "tuple") LX := by
 refine ⟨_, W3, fun vs H xs M Φ Q r rv h k => ?_⟩;replace h := Zw h;obtain ⟨x, rfl, h⟩ := h;replace h := LO h;obtain ⟨ds, hx, q⟩ := h;have hx' : x = .dat (.list ds) \/ x = .dat (.tuple ds) \/ ∃ l, x = .own l /\ M l = some (.lst ds) := by
  rcases hx with a | a | a
  ·exact .inr (.inl a)
  ·exact .inl a
  ·exact .inr (.inr a)
 rcases hx' with rfl | rfl | ⟨l, rfl, hm⟩
 ·obtain ⟨v, rfl, h1⟩ := Paired.one rv;obtain ⟨p, ys, rfl, g1, g2⟩ := QC.lst h1;exact ⟨p, ys, rfl, .inl ⟨g1.sq, fun l hl => k.dat (r.new hl) (Step.new hl) (Dt.K8 r hl g2) q⟩⟩
 ·obtain ⟨v, rfl, h1⟩ := Paired.one rv;obtain ⟨p, ys, rfl, g1, g2⟩ := QC.tup h1;exact ⟨p, ys, rfl, .inr ⟨g1.sq, k.dat r Step.refl (Dt.tup g1 g2) q⟩⟩
 ·obtain ⟨v, rfl, h1⟩ := Paired.one rv;cases (show v = .ref l from h1);obtain ⟨ws, g1, g2⟩ := r.ls l _ hm;exact ⟨l, ws, rfl, .inl ⟨SqL.of g1, fun l hl => k.dat (r.new hl) (Step.new hl) (Dt.K8 r hl g2) q⟩⟩
def onW (x : DV) (P : List PyData -> Prop) : Prop := match x with | .dat (.tuple ds) => P ds | .dat (.list ds) => P ds | _ => False
theorem ZdE {x : DV} {P : List PyData -> Prop} (h : onW x P) : ∃ ds, (x = .dat (.list ds) \/ x = .dat (.tuple ds)) /\ P ds := by
 unfold onW at h
 split at h
 ·exact ⟨_, .inr rfl, h⟩
 ·exact ⟨_, .inl rfl, h⟩
 ·exact h.elim
noncomputable def okIn (d : PyData) (ds : List PyData) : Bool := d.canLay0 && PyData.canLayAll0 ds && Nat.ble d.depth 64
theorem T6 (h : okIn d ds = true) : d.canLay0 = true /\ PyData.canLayAll0 ds = true /\ d.depth <= 64 := by
 unfold okIn at h;simp only [Bool.and_eq_true] at h;exact ⟨h.1.1, h.1.2, Nat.le_of_ble_eq_true h.2⟩
def δIn : D2 := fun x y M Φ => onD x fun d => onW y fun ds => okIn d ds = true /\ Φ (.dat (.bool (ds.any fun e => PyData.eqv e d))) M
def Rr (to te : DTE) : DTE := fun Z M Φ => to Z M fun x M1 => onO x fun l => Vp (M1 l) fun _ => te Z M1 fun y M2 => onO y fun b => Vp (M2 l) fun ds => Vp (M2 b) fun es => b ≠ l /\ ds.length + es.length <= sizeLine /\ Φ (.dat .none) (Yy (ZM M2 l (.lst (ds ++ es))) b)
def Zi8 (te : DTE) (tl th : DTO) : DTE := fun Z M Φ => te Z M fun x M1 => tl Z M1 fun l M2 => th Z M2 fun u M3 => onL x fun ds => Φ (.dat (.list (cutD ds l u))) M3
noncomputable def Mz (scope sc : Scope) : List (Str × NameKind) := scope.names.map fun (n, k) => if (k == .free && sc.kind == .function && sc.names.lookup n == some .cell) then (n, .cell) else (n, k)
noncomputable def Za8 (sc : Scope) (XN : List Str) (scope : Scope) (N : List Str) (ix : List (Option Nat)) (j : Nat) : Bool :=
 match N[j]?, ix[j]? with
 | some x, some (some i) => decide (XN[i]? = some x) && (decide ((x, NameKind.free) ∈ scope.names) && decide ((Mz scope sc).lookup x = some .cell))
 | _, _ => true
theorem Zx {sc : Scope} {XN : List Str} {scope : Scope} {N : List Str} {ix : List (Option Nat)} (hsc : X.env.scope = sc) (hN : X.N = XN)
  (h : scope.kind = .function /\ (∀ y ∈ scope.names, y.2 ≠ .cell) /\ (∀ y ∈ scope.names, y.2 = .local -> scope.names.lookup y.1 = some .local) /\ (∀ y ∈ scope.names, y.2 = .free -> sc.names.lookup y.1 = some .cell) /\ N.length = ix.length /\
   ∀ j ∈ List.range N.length, Za8 sc XN scope N ix j = true) : YK X scope N ix := by
 obtain ⟨h1, h2, h3, h4, h5, h6⟩ := h;subst hsc hN;refine ⟨h1, h2, h3, h4, h5, fun j x i hx hi => ?_⟩;have hj : j < N.length := (List.getElem?_eq_some_iff.mp hx).1;have q := h6 j (List.mem_range.mpr hj);unfold Za8 at q;rw [hx, hi] at q;simp only [Bool.and_eq_true, decide_eq_true_eq] at q;exact ⟨q.1, q.2.1, q.2.2⟩
end
end DL
namespace DL
theorem fresh_ne (h : ZM M p o b = none) : b ≠ p := fun e => by rw [e, Zv] at h; cases h
theorem take_snoc {α β : Type} {l : List α} {i : Nat} {a : α} (f : α -> β) (h : l[i]? = some a) : (l.take i).map f ++ [f a] = (l.take (i + 1)).map f := by
 rw [List.take_add_one, h, List.map_append];rfl
theorem Z4 {α β : Type} {l : List α} {f : α -> β} {i : Nat} {b : β} (h : (l.map f)[i]? = some b) : ∃ a, l[i]? = some a /\ f a = b := by
 rw [List.getElem?_map] at h;cases q : l[i]? with
 | none => rw [q] at h; cases h
 | some a => rw [q] at h; exact ⟨a, rfl, by simpa using h⟩
theorem Vm {α β : Type} (f : α -> List β) (n : Nat) : ∀ l : List α, (∀ a ∈ l, (f a).length <= n) -> (l.flatMap f).length <= l.length * n
 | [], _ => by simp
 | a :: l, h => by
  have h1 := h a List.mem_cons_self;have h2 := Vm f n l fun b hb => h b (List.mem_cons_of_mem _ hb);rw [List.flatMap_cons, List.length_append, List.length_cons, Nat.succ_mul];omega
def gc (Φ : DK) : DK := fun x M => ∃ ps : List Addr, Φ x (ps.foldl Yy M)
theorem ZbJ {Φ : DK} {Q : VK} (k : Rch K M H Φ Q) {x : DV} : ∀ (ps : List Addr) (M' : Mp), ZR K M' H' -> Step M H M' H' -> QC K M' H' v x -> Φ x (ps.foldl Yy M') -> Q v H'
 | [], M', r, st, rv, f => k v H' x M' r st rv f
 | p :: ps, M', r, st, rv, f => ZbJ k ps (Yy M' p) r.frz (st.trans Step.frz) (rv.step Step.frz) f
theorem Rc {Φ : DK} {Q : VK} (k : Rch K M H Φ Q) : Rch K M H (gc Φ) Q := fun _ _ _ M' r st rv ⟨ps, f⟩ => ZbJ k ps M' r st rv f
theorem okG {P : Program} {w : World} {mg : Str -> Option Value} {base : Heap} {ps : List Str} {k : Nat} {S : DSp} (F : Fun K x qual st f fd) (Sc : Zq N ps (Ze st)) (len : ∀ xs M Φ, S xs M Φ -> xs.length = ps.length)
  (hbody : ∀ (cdv : Value) (A : Around) (outer : List Env) (s : Shared) (H : Hp) (E : XK), V6 k (A.deeper (envOfC qual (Ze st) s.heap.objs.size f cdv)) ->
   ∃ τ, DSs (Pj CX0 P w K mg base N qual (Ze st) f cdv A outer s H E).nox (Zo st) τ /\ ∀ xs M Φ, S xs M Φ -> τ { nx := fun _ M' => gc Φ (.dat .none) M', rt := gc Φ } (XA N xs) M) : ZD P w K mg base CX0 (k + 1) f fd ps (lift K S) := by
 refine F.ok Sc (fun vs H Q E h => ?_) fun cdv A outer s H vs Q E hr h => ?_
 ·obtain ⟨xs, M, Φ, _, rv, hs, _⟩ := h;rw [Paired.length rv];exact len xs M Φ hs
 ·obtain ⟨xs, M, Φ, r, rv, hs, kk⟩ := h;obtain ⟨τ, ⟨t, p, q⟩, hτ⟩ := hbody cdv A outer s H E hr;refine ⟨t, p, q (start N vs) H (XA N xs) M _ _ r (Js.start rv) (hτ xs M Φ hs) ⟨fun σ' H' Δ' M' r' st' e' hn => ?_, Rc kk, fun _ _ _ _ _ _ _ h => h.elim, fun _ _ _ _ _ _ _ h => h.elim⟩⟩;exact (Rc kk).dat r' st' Dt.non hn
theorem Po {Φ : DK} {x : DV} (hp : M p = none) (h : Φ x M) : gc Φ x (ZM M p o) := ⟨[p], by
 show Φ x (Yy (ZM M p o) p)
 rw [J5 hp]; exact h⟩
theorem Us {k : Nat} (h : n < 2 ^ k) (hk : 0 < k) : n.log2 < k := by
 by_cases h0 : n = 0
 ·subst h0; simpa using hk
 ·exact (Nat.log2_lt h0).mpr h
def Mid (i : Int) : Prop := -(10 ^ 70) <= i /\ i <= 10 ^ 70
theorem Mid.show {i : Int} (h : Mid i) : (PyData.int i).showable = true := by
 have h1 : i.natAbs.log2 < 240 := Us (by unfold Mid at h; omega) (by decide);simp only [PyData.showable, decide_eq_true_eq];omega
end DL
namespace DL
section
def ZdH : D1 := fun xs M Φ => ∃ ns : List Int, VE xs M ns /\ Φ (.dat (.int ns.sum)) M
theorem Gb : ∀ {bs : List Bool} {us : List Value}, Vals (bs.map V.bl) us -> ∀ (i : Nat) (v : Value), us[i]? = some v -> ∃ b, bs[i]? = some b /\ v = .bool b
 | [], _, r, i, v, e => by rw [List.map_nil] at r; cases r; simp at e
 | b :: bs, _, r, i, v, e => by
  rw [List.map_cons] at r;cases r with
  | cons r1 r2 =>
   cases i with
   | zero =>
    simp at e;subst e;exact ⟨b, rfl, r1⟩
   | succ i => simpa using Gb r2 i v (by simpa using e)
theorem Ey (bs : List Bool) : ((List.range bs.length).all fun i => (bs[i]?).getD true) = bs.all id := by
 rw [Bool.eq_iff_iff, List.all_eq_true, List.all_eq_true];constructor
 ·intro h b hb;obtain ⟨i, hi, e⟩ := List.getElem_of_mem hb;have q := h i (List.mem_range.mpr hi);rw [List.getElem?_eq_getElem hi, Option.getD_some, e] at q;exact q
 ·intro h i hi;have hi' := List.mem_range.mp hi;rw [List.getElem?_eq_getElem hi', Option.getD_some];exact h _ (List.getElem_mem hi')
theorem La {o : Obj} (hk : ∀ b x, b ∉ [s.heap.objs.size] -> (s.heap.push o).get? b = some x -> h'.get? b = some x) : ∀ b x, s.heap.get? b = some x -> h'.get? b = some x :=
 fun b x e => hk b x (fun hm => absurd (Heap.lt_size e) (by rw [List.mem_singleton.mp hm]; exact Nat.lt_irrefl _)) (Heap.get?_push_of_some _ e)
theorem FT (hc : X.calm = true) : Vz X (.builtin "all") (fun xs H Q => ∃ (p : Addr) (bs : List Bool), xs = [.ref p] /\ SqL X.K H p (bs.map V.bl) /\ Q (.bl (bs.all id)) H) := by
 intro pins s O H xs us Q I r h;obtain ⟨p, bs, rfl, hq, q⟩ := h;obtain ⟨u, rfl, rx⟩ := vals1 r;cases rx;obtain ⟨its, rv, pl, hz⟩ := I.list hq;have hl := pl.isList;have hlt : p < s.heap.objs.size := by obtain ⟨_, e, _⟩ := hl; exact Heap.lt_size e
 refine call_all_walk (wpAny_pyIter_list hl ?_)
 refine ⟨s.heap.objs.size, [s.heap.objs.size, p], [s.heap.objs.size], its.toArray.size, _, _, fun i => (bs[i]?).getD true, rfl, Walks.list (A := X.A.in1) (I.ok.hd hc) _ p (Nat.ne_of_lt hlt) its.toArray,
  ⟨⟨_, Heap.get?_push_size _ rfl, rfl, rfl⟩, hl.push _⟩, fun i v s' Q' E' hP hQ => ?_, fun h' tk hk => ?_⟩
 ·obtain ⟨b, e, rfl⟩ := Gb rv i v (by simpa using hP);simp only [e, Option.getD_some] at hQ;exact wpAny_truthy_bool hQ
 ·have e : ((List.range its.toArray.size).all fun i => (bs[i]?).getD true) = bs.all id := by
   have hln := rv.length;rw [List.length_map] at hln;rw [List.size_toArray, <- hln]; exact Ey bs
  rw [e];exact ⟨.bl _, H, I.kept (La hk), rfl, q⟩
theorem Ks : ∀ {vs : List V} {bs : List Bool}, Dts K M H vs (bs.map PyData.bool) -> vs = bs.map V.bl
 | vs, [], h => by
  rw [List.map_nil] at h;cases h;rfl
 | vs, n :: ns, h => by
  rw [List.map_cons] at h;cases h with
  | cons h1 h2 =>
   cases h1;rw [Ks h2, List.map_cons]
def Pp : D1 := fun xs M Φ => ∃ bs : List Bool, xs = [.dat (.list (bs.map PyData.bool))] /\ Φ (.dat (.bool (bs.all id))) M
def Zdi : D1 := fun xs M Φ => ∃ bs : List Bool, xs = [.dat (.list (bs.map PyData.bool))] /\ Φ (.dat (.bool (bs.any id))) M
theorem Gf (hc : X.calm = true) : Vy X (.builtin "all") Pp := by
 refine ⟨_, FT hc, fun vs H xs M Φ Q r rv h k => ?_⟩;obtain ⟨bs, rfl, q⟩ := h;obtain ⟨v, rfl, h1⟩ := Paired.one rv;obtain ⟨p, ys, rfl, g1, g2⟩ := QC.lst h1;rw [Ks g2] at g1;exact ⟨p, bs, rfl, g1.sq, k.dat r Step.refl (Dt.bl _) q⟩
def ZcQ : D1 := fun xs M Φ => on1 xs fun x => onB x fun b => Φ (.dat (.int (if b = true then 1 else 0))) M
def Zid (i j : Nat) (ta : DTA) : DTS := fun D Z M => ta Z M fun xs M1 => on2 xs fun x y => D.nx ((Z.set i (some x)).set j (some y)) M1
def E8 (x : DV) (M : Mp) (ds : List PyData) : Prop := x = .dat (.list ds) \/ ∃ l, x = .own l /\ M l = some (.lst ds)
theorem E8.sq {x : DV} (h : E8 x M ds) (r : ZR X.K M H) (rv : QC X.K M H v x) : ∃ p ys, v = .ref p /\ SqL X.K H p ys /\ Dts X.K M H ys ds := by
 rcases h with rfl | ⟨l, rfl, hm⟩
 ·obtain ⟨p, ys, rfl, g1, g2⟩ := QC.lst rv;exact ⟨p, ys, rfl, g1.sq, g2⟩
 ·cases (show v = .ref l from rv);obtain ⟨ws, g1, g2⟩ := r.ls l _ hm;exact ⟨l, ws, rfl, SqL.of g1, g2⟩
def Pg : D2 := fun x y M Φ => onK x M fun ds => onK y M fun es => ds.length + es.length <= sizeLine /\ Φ (.dat (.list (ds ++ es))) M
theorem Ym : OpD X (binaryOp .Add) Pg := by
 refine ⟨_, Nx, fun v u H x y M Φ Q r rv ru h k => ?_⟩;replace h := YV h;obtain ⟨ds, hx, h⟩ := h;replace h := YV h;obtain ⟨es, hy, hz, q⟩ := h;replace hx : E8 x M ds := hx;replace hy : E8 y M es := hy;obtain ⟨a, xs, rfl, h1, h2⟩ := hx.sq r rv;obtain ⟨b, ys, rfl, h3, h4⟩ := hy.sq r ru;exact ⟨a, b, xs, ys, rfl, rfl, h1, h3, by rw [h2.length, h4.length]; exact hz, fun p hp => k.dat (r.new hp) (Step.new hp) (Dt.Y0 r hp (h2.append h4)) q⟩
def Zg2 (te : DTE) (tl th : DTO) : DTE := fun Z M Φ => te Z M fun x M1 => tl Z M1 fun l M2 => th Z M2 fun u M3 => onK x M3 fun ds => Φ (.dat (.list (cutD ds l u))) M3
theorem XU {lo hi : Option Expr} {tl th : DTO} (he : DE X e te) (hl : DO X lo tl) (hu : DO X hi th) : DE X (.Subscript e (.Slice lo hi none p2) pos) (Zg2 te tl th) := by
 obtain ⟨t1, p1, q1⟩ := he;obtain ⟨t2, p2, q2⟩ := hl;obtain ⟨t3, p3, q3⟩ := hu;refine ⟨_, WN RC p1 p2 p3, fun O H Z M Φ Q r e h k => ?_⟩;refine q1 O H Z M _ _ r e h fun v H1 x M1 r1 st rv hx => ?_;refine q2 O H1 Z M1 _ _ r1 (e.step st) hx fun l H2 M2 r2 st2 hl => ?_;refine q3 O H2 Z M2 _ _ r2 (e.step (st.trans st2)) hl fun u H3 M3 r3 st3 hu => ?_;replace hu := YV hu;obtain ⟨ds, hd, hu⟩ := hu;replace hd : E8 x M3 ds := hd;obtain ⟨a, xs, rfl, h1, h2⟩ := hd.sq r3 (rv.step (st2.trans st3));refine ⟨a, xs, rfl, h1, fun p hp => ?_⟩;exact k.dat (r3.new hp) ((st.trans (st2.trans st3)).trans (Step.new hp)) (Dt.Y0 r3 hp (h2.cut l u)) hu
noncomputable def Zj6 (lo : Int) (n : Nat) : List V := (List.range n).map fun (i : Nat) => V.int (lo + (i : Int))
def S1 (ta : DTA) : DTE := fun Z M Φ => ta Z M fun xs M1 => on2 xs fun x y => onI x fun i => onI y fun j => (InR i /\ InR j) /\ (j - i).toNat <= 16777216 /\ Φ (.dat (.list (W7 i (j - i).toNat))) M1
def Ziu (i : Nat) (te : DTE) (f : Int -> Int -> Int) : DTS := fun D Z M => onV Z[i]? fun z => onI z fun a => te Z M fun x M1 => onI x fun b => D.nx (Z.set i (some (.dat (.int (f a b))))) M1
end
end DL
namespace DL
def ZjC (h : Heap) (v : Value) (q : Int × Int) : Prop := ∃ a o n t u, v = .ref a /\ h.get? a = some o /\ o.cls = .type "tuple" /\ o.data = .seq #[.int q.1 t, .int q.2 u] n
noncomputable def ltP (p q : Int × Int) : Bool := if p.1 = q.1 then decide (p.2 < q.2) else decide (p.1 < q.1)
section
variable {prog : Program} {E : Value -> Shared -> Prop}
end
section
variable {prog : Program} {R : Result -> Shared -> Prop} {I : Addr} {fp wr : List Addr} {P : Nat -> Value -> Prop} {St : Nat -> Heap -> Prop}
def ZiJ (prog : Program) (w : World) (A : Around) (h0 : Heap) (P : Nat -> Value -> Prop) (bt : Nat -> Nat -> Bool) : Prop :=
 ∀ i j x y (s : Shared) (Q : Value -> Shared -> Prop) (E : Value -> Shared -> Prop), (∀ b o, h0.get? b = some o -> s.heap.get? b = some o) -> P i x -> P j y -> Q (.bool (bt i j)) s -> wpAny (model prog w) A (richCompare .Lt x y) Q E s
end
section
variable {prog : Program} {E : Value -> Shared -> Prop}
end
section
def Zd3 (i j : Int) : Prop := 0 < j /\ j.natAbs.log2 < 9000
theorem Ou : OpR X (binaryOp .FloorDiv) (rI Zd3 fun i j => .int (i / j)) := opI fun i j _ _ _ _ _ hc q => by
 have h1 : (0 : Int) < j := hc.1;exact floordiv_int (by omega) (by rw [Int.fdiv_eq_ediv_of_nonneg i (by omega)]; exact q) (.inl (PyProof.noPylong_of_log2 hc.2))
theorem Ds : OpD X (binaryOp .FloorDiv) (δI Zd3 fun i j => .int (i / j)) := Zeo Ou
theorem Vals.back (r : Vals xs us) (e : us[i]? = some u) : ∃ x, xs[i]? = some x /\ RelV x u := by
 cases q : xs[i]? with
 | none => rw [r.none_of q] at e; cases e
 | some x =>
  obtain ⟨u', e', h⟩ := r.get q;rw [e] at e';cases e';exact ⟨x, rfl, h⟩
noncomputable def prD (q : Int × Int) : PyData := .tuple [.int q.1, .int q.2]
def Zbh : D1 := fun xs M Φ => ∃ qs : List (Int × Int), xs = [.dat (.list (qs.map prD))] /\ 0 < qs.length /\ ∀ q ∈ qs, (∀ r ∈ qs, ltP r q = false) -> Φ (.dat (prD q)) M
end
end DL
namespace DL
noncomputable def Zez {α : Type} [DecidableEq α] (ks : List α) (k : α) : Bool := decide (k ∈ ks)
noncomputable def ZhC {α : Type} [DecidableEq α] (ks : List α) (k : α) : List α := if k ∈ ks then ks else ks ++ [k]
section
def TL : DTE := fun _ M Φ => ∀ p, M p = none -> Φ (.own p) (ZM M p (.dct []))
noncomputable def kP (i j : Int) : List Key := [.inl i, .inl j]
def Zfw (td : DTE) (ta : DTA) (tv : DTE) : DTS := fun D Z M => tv Z M fun x M1 => td Z M1 fun y M2 => ta Z M2 fun zs M3 => onD x fun _ => onO y fun l => on2 zs fun p q => onI p fun i => onI q fun j => RK (M3 l) fun ks => ks.length < sizeLine /\ D.nx Z (ZM M3 l (.dct (ZhC ks (kP i j))))
def onP (x : DV) (P : Int -> Int -> Prop) : Prop := match x with | .dat (.tuple [.int i, .int j]) => P i j | _ => False
theorem Zcg {x : DV} {P : Int -> Int -> Prop} (h : onP x P) : ∃ i j, x = .dat (.tuple [.int i, .int j]) /\ P i j := by
 unfold onP at h
 split at h
 ·exact ⟨_, _, rfl, h⟩
 ·exact h.elim
def Zge : D2 := fun x y M Φ => onP x fun i j => onO y fun l => RK (M l) fun ks => Φ (.dat (.bool (Zez ks (kP i j)))) M
end
section
variable {prog : Program} {E : Value -> Shared -> Prop}
end
section
def ZgF (te ts : DTE) : DTE := fun Z M Φ => te Z M fun x M1 => ts Z M1 fun y M2 => onT x fun ds => onI y fun i => i = -1 /\ Φ (.dat (.tuple ds.reverse)) M2
end
section
variable {prog : Program} {E : Value -> Shared -> Prop}
theorem D9 {t sl : Addr} {items : Array Value} {vl vu : Value} {lo hi : Option Int} {Q : Value -> Shared -> Prop} (ht : IsTup s.heap t items) (hs : s.heap.IsSliceOf sl vl vu .none) (pl : IsPart vl lo) (pu : IsPart vu hi)
  (hw : HT.sIx items.size 0 lo = 0 /\ HT.sIx items.size items.size hi = items.size) (h : Q (.ref t) s) : wpAny (model prog w) A (getItem (.ref t) (.ref sl)) Q E s := by
 obtain ⟨os, hos, hcs, hds⟩ := id hs;have hTs : s.TypeIs (.ref sl) "slice" := ⟨os, hos, hcs⟩
 unfold getItem
 try with_reducible refine wpAny_holding ?_
 first | refine wpAny_bind (wpAny_pure ?_) | skip
 refine wpAny_bind (wpAny_sequenceKey ht.typeIs (by decide) ?_);refine wpAny_bind (wpAny_callSpecial?_slot (name := Str.ofString "__getitem__") ht.typeIs PyProof.Rows.slot_tuple_getitem (wpAny_call_entry PyProof.Rows.slot_tuple_getitem ht.typeIs entry_tuple_getitem ?_ (args_tuple_getitem _ _)));show wpAny _ _ (Builtin.Tuple.tupleItemsOf (.ref t) >>= _) _ _ s;refine wpAny_bind (tupleItemsOf_ ht (wpAny_bind (wpAny_typeOf hTs ?_)));rw [if_pos (by decide)];refine wpAny_bind (HT.Vv hs pl pu ?_);rw [hw.1, hw.2, Nat.sub_zero];show wpAny _ _ (if ((((0 : Nat) : Int) == 0) && ((1 : Int) == 1) && (items.size == items.size)) = true then _ else _) _ _ s;rw [if_pos (by simp)];unfold Builtin.Tuple.tupleIsExact;refine wpAny_bind (wpAny_bind (wpAny_typeOf ht.typeIs (wpAny_pure ?_)));rw [if_pos (by decide)];exact wpAny_bind (wpAny_rule (wpAny_pure ⟨_, rfl, wpAny_pure h⟩))
end
section
def Ze9 (K : Fk) : V -> Option Int -> Option Int -> Hp -> VK -> Prop := fun x lo hi H Q => ∃ a xs, x = .ref a /\ SqT K H a xs /\ (HT.sIx xs.length 0 lo = 0 /\ HT.sIx xs.length xs.length hi = xs.length) /\ Q (.ref a) H
theorem SO : SlR X (Ze9 X.K) := by
 intro pins s O H x v vl vu lo hi sl Q I rx hs pl pu h;obtain ⟨a, xs, rfl, hx, hw, q⟩ := h;cases (show v = .ref a from rx);obtain ⟨its, r, ht, hz⟩ := I.tuple hx;have hlen : its.toArray.size = xs.length := by rw [List.size_toArray]; exact r.length.symm
 exact ⟨"tuple", _, PyProof.Rows.slot_tuple_getitem.lookup, ht.typeIs, D9 ht hs pl pu (by rw [hlen]; exact hw) ⟨.ref a, H, I, rfl, q⟩⟩
def ZaQ (te : DTE) (tl th : DTO) : DTE := fun Z M Φ => te Z M fun x M1 => tl Z M1 fun l M2 => th Z M2 fun u M3 => onT x fun ds => Φ (.dat (.tuple (cutD ds l u))) M3
theorem Qy {lo hi : Option Expr} {tl th : DTO} (he : DE X e te) (hl : DO X lo tl) (hu : DO X hi th) : DE X (.Subscript e (.Slice lo hi none p2) pos) (ZaQ te tl th) := by
 obtain ⟨t1, p1, q1⟩ := he;obtain ⟨t2, p2, q2⟩ := hl;obtain ⟨t3, p3, q3⟩ := hu;refine ⟨_, WN (Zch.or SO) p1 p2 p3, fun O H Z M Φ Q r e h k => ?_⟩;refine q1 O H Z M _ _ r e h fun v H1 x M1 r1 st rv hx => ?_;refine q2 O H1 Z M1 _ _ r1 (e.step st) hx fun l H2 M2 r2 st2 hl => ?_;refine q3 O H2 Z M2 _ _ r2 (e.step (st.trans st2)) hl fun u H3 M3 r3 st3 hu => ?_;replace hu := Xz hu;obtain ⟨ds, rfl, hu⟩ := hu;obtain ⟨a, xs, rfl, h1, h2⟩ := (rv.step (st2.trans st3)).tup
 by_cases hw : HT.sIx xs.length 0 l = 0 /\ HT.sIx xs.length xs.length u = xs.length
 ·refine .inr ⟨a, xs, rfl, h1.sq, hw, k.dat r3 (st.trans (st2.trans st3)) (Dt.tup h1 h2) ?_⟩;have e : cutD ds l u = ds := by
   unfold cutD;rw [<- h2.length, hw.1, hw.2, List.drop_zero, Nat.sub_zero, h2.length, List.take_length]
  rw [e] at hu;exact hu
 ·refine .inl ⟨a, xs, rfl, h1.sq, hw, fun p hp => ?_⟩;exact k.dat (r3.new hp) ((st.trans (st2.trans st3)).trans (Step.new hp)) (Dt.K8 r3 hp (h2.cut l u)) hu
end
section
def ZeY (x : DV) (M : Mp) (Φ : DK) : Prop := match x with | .dat (.list ds) => Φ (.dat (.list ds)) M | .own l => Vp (M l) fun ds => Φ (.dat (.list ds)) (Yy M l) | _ => False
def Zgi (t : DTE) : DTE := fun Z M Φ => t Z M fun x M1 => ZeY x M1 Φ
end
end DL
namespace DL
theorem Sm {τ τ' : DTE} (h : DE X e τ) (k : ∀ Z M Φ, τ' Z M Φ -> τ Z M Φ) : DE X e τ' := by
 obtain ⟨t, p, q⟩ := h;exact ⟨t, p, fun O H Z M Φ Q a b c d => q O H Z M Φ Q a b (k _ _ _ c) d⟩
theorem Zae {s : Stmt} {τ τ' : DTS} (h : DS X s τ) (k : ∀ D Z M, τ' D Z M -> τ D Z M) : DS X s τ' := by
 obtain ⟨t, p, q⟩ := h;exact ⟨t, p, fun O H Z M D E a b c d => q O H Z M D E a b (k _ _ _ c) d⟩
def ZfW (src : Y4) : Y4 := fun Z M Ψ => ∃ Ψ', src Z M Ψ' /\ ∀ ds M1, Ψ' ds M1 -> Ψ ds M1
theorem DI.mono {src : Y4} (h : DI X tg iter src) : DI X tg iter (ZfW src) := by
 obtain ⟨wi, p, q⟩ := h;exact ⟨wi, p, fun O H Z M Ψ R dr er ⟨Ψ', h1, h2⟩ k => q O H Z M Ψ' R dr er h1 fun J H' M' ds a b c d => k J H' M' ds a b c (h2 _ _ d)⟩
def Jb (g : DTG) (tc : DTT) (te : DTE) (Δc : DSt) (fin : List PyData -> Mp -> Prop) : List PyData -> List PyData -> Mp -> Prop
 | [], acc, M => fin acc M
 | d :: ds, acc, M => g (.dat d) Δc M fun Δ2 M2 => tc Δ2 M2 fun b M3 => if b = true then te Δ2 M3 fun y M4 => onD y fun e => Jb g tc te Δc fin ds (acc ++ [e]) M4 else Jb g tc te Δc fin ds acc M3
theorem E2 (g : DTG) (tc : DTT) (te : DTE) (Δc : DSt) (fin : List PyData -> Mp -> Prop) (acc : List PyData) (M : Mp) : Jb g tc te Δc fin [] acc M = fin acc M := by rw [Jb]
theorem Fo (g : DTG) (tc : DTT) (te : DTE) (Δc : DSt) (fin : List PyData -> Mp -> Prop) (d : PyData) (ds acc : List PyData) (M : Mp) : Jb g tc te Δc fin (d :: ds) acc M =
  g (.dat d) Δc M fun Δ2 M2 => tc Δ2 M2 fun b M3 => if b = true then te Δ2 M3 fun y M4 => onD y fun e => Jb g tc te Δc fin ds (acc ++ [e]) M4 else Jb g tc te Δc fin ds acc M3 := by rw [Jb]
theorem OV {g : DTG} {Δc : DSt} {fin : List PyData -> Mp -> Prop} (h : Jb g tc te Δc fin ds [] M) : ∃ J : Nat -> List PyData -> Mp -> Prop, J 0 [] M /\
 (∀ i d acc M', ds[i]? = some d -> J i acc M' -> g (.dat d) Δc M' fun Δ2 M2 => tc Δ2 M2 fun b M3 => if b = true then te Δ2 M3 fun y M4 => onD y fun e => J (i + 1) (acc ++ [e]) M4 else J (i + 1) acc M3) /\
 ∀ acc M', J ds.length acc M' -> fin acc M' := by
 refine ⟨fun i acc M' => Jb g tc te Δc fin (ds.drop i) acc M', by simpa using h, fun i d acc M' e k => ?_, fun acc M' k => ?_⟩
 ·have ed : ds.drop i = d :: ds.drop (i + 1) := by
   obtain ⟨hi, e'⟩ := List.getElem?_eq_some_iff.mp e;rw [<- e', List.drop_eq_getElem_cons hi]
  dsimp only at k;rw [ed] at k;exact k
 ·dsimp only at k;rw [List.drop_length] at k;exact k
def CK (ow : Bool) (src : Y4) (ix : List (Option Nat)) (g : DTG) (tc : DTT) (te : DTE) : DTE := fun Z M Φ => src Z M fun ds M1 => ds.length <= sizeLine /\ Jb g tc te (C1 ix Z) (CT ow Φ) ds [] M1
theorem Dm {ow : Bool} {src : Y4} {g : DTG} (Z : DSt) (M : Mp) (Φ : DK) (h : CK ow src ix g tc te Z M Φ) : Mo ow (ZfW src) ix g tc te Z M Φ :=
 ⟨_, h, fun _ _ ⟨a, b⟩ => ⟨a, OV b⟩⟩
section
theorem Pb (ow : Bool) {elt : Expr} {ifs : List Expr} {pos : Pos} {src : Y4} {g : DTG} {tc : DTT} {te : DTE} (ok : YK X scope N ix) (hi : DI X tg iter src)
  (hg : ∀ C ex s H, DG (Z2 X scope C N ex s H) tg g) (ht : ∀ C ex s H, DTs (Z2 X scope C N ex s H) ifs tc) (he : ∀ C ex s H, DE (Z2 X scope C N ex s H) elt te) (hc : X.calm = true)
  (hs : autoParam (∀ x, foldedSetIterable iter X.env x = pure x) zz2._auto_1) : DE X (.ListComp elt [⟨tg, iter, ifs, 0⟩] scope pos) (CK ow src ix g tc te) :=
 Sm (Qc ow ok hi.mono hg ht he hc hs) Dm
theorem W9 (i : Nat) (ow : Bool) {x : Str} {pos' spos : Pos} (hN : X.N.Nodup) {elt : Expr} {ifs : List Expr} {pos : Pos} {src : Y4} {g : DTG} {tc : DTT} {te : DTE} (ok : YK X scope N ix) (hi : DI X tg iter src)
  (hg : ∀ C ex s H, DG (Z2 X scope C N ex s H) tg g) (ht : ∀ C ex s H, DTs (Z2 X scope C N ex s H) ifs tc) (he : ∀ C ex s H, DE (Z2 X scope C N ex s H) elt te) (hc : X.calm = true)
  (hs : autoParam (∀ x, foldedSetIterable iter X.env x = pure x) zz2._auto_1) (hin : autoParam (X.N[i]? = some x) zz3._auto_1) (hx : autoParam (Loc X.env.scope x) zz8._auto_1)
  (hsw : autoParam (swapsWith (.ListComp elt [⟨tg, iter, ifs, 0⟩] scope pos) (some (.Name x pos')) spos.line X.env = pure true) zz3._auto_1)
  (hf : autoParam (X.fn x = true \/ X.env.scope.names.lookup x = some .local) zz0._auto_1) :
  DS X (.Assign [.Name x pos'] (.ListComp elt [⟨tg, iter, ifs, 0⟩] scope pos) spos) (ZaX (CK ow src ix g tc te) (U5 i)) :=
 Zae (WK i ow hN ok hi.mono hg ht he hc hs hin hx hsw hf) fun D Z M h => Dm Z M _ h
end
def Xy (g : DTG) (tb : DTS) (D : Ql) : List PyData -> DSt -> Mp -> Prop
 | [], Z, M => D.nx Z M
 | d :: ds, Z, M => g (.dat d) Z M fun Δ2 M2 => tb { D with nx := Xy g tb D ds, ct := Xy g tb D ds, bk := D.nx } Δ2 M2
theorem O3 (g : DTG) (tb : DTS) (D : Ql) (Z : DSt) (M : Mp) : Xy g tb D [] Z M = D.nx Z M := by rw [Xy]
theorem OB (g : DTG) (tb : DTS) (D : Ql) (d : PyData) (ds : List PyData) (Z : DSt) (M : Mp) : Xy g tb D (d :: ds) Z M = g (.dat d) Z M fun Δ2 M2 => tb { D with nx := Xy g tb D ds, ct := Xy g tb D ds, bk := D.nx } Δ2 M2 := by rw [Xy]
theorem CA (lo : Int) (n : Nat) : W7 lo (n + 1) = .int lo :: W7 (lo + 1) n := by
 unfold W7;rw [List.range_succ_eq_map, List.map_cons, List.map_map]
 congr 1
 ·simp
 ·refine List.map_congr_left fun i _ => ?_;show PyData.int _ = PyData.int _
  congr 1
  simp;omega
theorem Zdq (lo : Int) : W7 lo 0 = [] := rfl
theorem PR (lo : Int) : W7 lo 1 = [.int lo] := by rw [CA]; rfl
theorem Pd (lo : Int) : W7 lo 2 = [.int lo, .int (lo + 1)] := by rw [CA, PR]
theorem Rf (lo : Int) : W7 lo 3 = [.int lo, .int (lo + 1), .int (lo + 1 + 1)] := by rw [CA, Pd]
theorem ZbM (lo : Int) : W7 lo 4 = [.int lo, .int (lo + 1), .int (lo + 1 + 1), .int (lo + 1 + 1 + 1)] := by rw [CA, Rf]
theorem OL {A B : DTS} {D : Ql} {Z : DSt} (h : ∀ R, R = B -> ZeN A R D Z M) : ZeN A B D Z M := h B rfl
theorem Tb {l : List Int} {r : Int} (h0 : 0 <= r) (h1 : r < l.length) : ∃ w ∈ l, atI (l.map PyData.int) r = some (.int w) := by
 obtain ⟨d, e, hm⟩ := L0 (l := l.map PyData.int) h0 (by rw [List.length_map]; exact h1);obtain ⟨w, hw, rfl⟩ := List.mem_map.mp hm;exact ⟨w, hw, e⟩
end DL
namespace DL
theorem B2  : ZJ "int" .none = false := rfl
theorem Cj (b : Bool) : ZJ "int" (.bool b) = true := rfl
theorem DQ (i : Int) : ZJ "int" (.int i) = true := rfl
theorem D7 (z : Str) : ZJ "int" (.str z) = false := rfl
theorem BV (l : List PyData) : ZJ "int" (.list l) = false := rfl
theorem GH (l : List PyData) : ZJ "int" (.tuple l) = false := rfl
theorem Bv (l : List (PyData × PyData)) : ZJ "int" (.dict l) = false := rfl
theorem GK  : ZJ "bool" .none = false := rfl
theorem GG (b : Bool) : ZJ "bool" (.bool b) = true := rfl
theorem BO (i : Int) : ZJ "bool" (.int i) = false := rfl
theorem BD (z : Str) : ZJ "bool" (.str z) = false := rfl
theorem GO (l : List PyData) : ZJ "bool" (.list l) = false := rfl
theorem WI (l : List PyData) : ZJ "bool" (.tuple l) = false := rfl
theorem U9 (l : List (PyData × PyData)) : ZJ "bool" (.dict l) = false := rfl
theorem W4  : ZJ "tuple" .none = false := rfl
theorem Uv (b : Bool) : ZJ "tuple" (.bool b) = false := rfl
theorem UO (i : Int) : ZJ "tuple" (.int i) = false := rfl
theorem U3 (z : Str) : ZJ "tuple" (.str z) = false := rfl
theorem WL (l : List PyData) : ZJ "tuple" (.list l) = false := rfl
theorem KS (l : List PyData) : ZJ "tuple" (.tuple l) = true := rfl
theorem Uc (l : List (PyData × PyData)) : ZJ "tuple" (.dict l) = false := rfl
theorem G2  : ZJ "list" .none = false := rfl
theorem UM (b : Bool) : ZJ "list" (.bool b) = false := rfl
theorem B1 (i : Int) : ZJ "list" (.int i) = false := rfl
theorem Cn (z : Str) : ZJ "list" (.str z) = false := rfl
theorem Gm (l : List PyData) : ZJ "list" (.list l) = true := rfl
theorem WT (l : List PyData) : ZJ "list" (.tuple l) = false := rfl
theorem GQ (l : List (PyData × PyData)) : ZJ "list" (.dict l) = false := rfl
theorem Bn  : ZJ "str" .none = false := rfl
theorem G9 (b : Bool) : ZJ "str" (.bool b) = false := rfl
theorem Et (i : Int) : ZJ "str" (.int i) = false := rfl
theorem EE (z : Str) : ZJ "str" (.str z) = true := rfl
theorem Ci (l : List PyData) : ZJ "str" (.list l) = false := rfl
theorem Gp (l : List PyData) : ZJ "str" (.tuple l) = false := rfl
theorem BM (l : List (PyData × PyData)) : ZJ "str" (.dict l) = false := rfl
theorem U1  : ZJ "dict" .none = false := rfl
theorem Gh (b : Bool) : ZJ "dict" (.bool b) = false := rfl
theorem Bh (i : Int) : ZJ "dict" (.int i) = false := rfl
theorem G5 (z : Str) : ZJ "dict" (.str z) = false := rfl
theorem UX (l : List PyData) : ZJ "dict" (.list l) = false := rfl
theorem W6 (l : List PyData) : ZJ "dict" (.tuple l) = false := rfl
theorem UI (l : List (PyData × PyData)) : ZJ "dict" (.dict l) = true := rfl
theorem Ze6 (i j : Int) : (PyData.int i).eqv (.int j) = decide (i = j) := by
 simp only [PyData.eqv]
 first | rfl | exact Bool.beq_eq_decide_eq _ _ | (rw [Bool.eq_iff_iff]; simp)
theorem ZgH (x y : Str) : (PyData.str x).eqv (.str y) = decide (x = y) := by
 simp only [PyData.eqv]
 first | rfl | (rw [Bool.eq_iff_iff]; simp)
theorem ZgK (x y : Bool) : (PyData.bool x).eqv (.bool y) = (x == y) := by
 simp only [PyData.eqv]
theorem ZgE : PyData.none.eqv .none = true := by simp only [PyData.eqv]
theorem Ze8 (x y : List PyData) : (PyData.tuple x).eqv (.tuple y) = PyData.eqvAll x y := by simp only [PyData.eqv]
theorem Zfk (x y : List PyData) : (PyData.list x).eqv (.list y) = PyData.eqvAll x y := by simp only [PyData.eqv]
theorem R3 : PyData.eqvAll [] [] = true := by simp only [PyData.eqvAll]
theorem Mw (x y : PyData) (xs ys : List PyData) : PyData.eqvAll (x :: xs) (y :: ys) = (x.eqv y && PyData.eqvAll xs ys) := by simp only [PyData.eqvAll]
theorem Zev (x : PyData) (xs : List PyData) : PyData.eqvAll (x :: xs) [] = false := by simp only [PyData.eqvAll]
theorem Zd8 (x : PyData) (xs : List PyData) : PyData.eqvAll [] (x :: xs) = false := by simp only [PyData.eqvAll]
end DL
namespace DL
section
def Zcr (tc : DTT) (tb : DTS) : DTS := fun D Z M => ∃ J : Nat -> DSt -> Mp -> Prop, (∃ m, J m Z M) /\ ∀ n Z M, J n Z M -> tc Z M fun b M1 =>
 if b = true then tb { D with nx := fun Δ' M' => ∃ m, m < n /\ J m Δ' M', ct := fun Δ' M' => ∃ m, m < n /\ J m Δ' M', bk := D.nx } Z M1 else D.nx Z M1
def Zjt (to : DTE) : DTE := fun Z M Φ => to Z M fun x M1 => onO x fun l => ∃ ds d, M1 l = some (.lst (ds ++ [d])) /\ Φ (.dat d) (ZM M1 l (.lst ds))
noncomputable def isNone : PyData -> Bool
 | .none => true
 | _ => false
def onN (x : DV) (P : Prop) : Prop := match x with | .dat .none => P | _ => False
def Ze3 (b : Bool) : D2 := fun x y M Φ => onD x fun d => onN y <| Φ (.dat (.bool (isNone d != b))) M
theorem isNone_none : isNone .none = true := rfl
theorem Bf (b : Bool) : isNone (.bool b) = false := rfl
theorem EI (b : Int) : isNone (.int b) = false := rfl
theorem Es (b : Str) : isNone (.str b) = false := rfl
theorem BA (b : List PyData) : isNone (.list b) = false := rfl
theorem U2 (b : List PyData) : isNone (.tuple b) = false := rfl
theorem Bi (b : List (PyData × PyData)) : isNone (.dict b) = false := rfl
noncomputable def ZjT (c : Bool) : PyData -> Bool
 | .bool b => b == c
 | _ => false
theorem FX (hu : X.A.units + 66 < cLine) : OpR X (compareOp .NotIn) (fun x y H Q => ∃ M d ds, Dt X.K M H x d /\ (Dt X.K M H y (.list ds) \/ Dt X.K M H y (.tuple ds)) /\ d.canLay0 = true /\ PyData.canLayAll0 ds = true /\ d.depth <= 64 /\ Q (.bl (!(ds.any fun e => PyData.eqv e d))) H) := by
 intro pins s O H x y v u Q I rx ry h;obtain ⟨M, d, ds, h1, h2, c1, c2, hdp, q⟩ := h;obtain ⟨as, ra, _⟩ := h1.reads I rx
 rcases h2 with h2 | h2
 ·obtain ⟨bs, rb, _⟩ := h2.reads I ry;exact PySem.SeqAt.notIn_list_reads rb ra c2 c1 (by have := Nat.min_le_right (PyData.depthAll ds) d.depth; omega) ⟨.bl _, H, I, rfl, q⟩
 ·obtain ⟨bs, rb, _⟩ := h2.reads I ry;exact PySem.SeqAt.notIn_tuple_reads rb ra c2 c1 (by have := Nat.min_le_right (PyData.depthAll ds) d.depth; omega) ⟨.bl _, H, I, rfl, q⟩
def E3 : D2 := fun x y M Φ => onD x fun d => onW y fun ds => okIn d ds = true /\ Φ (.dat (.bool (!(ds.any fun e => PyData.eqv e d)))) M
theorem C7 {k : Nat} (hr : V6 k X.A) : OpD X (compareOp .NotIn) E3 :=
 ⟨_, FX (by have := hr.un; omega), fun v u H x y M Φ Q r rv ru h k => by
  obtain ⟨d, e1, h⟩ := ZX h;obtain ⟨ds, e2, ho, q⟩ := ZdE h;obtain ⟨c1, c2, hdp⟩ := T6 ho;subst e1;refine ⟨M, d, ds, rv, ?_, c1, c2, hdp, k.dat r Step.refl (Dt.bl _) q⟩
  rcases e2 with rfl | rfl
  ·exact .inl ru
  ·exact .inr ru⟩
def Mu : D2 := fun x y M Φ => onP x fun i j => onO y fun l => RK (M l) fun ks => Φ (.dat (.bool (!Zez ks (kP i j)))) M
end
section
variable {prog : Program} {E : Value -> Shared -> Prop}
end
end DL
namespace DL
theorem Oz (x : DV) (P : DV -> Prop) : onV (some (some x)) P = P x := propext Iff.rfl
theorem NC (i : Int) (P : Int -> Prop) : onI (.dat (.int i)) P = P i := propext Iff.rfl
theorem MZ (i : Bool) (P : Bool -> Prop) : onB (.dat (.bool i)) P = P i := propext Iff.rfl
theorem Oc (i : Str) (P : Str -> Prop) : onS (.dat (.str i)) P = P i := propext Iff.rfl
theorem NV (i : List PyData) (P : List PyData -> Prop) : onT (.dat (.tuple i)) P = P i := propext Iff.rfl
theorem OC (i : List PyData) (P : List PyData -> Prop) : onL (.dat (.list i)) P = P i := propext Iff.rfl
theorem Of (i : PyData) (P : PyData -> Prop) : onD (.dat i) P = P i := propext Iff.rfl
theorem Nb (i : Addr) (P : Addr -> Prop) : onO (.own i) P = P i := propext Iff.rfl
theorem Hg (ds : List PyData) (P : List PyData -> Prop) : Vp (some (.lst ds)) P = P ds := propext Iff.rfl
theorem RJ (ds : List PyData) (M : Mp) (P : List PyData -> Prop) : onQ (.dat (.tuple ds)) M P = P ds := propext Iff.rfl
theorem Tu (ds : List PyData) (M : Mp) (P : List PyData -> Prop) : onQ (.dat (.list ds)) M P = P ds := propext Iff.rfl
theorem Zad (l : Addr) (M : Mp) (P : List PyData -> Prop) : onQ (.own l) M P = Vp (M l) P := propext Iff.rfl
theorem Zav (ds : List PyData) (M : Mp) (P : List PyData -> Prop) : onK (.dat (.list ds)) M P = P ds := propext Iff.rfl
theorem Zar (l : Addr) (M : Mp) (P : List PyData -> Prop) : onK (.own l) M P = Vp (M l) P := propext Iff.rfl
theorem O9 (x : DV) (P : DV -> Prop) : on1 [x] P = P x := propext Iff.rfl
theorem NX (x y : DV) (P : DV -> DV -> Prop) : on2 [x, y] P = P x y := propext Iff.rfl
theorem N8 (x y z : DV) (P : DV -> DV -> DV -> Prop) : on3 [x, y, z] P = P x y z := propext Iff.rfl
theorem O2 (P : List PyData -> Prop) : Kl [] P = P [] := propext Iff.rfl
theorem NK (a0 : PyData) (P : List PyData -> Prop) : Kl [.dat a0] P = P [a0] := propext Iff.rfl
theorem OX (a0 a1 : PyData) (P : List PyData -> Prop) : Kl [.dat a0, .dat a1] P = P [a0, a1] := propext Iff.rfl
theorem Nk (a0 a1 a2 : PyData) (P : List PyData -> Prop) : Kl [.dat a0, .dat a1, .dat a2] P = P [a0, a1, a2] := propext Iff.rfl
theorem M0 (a0 a1 a2 a3 : PyData) (P : List PyData -> Prop) : Kl [.dat a0, .dat a1, .dat a2, .dat a3] P = P [a0, a1, a2, a3] := propext Iff.rfl
theorem MX (a0 a1 a2 a3 a4 : PyData) (P : List PyData -> Prop) : Kl [.dat a0, .dat a1, .dat a2, .dat a3, .dat a4] P = P [a0, a1, a2, a3, a4] := propext Iff.rfl
theorem Oa (a0 a1 a2 a3 a4 a5 : PyData) (P : List PyData -> Prop) : Kl [.dat a0, .dat a1, .dat a2, .dat a3, .dat a4, .dat a5] P = P [a0, a1, a2, a3, a4, a5] := propext Iff.rfl
theorem L5 (a0 a1 a2 a3 a4 a5 a6 a7 a8 a9 a10 a11 a12 : PyData) (P : List PyData -> Prop) : Kl [.dat a0, .dat a1, .dat a2, .dat a3, .dat a4, .dat a5, .dat a6, .dat a7, .dat a8, .dat a9, .dat a10, .dat a11, .dat a12] P = P [a0, a1, a2, a3, a4, a5, a6, a7, a8, a9, a10, a11, a12] := propext Iff.rfl
theorem ZaL (i : Nat) (Z : DSt) (M : Mp) (Φ : DK) : ZgI i Z M Φ = (onV Z[i]? fun x => Φ x M) := propext Iff.rfl
theorem Zil (d : PyData) (z0 : DSt) (M : Mp) (Φ : DK) : dC d z0 M Φ = (Φ (.dat d) M) := propext Iff.rfl
theorem ZgP (n : String) (z0 : DSt) (M : Mp) (Φ : DK) : dTy n z0 M Φ = (Φ (.ty n) M) := propext Iff.rfl
theorem Zfs (δ : D2) (ta tb : DTE) (Z : DSt) (M : Mp) (Φ : DK) : dOp δ ta tb Z M Φ = (ta Z M fun x M1 => tb Z M1 fun y M2 => δ x y M2 Φ) := propext Iff.rfl
theorem Zis (t : DTE) (Z : DSt) (M : Mp) (Φ : Bool -> Mp -> Prop) : dB t Z M Φ = (t Z M fun x M1 => onB x fun c => Φ c M1) := propext Iff.rfl
theorem Nh (δ δ' : D2) (ta tb tc : DTE) (Z : DSt) (M : Mp) (Φ : DK) : Cy δ δ' ta tb tc Z M Φ = (ta Z M fun x M1 => tb Z M1 fun y M2 => δ x y M2 fun z M3 => onB z fun k => (if k = true then tc Z M3 fun w' M4 => δ' y w' M4 Φ else Φ (.dat (.bool false)) M3)) := propext Iff.rfl
theorem Zbb (t u : DTT) (Z : DSt) (M : Mp) (Φ : Bool -> Mp -> Prop) : Zhh t u Z M Φ = (t Z M fun c M1 => if c = true then u Z M1 Φ else Φ false M1) := propext Iff.rfl
theorem Zfc (t u : DTT) (Z : DSt) (M : Mp) (Φ : Bool -> Mp -> Prop) : dOr t u Z M Φ = (t Z M fun c M1 => if c = true then Φ true M1 else u Z M1 Φ) := propext Iff.rfl
theorem Zcn (t : DTT) (Z : DSt) (M : Mp) (Φ : Bool -> Mp -> Prop) : Zhj t Z M Φ = (t Z M fun c M1 => Φ (!c) M1) := propext Iff.rfl
theorem RF (ta tb : DTE) (Z : DSt) (M : Mp) (Φ : DK) : Zbt ta tb Z M Φ = (ta Z M fun x M1 => onB x fun c => if c = true then tb Z M1 Φ else Φ (.dat (.bool false)) M1) := propext Iff.rfl
theorem ZbW (ta tb : DTE) (Z : DSt) (M : Mp) (Φ : DK) : ZhO ta tb Z M Φ = (ta Z M fun x M1 => onB x fun c => if c = true then Φ (.dat (.bool true)) M1 else tb Z M1 Φ) := propext Iff.rfl
theorem Th (ta : DTE) (Z : DSt) (M : Mp) (Φ : DK) : ZcE ta Z M Φ = (ta Z M fun x M1 => onB x fun c => Φ (.dat (.bool (!c))) M1) := propext Iff.rfl
theorem ZbF (g : Int -> Int) (ta : DTE) (Z : DSt) (M : Mp) (Φ : DK) : Zh8 g ta Z M Φ = (ta Z M fun x M1 => onI x fun i => Φ (.dat (.int (g i))) M1) := propext Iff.rfl
theorem Zgp (C : Int -> Int -> Prop) (g : Int -> Int -> PyData) (x : DV) (y : DV) (M : Mp) (Φ : DK) : δI C g x y M Φ = (onI x fun i => onI y fun j => C i j /\ Φ (.dat (g i j)) M) := propext Iff.rfl
theorem ZcO (g : Int -> Int -> PyData) (x : DV) (y : DV) (M : Mp) (Φ : DK) : δI0 g x y M Φ = (onI x fun i => onI y fun j => Φ (.dat (g i j)) M) := propext Iff.rfl
theorem Zc2  (z0 : DSt) (M : Mp) (Φ : List DV -> Mp -> Prop) : Zg4 z0 M Φ = (Φ [] M) := propext Iff.rfl
theorem SR (ta : DTE) (tr : DTA) (Z : DSt) (M : Mp) (Φ : List DV -> Mp -> Prop) : ZdA ta tr Z M Φ = (ta Z M fun x M1 => tr Z M1 fun xs M2 => Φ (x :: xs) M2) := propext Iff.rfl
theorem Zef (t : DTA) (Z : DSt) (M : Mp) (Φ : DK) : Zh9 t Z M Φ = (t Z M fun xs M1 => Kl xs fun ds => Φ (.dat (.tuple ds)) M1) := propext Iff.rfl
theorem ZbG (t : DTA) (Z : DSt) (M : Mp) (Φ : DK) : Zhq t Z M Φ = (t Z M fun xs M1 => Kl xs fun ds => Φ (.dat (.list ds)) M1) := propext Iff.rfl
theorem Sz (t : DTA) (Z : DSt) (M : Mp) (Φ : DK) : Za9 t Z M Φ = (t Z M fun xs M1 => Kl xs fun ds => ∀ p, M1 p = none -> Φ (.own p) (ZM M1 p (.lst ds))) := propext Iff.rfl
theorem Zdk (t : DTE) (Z : DSt) (M : Mp) (Φ : DK) : Zg3 t Z M Φ = (t Z M fun x M1 => onO x fun l => Vp (M1 l) fun ds => Φ (.dat (.list ds)) (Yy M1 l)) := propext Iff.rfl
theorem Nt (a : PyData) (l : List PyData) (P : PyData -> Prop) : KR (a :: l) 0 P = P a := propext Iff.rfl
theorem MA (a b : PyData) (l : List PyData) (P : PyData -> Prop) : KR (a :: b :: l) 1 P = P b := propext Iff.rfl
theorem OY (a b c : PyData) (l : List PyData) (P : PyData -> Prop) : KR (a :: b :: c :: l) 2 P = P c := propext Iff.rfl
theorem Ox (a b c d : PyData) (l : List PyData) (P : PyData -> Prop) : KR (a :: b :: c :: d :: l) 3 P = P d := propext Iff.rfl
theorem Ng (a b c d e : PyData) (l : List PyData) (P : PyData -> Prop) : KR (a :: b :: c :: d :: e :: l) 4 P = P e := propext Iff.rfl
theorem OH (a b c d e f : PyData) (l : List PyData) (P : PyData -> Prop) : KR (a :: b :: c :: d :: e :: f :: l) 5 P = P f := propext Iff.rfl
theorem ZcV  (x : DV) (y : DV) (M : Mp) (Φ : DK) : δIx x y M Φ = (onQ x M fun ds => onI y fun i => KR ds i fun d => Φ (.dat d) M) := propext Iff.rfl
theorem ZgA (δ : D1) (t : DTA) (Z : DSt) (M : Mp) (Φ : DK) : dCB δ t Z M Φ = (t Z M fun xs M1 => δ xs M1 Φ) := propext Iff.rfl
theorem TZ  (xs : List DV) (M : Mp) (Φ : DK) : ZbC xs M Φ = (on1 xs fun x => onQ x M fun ds => Φ (.dat (.int ds.length)) M) := propext Iff.rfl
theorem Nl  (xs : List DV) (M : Mp) (Φ : DK) : Rl xs M Φ = (on1 xs fun x => onS x fun z => z.length <= sizeLine /\ Φ (.dat (.int z.length)) M) := propext Iff.rfl
theorem OG  (xs : List DV) (M : Mp) (Φ : DK) : Rb xs M Φ = (on1 xs fun x => onI x fun i => i.natAbs.log2 < 1920 /\ Φ (.dat (.str (toString i))) M) := propext Iff.rfl
theorem Zah  (xs : List DV) (M : Mp) (Φ : DK) : Zcf xs M Φ = (on1 xs fun x => onI x fun i => Φ (.dat (.int (if i < 0 then -i else i))) M) := propext Iff.rfl
theorem Zcj (g : Int -> Int -> Int) (xs : List DV) (M : Mp) (Φ : DK) : δ2I g xs M Φ = (on2 xs fun x y => onI x fun i => onI y fun j => Φ (.dat (.int (g i j))) M) := propext Iff.rfl
theorem Nf  (xs : List DV) (M : Mp) (Φ : DK) : PZ xs M Φ = (on1 xs fun x => onD x fun d => Shw d /\ Φ (.dat (.str d.shown)) M) := propext Iff.rfl
theorem Ee (T : String) (d : PyData) (t : String) (M : Mp) (Φ : DK) : SJ T [.dat d, .ty t] M Φ = (t = T /\ Φ (.dat (.bool (ZJ T d))) M) := propext Iff.rfl
theorem OU (i j : Int) (P : Bool -> Prop) : eqD (.int i) (.int j) P = P (decide (i = j)) := propext Iff.rfl
theorem ZdI  (x : DV) (y : DV) (M : Mp) (Φ : DK) : δEq x y M Φ = (onD x fun d => onD y fun e => eqD d e fun b => Φ (.dat (.bool b)) M) := propext Iff.rfl
theorem ZcM  (x : DV) (y : DV) (M : Mp) (Φ : DK) : δNe x y M Φ = (onD x fun d => onD y fun e => eqD d e fun b => Φ (.dat (.bool (!b))) M) := propext Iff.rfl
theorem Ts  (x : DV) (y : DV) (M : Mp) (Φ : DK) : Zbc x y M Φ = (onS x fun s => onS y fun t => Φ (.dat (.bool (!decide (s = t)))) M) := propext Iff.rfl
theorem FY  (z0 : DSt) (M : Mp) (Φ : Option Int -> Mp -> Prop) : HP z0 M Φ = (Φ none M) := propext Iff.rfl
theorem T8 (t : DTE) (Z : DSt) (M : Mp) (Φ : Option Int -> Mp -> Prop) : ZdR t Z M Φ = (t Z M fun x M1 => onI x fun i => Φ (some i) M1) := propext Iff.rfl
theorem Rp  (D : Ql) (Z : DSt) (M : Mp) : Zea D Z M = (D.nx Z M) := propext Iff.rfl
theorem ZdZ (t u : DTS) (D : Ql) (Z : DSt) (M : Mp) : ZeN t u D Z M = (t { D with nx := u D } Z M) := propext Iff.rfl
theorem RA (te : DTE) (D : Ql) (Z : DSt) (M : Mp) : Zco te D Z M = (te Z M fun _ M1 => D.nx Z M1) := propext Iff.rfl
theorem Zdu (te : DTE) (D : Ql) (Z : DSt) (M : Mp) : Zhz te D Z M = (te Z M D.rt) := propext Iff.rfl
theorem ZcR (c : DTT) (t u : DTS) (D : Ql) (Z : DSt) (M : Mp) : Zh6 c t u D Z M = (c Z M fun b M1 => if b = true then t D Z M1 else u D Z M1) := propext Iff.rfl
theorem V5 (i : Nat) (x : DV) (Z : DSt) (M : Mp) (Φ : DSt -> Mp -> Prop) : U5 i x Z M Φ = (Φ (Z.set i (some x)) M) := propext Iff.rfl
theorem D4 (Z : DSt) (M : Mp) (Φ : DSt -> Mp -> Prop) : Zeb [] Z M Φ = Φ Z M := propext Iff.rfl
theorem BX (t : DTG) (u : Mn) (x : DV) (r : List DV) (Z : DSt) (M : Mp) (Φ : DSt -> Mp -> Prop) : Rj t u (x :: r) Z M Φ = t x Z M fun Δ' M' => u r Δ' M' Φ := propext Iff.rfl
theorem NU (P : List DV -> Prop) : Pq 0 [] P = P [] := propext Iff.rfl
theorem Ow (n : Nat) (d : PyData) (r : List PyData) (P : List DV -> Prop) : Pq (n + 1) (d :: r) P = Pq n r fun xs => P (.dat d :: xs) := propext Iff.rfl
theorem S4 (n : Nat) (t : Mn) (x : DV) (Z : DSt) (M : Mp) (Φ : DSt -> Mp -> Prop) : Zc8 n t x Z M Φ = (onT x fun ds => Pq n ds fun xs => t xs Z M Φ) := propext Iff.rfl
theorem Ro (to ti : DTE) (x : DV) (Z : DSt) (M : Mp) (Φ : DSt -> Mp -> Prop) : ZdD to ti x Z M Φ = (to Z M fun o M1 => ti Z M1 fun i M2 => onO o fun l => onI i fun k => onD x fun d => Vp (M2 l) fun ds => ∃ j, ixN ds.length k = some j /\ Φ Z (ZM M2 l (.lst (ds.set j d)))) := propext Iff.rfl
theorem Zed (te : DTE) (g : DTG) (D : Ql) (Z : DSt) (M : Mp) : ZaX te g D Z M = (te Z M fun x M1 => g x Z M1 D.nx) := propext Iff.rfl
theorem HD (to te : DTE) (Z : DSt) (M : Mp) (Φ : DK) : Lo to te Z M Φ = (to Z M fun x M1 => onO x fun l => Vp (M1 l) fun _ => te Z M1 fun y M2 => onD y fun d => Vp (M2 l) fun ds => ds.length < sizeLine /\ Φ (.dat .none) (ZM M2 l (.lst (ds ++ [d])))) := propext Iff.rfl
theorem Zaj (te : DTE) (g : DTG) (tb : DTS) (D : Ql) (Z : DSt) (M : Mp) : Zdb te g tb D Z M = (te Z M fun x M1 => onL x fun ds => Ej g tb D ds Z M1) := propext Iff.rfl
theorem OZ (ta : DTA) (g : DTG) (tb : DTS) (D : Ql) (Z : DSt) (M : Mp) : Rk ta g tb D Z M = (ta Z M fun xs M1 => on1 xs fun x => onI x fun j => InR j /\ GV g tb D 0 j.toNat Z M1) := propext Iff.rfl
theorem R4 (S : DSp) (t : DTA) (Z : DSt) (M : Mp) (Φ : DK) : ZdS S t Z M Φ = (t Z M fun xs M1 => S xs M1 Φ) := propext Iff.rfl
theorem Nm  (z0 : DSt) (M : Mp) (Φ : DK) : PU z0 M Φ = (Φ (.dat (.dict [])) M) := propext Iff.rfl
theorem ZcG (te : DTE) (Z : DSt) (M : Mp) (Ψ : List PyData -> Mp -> Prop) : ZhL te Z M Ψ = (te Z M fun x M1 => onL x fun ds => Ψ ds M1) := propext Iff.rfl
theorem ZaZ (te : DTE) (Z : DSt) (M : Mp) (Ψ : List PyData -> Mp -> Prop) : Zh4 te Z M Ψ = (te Z M fun x M1 => onT x fun ds => Ψ ds M1) := propext Iff.rfl
theorem SM (ta : DTA) (Z : DSt) (M : Mp) (Ψ : List PyData -> Mp -> Prop) : Zd6 ta Z M Ψ = (ta Z M fun xs M1 => on1 xs fun x => onI x fun j => InR j /\ Ψ (W7 0 j.toNat) M1) := propext Iff.rfl
theorem Rv (ta : DTA) (Z : DSt) (M : Mp) (Ψ : List PyData -> Mp -> Prop) : Zem ta Z M Ψ = (ta Z M fun xs M1 => on2 xs fun x y => onI x fun i => onI y fun j => (InR i /\ InR j) /\ Ψ (W7 i (j - i).toNat) M1) := propext Iff.rfl
theorem MK (Φ : DK) (acc : List PyData) (M : Mp) : CT true Φ acc M = ∀ p, M p = none -> Φ (.own p) (ZM M p (.lst acc)) := propext Iff.rfl
theorem Nc (Φ : DK) (acc : List PyData) (M : Mp) : CT false Φ acc M = Φ (.dat (.list acc)) M := propext Iff.rfl
theorem R7 (ow : Bool) (src : Y4) (ix : List (Option Nat)) (g : DTG) (tc : DTT) (te : DTE) (Z : DSt) (M : Mp) (Φ : DK) : Mo ow src ix g tc te Z M Φ = (src Z M fun ds M1 => ds.length <= sizeLine /\ ∃ J : Nat -> List PyData -> Mp -> Prop, J 0 [] M1 /\ (∀ i d acc M', ds[i]? = some d -> J i acc M' -> g (.dat d) (C1 ix Z) M' fun Δ2 M2 => tc Δ2 M2 fun b M3 => if b = true then te Δ2 M3 fun y M4 => onD y fun e => J (i + 1) (acc ++ [e]) M4 else J (i + 1) acc M3) /\ ∀ acc M', J ds.length acc M' -> CT ow Φ acc M') := propext Iff.rfl
theorem Zeu  (z0 : DSt) (M : Mp) (Φ : Bool -> Mp -> Prop) : Zhr z0 M Φ = (Φ true M) := propext Iff.rfl
theorem NW  (xs : List DV) (M : Mp) (Φ : DK) : PF xs M Φ = (∃ ns : List Int, VE xs M ns /\ 0 < ns.length /\ ∀ m ∈ ns, (∀ a ∈ ns, m <= a) -> Φ (.dat (.int m)) M) := propext Iff.rfl
theorem NF  (xs : List DV) (M : Mp) (Φ : DK) : Rm xs M Φ = (∃ ns : List Int, VE xs M ns /\ 0 < ns.length /\ ∀ m ∈ ns, (∀ a ∈ ns, a <= m) -> Φ (.dat (.int m)) M) := propext Iff.rfl
theorem Zce (g : Int -> Int -> Int -> Int) (xs : List DV) (M : Mp) (Φ : DK) : δ3I g xs M Φ = (on3 xs fun x y z => onI x fun i => onI y fun j => onI z fun l => Φ (.dat (.int (g i j l))) M) := propext Iff.rfl
theorem HV  (xs : List DV) (M : Mp) (Φ : DK) : LX xs M Φ = (on1 xs fun x => onQ x M fun ds => Φ (.dat (.tuple ds)) M) := propext Iff.rfl
theorem To (ds : List PyData) (P : List PyData -> Prop) : onW (.dat (.list ds)) P = P ds := propext Iff.rfl
theorem OD  (xs : List DV) (M : Mp) (Φ : DK) : Pp xs M Φ = (∃ bs : List Bool, xs = [.dat (.list (bs.map PyData.bool))] /\ Φ (.dat (.bool (bs.all id))) M) := propext Iff.rfl
theorem Dj  (x : DV) (y : DV) (M : Mp) (Φ : DK) : Pg x y M Φ = (onK x M fun ds => onK y M fun es => ds.length + es.length <= sizeLine /\ Φ (.dat (.list (ds ++ es))) M) := propext Iff.rfl
theorem ZdB (te : DTE) (tl th : DTO) (Z : DSt) (M : Mp) (Φ : DK) : Zg2 te tl th Z M Φ = (te Z M fun x M1 => tl Z M1 fun l M2 => th Z M2 fun u M3 => onK x M3 fun ds => Φ (.dat (.list (cutD ds l u))) M3) := propext Iff.rfl
theorem OK (i j : Int) (P : Int -> Int -> Prop) : onP (.dat (.tuple [.int i, .int j])) P = P i j := propext Iff.rfl
theorem T3 (te : DTE) (tl th : DTO) (Z : DSt) (M : Mp) (Φ : DK) : ZaQ te tl th Z M Φ = (te Z M fun x M1 => tl Z M1 fun l M2 => th Z M2 fun u M3 => onT x fun ds => Φ (.dat (.tuple (cutD ds l u))) M3) := propext Iff.rfl
theorem MI (ow : Bool) (src : Y4) (ix : List (Option Nat)) (g : DTG) (tc : DTT) (te : DTE) (Z : DSt) (M : Mp) (Φ : DK) : CK ow src ix g tc te Z M Φ = (src Z M fun ds M1 => ds.length <= sizeLine /\ Jb g tc te (C1 ix Z) (CT ow Φ) ds [] M1) := propext Iff.rfl
theorem GX  (x : DV) (y : DV) (M : Mp) (Φ : DK) : E3 x y M Φ = (onD x fun d => onW y fun ds => okIn d ds = true /\ Φ (.dat (.bool (!(ds.any fun e => PyData.eqv e d)))) M) := propext Iff.rfl
end DL
namespace DL
noncomputable def G3 (x : Str) (lo hi : Option Int) : Str := ⟨((x.cps.toList.drop (HT.sIx x.length 0 lo)).take (HT.sIx x.length x.length hi - HT.sIx x.length 0 lo)).toArray⟩
theorem Um (v : Int) (n d : Nat) : max 0 (min (if v < 0 then v + (n : Int) else v) (n : Int)) = ((HT.sIx n d (some v) : Nat) : Int) := by
 rw [<- HT.BU v n d]
 split <;> omega
theorem idx_eq (lo hi : Option Int) (n : Nat) : Builtin.Str.strSliceIndices lo hi 1 n = Builtin.Str.strSliceIndices (some ((HT.sIx n 0 lo : Nat) : Int)) (some ((HT.sIx n n hi : Nat) : Int)) 1 n := by
 have l1 := HT.K4 n 0 (Nat.zero_le n) lo;have l2 := HT.K4 n n (Nat.le_refl n) hi;have e : ∀ a : Nat, a <= n -> max 0 (min (if (a : Int) < 0 then (a : Int) + (n : Int) else (a : Int)) (n : Int)) = (a : Int) := fun a ha => by
  rw [if_neg (by omega)];omega
 unfold Builtin.Str.strSliceIndices;simp only [show ((1 : Int) > 0) = True from by simp, if_true];rw [e _ l1, e _ l2];cases lo with
 | none =>
  cases hi with
  | none => rfl
  | some v => simp only [Um v n n]; rfl
 | some u =>
  cases hi with
  | none => simp only [Um u n 0]; rfl
  | some v => simp only [Um u n 0, Um v n n]
theorem Ti {a b : Nat} (h : b < a) (ha : a <= n) : Builtin.Str.strSliceIndices (some (a : Int)) (some (b : Int)) 1 n = [] := by
 unfold Builtin.Str.strSliceIndices sliceRange;simp only [show ((1 : Int) > 0) = True from by simp, if_true];rw [if_neg (show ¬ ((a : Int) < 0) by omega), if_neg (show ¬ ((b : Int) < 0) by omega), if_neg (by omega)];rfl
theorem L3 (x : Str) (lo hi : Option Int) : Txt.slice x lo hi = G3 x lo hi := by
 have l1 := HT.K4 x.length 0 (Nat.zero_le _) lo;have l2 := HT.K4 x.length x.length (Nat.le_refl _) hi;have hl : x.cps.toList.length = x.length := by simp [Str.length]
 unfold Txt.slice;rw [idx_eq];unfold G3;generalize HT.sIx x.length 0 lo = a at *;generalize HT.sIx x.length x.length hi = b at *
 by_cases h : a <= b
 ·rw [StrLaws.sliced_plain x h l2, StrLaws.strSliceIndices_plain h l2]
  split
  ·rename_i q;have q' : b - a = x.length := by simpa using q
   have a0 : a = 0 := by omega
   subst a0;apply Str.ext';rw [List.drop_zero, List.take_of_length_le (by omega)]
  ·rfl
 ·rw [Ti (by omega) l1, show b - a = 0 by omega]
  split
  ·rename_i q;have q' : x.length = 0 := by
    have : 0 = x.length := by simpa using q
    omega
   apply Str.ext';have : x.cps.toList = [] := List.length_eq_zero_iff.mp (by omega);rw [List.take_zero];exact Array.toList_inj.mp this
  ·simp
section
variable {a b : Expr} {ta tb : DTE}
def Zij : V -> Option Int -> Option Int -> Hp -> VK -> Prop := fun x lo hi H Q => ∃ z, x = .str z /\ z.length <= sizeLine /\ Q (.str (G3 z lo hi)) H
theorem ZbV : SlR X Zij := by
 intro pins s O H x v vl vu lo hi sl Q I rx hs pl pu h;obtain ⟨z, rfl, hz, q⟩ := h;obtain ⟨t, rfl⟩ := rx;have hlen : (Txt.slice z lo hi).length <= sizeLine := Nat.le_trans (Txt.slice_le z lo hi) hz;have fin : ∀ t' k, EP X pins O Q (.str (Txt.slice z lo hi) t') { s with toks := k } := fun t' k => by
  rw [L3];exact ⟨.str (G3 z lo hi), H, I.tok _, ⟨_, rfl⟩, q⟩
 refine ⟨"str", _, PySem.F.slot_str_getitem.lookup, typeIs_str s z t, ?_⟩;cases pl with
 | none => cases pu with
  | none => exact wpAny_getItem_str_slice (l := none) (u := none) (st := none) hs rfl (post_val_or_str ⟨hlen, fin⟩)
  | int j uj => exact wpAny_getItem_str_slice (l := none) (u := some (j, uj)) (st := none) hs rfl (post_val_or_str ⟨hlen, fin⟩)
 | int i ui => cases pu with
  | none => exact wpAny_getItem_str_slice (l := some (i, ui)) (u := none) (st := none) hs rfl (post_val_or_str ⟨hlen, fin⟩)
  | int j uj => exact wpAny_getItem_str_slice (l := some (i, ui)) (u := some (j, uj)) (st := none) hs rfl (post_val_or_str ⟨hlen, fin⟩)
def Zhc (te : DTE) (tl th : DTO) : DTE := fun Z M Φ => te Z M fun x M1 => tl Z M1 fun l M2 => th Z M2 fun u M3 => onS x fun s => s.length <= sizeLine /\ Φ (.dat (.str (G3 s l u))) M3
theorem Kh {lo hi : Option Expr} {tl th : DTO} (he : DE X e te) (hl : DO X lo tl) (hu : DO X hi th) : DE X (.Subscript e (.Slice lo hi none p2) pos) (Zhc te tl th) := by
 obtain ⟨t1, p1, q1⟩ := he;obtain ⟨t2, p2, q2⟩ := hl;obtain ⟨t3, p3, q3⟩ := hu;refine ⟨_, WN ZbV p1 p2 p3, fun O H Z M Φ Q r e h k => ?_⟩;refine q1 O H Z M _ _ r e h fun v H1 x M1 r1 st rv hx => ?_;refine q2 O H1 Z M1 _ _ r1 (e.step st) hx fun l H2 M2 r2 st2 hl => ?_;refine q3 O H2 Z M2 _ _ r2 (e.step (st.trans st2)) hl fun u H3 M3 r3 st3 hu => ?_;replace hu := Qo hu;obtain ⟨s, rfl, hz, hu⟩ := hu;exact ⟨s, rv.str, hz, k.dat r3 (st.trans (st2.trans st3)) (Dt.str _) hu⟩
def ZcD : D2 := fun x y M Φ => onS x fun s => onI y fun i => s.length <= sizeLine /\ ∃ c, L2.atI s.cps.toList i = some c /\ Φ (.dat (.str ⟨#[c]⟩)) M
theorem Pc (ha : DE X a ta) (hb : DE X b tb) (hs : autoParam (BI b) zz7._auto_1) : DE X (.Subscript a b pos) (dOp ZcD ta tb) := by
 obtain ⟨ta', pa, qa⟩ := ha;obtain ⟨tb', pb, qb⟩ := hb;refine ⟨_, Zd5 PM pa pb hs, Snd.opn qa qb fun v u H x y M Φ Q r rv ru h k => ?_⟩;replace h := Qo h;obtain ⟨s, rfl, h⟩ := h;replace h := ZS h;obtain ⟨i, rfl, hz, c, hc, q⟩ := h;exact ⟨s, i, c, rv.str, ru.int, hz, hc, k.dat r Step.refl (Dt.str _) q⟩
def Pt : D2 := fun x y M Φ => onS x fun s => onS y fun t => s.length + t.length <= sizeLine /\ Φ (.dat (.str (s ++ t))) M
theorem Ue : OpD X (binaryOp .Add) Pt :=
 ⟨_, DC, fun v u H x y M Φ Q r rv ru h k => by
  replace h := Qo h;obtain ⟨s, rfl, h⟩ := h;replace h := Qo h;obtain ⟨t, rfl, hz, q⟩ := h
  exact ⟨s, t, rv.str, ru.str, hz, k.dat r Step.refl (Dt.str _) q⟩⟩
noncomputable def Zha (s : Str) (n : Nat) : Str := ⟨((List.replicate n s.cps.toList).flatten).toArray⟩
def ZcC : D2 := fun x y M Φ => onS x fun s => onI y fun i => (1 <= i /\ i <= 1000 /\ s.length <= 1000) /\ Φ (.dat (.str (Zha s i.toNat))) M
theorem Hu : OpR X (compareOp .LtE) (fun x y H Q => ∃ i j, x = .str i /\ y = .str j /\ Q (.bl (!decide (j.cps.toList < i.cps.toList))) H) := by
 intro pins s O H x y v u Q I rx ry h;obtain ⟨i, j, rfl, rfl, q⟩ := h;obtain ⟨t, rfl⟩ := rx;obtain ⟨t', rfl⟩ := ry;exact PySem.P.le_str (ZW I q rfl)
def ZcF : D2 := fun x y M Φ => onS x fun s => onS y fun t => Φ (.dat (.bool (!decide (t.cps.toList < s.cps.toList)))) M
theorem P4 : OpD X (compareOp .LtE) ZcF :=
 ⟨_, Hu, fun v u H x y M Φ Q r rv ru h k => by
  replace h := Qo h;obtain ⟨s, rfl, h⟩ := h;replace h := Qo h;obtain ⟨t, rfl, q⟩ := h
  exact ⟨s, t, rv.str, ru.str, k.dat r Step.refl (Dt.bl _) q⟩⟩
noncomputable def Its (x : Str) : It := ⟨fun i _ => i < x.length, fun i H y H' => H' = H /\ ∃ c, x.cps[i]? = some c /\ y = .str ⟨#[c]⟩, fun i _ => x.length <= i⟩
theorem Fd (x : Str) (t : Tok) (it : Addr) : Turn P w K tg (Its x) [it] it (fun i h => h.IsStrIter it "str_ascii_iterator" x t i) where
 mem := by simp
 obj := fun i h st b hb => by
  have e : b = it := by simpa using hb
  subst e;obtain ⟨o, e, c, d⟩ := st;exact ⟨o, e, fun v z => by rw [d] at z; cases z⟩
 keep := fun i h h' st k => let ⟨o, ho, r⟩ := st; ⟨o, k it (by simp) o ho, r⟩
 item := by
  intro X hP hw hK hc i pins s O H E I hf st hg;subst hP hw hK;have hi : i < x.cps.size := hg;obtain ⟨f0, f1, f2, f3, f4, f5⟩ := hf it (by simp);refine wpAny_pyNext_ascii_item st (c := x.cps[i]) (by simp [hi]) fun h' st' sb => ?_;have I1 : Inv X pins O H { s with heap := h', toks := s.toks + 1 } := I.turned (t' := s.toks + 1) (fun b o hb e => (sb.2 b hb).trans e) f0 f1 f3 f4 f5;obtain ⟨o, e, c, d⟩ := id st';exact ⟨_, rfl, Hv (s := { s with heap := h', toks := s.toks + 1 }) e c d (by decide) ⟨.str ⟨#[x.cps[i]]⟩, H, I1, ⟨_, rfl⟩, ⟨rfl, _, by simp [hi], rfl⟩, st', fun b hb => (hf b hb).1⟩⟩
 done := by
  intro X hP hw hK hc i pins s O H E I hf st hg;subst hP hw hK;obtain ⟨f0, f1, f2, f3, f4, f5⟩ := hf it (by simp);have hi : x.cps.size <= i := hg;exact wpAny_pyNext_ascii_end (I.ok.hd hc) st (by simp [hi]) fun h' eb => ⟨rfl, I.turned (t' := s.toks) (fun b o hb e => eb b o hb e) f0 f1 f3 f4 f5⟩
 self := fun _ _ _ _ _ st h => wpAny_pyIter_striter_ascii st h
theorem LP (x : Str) (t : Tok) (it : Addr) : Turn P w K tg (Its x) [it] it (fun i h => h.IsStrIter it "str_iterator" x t i) where
 mem := by simp
 obj := fun i h st b hb => by
  have e : b = it := by simpa using hb
  subst e;obtain ⟨o, e, c, d⟩ := st;exact ⟨o, e, fun v z => by rw [d] at z; cases z⟩
 keep := fun i h h' st k => let ⟨o, ho, r⟩ := st; ⟨o, k it (by simp) o ho, r⟩
 item := by
  intro X hP hw hK hc i pins s O H E I hf st hg;subst hP hw hK;have hi : i < x.cps.size := hg;obtain ⟨f0, f1, f2, f3, f4, f5⟩ := hf it (by simp);refine wpAny_pyNext_wide_item st (c := x.cps[i]) (by simp [hi]) fun h' st' sb => ?_;have I1 : Inv X pins O H { s with heap := h', toks := s.toks + 1 } := I.turned (t' := s.toks + 1) (fun b o hb e => (sb.2 b hb).trans e) f0 f1 f3 f4 f5;obtain ⟨o, e, c, d⟩ := id st';exact ⟨_, rfl, Hv (s := { s with heap := h', toks := s.toks + 1 }) e c d (by decide) ⟨.str ⟨#[x.cps[i]]⟩, H, I1, ⟨_, rfl⟩, ⟨rfl, _, by simp [hi], rfl⟩, st', fun b hb => (hf b hb).1⟩⟩
 done := by
  intro X hP hw hK hc i pins s O H E I hf st hg;subst hP hw hK;obtain ⟨f0, f1, f2, f3, f4, f5⟩ := hf it (by simp);have hi : x.cps.size <= i := hg;exact wpAny_pyNext_wide_end (I.ok.hd hc) st (by simp [hi]) fun h' eb => ⟨rfl, I.turned (t' := s.toks) (fun b o hb e => eb b o hb e) f0 f1 f3 f4 f5⟩
 self := fun _ _ _ _ _ st h => wpAny_pyIter_striter_wide st h
def ZiM (tl : TE) : TI := fun O H R => tl O H fun x H1 => ∃ z, x = .str z /\ R (Its z) H1
theorem Zdh {l : Expr} {tl : TE} (hl : PE X l tl) : PI X tg l (ZiM tl) := by
 intro pins s O H R I h;refine thn (hl pins s O H _ I h) fun v s1 ⟨x, H1, I1, r1, q1⟩ => ?_;obtain ⟨z, e, q⟩ := q1;subst e;obtain ⟨t, rfl⟩ := r1;cases ha : z.cps.all (· < 128)
 ·refine wpAny_pyIter_wide ha ?_;refine ⟨s1.heap.objs.size, [s1.heap.objs.size], _, _, H1, rfl, I1.kept (t' := s1.toks) fun b o e => Heap.get?_push_of_some _ e, LP z t _, ⟨_, Heap.get?_push_size _ rfl, rfl, rfl⟩, fun b hb => ?_, q⟩;have e : b = s1.heap.objs.size := by simpa using hb
  subst e;exact I1.Ss (Nat.le_refl _) (I1.hok.fresh (Nat.le_refl _))
 ·refine wpAny_pyIter_ascii ha ?_;refine ⟨s1.heap.objs.size, [s1.heap.objs.size], _, _, H1, rfl, I1.kept (t' := s1.toks) fun b o e => Heap.get?_push_of_some _ e, Fd z t _, ⟨_, Heap.get?_push_size _ rfl, rfl, rfl⟩, fun b hb => ?_, q⟩;have e : b = s1.heap.objs.size := by simpa using hb
  subst e;exact I1.Ss (Nat.le_refl _) (I1.hok.fresh (Nat.le_refl _))
noncomputable def Mj (c : Nat) : PyData := .str ⟨#[c]⟩
def Zhm (te : DTE) : Y4 := fun Z M Ψ => te Z M fun x M1 => onS x fun s => Ψ (s.cps.toList.map Mj) M1
theorem P1 (he : DE X iter te) : DI X tg iter (Zhm te) := by
 obtain ⟨t, p, q⟩ := he;refine ⟨_, Zdh p, fun O H Z M Ψ R dr er h k => ?_⟩;refine q O H Z M _ _ dr er h fun v H1 x M1 r1 st rv hx => ?_;replace hx := Qo hx;obtain ⟨s, rfl, hΨ⟩ := hx;have hl : (s.cps.toList.map Mj).length = s.length := by simp [Str.length]
 refine ⟨s, rv.str, k _ H1 M1 _ r1 st (fun M2 H2 st2 i => ⟨fun hi => ⟨by rw [hl] at hi; exact hi, fun x H' y => ?_⟩, fun hi => by rw [hl] at hi; exact hi⟩) hΨ⟩;obtain ⟨e, c, hc, rfl⟩ := y;subst e;refine fun r => ⟨r, Step.refl, Mj c, ?_, Dt.str _⟩;rw [List.getElem?_map, Array.getElem?_toList, hc];rfl
def Ru : D1 := fun xs M Φ => on1 xs fun x => onS x fun s => s.length <= sizeLine /\ Φ (.dat (.list (s.cps.toList.map Mj))) M
def Zbi : D1 := fun xs M Φ => on1 xs fun x => onS x fun s => s.length <= sizeLine /\ Φ (.dat (.tuple (s.cps.toList.map Mj))) M
def rJoin (K : Fk) : V -> List V -> Hp -> VK -> Prop := fun x xs H Q => ∃ z p ss, x = .str z /\ xs = [.ref p] /\ SqL K H p (ss.map V.str) /\ JoinOk z ss = true /\ Q (.str (Txt.join z ss)) H
theorem HU : ∀ {ss : List Str} {us : List Value}, Vals (ss.map V.str) us -> ∃ l : List (Str × Tok), us = strValues l /\ l.map (·.1) = ss
 | [], _, r => by rw [List.map_nil] at r; cases r; exact ⟨[], rfl, rfl⟩
 | s :: ss, _, r => by
  rw [List.map_cons] at r;cases r with
  | cons r1 r2 =>
   obtain ⟨t, rfl⟩ := r1;obtain ⟨l, rfl, e⟩ := HU r2;exact ⟨(s, t) :: l, rfl, by rw [List.map_cons, e]⟩
theorem TR : MtR X "str.join" (rJoin X.K) := by
 intro pins s O H x xs v us Q I rx rs h;obtain ⟨z, p, ss, rfl, rfl, hq, hj, q⟩ := h;obtain ⟨t, rfl⟩ := rx;obtain ⟨u, rfl, ru⟩ := vals1 rs;cases ru;obtain ⟨its, rv, pl, hz⟩ := I.list hq;obtain ⟨l, rfl, hl⟩ := HU rv;exact SC.join pl.isList hl hj fun t' k => ⟨.str _, H, I.tok _, ⟨_, rfl⟩, q⟩
def ZhY (ds : List PyData) (P : List Str -> Prop) : Prop := ∃ ss, ds = ss.map PyData.str /\ P ss
def Zb1 (to te : DTE) : DTE := fun Z M Φ => to Z M fun x M1 => onS x fun z => te Z M1 fun y M2 => onK y M2 fun ds => ZhY ds fun ss => JoinOk z ss = true /\ Φ (.dat (.str (Txt.join z ss))) M2
theorem Xm : ∀ {vs : List V} {ss : List Str}, Dts K M H vs (ss.map PyData.str) -> vs = ss.map V.str
 | vs, [], h => by
  rw [List.map_nil] at h;cases h;rfl
 | vs, n :: ns, h => by
  rw [List.map_cons] at h;cases h with
  | cons h1 h2 =>
   cases h1;rw [Xm h2, List.map_cons]
theorem SK {o : Expr} {to : DTE} {apos cpos : Pos} (ho : DE X o to) (he : DE X e te) (hbase : autoParam (attributeBase o "join" X.env (eval o X.env) = eval o X.env) zz3._auto_1)
  (hfew : ((backTo cpos (starEach [e] X.env)).all (fun x => !x.1) && (backToKw cpos (keywordEach [] X.env)).all (fun x => x.1.isSome)
   && decide ([e].length + ([] : List Keyword).length + (if ([] : List Keyword).isEmpty then 0 else 1) < 30)) = true := by rfl)
  (hline : autoParam ((apos.endLine == cpos.line) = true) zz3._auto_1) (hs : autoParam (starEach [e] X.env = (false, eval e X.env) :: starEach [] X.env) zz3._auto_1) (hplain : autoParam ((backTo cpos (starEach [] X.env)).any (·.1) = false) zz3._auto_1) :
  DE X (.Call (.Attribute o "join" apos) [e] [] cpos) (Zb1 to te) := by
 obtain ⟨t1, p1, q1⟩ := ho;obtain ⟨t2, p2, q2⟩ := he;refine ⟨_, ZbQ PySem.F.plainAttrs_str PySem.F.slot_str_join PySem.F.type_str_join TR p1 (Bx p2 Fc hs) hbase hfew hline hs hplain, fun O H Z M Φ Q r e h k => ?_⟩;refine q1 O H Z M _ _ r e h fun v H1 x M1 r1 st rv hx => ?_;replace hx := Qo hx;obtain ⟨z, rfl, hx⟩ := hx;cases rv.str;refine ⟨rfl, q2 O H1 Z M1 _ _ r1 (e.step st) hx fun w H2 y M2 r2 st2 rw2 hy => ?_⟩;replace hy := YV hy;obtain ⟨ds, hd, ss, rfl, hj, hy⟩ := hy;replace hd : E8 y M2 (ss.map PyData.str) := hd;obtain ⟨a, xs, rfl, h1, h2⟩ := hd.sq r2 rw2;cases Xm h2;exact ⟨z, a, ss, rfl, rfl, h1, hj, k.dat r2 (st.trans st2) (Dt.str _) hy⟩
def rUp : V -> List V -> Hp -> VK -> Prop := fun x xs H Q => ∃ z, x = .str z /\ xs = [] /\ z.length <= 1000 /\ Q (.str (Txt.upper z)) H
def ZdP (to : DTE) : DTE := fun Z M Φ => to Z M fun x M1 => onS x fun z => z.length <= 1000 /\ Φ (.dat (.str (Txt.upper z))) M1
end
theorem Zc1 (te : DTE) (tl th : DTO) (Z : DSt) (M : Mp) (Φ : DK) : Zhc te tl th Z M Φ = (te Z M fun x M1 => tl Z M1 fun l M2 => th Z M2 fun u M3 => onS x fun s => s.length <= sizeLine /\ Φ (.dat (.str (G3 s l u))) M3) := propext Iff.rfl
theorem Zal (x y : DV) (M : Mp) (Φ : DK) : ZcD x y M Φ = (onS x fun s => onI y fun i => s.length <= sizeLine /\ ∃ c, L2.atI s.cps.toList i = some c /\ Φ (.dat (.str ⟨#[c]⟩)) M) := propext Iff.rfl
theorem NI (x y : DV) (M : Mp) (Φ : DK) : Pt x y M Φ = (onS x fun s => onS y fun t => s.length + t.length <= sizeLine /\ Φ (.dat (.str (s ++ t))) M) := propext Iff.rfl
theorem Sd (x y : DV) (M : Mp) (Φ : DK) : ZcF x y M Φ = (onS x fun s => onS y fun t => Φ (.dat (.bool (!decide (t.cps.toList < s.cps.toList)))) M) := propext Iff.rfl
theorem ZdL (te : DTE) (Z : DSt) (M : Mp) (Ψ : List PyData -> Mp -> Prop) : Zhm te Z M Ψ = (te Z M fun x M1 => onS x fun s => Ψ (s.cps.toList.map Mj) M1) := propext Iff.rfl
theorem Zax (to te : DTE) (Z : DSt) (M : Mp) (Φ : DK) : Zb1 to te Z M Φ = (to Z M fun x M1 => onS x fun z => te Z M1 fun y M2 => onK y M2 fun ds => ZhY ds fun ss => JoinOk z ss = true /\ Φ (.dat (.str (Txt.join z ss))) M2) := propext Iff.rfl
theorem str_len (s : Str) : s.cps.toList.length = s.length := by simp [Str.length]
theorem add_list (s t : Str) : (s ++ t).cps.toList = s.cps.toList ++ t.cps.toList := by rw [Str.cps_append, Array.toList_append]
theorem BE (s t : Str) : (s ++ t).length = s.length + t.length := Str.length_append s t
theorem YL (c : Nat) : (⟨#[c]⟩ : Str).cps.toList = [c] := rfl
theorem Kv (c : Nat) : (⟨#[c]⟩ : Str).length = 1 := rfl
theorem Cs (s : Str) (lo hi : Option Int) : (G3 s lo hi).cps.toList = (s.cps.toList.drop (HT.sIx s.length 0 lo)).take (HT.sIx s.length s.length hi - HT.sIx s.length 0 lo) := rfl
theorem B8 {s : Str} {lo hi : Option Int} {c : Nat} (h : c ∈ (G3 s lo hi).cps.toList) : c ∈ s.cps.toList := by
 rw [Cs] at h;exact List.mem_of_mem_drop (List.mem_of_mem_take h)
theorem Bg (s : Str) (lo hi : Option Int) : (G3 s lo hi).length = HT.sIx s.length s.length hi - HT.sIx s.length 0 lo := by
 have l1 := HT.K4 s.length s.length (Nat.le_refl _) hi;rw [<- str_len, Cs, List.length_take, List.length_drop, str_len];omega
theorem KH {d : Nat} {i : Int} (h0 : 0 <= i) : HT.sIx n d (some i) = min i.toNat n := by
 obtain ⟨k, rfl⟩ := Int.eq_ofNat_of_zero_le h0;rw [HT.SY];rfl
theorem join_list : ∀ ss : List Str, (Txt.join (Str.ofString "") ss).cps.toList = (ss.map (·.cps.toList)).flatten := by
 have e0 : (Str.ofString "").cps.toList = [] := by walk_at "k"
 have go : ∀ ss : List Str, (Str.join (Str.ofString "") ss).cps.toList = (ss.map (·.cps.toList)).flatten := fun ss => by
  induction ss with
  | nil => rfl
  | cons s ss ih =>
   cases ss with
   | nil => simp [Str.join]
   | cons t ss =>
    rw [Str.join, add_list, add_list, e0, ih]
    ·simp
    ·simp
 intro ss;have : Txt.join (Str.ofString "") ss = Str.join (Str.ofString "") ss := by
  exact StrLaws.glued_eq_join _ _
 rw [this, go]
theorem Ta {sep : Str} {B : Nat} (hB : ∀ y ∈ ss, y.length <= B) (h : ss.length * B + ss.length * sep.length <= 16777216) : JoinOk sep ss = true := by
 unfold JoinOk;rw [StrLaws.joinFits hB h];rfl
end DL
namespace DL
open PySem.W
section
variable {lt : Nat -> Nat -> Bool}
def KOk (n : Nat) (lt : Nat -> Nat -> Bool) {α : Type} : KasT α -> (α -> Prop) -> Prop
 | .ret a, Q => Q a
 | .ask i j k, Q => i < n /\ j < n /\ i ≠ j /\ KOk n lt (k (lt i j)) Q
def Le (lt : Nat -> Nat -> Bool) (a b : Nat) : Prop := lt b a = false
structure Ord (lt : Nat -> Nat -> Bool) : Prop where
 asym : ∀ a b, lt a b = true -> lt b a = false
 tran : ∀ a b c, Le lt a b -> Le lt b c -> Le lt a c
theorem Ord.refl (o : Ord lt) (a : Nat) : Le lt a a := by
 unfold Le;cases h : lt a a with
 | false => rfl
 | true => have := o.asym a a h; rw [h] at this; cases this
noncomputable abbrev at' (p : Array Nat) (k : Nat) : Nat := p.getD k 0
def Up (lt : Nat -> Nat -> Bool) (p : Array Nat) (m : Nat) : Prop := ∀ i j, i <= j -> j < m -> Le lt (at' p i) (at' p j)
def Dn (lt : Nat -> Nat -> Bool) (p : Array Nat) (m : Nat) : Prop := ∀ i j, i <= j -> j < m -> Le lt (at' p j) (at' p i)
def Pm (n : Nat) (p : Array Nat) : Prop := p.Perm (List.range n).toArray
theorem Pm.size {p : Array Nat} (h : Pm n p) : p.size = n := by
 have := h.size_eq
 simpa using this
theorem ES {α : Type} {l : List α} (nd : l.Nodup) {a b : Nat} (ha : a < l.length) (hb : b < l.length) (z : l[a] = l[b]) : a = b := by
 have pw := List.pairwise_iff_getElem.mp nd
 by_cases h1 : a < b
 ·exact absurd z (pw a b ha hb h1)
 ·by_cases h2 : b < a
  ·exact absurd z.symm (pw b a hb ha h2)
  ·omega
theorem Pm.inj {p : Array Nat} (h : Pm n p) {a b : Nat} (ha : a < n) (hb : b < n) (hn : a ≠ b) : at' p a ≠ at' p b := by
 have hs := h.size;have e : ∀ k, (hk : k < n) -> at' p k = p.toList[k]'(by simpa [hs] using hk) := fun k hk => by simp [at', hs, hk]
 have nd : p.toList.Nodup := by
  have := Array.perm_iff_toList_perm.mp h;exact this.nodup_iff.mpr List.nodup_range
 rw [e a ha, e b hb];exact fun z => hn (ES nd _ _ z)
def Blk (lt : Nat -> Nat -> Bool) (p : Array Nat) (m q : Nat) : Prop := ∀ i j, m - (q + 1) <= i -> i < m -> m - (q + 1) <= j -> j < m -> Le lt (at' p i) (at' p j)
def Cnt (n : Nat) (lt : Nat -> Nat -> Bool) (r : Nat × Array Nat) : Prop := Pm n r.2 /\ r.1 <= n /\ Up lt r.2 r.1
end
end DL
namespace DL
open PySem.W
section
variable {prog : Program} {E : Value -> Shared -> Prop} {lt : Nat -> Nat -> Bool}
noncomputable abbrev Zii (vs : List Value) (q : Array Nat) : Array Value := List.toArray (q.toList.map fun i => vs.getD i Value.none)
end
noncomputable def ZeO : PyData -> Option Str
 | .tuple (.str s :: _) => some s
 | _ => none
noncomputable def ltK (ks : List Str) (i j : Nat) : Bool := decide ((ks.getD i Str.empty).cps.toList < (ks.getD j Str.empty).cps.toList)
section
def ZhH (K : Fk) : List V -> Hp -> VK -> Prop := fun xs H Q => ∃ (p : Addr) (M : Mp) (vs : List V) (ds : List PyData) (ks : List Str), xs = [.ref p] /\ SqL K H p vs /\ Dts K M H vs ds /\ ds.map ZeO = ks.map some /\ ks.Nodup /\ ds.length < 64 /\
 ∀ q, Pm ds.length q -> Up (ltK ks) q ds.length -> ∀ l, H l = none -> Q (.ref l) (upd H l (.lst (q.toList.map fun i => vs.getD i .non)))
def leK (a b : PyData) : Prop := ∀ s t, ZeO a = some s -> ZeO b = some t -> ¬ t.cps.toList < s.cps.toList
def Zgd : D1 := fun xs M Φ => on1 xs fun x => onK x M fun ds => ∃ ks : List Str, ds.map ZeO = ks.map some /\ ks.Nodup /\ ds.length < 64 /\ ∀ ds' : List PyData, ds'.Perm ds -> ds'.Pairwise leK -> Φ (.dat (.list ds')) M
end
end DL
namespace DL
open PySem.W
section
variable {prog : Program} {E : Value -> Shared -> Prop}
theorem Tq : typeLookup (.type "list") "keys" = pure none := am_miss_of_fast (by walk_at "k")
theorem Rt : typeLookup (.type "list") "__getattr__" = pure none := am_miss_of_fast (by walk_at "k")
def LAt (a : Addr) (h : Heap) : Prop := ∃ xs n sl, h.get? a = some { cls := .type "list", data := .seq xs n, slots := sl }
theorem T7 {u : Tok} {Q : PySem.Fin -> Shared -> Prop} (hl : LAt a s.heap) (hA : A.handled = none) (h : ∀ h' tk e, Heap.NewAttrErr s.heap h' e (.ref a) "keys" -> E (.ref e) { s with heap := h', toks := tk }) :
  wpAny (model prog w) A (Builtin.«object.__getattribute__» ⟨[.ref a, .str "keys" u], []⟩) Q E s := by
 obtain ⟨xs, n, sl, hx⟩ := hl;obtain ⟨hp, g, d, tk, os⟩ := s;have hT : (⟨hp, g, d, tk, os⟩ : Shared).TypeIs (.ref a) "list" := ⟨_, hx, rfl⟩
 have f4 := Tq;unfold Builtin.«object.__getattribute__»
 repeat any_goals first | wp_step | assumption
 exact wpAny_raiseAttrError hA h (attrMsg_fits (by walk_at "k") (by walk_at "k"))
theorem Zbp {Q : Option Value -> Shared -> Prop} (hl : LAt a s.heap) (hA : A.handled = none) (h : ∀ h' tk, (∀ b ob, s.heap.get? b = some ob -> h'.get? b = some ob) -> Q none { s with heap := h', toks := tk }) :
  wpAny (model prog w) A (getAttr? (.ref a) "keys") Q E s := by
 obtain ⟨hp, g, d, tk, os⟩ := s;obtain ⟨xs, n, sl, hx⟩ := id hl;have hT : ∀ t', (⟨hp, g, d, t', os⟩ : Shared).TypeIs (.ref a) "list" := fun t' => ⟨_, hx, rfl⟩;have f1 := sub_AttributeError;have f3 := F.slot_list_getattribute.lookup;have f4 := F.slot_list_getattribute.bind (.ref a);have f5 := Rt;unfold getAttr? getAttrBy? getAttrBy
 repeat any_goals first | wp_step | assumption
 refine codeAny_call_builtin F.slot_list_getattribute.plain F.entry_list_ga (F.slot_list_getattribute.check _ _ _ _ _ _ _ _ (hT _) (F.args_list_getattribute_2 _ _) (T7 hl hA fun h' tk' e hx => ?_));obtain ⟨t', u', he⟩ := hx.there;have hK := hx.keeps;show wpAny _ _ (getattributeRaised _ _ _ _ _ _ _) _ _ _;unfold getattributeRaised
 repeat any_goals first | wp_step | assumption
 exact h _ _ hK
theorem Dd : entryFor table "dict.update.loop" = some Builtin.«dict.update.loop» := entryFor_of_tree (by kernel_rfl)
theorem WO : plainId "dict.update.loop" = true := by walk_at "k"
variable {K : Type} [DecidableEq K] {knd : KeyKind prog w K}
theorem EF (kvs : List (K × Value)) (k : K) (v : Value) : (stored kvs k v).length <= kvs.length + 1 := by
 unfold stored
 split
 ·rw [List.length_map];omega
 ·rw [List.length_append, List.length_singleton];exact Nat.le_refl _
def N1 (h : Heap) (v key val : Value) : Prop := ∃ a o c, v = .ref a /\ h.get? a = some o /\ o.cls = .type "tuple" /\ o.data = .seq #[key, val] c
theorem Dc {D l : Addr} {its : List Value} {res : Value} {R : Result -> Shared -> Prop} (hA : A.handled = none) (hDi : D ≠ it) (hDl : D ≠ l) (hil : it ≠ l) : ∀ (ps : List (K × Value)) (i : Nat) (s : Shared) (kvs : List (K × Value)), i + ps.length = its.length ->
  s.heap.IsListIter it l i -> s.heap.IsList l its.toArray -> s.heap.DictOf knd D kvs -> kvs.length + ps.length <= sizeLine ->
  (∀ j p, ps[j]? = some p -> ∃ v key, its[i + j]? = some v /\ N1 s.heap v key p.2 /\ knd.is p.1 key = true /\ v ≠ .ref D /\ v ≠ .ref it) ->
  (∀ h' t', (∀ b o, b ≠ D -> b ≠ it -> s.heap.get? b = some o -> h'.get? b = some o) -> h'.DictOf knd D (ps.foldl (fun m p => stored m p.1 p.2) kvs) -> R (.ok (.ret res)) { s with heap := h', toks := t' }) ->
  codeAny (model prog w) A (.builtin "dict.update.loop" ⟨[.ref D, .ref it, rawInt i, res], []⟩) R s
 | [], i, s, kvs, hn, h1, h2, h3, h4, h5, hR => by
  refine codeAny_builtin Dd ?_;rw [Around.under_plainId WO _];show wpAny _ A.in1 (pyNext (.ref it) >>= _) _ _ s;refine wpAny_bind (wpAny_pyNext_list_end (show A.in1.handled = none from hA) h1 h2 (by rw [List.getElem?_toArray, List.getElem?_eq_none_iff]; exact Nat.le_of_eq (by simpa using hn.symm)) fun h' eb => ?_);refine wpAny_bind ?_;unfold Builtin.Dict.addKeywords;refine wpAny_pure ?_;exact wpAny_pure (hR h' s.toks (fun b o hb hi e => eb b o hi e) (h3.extBut eb hDi))
 | p :: ps, i, s, kvs, hn, h1, h2, h3, h4, h5, hR => by
  refine codeAny_builtin Dd ?_;rw [Around.under_plainId WO _];show wpAny _ A.in1 (pyNext (.ref it) >>= _) _ _ s;obtain ⟨v, key, e1, ⟨a, o, c, rfl, ho, hc, hd⟩, hk, n1, n2⟩ := h5 0 p rfl;refine wpAny_bind (wpAny_pyNext_list_item h1 h2 (x := .ref a) (by simpa using e1) fun h' st sb => ?_);have ho' : h'.get? a = some o := (sb.2 a fun z => n2 (by rw [z])).trans ho;dsimp only;refine wpAny_bind (wpAny_holding ?_);have hT : ({ s with heap := h' } : Shared).TypeIs (.ref a) "tuple" := ⟨o, ho', hc⟩
  refine wpAny_bind (wpAny_tryCatch ?_);unfold Builtin.Dict.pairItems;refine wpAny_bind (wpAny_typeOf hT ?_);rw [if_pos (by decide)];refine wpAny_bind (wpAny_seqItems ho' hd (wpAny_pure ?_));show wpAny _ _ (holding [key, p.2] (dictSet D key p.2)) _ _ _;have h3' : h'.DictOf knd D kvs := h3.sameBut sb hDi;refine wpAny_holding (wpAny_dictSet_pairs hk h3' (fun h2' dd sb2 => ?_) (by omega));refine wpAny_pure ⟨plainId_quiet WO _, ?_⟩;have hal : ∀ b o, b ≠ D -> b ≠ it -> s.heap.get? b = some o -> h2'.get? b = some o := fun b o z1 z2 e => (sb2.2 b z1).trans ((sb.2 b z2).trans e);have go := Dc (its := its) (res := res) (R := R) hA hDi hDl hil ps (i + 1) { s with heap := h2', toks := s.toks + 1 } (stored kvs p.1 p.2) (by rw [List.length_cons] at hn; omega) ?_ ?_ dd ?_ (fun j q hj => ?_) fun h3 t3 k3 d3 => ?_
  ·rw [show (i : Int) + 1 = ((i + 1 : Nat) : Int) by omega];exact go
  ·exact st.at fun o e => (sb2.2 it (Ne.symm hDi)).trans e
  ·obtain ⟨ol, e1, e2⟩ := h2;exact ⟨ol, hal l ol (Ne.symm hDl) (Ne.symm hil) e1, e2⟩
  ·have := EF kvs p.1 p.2;rw [List.length_cons] at h4;omega
  ·obtain ⟨v, key', e1, ⟨a', o', c', rfl, ho2, hc2, hd2⟩, hk2, m1, m2⟩ := h5 (j + 1) q (by simpa using hj);exact ⟨_, key', by rw [show i + 1 + j = i + (j + 1) by omega]; exact e1, ⟨a', o', c', rfl, hal a' o' (fun z => m1 (by rw [z])) (fun z => m2 (by rw [z])) ho2, hc2, hd2⟩, hk2, m1, m2⟩
  ·exact hR h3 t3 (fun b o z1 z2 e => k3 b o z1 z2 (hal b o z1 z2 e)) d3
theorem Lu {kvs : List (K × Value)} (hm : h.DictOf knd a kvs) (hk : ∀ o, h.get? a = some o -> h'.get? a = some o) : h'.DictOf knd a kvs :=
 let ⟨o, es, ep, ho, r⟩ := hm
 ⟨o, es, ep, hk o ho, r⟩
theorem X5 {l : Addr} {its : List Value} {ps : List (K × Value)} {Q : Value -> Shared -> Prop} (hA : A.handled = none) (hl : LAt l s.heap) (hi : s.heap.IsList l its.toArray) (hn : ps.length = its.length) (hz : ps.length <= sizeLine)
  (hr : ∀ (j : Nat) (p : K × Value), ps[j]? = some p -> ∃ v key, its[j]? = some v /\ N1 s.heap v key p.2 /\ knd.is p.1 key = true)
  (hQ : ∀ h' t', (∀ b o, s.heap.get? b = some o -> h'.get? b = some o) -> h'.DictOf knd s.heap.objs.size (ps.foldl (fun m p => stored m p.1 p.2) []) -> Q (.ref s.heap.objs.size) { s with heap := h', toks := t' }) :
  wpAny (model prog w) A (call (.type "dict") [.ref l]) Q E s := by
 refine callType_codes (Q₁ := fun obj s₁ => obj = .ref s.heap.objs.size /\ s₁ = { s with heap := s.heap.push { cls := .type "dict", data := .dict #[] } }) F.kt_called_dict (F.kt_typeCall_dict_1 _) F.entry_dict_init (kt_code_dict_new _ ⟨rfl, rfl⟩) fun obj s₁ e => ?_;obtain ⟨rfl, rfl⟩ := e;have new : (s.heap.push { cls := .type "dict", data := .dict #[] }).DictOf knd s.heap.objs.size [] := Heap.DictOf.new s.heap;obtain ⟨xs, n, sl, hx⟩ := id hl;have hx1 : (s.heap.push { cls := .type "dict", data := .dict #[] }).get? l = some { cls := .type "list", data := .seq xs n, slots := sl } := Heap.get?_push_of_some _ hx;have lt := Heap.lt_size hx;refine ⟨new.typeIs, F.args_dict_init_2 _ _, ?_⟩;unfold Builtin.«dict.__init__»; refine wpAny_bind ?_;unfold Builtin.Dict.selfAndRest; refine wpAny_bind (wpAny_notOrdered_dict new.typeIs ?_);show wpAny _ _ (pure (s.heap.objs.size, [Value.ref l])) _ _ _;refine wpAny_pure ?_;show wpAny _ _ (Builtin.Dict.updateFrom "dict.__init__" s.heap.objs.size (.ref l) [] .none) _ _ _;unfold Builtin.Dict.updateFrom; refine wpAny_bind (wpAny_typeOf (T := "list") ⟨_, hx1, rfl⟩ ?_);rw [if_pos (by decide)];refine wpAny_bind (Zbp ⟨xs, n, sl, hx1⟩ hA fun h2 t2 k2 => ?_);rw [if_pos (show (none : Option Value).isNone = true from rfl)];have k2' : ∀ b ob, s.heap.get? b = some ob -> h2.get? b = some ob := fun b ob e => k2 b ob (Heap.get?_push_of_some _ e);have hi2 : h2.IsList l its.toArray := let ⟨o, e, r⟩ := hi; ⟨o, k2' l o e, r⟩;have sz2 : s.heap.objs.size < h2.objs.size := by
  obtain ⟨o, _, _, e, _⟩ := new;exact Heap.lt_size (k2 _ o e)
 refine wpAny_bind (wpAny_rule (wpAny_bind (wpAny_pyIter_list hi2 ?_)));refine wpAny_pure ⟨plainId_quiet WO _, ?_⟩;have bnd : ∀ {a : Addr} {o : Obj}, s.heap.get? a = some o -> a ≠ s.heap.objs.size /\ a ≠ h2.objs.size := fun e => by
  have := Heap.lt_size e;exact ⟨Nat.ne_of_lt this, Nat.ne_of_lt (Nat.lt_trans this sz2)⟩
 show codeAny _ A.in1 (.builtin "dict.update.loop" ⟨[.ref s.heap.objs.size, .ref h2.objs.size, rawInt ((0 : Nat) : Int), .none], []⟩) _ { s with heap := h2.push { cls := .type "list_iterator", data := .fields #[.ref l, .int 0 0] }, toks := t2 };refine Dc (A := A.in1) (its := its) (l := l) (knd := knd) (ps := ps) (kvs := []) (i := 0) hA (Nat.ne_of_lt sz2) (Ne.symm (bnd hx).1) (Ne.symm (bnd hx).2) _ (by omega) ?_ ?_
  ?_ (by simpa using hz) (fun j p hj => ?_) fun h3 t3 k3 d3 => ?_
 ·exact ⟨_, Heap.get?_push_size _ rfl, rfl, rfl⟩
 ·obtain ⟨o, e, r⟩ := hi2;exact ⟨o, Heap.get?_push_of_some _ e, r⟩
 ·exact Lu new fun o e => Heap.get?_push_of_some _ (k2 _ o e)
 ·obtain ⟨v, key, e1, ⟨a, o, c, rfl, ho, r⟩, hk⟩ := hr j p hj;exact ⟨_, key, by rw [Nat.zero_add]; exact e1, ⟨a, o, c, rfl, Heap.get?_push_of_some _ (k2' a o ho), r⟩, hk, fun z => (bnd ho).1 (by cases z; rfl), fun z => (bnd ho).2 (by cases z; rfl)⟩
 ·exact ⟨rfl, hQ h3 t3 (fun b o e => k3 b o (bnd e).1 (bnd e).2 (Heap.get?_push_of_some _ (k2' b o e))) d3⟩
end
section
def V2 (K : Fk) (H : Hp) (v : V) (p : Key × V) : Prop := ∃ a, v = .ref a /\ SqT K H a [kV p.1, p.2]
def Zbx (K : Fk) : List V -> Hp -> VK -> Prop := fun xs H Q => ∃ (a : Addr) (vs : List V) (ps : List (Key × V)), xs = [.ref a] /\ SqL K H a vs /\ vs.length = ps.length /\ (∀ (j : Nat) (p : Key × V), ps[j]? = some p -> ∃ v, vs[j]? = some v /\ V2 K H v p) /\
 ∀ l, H l = none -> Q (.ref l) (upd H l (.dK (ps.foldl (fun m p => putK m p.1 p.2) [])))
theorem HB : ∀ {ps : List (Key × V)} {qs : List (Key × Value)} {m : List (Key × V)} {n : List (Key × Value)}, KV ps qs -> KV m n -> KV (ps.foldl (fun m p => putK m p.1 p.2) m) (qs.foldl (fun m p => stored m p.1 p.2) n)
 | [], _, _, _, r, h => by cases r; exact h
 | p :: ps, _, _, _, r, h => by
  cases r with
  | cons r1 r2 =>
   rw [List.foldl_cons, List.foldl_cons];refine HB r2 ?_;rw [r1.1];exact h.put _ r1.2
theorem YE : ∀ (ps m : List (Key × V)), (ps.foldl (fun m p => putK m p.1 p.2) m).length <= m.length + ps.length
 | [], m => by simp
 | p :: ps, m => by
  rw [List.foldl_cons, List.length_cons];have := YE ps (putK m p.1 p.2);have := Vk m p.1 p.2;omega
theorem D3 (hc : X.calm = true) : Vz X (.type "dict") (Zbx X.K) := by
 intro pins s O H xs us Q I r h;obtain ⟨a, vs, ps, rfl, hq, hn, hv, q⟩ := h;obtain ⟨u, rfl, rx⟩ := vals1 r;cases rx;obtain ⟨its, rv, pl, hz⟩ := I.list hq;have n1 := rv.length;have row : ∀ (j : Nat) (p : Key × V), ps[j]? = some p -> ∃ v key val, its[j]? = some v /\ N1 s.heap v key val /\ (ZK X.prog X.w).is p.1 key = true /\ RelV p.2 val := fun j p hj => by
  obtain ⟨v, ev, a', rfl, ht⟩ := hv j p hj;obtain ⟨u, eu, ru⟩ := rv.get ev;cases (show u = .ref a' from ru);obtain ⟨js, rt, ⟨ob, ho, hcl, c, hd⟩, _⟩ := I.tuple ht;cases rt with
  | cons b1 b2 => cases b2 with
   | cons b3 b4 =>
    cases b4;exact ⟨_, _, _, eu, ⟨a', ob, c, rfl, ho, hcl, hd⟩, DR b1, b3⟩
 have all : ∀ (l : List (Key × V)) (i : Nat), (∀ (j : Nat) (p : Key × V), l[j]? = some p -> ps[i + j]? = some p) -> ∃ qs : List (Key × Value), KV l qs /\ ∀ (j : Nat) (p : Key × Value), qs[j]? = some p -> ∃ v key, its[i + j]? = some v /\ N1 s.heap v key p.2 /\ (ZK X.prog X.w).is p.1 key = true := fun l => by
  induction l with
  | nil => intro i _; exact ⟨[], .nil, fun j p hj => by simp at hj⟩
  | cons p l ih =>
   intro i hl;obtain ⟨qs, k1, k2⟩ := ih (i + 1) fun j p hj => by rw [show i + 1 + j = i + (j + 1) by omega]; exact hl (j + 1) p (by simpa using hj)
   obtain ⟨v, key, val, e1, e2, e3, e4⟩ := row i p (by have := hl 0 p rfl; simpa using this);refine ⟨(p.1, val) :: qs, .cons ⟨rfl, e4⟩ k1, fun j p' hj => ?_⟩;cases j with
   | zero =>
    cases Option.some.inj hj;exact ⟨v, key, e1, e2, e3⟩
   | succ j =>
    obtain ⟨v, key, e⟩ := k2 j p' (by simpa using hj);exact ⟨v, key, by rw [show i + (j + 1) = i + 1 + j by omega]; exact e.1, e.2⟩
 obtain ⟨qs, k1, k2⟩ := all ps 0 fun j p hj => by rw [Nat.zero_add]; exact hj
 have n2 : qs.length = ps.length := (Paired.length k1).symm;have big := I.big;obtain ⟨ob, n, ho, hcl, hdi, hda⟩ := id pl;refine X5 (knd := ZK X.prog X.w) (its := its) (ps := qs) (I.ok.hd hc) ⟨its.toArray, n, ob.slots, by rw [ho]; cases ob; cases hcl; cases hdi; cases hda; rfl⟩ pl.isList (by omega) (by omega)
  (fun j p hj => by have := k2 j p hj; rwa [Nat.zero_add] at this) fun h' t' kp dd => ?_
 have hlen := YE ps [];refine ⟨.ref s.heap.objs.size, _, I.laid (t' := t') kp (Nat.le_refl _) (EM (by rw [List.length_nil] at hlen; omega) ?_ (HB k1 .nil) dd), rfl, q _ (I.hok.fresh (Nat.le_refl _))⟩;exact beq_eq_false_iff_ne.mpr (Nat.ne_of_gt big)
end
end DL
namespace DL
def XM (o : Option OO) (P : List (Key × PyData) -> Prop) : Prop := match o with | some (.dkv ps) => P ps | _ => False
theorem FJ (ps : List (Key × PyData)) (P : List (Key × PyData) -> Prop) : XM (some (.dkv ps)) P = P ps := propext Iff.rfl
theorem Cr {o : Option OO} {P : List (Key × PyData) -> Prop} (h : XM o P) : ∃ ps, o = some (.dkv ps) /\ P ps := by
 unfold XM at h
 split at h
 ·exact ⟨_, rfl, h⟩
 ·exact h.elim
noncomputable def QU (ps : List (Key × PyData)) (k : Key) : Option PyData := (ps.find? fun kv => decide (kv.1 = k)).map (·.2)
noncomputable def Xg (ps : List (Key × PyData)) (k : Key) (d : PyData) : List (Key × PyData) := if (ps.any fun kv => decide (kv.1 = k)) = true then ps.map (fun kv => if kv.1 = k then (kv.1, d) else kv) else ps ++ [(k, d)]
section
inductive KD (K : Fk) (M : Mp) (H : Hp) : List (Key × V) -> List (Key × PyData) -> Prop
 | nil : KD K M H [] []
 | cons {k : Key} {v : V} {d : PyData} {kvs : List (Key × V)} {ps : List (Key × PyData)} : Dt K M H v d -> KD K M H kvs ps -> KD K M H ((k, v) :: kvs) ((k, d) :: ps)
theorem KD.of : ∀ {kvs : List (Key × V)} {ps : List (Key × PyData)}, kvs.map (·.1) = ps.map (·.1) -> Dts K M H (kvs.map (·.2)) (ps.map (·.2)) -> KD K M H kvs ps
 | [], [], _, _ => .nil
 | [], _ :: _, h, _ => by simp at h
 | _ :: _, [], h, _ => by simp at h
 | (k, v) :: kvs, (k', d) :: ps, h, hd => by
  rw [List.map_cons, List.map_cons, List.cons.injEq] at h;cases (show k = k' from h.1);cases hd with
  | cons h1 h2 => exact .cons h1 (KD.of h.2 h2)
theorem KD.keys : ∀ {kvs : List (Key × V)} {ps : List (Key × PyData)}, KD K M H kvs ps -> kvs.map (·.1) = ps.map (·.1)
 | _, _, .nil => rfl
 | _, _, .cons _ h => by rw [List.map_cons, List.map_cons, h.keys]
theorem KD.vals : ∀ {kvs : List (Key × V)} {ps : List (Key × PyData)}, KD K M H kvs ps -> Dts K M H (kvs.map (·.2)) (ps.map (·.2))
 | _, _, .nil => .nil
 | _, _, .cons h1 h => .cons h1 h.vals
theorem KD.any (k : Key) : ∀ {kvs : List (Key × V)} {ps : List (Key × PyData)}, KD K M H kvs ps -> (kvs.any fun kv => decide (kv.1 = k)) = ps.any fun kv => decide (kv.1 = k)
 | _, _, .nil => rfl
 | _, _, .cons _ h => by rw [List.any_cons, List.any_cons, h.any k]
theorem KD.snoc {k : Key} (hd : Dt K M H v d) : ∀ {kvs : List (Key × V)} {ps : List (Key × PyData)}, KD K M H kvs ps -> KD K M H (kvs ++ [(k, v)]) (ps ++ [(k, d)])
 | _, _, .nil => .cons hd .nil
 | _, _, .cons h1 h => .cons h1 (h.snoc hd)
theorem KD.Zac (k : Key) (hd : Dt K M H v d) : ∀ {kvs : List (Key × V)} {ps : List (Key × PyData)}, KD K M H kvs ps -> KD K M H (kvs.map fun kv => if kv.1 = k then (kv.1, v) else kv) (ps.map fun kv => if kv.1 = k then (kv.1, d) else kv)
 | _, _, .nil => .nil
 | _, _, .cons (k := k') h1 h => by
  rw [List.map_cons, List.map_cons]
  by_cases e : k' = k
  ·rw [if_pos e, if_pos e];exact .cons hd (h.Zac k hd)
  ·rw [if_neg e, if_neg e];exact .cons h1 (h.Zac k hd)
theorem KD.put (k : Key) (hd : Dt K M H v d) {ps : List (Key × PyData)} (h : KD K M H kvs ps) : KD K M H (putK kvs k v) (Xg ps k d) := by
 unfold putK Xg;rw [h.any k]
 split
 ·exact h.Zac k hd
 ·exact h.snoc hd
theorem KD.val (k : Key) : ∀ {kvs : List (Key × V)} {ps : List (Key × PyData)}, KD K M H kvs ps -> (Ws kvs k = none /\ QU ps k = none) \/ ∃ v d, Ws kvs k = some v /\ QU ps k = some d /\ Dt K M H v d
 | _, _, .nil => .inl ⟨rfl, rfl⟩
 | _, _, .cons (k := k') (v := v) (d := d) h1 h => by
  unfold Ws QU
  by_cases e : k' = k
  ·rw [List.find?_cons_of_pos (by simpa using e), List.find?_cons_of_pos (by simpa using e)];exact .inr ⟨v, d, rfl, rfl, h1⟩
  ·rw [List.find?_cons_of_neg (by simpa using e), List.find?_cons_of_neg (by simpa using e)];exact h.val k
theorem KD.step (st : Step M H M' H') : ∀ {kvs : List (Key × V)} {ps : List (Key × PyData)}, KD K M H kvs ps -> KD K M' H' kvs ps
 | _, _, .nil => .nil
 | _, _, .cons h1 h => .cons (h1.step st) (h.step st)
theorem KD.length {ps : List (Key × PyData)} (h : KD K M H kvs ps) : kvs.length = ps.length := by
 have := congrArg List.length h.keys
 simpa using this
theorem ZR.dk (r : ZR K M H) {ps : List (Key × PyData)} (h : M a = some (.dkv ps)) : ∃ kvs, H a = some (.dK kvs) /\ KD K M H kvs ps := by
 obtain ⟨kvs, e1, e2, e3⟩ := r.ok a _ h;exact ⟨kvs, e1, .of e2 e3⟩
theorem ZR.MU (r : ZR K M H) {ps : List (Key × PyData)} (st : Step M H (ZM M p (.dkv ps)) (upd H p (.dK kvs))) (h : KD K M H kvs ps) : ZR K (ZM M p (.dkv ps)) (upd H p (.dK kvs)) :=
 r.PD st ⟨kvs, Jp, h.keys, h.vals.step st⟩
end
section
variable {o i value : Expr} {td ti tv : DTE} {pos' : Pos}
def Fz : DTE := fun _ M Φ => ∀ p, M p = none -> Φ (.own p) (ZM M p (.dkv []))
theorem Fp : DE X (.Dict [] [] pos) Fz :=
 ⟨_, C9, fun _ _ _ _ _ _ r _ h k p hp => k _ _ (.own p) _ (r.MU (Step.Va hp) .nil) (Step.Va hp) rfl (h p (r.tracked hp))⟩
def ZbL (td ti tv : DTE) : DTS := fun D Z M => tv Z M fun x M1 => td Z M1 fun y M2 => ti Z M2 fun z M3 => onD x fun d => onO y fun l => onS z fun s => XM (M3 l) fun ps => ps.length < sizeLine /\ D.nx Z (ZM M3 l (.dkv (Xg ps (.inr s) d)))
theorem WE {k : Nat} (hr : V6 k X.A) (ho : DE X o td) (hi : DE X i ti) (hv : DE X value tv) (hs : autoParam (swapsWith value (some (.Subscript o i pos')) pos.line X.env = pure false) zz3._auto_1) : DS X (.Assign [.Subscript o i pos'] value pos) (ZbL td ti tv) := by
 obtain ⟨t1, p1, q1⟩ := hv;obtain ⟨t2, p2, q2⟩ := ho;obtain ⟨t3, p3, q3⟩ := hi;refine ⟨_, RV (by have := hr.un; omega) p2 p3 p1 hs, fun O H Z M D E r e h k => ?_⟩;refine q1 O H Z M _ _ r e h fun v H1 x M1 r1 st1 rv hx => ?_;refine q2 O H1 Z M1 _ _ r1 (e.step st1) hx fun w H2 y M2 r2 st2 rw2 hy => ?_;refine q3 O H2 Z M2 _ _ r2 (e.step (st1.trans st2)) hy fun u H3 z M3 r3 st3 ru hz => ?_;replace hz := ZX hz;obtain ⟨d, rfl, hz⟩ := hz;replace hz := Z9 hz;obtain ⟨l, rfl, hz⟩ := hz;replace hz := Qo hz;obtain ⟨s, rfl, hz⟩ := hz;replace hz := Cr hz;obtain ⟨ps, hm, hl, hn⟩ := hz;cases (show w = .ref l from rw2);cases ru.str;obtain ⟨kvs, g1, g2⟩ := r3.dk hm;have dv : Dt X.K M3 H3 v d := (rv.step (st2.trans st3) : QC X.K M3 H3 v (.dat d))
 refine ⟨l, _, rfl, Pe.k (k := .inr s) g1 (by rw [g2.length]; exact hl), ?_⟩;have st4 : Step M3 H3 (ZM M3 l (.dkv (Xg ps (.inr s) d))) (upd H3 l (.dK (putK kvs (.inr s) v))) := Step.Mh hm;have stA := st1.trans (st2.trans (st3.trans st4));exact k.nx _ _ _ _ (r3.MU st4 (g2.put _ dv)) stA (e.step stA) hn
theorem KD.some {ps : List (Key × PyData)} (h : KD K M H kvs ps) (k : Key) : (Ws kvs k).isSome = (QU ps k).isSome := by
 rcases h.val k with ⟨a, b⟩ | ⟨v, d, a, b, _⟩
 ·rw [a, b]; rfl
 ·rw [a, b]; rfl
def Zjr (neg : Bool) : D2 := fun x y M Φ => onS x fun s => onO y fun l => XM (M l) fun ps => Φ (.dat (.bool ((QU ps (.inr s)).isSome != neg))) M
def ZbE (td ti : DTE) : DTE := fun Z M Φ => td Z M fun x M1 => ti Z M1 fun y M2 => onO x fun l => onS y fun s => XM (M2 l) fun ps => ∃ d, QU ps (.inr s) = some d /\ Φ (.dat d) M2
theorem Jf {k : Nat} (hr : V6 k X.A) (ho : DE X o td) (hi : DE X i ti) (hs : autoParam (ZfY i) zz7._auto_1) : DE X (.Subscript o i pos) (ZbE td ti) := by
 obtain ⟨t1, p1, q1⟩ := ho;obtain ⟨t2, p2, q2⟩ := hi;refine ⟨_, Sr (by have := hr.un; omega) p1 p2 hs, fun O H Z M Φ Q r e h k => ?_⟩;refine q1 O H Z M _ _ r e h fun v H1 x M1 r1 st1 rv hx => ?_;refine q2 O H1 Z M1 _ _ r1 (e.step st1) hx fun w H2 y M2 r2 st2 rw2 hy => ?_;replace hy := Z9 hy;obtain ⟨l, rfl, hy⟩ := hy;replace hy := Qo hy;obtain ⟨s, rfl, hy⟩ := hy;replace hy := Cr hy;obtain ⟨ps, hm, d, hd, q⟩ := hy;cases (show v = .ref l from rv);cases rw2.str;obtain ⟨kvs, g1, g2⟩ := r2.dk hm
 rcases g2.val (.inr s) with ⟨_, b⟩ | ⟨u, d', a, b, du⟩
 ·rw [hd] at b;cases b
 ·rw [hd] at b;cases b;exact ⟨l, u, rfl, by rw [<- a]; exact BF.k (k := .inr s) g1, k.dat r2 (st1.trans st2) du q⟩
def ZiY (td ti : DTE) : DTE := fun Z M Φ => td Z M fun x M1 => onO x fun l => XM (M1 l) fun _ => ti Z M1 fun y M2 => onS y fun s => XM (M2 l) fun ps => Φ (.dat ((QU ps (.inr s)).getD .none)) M2
def Zhb : D1 := fun xs M Φ => on1 xs fun x => onO x fun l => XM (M l) fun ps => Φ (.dat (.int ps.length)) M
noncomputable def pairD (p : Str × PyData) : PyData := .tuple [.str p.1, p.2]
noncomputable def Fj (l : List (Str × PyData)) : List (Key × PyData) := l.foldl (fun m p => Xg m (.inr p.1) p.2) []
def Fy : D1 := fun xs M Φ => on1 xs fun x => onK x M fun ds => ∃ l : List (Str × PyData), ds = l.map pairD /\ ∀ p, M p = none -> Φ (.own p) (ZM M p (.dkv (Fj l)))
theorem N3 (hc : X.calm = true) : Vy X (.type "dict") Fy := by
 refine ⟨_, D3 hc, fun vs H xs M Φ Q r rv h k => ?_⟩;replace h := Zw h;obtain ⟨x, rfl, h⟩ := h;replace h := YV h;obtain ⟨ds, hx, l, rfl, q⟩ := h;replace hx : E8 x M (l.map pairD) := hx;obtain ⟨v, rfl, h1⟩ := Paired.one rv;obtain ⟨a, ys, rfl, g1, g2⟩ := hx.sq r h1;have all : ∀ (l : List (Str × PyData)) (ys : List V), Dts X.K M H ys (l.map pairD) -> ∃ ps : List (Key × V), ps.length = ys.length /\ (∀ (j : Nat) (p : Key × V), ps[j]? = some p -> ∃ v, ys[j]? = some v /\ V2 X.K H v p) /\ KD X.K M H ps (l.map fun p => ((.inr p.1 : Key), p.2)) := fun l => by
  induction l with
  | nil =>
   intro ys h;cases h;exact ⟨[], rfl, fun j p hj => by simp at hj, .nil⟩
  | cons p l ih =>
   intro ys h;rw [List.map_cons] at h;cases h with
   | cons h1 h2 =>
    obtain ⟨ps, k1, k2, k3⟩ := ih _ h2;cases h1 with
    | tup t1 t2 =>
     cases t2 with
     | cons a1 a2 => cases a2 with
      | cons a3 a4 =>
       cases a4;cases a1;refine ⟨(.inr p.1, _) :: ps, by rw [List.length_cons, List.length_cons, k1], fun j q hj => ?_, .cons a3 k3⟩;cases j with
       | zero =>
        cases Option.some.inj hj;exact ⟨_, rfl, _, rfl, t1.sq⟩
       | succ j =>
        obtain ⟨v, e1, e2⟩ := k2 j q (by simpa using hj);exact ⟨v, by simpa using e1, e2⟩
 obtain ⟨ps, k1, k2, k3⟩ := all l ys g2;refine ⟨a, ys, ps, rfl, g1, k1.symm, k2, fun p hp => ?_⟩;have fold : ∀ (ps : List (Key × V)) (l : List (Str × PyData)) (m : List (Key × V)) (n : List (Key × PyData)), KD X.K M H ps (l.map fun p => ((.inr p.1 : Key), p.2)) -> KD X.K M H m n -> KD X.K M H (ps.foldl (fun m p => putK m p.1 p.2) m) (l.foldl (fun m p => Xg m (.inr p.1) p.2) n) := fun ps => by
  induction ps with
  | nil =>
   intro l m n h hm;cases l with
   | nil => exact hm
   | cons _ _ => cases h
  | cons p ps ih =>
   intro l m n h hm;cases l with
   | nil => cases h
   | cons q l =>
    rw [List.map_cons] at h;cases h with
    | cons h1 h2 =>
     rw [List.foldl_cons, List.foldl_cons];exact ih l _ _ h2 (hm.put _ h1)
 have st : Step M H (ZM M p (.dkv (Fj l))) (upd H p (.dK (ps.foldl (fun m p => putK m p.1 p.2) []))) := Step.Va hp;exact k _ _ (.own p) _ (r.MU st (fold ps l [] [] k3 .nil)) st rfl (q p (r.tracked hp))
end
theorem Me (Z : DSt) (M : Mp) (Φ : DK) : Fz Z M Φ = (∀ p, M p = none -> Φ (.own p) (ZM M p (.dkv []))) := propext Iff.rfl
theorem RQ (td ti tv : DTE) (D : Ql) (Z : DSt) (M : Mp) : ZbL td ti tv D Z M = (tv Z M fun x M1 => td Z M1 fun y M2 => ti Z M2 fun z M3 => onD x fun d => onO y fun l => onS z fun s => XM (M3 l) fun ps => ps.length < sizeLine /\ D.nx Z (ZM M3 l (.dkv (Xg ps (.inr s) d)))) := propext Iff.rfl
theorem SW (td ti : DTE) (Z : DSt) (M : Mp) (Φ : DK) : ZbE td ti Z M Φ = (td Z M fun x M1 => ti Z M1 fun y M2 => onO x fun l => onS y fun s => XM (M2 l) fun ps => ∃ d, QU ps (.inr s) = some d /\ Φ (.dat d) M2) := propext Iff.rfl
theorem HS (xs : List DV) (M : Mp) (Φ : DK) : Fy xs M Φ = (on1 xs fun x => onK x M fun ds => ∃ l : List (Str × PyData), ds = l.map pairD /\ ∀ p, M p = none -> Φ (.own p) (ZM M p (.dkv (Fj l)))) := propext Iff.rfl
end DL
namespace DL
open PySem.W
section
def Zjp (te ts : DTE) : DTE := fun Z M Φ => te Z M fun x M1 => ts Z M1 fun y M2 => onK x M2 fun ds => onI y fun i => i = -1 /\ Φ (.dat (.list ds.reverse)) M2
end
end DL
namespace DL
open PySem.W
section
variable {prog : Program} {E : Value -> Shared -> Prop}
end
section
variable {prog : Program} {E : Value -> Shared -> Prop}
end
section
variable {O : L2.St}
theorem CS {t' : Nat} {ch : List Addr} (I : L2.Inv X pins O H s) (k : ∀ b o, b ∉ ch -> s.heap.get? b = some o -> h'.get? b = some o) (f : ∀ b ∈ ch, El X pins H b) : L2.Inv X pins O H { s with heap := h', toks := t' } := by
 have nit : ∀ b u, H b = some u -> b ∉ ch := fun b u e z => by rw [(f b z).1] at e; cases e
 refine I.step (g' := s.gens) (d' := s.drawn) (ch := ch) (fun b hb => ?_) (fun b o _ _ hc e _ => k b o hc e) (fun b o _ _ hc e _ => ⟨o.slots, k b o hc e⟩) (fun _ _ _ _ n => n)
  (fun b o hc e => ⟨o, k b o hc e⟩) (fun _ _ e => e) (fun _ _ _ e => e) (fun b ps e => ⟨#[], by rw [e]; simp⟩) (fun m hm => ?_) (fun b u e => ?_) I.bare
 ·obtain ⟨_, f1, _, f3, f4, f5⟩ := f b hb;exact ⟨f3, f1, f4, f5⟩
 ·obtain ⟨o, es, ep, ho, r⟩ := hm;exact ⟨o, es, ep, k _ o (fun z => (f _ z).2.1 rfl) ho, r⟩
 ·refine (I.hok b u e).S9 (fun c v hc q => k c v ?_ q) (fun _ q => q) fun _ _ q => q
  rcases hc with z | z
  ·rw [z]; exact nit b u e
  ·exact nit c _ z
end
noncomputable def Ite (K : Fk) (a : Addr) : It :=
 ⟨fun i H => ∃ xs x, SqT K H a xs /\ xs[i]? = some x, fun i H y H' => ∃ T x, (∀ xs, SqT K H a xs -> xs[i]? = some x) /\ H T = none /\ y = .ref T /\ H' = upd H T (.tup [.int i, x]), fun i H => ∃ xs, SqT K H a xs /\ xs.length <= i⟩
section
def ZiH (K : Fk) (ta : TA) : TI := fun O H R => ta O H fun vs H1 => ∃ a, vs = [.ref a] /\ (∃ xs, SqT K H1 a xs) /\ R (Ite K a) H1
noncomputable def Zgz (ds : List PyData) : List PyData := ds.mapIdx fun i d => .tuple [.int i, d]
def ZjY (ta : DTA) : Y4 := fun Z M Ψ => ta Z M fun xs M1 => on1 xs fun x => onT x fun ds => Ψ (Zgz ds) M1
end
end DL
namespace DL
open PySem.W
section
variable {prog : Program} {E : Value -> Shared -> Prop}
end
section
def Zjn (n : Nat) (t : Mn) : DTG := fun x Z M Φ => onL x fun ds => Pq n ds fun xs => t xs Z M Φ
end
end DL
namespace DL
open PySem.W
section
theorem Ni (hu : X.A.units < cLine) : OpR X (compareOp .NotEq) (fun x y H Q => ∃ a b xs, x = .ref a /\ y = .ref b /\ SqL X.K H a xs /\ SqL X.K H b [] /\ Q (.bl (!xs.isEmpty)) H) := by
 intro pins s O H x y v u Q I rx ry h;obtain ⟨a, b, xs, rfl, rfl, h1, h2, q⟩ := h;cases rx;cases ry;obtain ⟨its, r, p, _⟩ := I.list h1;obtain ⟨jts, r2, p2, _⟩ := I.list h2;cases r2;have hl := r.length;cases xs with
 | nil =>
  have e : its.toArray.size = ([] : List Value).toArray.size := by rw [List.size_toArray, List.size_toArray]; exact hl.symm
  refine PySem.SeqAt.RcNeAt.lists (e := fun _ => true) p.isList p2.isList e hu (fun j h1 h2 => absurd h2 (Nat.not_lt_zero _)) _ _ _ _ ⟨.bl _, H, I, ?_, q⟩;show Value.bool (!(List.range its.toArray.size).all fun _ => true) = _;rw [e];rfl
 | cons x xs =>
  refine PySem.SeqAt.RcNeAt.lists_lengths p.isList p2.isList ?_ hu _ _ _ _ ⟨.bl _, H, I, rfl, q⟩;rw [List.size_toArray, <- hl];rfl
def Fg : D2 := fun x y M Φ => onK x M fun ds => onK y M fun es => es = [] /\ Φ (.dat (.bool (!ds.isEmpty))) M
theorem CB {k : Nat} (hr : V6 k X.A) : OpD X (compareOp .NotEq) Fg := by
 refine ⟨_, Ni (by have := hr.un; omega), fun v u H x y M Φ Q r rv ru h k => ?_⟩;replace h := YV h;obtain ⟨ds, hx, h⟩ := h;replace h := YV h;obtain ⟨es, hy, rfl, q⟩ := h;replace hx : E8 x M ds := hx;replace hy : E8 y M [] := hy;obtain ⟨a, xs, rfl, h1, h2⟩ := hx.sq r rv;obtain ⟨b, ys, rfl, h3, h4⟩ := hy.sq r ru;cases h4;refine ⟨a, b, xs, rfl, rfl, h1, h3, ?_⟩;have e : xs.isEmpty = ds.isEmpty := by cases h2 <;> rfl
 rw [e];exact k.dat r Step.refl (Dt.bl _) q
def ZfP : D2 := fun x y M Φ => onK x M fun ds => onK y M fun es => ds.length + es.length <= sizeLine /\ ∀ p, M p = none -> Φ (.own p) (ZM M p (.lst (ds ++ es)))
def ZfD : D1 := fun xs M Φ => on1 xs fun x => onI x fun i => Φ (.dat (.bool (i != 0))) M
theorem Fs (x y : DV) (M : Mp) (Φ : DK) : Fg x y M Φ = (onK x M fun ds => onK y M fun es => es = [] /\ Φ (.dat (.bool (!ds.isEmpty))) M) := propext Iff.rfl
end
noncomputable def isS (h : PyData) (s : Str) : Bool := match h with | .str t => decide (t = s) | _ => false
end DL
namespace DL
open PySem.W PySem.SeqAt PySem.MeetsSeq
theorem Jh (l : Addr) (es : Array DictEntry) (n : Nat) (dd : Option Addr) (sl : Array (Option Value)) (b : Str) (u : Tok) :
  Meets (Builtin.«dict.__eq__» ⟨[.ref l, .str b u], []⟩) (fun _ R s => s.heap.get? l = some { cls := .type "dict", dict := dd, data := .dict es n, slots := sl } /\ R (.ok (.ret .notImplemented)) s) :=
 .of_wp fun prog w A R s h => by
  obtain ⟨hp, g, d, tk, os⟩ := s; obtain ⟨hl, h⟩ := h;have f1 := F.sub_str_dict
  wp_walk using wpAny_loadPart' hl
  exact ⟨_, rfl, h⟩
theorem Jk (b : Str) (u : Tok) (l : Addr) (c : Value) (es : Array DictEntry) (n : Nat) (dd : Option Addr) (sl : Array (Option Value)) :
  Meets (Builtin.«str.__eq__» ⟨[.str b u, .ref l], []⟩) (fun _ R s => s.heap.get? l = some { cls := c, dict := dd, data := .dict es n, slots := sl } /\ R (.ok (.ret .notImplemented)) s) :=
 .of_wp fun prog w A R s h => by obtain ⟨hp, g, d, tk, os⟩ := s; obtain ⟨hl, h⟩ := h; wp_walk using wpAny_loadPart' hl, wpAny_load hl; exact ⟨_, rfl, h⟩
section
def ZeB (h : Heap) (l : Addr) : Prop := ∃ (o : Obj) (es : Array DictEntry) (n : Nat), h.get? l = some o /\ o.cls = .type "dict" /\ o.data = .dict es n
theorem BQ {l : Addr} (b : Str) (u : Tok) (hl : ZeB s.heap l) (hu : A.units < cLine) : RcAt A s (.ref l) (.str b u) false := fun prog w E Q h => by
 obtain ⟨⟨cls, dd, data, sl⟩, es, n, ho, hc, hd⟩ := hl;simp only at hc hd;subst hc hd;exact rc_eq_decline_or (k := false) ⟨_, ho, rfl⟩ (typeIs_str s b u) (by decide) F.sub_str_dict F.slot_dict_eq F.slot_str_eq_refl
  (fun _ hq => call_meets F.slot_dict_eq ⟨_, ho, rfl⟩ F.entry_dict_eq (F.args_dict_eq_2 _ _) (Jh l es n dd sl b u) ⟨ho, hq⟩)
  (fun _ hq => call_meets F.slot_str_eq_refl (typeIs_str s b u) F.entry_str_eq (F.args_str_eq_2 _ _) (Jk b u l (.type "dict") es n dd sl) ⟨ho, hq⟩)
  (fun _ hq => wpAny_of_eq (rfl : isSame (.ref l) (.str b u) = pure false) hq) (.inr hu) h
theorem G7 {l : Addr} (b : Str) (u : Tok) (hl : ZeB s.heap l) (hu : A.units < cLine) : RcAt A s (.str b u) (.ref l) false := fun prog w E Q h => by
 obtain ⟨⟨cls, dd, data, sl⟩, es, n, ho, hc, hd⟩ := hl;simp only at hc hd;subst hc hd;exact rc_eq_decline_or (k := false) (typeIs_str s b u) ⟨_, ho, rfl⟩ (by decide) F.sub_dict_str F.slot_str_eq F.slot_dict_eq_refl
  (fun _ hq => call_meets F.slot_str_eq (typeIs_str s b u) F.entry_str_eq (F.args_str_eq_2 _ _) (Jk b u l (.type "dict") es n dd sl) ⟨ho, hq⟩)
  (fun _ hq => call_meets F.slot_dict_eq_refl ⟨_, ho, rfl⟩ F.entry_dict_eq (F.args_dict_eq_2 _ _) (Jh l es n dd sl b u) ⟨ho, hq⟩)
  (fun _ hq => wpAny_of_eq (rfl : isSame (.str b u) (.ref l) = pure false) hq) (.inr hu) h
theorem By {l : Addr} (b : Str) (u : Tok) (hl : ZeB s.heap l) (hu : A.units < cLine) : EqAt A s (.str b u) (.ref l) false := fun prog w E Q h => by
 unfold eqBool;refine wpAny_holding ?_;refine wpAny_ite_split (fun hab => absurd (eq_of_beq hab) nofun) (fun _ => ?_);exact wpAny_bind (G7 b u hl hu prog w E _ (wpAny_truthy_bool h))
end
section
inductive Bs (h : Heap) (b : Bool) (t : Str) : Value -> Prop
 | non : b = false -> Bs h b t .none
 | bl (k : Bool) : b = false -> Bs h b t (.bool k)
 | int (i : Int) (u : Tok) : b = false -> Bs h b t (.int i u)
 | str (x : Str) (u : Tok) : b = decide (x = t) -> Bs h b t (.str x u)
 | tup {a : Addr} {items : Array Value} : h.IsTuple a items -> b = false -> Bs h b t (.ref a)
 | lst {a : Addr} {items : Array Value} : h.IsList a items -> b = false -> Bs h b t (.ref a)
 | dic {a : Addr} : ZeB h a -> b = false -> Bs h b t (.ref a)
theorem ZdT {O : L2.St} {x : V} {v : Value} (t : Str) (I : L2.Inv X pins O H s) (r : RelV x v) (h : Dt X.K M H x d) : Bs s.heap (isS d t) t v := by
 cases h with
 | non => cases r; exact .non rfl
 | bl b => cases r; exact .bl b rfl
 | int i => obtain ⟨u, rfl⟩ := r; exact .int i u rfl
 | str z => obtain ⟨u, rfl⟩ := r; exact .str z u rfl
 | tup h1 h2 =>
  cases r;obtain ⟨its, rv, p, _⟩ := I.tuple h1.sq;exact .tup (show s.heap.IsTuple _ its.toArray from p) rfl
 | lst h1 h2 =>
  cases r;obtain ⟨its, rv, p, _⟩ := I.list h1.sq;exact .lst p.isList rfl
 | dK h0 h1 h2 =>
  cases r;obtain ⟨_, _, _, _, o, es, n, e, c, d, _⟩ := I.hok _ _ h1;exact .dic ⟨o, es, n, e, c.1, d⟩ rfl
 | dT h0 h1 h2 _ =>
  cases r;obtain ⟨_, _, _, _, o, es, n, e, c, d, _⟩ := I.hok _ _ h1;exact .dic ⟨o, es, n, e, c.1, d⟩ rfl
 | dX h0 h1 h2 h3 h4 h5 =>
  cases r;obtain ⟨φ, _⟩ := I.hok _ _ h1;obtain ⟨o, es, n, u, e, c, d, _⟩ := h3 _ φ;exact .dic ⟨o, es, n, e, c, d⟩ rfl
theorem Bs.rc {b : Bool} {t : Str} {v : Value} (u : Tok) (h : Bs s.heap b t v) (hu : A.units < cLine) : RcAt A s v (.str t u) b := by
 cases h with
 | non e => rw [e]; exact RcAt.none_str t u
 | bl k e => rw [e]; exact RcAt.bool_str k t u
 | int i w e => rw [e]; exact RcAt.int_str i w t u
 | str x w e => rw [e, <- Bool.beq_eq_decide_eq]; exact RcAt.str_str x w t u
 | tup p e => rw [e]; exact RcAt.tuple_str t u p hu
 | lst p e => rw [e]; exact RcAt.list_str t u p hu
 | dic p e => rw [e]; exact BQ t u p hu
theorem Bs.eq {b : Bool} {t : Str} {v : Value} (u : Tok) (h : Bs s.heap b t v) (hu : A.units < cLine) : EqAt A s (.str t u) v b := by
 cases h with
 | non e => rw [e]; exact EqAt.str_none t u
 | bl k e => rw [e]; exact EqAt.str_bool t u k
 | int i w e => rw [e]; exact EqAt.str_int t u i w
 | str x w e =>
  have e2 : b = (t == x) := by rw [e, Bool.beq_eq_decide_eq, decide_eq_decide]; exact eq_comm
  rw [e2];exact EqAt.str_str t u x w
 | tup p e => rw [e]; exact EqAt.str_tuple t u p hu
 | lst p e => rw [e]; exact EqAt.str_list t u p hu
 | dic p e => rw [e]; exact By t u p hu
theorem Zb9 (hu : X.A.units < cLine) : OpR X (compareOp .Eq) (fun x y H Q => ∃ M d t, Dt X.K M H x d /\ y = .str t /\ Q (.bl (isS d t)) H) := by
 intro pins s O H x y v u Q I rx ry h;obtain ⟨M, d, t, h1, rfl, q⟩ := h;obtain ⟨w, rfl⟩ := ry;exact (ZdT t I rx h1).rc w hu _ _ _ _ ⟨.bl _, H, I, rfl, q⟩
def ZaP : D2 := fun x y M Φ => onD x fun d => onS y fun t => Φ (.dat (.bool (isS d t))) M
theorem Yb {k : Nat} (hr : V6 k X.A) : OpD X (compareOp .Eq) ZaP :=
 ⟨_, Zb9 (by have := hr.un; omega), fun v u H x y M Φ Q r rv ru h k => by
  obtain ⟨d, e1, h⟩ := ZX h;obtain ⟨t, e2, q⟩ := Qo h;subst e1 e2
  exact ⟨M, d, t, rv, ru.str, k.dat r Step.refl (Dt.bl _) q⟩⟩
theorem ZbZ (hu : X.A.in1.units < cLine) : OpR X (compareOp .In) (fun x y H Q => ∃ (M : Mp) (d : PyData) (b : Addr) (ts : List Str), Dt X.K M H x d /\ y = .ref b /\ SqT X.K H b (ts.map V.str) /\ Q (.bl (ts.any (isS d))) H) := by
 intro pins s O H x y v u Q I rx ry h;obtain ⟨M, d, b, ts, h1, rfl, h2, q⟩ := h;cases ry;obtain ⟨its, r, p, _⟩ := I.tuple h2;have key : ∀ (ts : List Str) (its : List Value), Vals (ts.map V.str) its -> (∀ y ∈ its, EqAt X.A.in1 s y v (match y with | .str t _ => isS d t | _ => false)) /\ (its.any fun y => match y with | .str t _ => isS d t | _ => false) = ts.any (isS d) := by
  intro ts
  induction ts with
  | nil => intro its r; cases r; exact ⟨fun y hy => (nomatch hy), rfl⟩
  | cons t ts ih =>
   intro its r;rw [List.map_cons] at r;cases r with
   | cons r1 r2 =>
    obtain ⟨w, rfl⟩ := r1;obtain ⟨i1, i2⟩ := ih _ r2;refine ⟨fun y hy => ?_, by rw [List.any_cons, List.any_cons, i2]⟩
    rcases List.mem_cons.mp hy with rfl | hy
    ·exact (ZdT t I rx h1).eq w hu
    ·exact i1 y hy
 obtain ⟨k1, k2⟩ := key ts its r;refine in_tupleAt (fun y => match y with | .str t _ => isS d t | _ => false) (show s.heap.IsTuple b its.toArray from p) (fun y hy => k1 y (by simpa using hy)) ⟨.bl _, H, I, ?_, q⟩;rw [<- k2];simp only [List.any_toArray];rfl
def ZcI : D2 := fun x y M Φ => onD x fun d => onT y fun ds => ∃ ts : List Str, ds = ts.map PyData.str /\ Φ (.dat (.bool (ts.any (isS d)))) M
theorem Wg {k : Nat} (hr : V6 k X.A) : OpD X (compareOp .In) ZcI :=
 ⟨_, ZbZ (by have := hr.un; show X.A.units + 1 < _; omega), fun v u H x y M Φ Q r rv ru h k => by
  obtain ⟨d, e1, h⟩ := ZX h;obtain ⟨ds, e2, ts, rfl, q⟩ := Xz h;subst e1 e2;obtain ⟨b, xs, rfl, g1, g2⟩ := ru.tup;rw [Xm g2] at g1
  exact ⟨M, d, b, ts, rv, rfl, g1.sq, k.dat r Step.refl (Dt.bl _) q⟩⟩
theorem Tw (x y : DV) (M : Mp) (Φ : DK) : ZaP x y M Φ = (onD x fun d => onS y fun t => Φ (.dat (.bool (isS d t))) M) := propext Iff.rfl
theorem TX (x y : DV) (M : Mp) (Φ : DK) : ZcI x y M Φ = (onD x fun d => onT y fun ds => ∃ ts : List Str, ds = ts.map PyData.str /\ Φ (.dat (.bool (ts.any (isS d)))) M) := propext Iff.rfl
end
end DL
namespace DL
open PySem.W
theorem GC : ∀ (l acc : List (Key × V)), (l.map (·.1)).Nodup -> (∀ p ∈ l, ∀ q ∈ acc, q.1 ≠ p.1) -> l.foldl (fun acc kv => putK acc kv.1 kv.2) acc = acc ++ l
 | [], acc, _, _ => by simp
 | p :: l, acc, hn, hd => by
  rw [List.map_cons, List.nodup_cons] at hn;have e : putK acc p.1 p.2 = acc ++ [p] := by
   unfold putK;rw [if_neg];intro z;obtain ⟨q, hq, e⟩ := List.any_eq_true.mp z;exact hd p List.mem_cons_self q hq (of_decide_eq_true e)
  rw [List.foldl_cons, e, GC l _ hn.2 fun p' hp' q hq => ?_]
  ·simp
  ·rcases List.mem_append.mp hq with hq | hq
   ·exact hd p' (List.mem_cons_of_mem _ hp') q hq
   ·rw [List.mem_singleton.mp hq];intro z;exact hn.1 (List.mem_map.mpr ⟨p', hp', z.symm⟩)
theorem DX (l : List (Key × V)) (h : (l.map (·.1)).Nodup) : XC [] l = l := by
 unfold XC;rw [GC l [] h fun p _ q hq => (nomatch hq)];rfl
section
def PJ (tk0 tk1 tk2 tk3 tk4 tk5 tv0 tv1 tv2 tv3 tv4 tv5 : DTE) : DTE := fun Z M Φ => tk0 Z M fun x0 M1 => tv0 Z M1 fun y0 M2 => tk1 Z M2 fun x1 M3 => tv1 Z M3 fun y1 M4 => tk2 Z M4 fun x2 M5 => tv2 Z M5 fun y2 M6 => tk3 Z M6 fun x3 M7 => tv3 Z M7 fun y3 M8 => tk4 Z M8 fun x4 M9 => tv4 Z M9 fun y4 M10 => tk5 Z M10 fun x5 M11 => tv5 Z M11 fun y5 M12 => onS x0 fun s0 => onD y0 fun d0 => onS x1 fun s1 => onD y1 fun d1 => onS x2 fun s2 => onD y2 fun d2 => onS x3 fun s3 => onD y3 fun d3 => onS x4 fun s4 => onD y4 fun d4 => onS x5 fun s5 => onD y5 fun d5 => ([s0, s1, s2, s3, s4, s5] : List Str).Nodup /\ ∀ p, M12 p = none -> Φ (.own p) (ZM M12 p (.dkv [(Sum.inr s0, d0), (Sum.inr s1, d1), (Sum.inr s2, d2), (Sum.inr s3, d3), (Sum.inr s4, d4), (Sum.inr s5, d5)]))
theorem MW {k0 k1 k2 k3 k4 k5 v0 v1 v2 v3 v4 v5 : Expr} {tk0 tk1 tk2 tk3 tk4 tk5 tv0 tv1 tv2 tv3 tv4 tv5 : DTE} (hk0 : At X k0 tk0) (hv0 : At X v0 tv0) (hk1 : At X k1 tk1) (hv1 : At X v1 tv1) (hk2 : At X k2 tk2) (hv2 : At X v2 tv2) (hk3 : At X k3 tk3) (hv3 : At X v3 tv3) (hk4 : At X k4 tk4) (hv4 : At X v4 tv4) (hk5 : At X k5 tk5) (hv5 : At X v5 tv5) : DE X (.Dict [some k0, some k1, some k2, some k3, some k4, some k5] [v0, v1, v2, v3, v4, v5] pos) (PJ tk0 tk1 tk2 tk3 tk4 tk5 tv0 tv1 tv2 tv3 tv4 tv5) := by
 obtain ⟨a0, pk0, qk0⟩ := hk0;obtain ⟨b0, pv0, qv0⟩ := hv0;obtain ⟨a1, pk1, qk1⟩ := hk1;obtain ⟨b1, pv1, qv1⟩ := hv1;obtain ⟨a2, pk2, qk2⟩ := hk2;obtain ⟨b2, pv2, qv2⟩ := hv2;obtain ⟨a3, pk3, qk3⟩ := hk3;obtain ⟨b3, pv3, qv3⟩ := hv3;obtain ⟨a4, pk4, qk4⟩ := hk4;obtain ⟨b4, pv4, qv4⟩ := hv4;obtain ⟨a5, pk5, qk5⟩ := hk5;obtain ⟨b5, pv5, qv5⟩ := hv5;refine ⟨_, R8 (V1 pk0 pv0 (V1 pk1 pv1 (V1 pk2 pv2 (V1 pk3 pv3 (V1 pk4 pv4 (V1 pk5 pv5 Tt)))))) rfl rfl (by simp) (by simp), fun O H Z M Φ Q r e h kk p hp => ?_⟩;obtain ⟨u0, x0, ru0, i0, f0⟩ := qk0 O H Z M _ e h;clear h;obtain ⟨w0, y0, rw0, j0, g0⟩ := qv0 O H Z M _ e i0;clear i0;obtain ⟨u1, x1, ru1, i1, f1⟩ := qk1 O H Z M _ e j0;clear j0;obtain ⟨w1, y1, rw1, j1, g1⟩ := qv1 O H Z M _ e i1;clear i1;obtain ⟨u2, x2, ru2, i2, f2⟩ := qk2 O H Z M _ e j1;clear j1;obtain ⟨w2, y2, rw2, j2, g2⟩ := qv2 O H Z M _ e i2;clear i2;obtain ⟨u3, x3, ru3, i3, f3⟩ := qk3 O H Z M _ e j2;clear j2;obtain ⟨w3, y3, rw3, j3, g3⟩ := qv3 O H Z M _ e i3;clear i3;obtain ⟨u4, x4, ru4, i4, f4⟩ := qk4 O H Z M _ e j3;clear j3;obtain ⟨w4, y4, rw4, j4, g4⟩ := qv4 O H Z M _ e i4;clear i4;obtain ⟨u5, x5, ru5, i5, f5⟩ := qk5 O H Z M _ e j4;clear j4;obtain ⟨w5, y5, rw5, j5, g5⟩ := qv5 O H Z M _ e i5;clear i5;replace j5 := Qo j5;obtain ⟨s0, rfl, z0⟩ := j5;replace z0 := ZX z0;obtain ⟨d0, rfl, y0⟩ := z0;replace y0 := Qo y0;obtain ⟨s1, rfl, z1⟩ := y0;replace z1 := ZX z1;obtain ⟨d1, rfl, y1⟩ := z1;replace y1 := Qo y1;obtain ⟨s2, rfl, z2⟩ := y1;replace z2 := ZX z2;obtain ⟨d2, rfl, y2⟩ := z2;replace y2 := Qo y2;obtain ⟨s3, rfl, z3⟩ := y2;replace z3 := ZX z3;obtain ⟨d3, rfl, y3⟩ := z3;replace y3 := Qo y3;obtain ⟨s4, rfl, z4⟩ := y3;replace z4 := ZX z4;obtain ⟨d4, rfl, y4⟩ := z4;replace y4 := Qo y4;obtain ⟨s5, rfl, z5⟩ := y4;replace z5 := ZX z5;obtain ⟨d5, rfl, y5⟩ := z5;have h := y5;refine f0 _ _ (g0 _ _ (f1 _ _ (g1 _ _ (f2 _ _ (g2 _ _ (f3 _ _ (g3 _ _ (f4 _ _ (g4 _ _ (f5 _ _ (g5 _ _ ⟨Jp, [((Sum.inr s0 : Key), w0), ((Sum.inr s1 : Key), w1), ((Sum.inr s2 : Key), w2), ((Sum.inr s3 : Key), w3), ((Sum.inr s4 : Key), w4), ((Sum.inr s5 : Key), w5)], ?_, by simp, ?_⟩)))))))))))
 ·rw [ru0.str, ru1.str, ru2.str, ru3.str, ru4.str, ru5.str]; rfl
 ·have e1 : XC [] [((Sum.inr s0 : Key), w0), ((Sum.inr s1 : Key), w1), ((Sum.inr s2 : Key), w2), ((Sum.inr s3 : Key), w3), ((Sum.inr s4 : Key), w4), ((Sum.inr s5 : Key), w5)] = [((Sum.inr s0 : Key), w0), ((Sum.inr s1 : Key), w1), ((Sum.inr s2 : Key), w2), ((Sum.inr s3 : Key), w3), ((Sum.inr s4 : Key), w4), ((Sum.inr s5 : Key), w5)] := DX _ (by simpa using h.1);rw [e1, RS];exact kk _ _ (.own p) _ (r.MU (ps := [(Sum.inr s0, d0), (Sum.inr s1, d1), (Sum.inr s2, d2), (Sum.inr s3, d3), (Sum.inr s4, d4), (Sum.inr s5, d5)]) (Step.Va hp) (.cons rw0 (.cons rw1 (.cons rw2 (.cons rw3 (.cons rw4 (.cons rw5 .nil))))))) (Step.Va hp) rfl (h.2 p (r.tracked hp))
theorem OJ (tk0 tk1 tk2 tk3 tk4 tk5 tv0 tv1 tv2 tv3 tv4 tv5 : DTE) (Z : DSt) (M : Mp) (Φ : DK) : PJ tk0 tk1 tk2 tk3 tk4 tk5 tv0 tv1 tv2 tv3 tv4 tv5 Z M Φ = (tk0 Z M fun x0 M1 => tv0 Z M1 fun y0 M2 => tk1 Z M2 fun x1 M3 => tv1 Z M3 fun y1 M4 => tk2 Z M4 fun x2 M5 => tv2 Z M5 fun y2 M6 => tk3 Z M6 fun x3 M7 => tv3 Z M7 fun y3 M8 => tk4 Z M8 fun x4 M9 => tv4 Z M9 fun y4 M10 => tk5 Z M10 fun x5 M11 => tv5 Z M11 fun y5 M12 => onS x0 fun s0 => onD y0 fun d0 => onS x1 fun s1 => onD y1 fun d1 => onS x2 fun s2 => onD y2 fun d2 => onS x3 fun s3 => onD y3 fun d3 => onS x4 fun s4 => onD y4 fun d4 => onS x5 fun s5 => onD y5 fun d5 => ([s0, s1, s2, s3, s4, s5] : List Str).Nodup /\ ∀ p, M12 p = none -> Φ (.own p) (ZM M12 p (.dkv [(Sum.inr s0, d0), (Sum.inr s1, d1), (Sum.inr s2, d2), (Sum.inr s3, d3), (Sum.inr s4, d4), (Sum.inr s5, d5)]))) := propext Iff.rfl
theorem Dts.rep (h : Dts K M H vs ds) : ∀ n : Nat, Dts K M H (List.replicate n vs).flatten (List.replicate n ds).flatten
 | 0 => .nil
 | n + 1 => by rw [List.replicate_succ, List.replicate_succ, List.flatten_cons, List.flatten_cons]; exact h.append (h.rep n)
def ZaK : D2 := fun x y M Φ => onO x fun l => onI y fun i => Vp (M l) fun ds => (0 <= i /\ i < 2 ^ 63 /\ ds.length * i.toNat <= sizeLine) /\ Φ (.dat (.list (List.replicate i.toNat ds).flatten)) M
theorem ZbK : OpD X (binaryOp .Mult) ZaK := by
 refine ⟨_, ZbX, fun v u H x y M Φ Q r rv ru h k => ?_⟩;replace h := Z9 h;obtain ⟨l, rfl, h⟩ := h;replace h := ZS h;obtain ⟨i, rfl, h⟩ := h;replace h := Vs h;obtain ⟨ds, hl, ⟨h1, h2, h3⟩, q⟩ := h;cases (show v = .ref l from rv);obtain ⟨ws, g1, g2⟩ := r.ls l _ hl;exact ⟨l, i, ws, rfl, ru.int, g1, by omega, h2, by rw [g2.length]; exact h3, fun p hp => k.dat (r.new hp) (Step.new hp) (Dt.Y0 r hp (g2.rep _)) q⟩
theorem TJ (x y : DV) (M : Mp) (Φ : DK) : ZaK x y M Φ = (onO x fun l => onI y fun i => Vp (M l) fun ds => (0 <= i /\ i < 2 ^ 63 /\ ds.length * i.toNat <= sizeLine) /\ Φ (.dat (.list (List.replicate i.toNat ds).flatten)) M) := propext Iff.rfl
end
end DL
namespace DL
open PySem.W PySem.SeqAt PySem.MeetsSeq
section
def Zbu : D2 := fun x y M Φ => onT x fun ds => onI y fun k => (2 <= k /\ k <= 1000 /\ 1 <= ds.length /\ ds.length <= 1000) /\ Φ (.dat (.tuple (List.replicate k.toNat ds).flatten)) M
theorem NA : OpR X (binaryOp .Add) (fun x y H Q => ∃ a b xs ys, x = .ref a /\ y = .ref b /\ SqT X.K H a xs /\ SqT X.K H b ys /\ xs.length + ys.length <= sizeLine /\
  (xs = [] -> Q (.ref b) H) /\ (xs ≠ [] -> ys = [] -> Q (.ref a) H) /\ (xs ≠ [] -> ys ≠ [] -> ∀ p, H p = none -> Q (.ref p) (upd H p (.tup (xs ++ ys))))) := by
 intro pins s O H x y v u Q I rx ry h;obtain ⟨a, b, xs, ys, rfl, rfl, ha, hb, hz, q0, q1, q2⟩ := h
 by_cases hx : xs = []
 ·cases rx;cases ry;obtain ⟨its, r1, p1, _⟩ := I.tuple ha;obtain ⟨its2, r2, p2, _⟩ := I.tuple hb;obtain ⟨⟨cls, dd, data, sl⟩, ho, hc, n, hd⟩ := id p1;obtain ⟨⟨cls2, dd2, data2, sl2⟩, ho2, hc2, n2, hd2⟩ := id p2;simp only at hc hd hc2 hd2;subst hc hd hc2 hd2;have he : its = [] := r1.WX.mpr hx;exact concat_meets ⟨_, ho, rfl⟩ ⟨_, ho2, rfl⟩ noFill_tuple_add seq_tuple_add PySem.F.slot_tuple_add PySem.F.entry_tuple_add (PySem.F.args_tuple_add_2 _ _)
   (tuple_addW0 a b its.toArray its2.toArray n n2 dd dd2 sl sl2 (by rw [he]; rfl)) ⟨ho, ho2, ⟨.ref b, H, I, rfl, q0 hx⟩⟩
 ·exact Tv pins s O H _ _ v u Q I rx ry ⟨a, b, xs, ys, rfl, rfl, ha, hb, hx, hz, q1 hx, q2 hx⟩
def Fb : D2 := fun x y M Φ => onT x fun ds => onT y fun es => ds.length + es.length <= sizeLine /\ Φ (.dat (.tuple (ds ++ es))) M
theorem JR : OpD X (binaryOp .Add) Fb := by
 refine ⟨_, NA, fun v u H x y M Φ Q r rv ru h k => ?_⟩;replace h := Xz h;obtain ⟨ds, rfl, h⟩ := h;replace h := Xz h;obtain ⟨es, rfl, hz, q⟩ := h;obtain ⟨a, xs, rfl, h1, h2⟩ := id rv.tup;obtain ⟨b, ys, rfl, h3, h4⟩ := id ru.tup;refine ⟨a, b, xs, ys, rfl, rfl, h1.sq, h3.sq, by rw [h2.length, h4.length]; exact hz, fun e => ?_, fun e e2 => ?_, fun e e2 p hp => ?_⟩
 ·subst e;cases h2;exact k _ _ _ _ r Step.refl ru q
 ·subst e2;cases h4;rw [List.append_nil] at q;exact k _ _ _ _ r Step.refl rv q
 ·exact k.dat (r.new hp) (Step.new hp) (Dt.K8 r hp (h2.append h4)) q
theorem L4 (x y : DV) (M : Mp) (Φ : DK) : Fb x y M Φ = (onT x fun ds => onT y fun es => ds.length + es.length <= sizeLine /\ Φ (.dat (.tuple (ds ++ es))) M) := propext Iff.rfl
end
end DL
namespace DL
open PySem.W
noncomputable def Itz (K : Fk) (a b : Addr) : It :=
  ⟨fun i H => ∃ xs ys x y, SqL K H a xs /\ xs[i]? = some x /\ SqL K H b ys /\ ys[i]? = some y,
   fun i H v H' => ∃ T x y, (∀ xs, SqL K H a xs -> xs[i]? = some x) /\ (∀ ys, SqL K H b ys -> ys[i]? = some y) /\ H T = none /\ v = .ref T /\ H' = upd H T (.tup [x, y]),
   fun i H => ∃ xs ys, SqL K H a xs /\ SqL K H b ys /\ (xs.length <= i \/ ys.length <= i)⟩
def DB (a b : Addr) (n : Nat) (i : Nat) (h : Heap) : Prop :=
 IsZip h (n + 4) (n + 2) (n + 3) .none /\ IsPair h (n + 2) (.ref n) (.ref (n + 1)) /\ (∃ u v, IsPair h (n + 3) u v) /\ h.IsListIter n a i /\ h.IsListIter (n + 1) b i
theorem zn {p q : Nat} (h : p ≠ q) : n + p ≠ n + q := fun e => h (Nat.add_left_cancel e)
theorem zn0 {p : Nat} (h : p ≠ 0) : n + p ≠ n := fun e => h (by omega)
theorem DB.apart {xs ys : Array Value} (st : DB a b n i h) (ha : h.IsList a xs) (hb : h.IsList b ys) : ZipApart (n + 4) (n + 2) (n + 3) n (n + 1) a b := by
 obtain ⟨hz, h2, ⟨u, v, h3⟩, h0, h1⟩ := st;have nz : ∀ {l : Addr} {zs : Array Value} (_ : h.IsList l zs), l ≠ n + 4 /\ l ≠ n + 3 /\ l ≠ n /\ l ≠ n + 1 := by
  intro l zs hl;obtain ⟨o, ho, hc, _⟩ := hl;refine ⟨fun e => ?_, fun e => ?_, fun e => ?_, fun e => ?_⟩
  ·rw [e, hz] at ho; cases ho; exact absurd (Value.type.inj hc) (by decide)
  ·rw [e, h3] at ho; cases ho; exact absurd (Value.type.inj hc) (by decide)
  ·obtain ⟨o', ho', hc', _⟩ := h0;rw [e, ho'] at ho; cases ho; rw [hc'] at hc; exact absurd (Value.type.inj hc) (by decide)
  ·obtain ⟨o', ho', hc', _⟩ := h1;rw [e, ho'] at ho; cases ho; rw [hc'] at hc; exact absurd (Value.type.inj hc) (by decide)
 have A := nz ha;have B := nz hb;exact ⟨zn (by decide), zn (by decide), (zn0 (by decide)).symm, zn (by decide), zn (by decide), zn0 (by decide), zn (by decide), zn0 (by decide), zn (by decide), (zn0 (by decide)).symm, A.1, A.2.1, A.2.2.1, A.2.2.2, B.1, B.2.1, B.2.2.1, B.2.2.2⟩
theorem DB.keep (st : DB a b n i h) (k : ∀ c ∈ [n + 4, n + 2, n + 3, n, n + 1], ∀ o, h.get? c = some o -> h'.get? c = some o) : DB a b n i h' := by
 obtain ⟨hz, h2, ⟨u, v, h3⟩, h0, h1⟩ := st;exact ⟨k _ (by simp) _ hz, k _ (by simp) _ h2, ⟨u, v, k _ (by simp) _ h3⟩, h0.at fun o e => k _ (by simp) o e, h1.at fun o e => k _ (by simp) o e⟩
theorem Nz {elts : List Expr} {x1 : Nat} (a b : Addr) (n : Nat) : Turn P w K (.Tuple elts x1 pos) (Itz K a b) [n + 4, n + 2, n + 3, n, n + 1] (n + 4) (DB a b n) where
 mem := by simp
 obj := fun i h st c hc => by
  obtain ⟨hz, h2, ⟨u, v, h3⟩, h0, h1⟩ := st;have it : ∀ {p l : Addr} {j : Nat}, h.IsListIter p l j -> ∃ o, h.get? p = some o /\ ∀ v, o.data ≠ .cell v := fun ⟨o, ho, _, hd⟩ => ⟨o, ho, fun v z => by rw [hd] at z; cases z⟩;simp only [List.mem_cons, List.not_mem_nil, or_false] at hc
  rcases hc with rfl | rfl | rfl | rfl | rfl
  ·exact ⟨_, hz, fun v z => nomatch z⟩
  ·exact ⟨_, h2, fun v z => nomatch z⟩
  ·exact ⟨_, h3, fun v z => nomatch z⟩
  ·exact it h0
  ·exact it h1
 keep := fun i h h' st k => st.keep k
 item := by
  intro X hP hw hK hc i pins s O H E I hf st hg;subst hP hw hK;obtain ⟨xs, ys, x, y, hq, hx, hr, hy⟩ := hg;obtain ⟨its, rv, p, hz⟩ := I.list hq;obtain ⟨jts, rw', p', hz'⟩ := I.list hr;obtain ⟨u, hu, ru⟩ := rv.get hx;obtain ⟨v, hv, rv2⟩ := rw'.get hy;have hA : s.heap.IsList a its.toArray := p.isList;have hB : s.heap.IsList b jts.toArray := p'.isList;have D := st.apart hA hB;obtain ⟨tz, t2, ⟨c, d, t3⟩, t0, t1⟩ := st;refine wpAny_pyNext_zip_item D tz t2 t3 t0 t1 hA hB (x := u) (y := v) (by simpa using hu) (by simpa using hv) fun h' z1 z2 z3 z4 z5 z6 z7 => ?_;refine ⟨_, rfl, ?_⟩;refine wpAny_letOwnedTupleGo_zip z1 fun h2 hz2 hs2 => ?_;have zl : n + 4 < s.heap.objs.size := Heap.lt_size tz;have hTn : H s.heap.objs.size = none := I.hok.fresh (Nat.le_refl _);have g2 : h2.get? s.heap.objs.size = some { cls := .type "tuple", data := .seq #[u, v] } := (hs2.2 _ (Nat.ne_of_gt zl)).trans z5;have IA : L2.Inv X pins O (upd H s.heap.objs.size (.tup [x, y])) { s with heap := s.heap.push { cls := .type "tuple", data := .seq #[u, v] }, toks := s.toks } :=
   I.laid (t' := s.toks) (o := .tup [x, y]) (fun b ob q => Heap.get?_push_of_some _ q) (Nat.le_refl _) ⟨by rw [sizeLine_eq]; exact (by decide : 2 <= 16777216), [u, v], .cons ru (.cons rv2 .nil), IsTup.new _ _⟩
  have fN : ∀ c ∈ [n + 4, n + 2, n + 3, n, n + 1], El X pins (upd H s.heap.objs.size (.tup [x, y])) c := fun c hc => by
   have f := hf c hc;refine ⟨?_, f.2⟩;have hlt : c < s.heap.objs.size := by
    simp only [List.mem_cons, List.not_mem_nil, or_false] at hc
    rcases hc with rfl | rfl | rfl | rfl | rfl <;> omega
   rw [ZV (Nat.ne_of_lt hlt)];exact f.1
  have I2 : L2.Inv X pins O (upd H s.heap.objs.size (.tup [x, y])) { s with heap := h2, toks := s.toks } := CS (s := { s with heap := s.heap.push { cls := .type "tuple", data := .seq #[u, v] }, toks := s.toks }) (t' := s.toks) (ch := [n + 4, n + 2, n + 3, n, n + 1]) IA (fun c o hc q => by
   have q' : (s.heap.push { cls := .type "tuple", data := .seq #[u, v] }).get? c = some o := q;have n4 : c ≠ n + 4 := fun z => hc (by simp [z])
   by_cases hT : c = s.heap.objs.size
   ·rw [hT, Heap.get?_push_size _ rfl] at q';rw [hT, g2];exact q'
   ·have q2 : s.heap.get? c = some o := by
     rw [<- q'];exact (Heap.get?_push_ne _ _ _ hT).symm
    exact (hs2.2 c n4).trans (z7 c o n4 (fun z => hc (by simp [z])) (fun z => hc (by simp [z])) (fun z => hc (by simp [z])) q2)) fN
  refine ⟨.ref s.heap.objs.size, _, I2, rfl, ⟨_, x, y, fun zs hy => by rw [I.WD hy hq]; exact hx, fun zs hx => by rw [I.WD hx hr]; exact hy, hTn, rfl, rfl⟩, ?_, fun b hb => (fN b hb).1⟩;have e2 : h'.get? (n + 2) = _ := z7 (n + 2) _ (zn (by decide)) (zn (by decide)) (zn0 (by decide)) (zn (by decide)) t2;exact ⟨hz2, (hs2.2 _ (zn (by decide))).trans e2, ⟨u, v, (hs2.2 _ (zn (by decide))).trans z2⟩, z3.at fun o e => (hs2.2 _ (zn0 (by decide)).symm).trans e, z4.at fun o e => (hs2.2 _ (zn (by decide))).trans e⟩
 done := by
  intro X hP hw hK hc i pins s O H E I hf st hg;subst hP hw hK;obtain ⟨xs, ys, hq, hr, hl⟩ := hg;obtain ⟨its, rv, p, hz⟩ := I.list hq;obtain ⟨jts, rw', p', hz'⟩ := I.list hr;have hA : s.heap.IsList a its.toArray := p.isList;have hB : s.heap.IsList b jts.toArray := p'.isList;have D := st.apart hA hB;obtain ⟨tz, t2, ⟨c, d, t3⟩, t0, t1⟩ := st;have l1 := rv.length;have l2 := rw'.length;refine wpAny_pyNext_zip_end (show X.A.handled = none from I.ok.hd hc) D tz t2 t3 t0 t1 hA hB (hl.imp (fun h => by simp; omega) fun h => by simp; omega) fun h' hk => ?_;exact ⟨rfl, CS (t' := s.toks) (ch := [n + 4, n + 2, n + 3, n, n + 1]) I (fun c o hb q => hk c o (fun z => hb (by simp [z])) (fun z => hb (by simp [z])) (fun z => hb (by simp [z])) (fun z => hb (by simp [z])) q) fun b hb => hf b hb⟩
 self := fun _ _ _ _ _ st h => wpAny_pyIter_zip st.1 h
section
def ZiK (K : Fk) (ta : TA) : TI := fun O H R => ta O H fun vs H1 => ∃ a b, vs = [.ref a, .ref b] /\ (∃ xs, SqL K H1 a xs) /\ (∃ ys, SqL K H1 b ys) /\ R (Itz K a b) H1
theorem boot_zip : bootBuiltins "zip" = some (.type "zip") := by walk_at "k"
theorem Zdl {a b : Expr} {elts : List Expr} {x1 : Nat} {tp : Pos} {ta : TA} {p : Pos} (hg : Gl X "zip") (hm : X.mg "zip" = none) (ha : PA X [a, b] ta) (hs : autoParam (starEach [a, b] X.env = [(false, eval a X.env), (false, eval b X.env)]) zz3._auto_1) (hs2 : autoParam (starEach [b] X.env = [(false, eval b X.env)]) zz3._auto_1) : PI X (.Tuple elts x1 tp) (.Call (.Name "zip" p) [a, b] [] pos) (ZiK X.K ta) := by
 intro pins s O H R I h;refine Call_ (Vx I hg hm boot_zip (PyProof.Rows.callWith_type1 (thn (ha pos pins s O H _ I h) fun us s1 ⟨vs, H1, I1, r1, q1⟩ => ?_) (by rw [hs, hs2]) (by rw [hs2]; rfl)));obtain ⟨l, m, e, ⟨xs, hq⟩, ⟨ys, hr⟩, q⟩ := q1;subst e;cases r1 with
 | cons r rr =>
  cases rr with
  | cons r' rr =>
   cases rr;cases r;cases r';obtain ⟨its, rv, pt, hz⟩ := I1.list hq;obtain ⟨jts, rw', pt', hz'⟩ := I1.list hr;refine call_zip_2 pt.isList pt'.isList fun h' z1 z2 z3 z4 z5 hsz hk => ?_;have I2 : L2.Inv X pins O H1 { s1 with heap := h' } := I1.kept (t' := s1.toks) hk;refine wpAny_pyIter_zip z1 ?_;refine ⟨s1.heap.objs.size + 4, [s1.heap.objs.size + 4, s1.heap.objs.size + 2, s1.heap.objs.size + 3, s1.heap.objs.size, s1.heap.objs.size + 1], _, _, H1, rfl, I2, Nz l m s1.heap.objs.size, ⟨z1, z2, ⟨_, _, z3⟩, z4, z5⟩, fun c hc => ?_, q⟩;have hle : s1.heap.objs.size <= c := by
    simp only [List.mem_cons, List.not_mem_nil, or_false] at hc
    rcases hc with rfl | rfl | rfl | rfl | rfl <;> omega
   exact I1.Ss hle (I1.hok.fresh hle)
noncomputable def O5 (as bs : List PyData) : List PyData := List.zipWith (fun a b => .tuple [a, b]) as bs
theorem Nn {as bs : List PyData} {a b : PyData} (h : as[i]? = some a) (k : bs[i]? = some b) : (O5 as bs)[i]? = some (.tuple [a, b]) := by
 unfold O5;rw [List.getElem?_zipWith, h, k]
def ZhG (ta : DTA) : Y4 := fun Z M Ψ => ta Z M fun xs M1 => on2 xs fun x y => onL x fun as => onL y fun bs => Ψ (O5 as bs) M1
theorem Zdn {a b : Expr} {elts : List Expr} {x1 : Nat} {tp : Pos} {ta : DTA} {p p2 : Pos} (hg0 : Gl X "zip") (hm : X.mg "zip" = none) (ha : DA X [a, b] ta) (hs : autoParam (starEach [a, b] X.env = [(false, eval a X.env), (false, eval b X.env)]) zz3._auto_1) (hs2 : autoParam (starEach [b] X.env = [(false, eval b X.env)]) zz3._auto_1) :
  DI X (.Tuple elts x1 tp) (.Call (.Name "zip" p) [a, b] [] p2) (ZhG ta) := by
 obtain ⟨t1, p1, q1⟩ := ha;refine ⟨_, Zdl hg0 hm p1 hs hs2, fun O H Z M Ψ R dr er h k => ?_⟩;refine q1 O H Z M _ _ dr er h fun vs H1 xs M1 r1 st rv hx => ?_;replace hx := ZO hx;obtain ⟨x, y, rfl, hx⟩ := hx;replace hx := Dg hx;obtain ⟨as, rfl, hx⟩ := hx;replace hx := Dg hx;obtain ⟨bs, rfl, hΨ⟩ := hx;obtain ⟨v, u, rfl, hv, hu⟩ := Paired.two rv;obtain ⟨a, ys, rfl, h1, h2⟩ := hv.lst;obtain ⟨b, zs, rfl, h3, h4⟩ := hu.lst;have el : (O5 as bs).length = min as.length bs.length := by unfold O5; rw [List.length_zipWith]
 refine ⟨a, b, rfl, ⟨ys, h1.sq⟩, ⟨zs, h3.sq⟩, k _ H1 M1 _ r1 st (fun M2 H2 st2 i => ⟨fun hi => ?_, fun hi => ?_⟩) hΨ⟩
 ·rw [el] at hi;have hx : i < ys.length := by rw [h2.length]; omega
  have hy : i < zs.length := by rw [h4.length]; omega
  refine ⟨⟨ys, zs, ys[i], zs[i], (h1.step st2).sq, by simp [hx], (h3.step st2).sq, by simp [hy]⟩, fun y H' z => ?_⟩;obtain ⟨T, u, v, hu, hv, hT, rfl, rfl⟩ := z;intro r;obtain ⟨d, hd, hy⟩ := (h2.step st2).ZaD (hu ys (h1.step st2).sq);obtain ⟨d', hd', hy'⟩ := (h4.step st2).ZaD (hv zs (h3.step st2).sq);exact ⟨r.new hT, Step.new hT, _, Nn hd hd', Dt.K8 r hT (.cons hy (.cons hy' .nil))⟩
 ·rw [el] at hi;exact ⟨ys, zs, (h1.step st2).sq, (h3.step st2).sq, by rw [h2.length, h4.length]; omega⟩
theorem ZbT (ta : DTA) (Z : DSt) (M : Mp) (Ψ : List PyData -> Mp -> Prop) : ZhG ta Z M Ψ = (ta Z M fun xs M1 => on2 xs fun x y => onL x fun as => onL y fun bs => Ψ (O5 as bs) M1) := propext Iff.rfl
end
end DL
namespace DL
open PySem.W
section
abbrev DTP := DSt -> Mp -> (List (DV × DV) -> Mp -> Prop) -> Prop
def DPs (X : Cx) (pos : Pos) (keys : List (Option Expr)) (values : List Expr) (τ : DTP) : Prop :=
 ∃ trs, PPs X pos keys values trs /\ trs.length = keys.length /\ ∀ O H Z M Φ (Q : List (V × V) -> Hp -> Prop), ZR X.K M H -> Js X.K M H O Z -> τ Z M Φ ->
  (∀ ps H' qs M', ZR X.K M' H' -> Step M H M' H' -> Paired (fun (p : V × V) (q : DV × DV) => QC X.K M' H' p.1 q.1 /\ QC X.K M' H' p.2 q.2) ps qs -> Φ qs M' -> Q ps H') -> CY trs O H Q
def Zi1 : DTP := fun _ M Φ => Φ [] M
def Zhe (tk tv : DTE) (t : DTP) : DTP := fun Z M Φ => tk Z M fun x M1 => tv Z M1 fun y M2 => t Z M2 fun qs M3 => Φ ((x, y) :: qs) M3
def ZdJ : List (DV × DV) -> (List (Key × PyData) -> Prop) -> Prop
 | [], P => P []
 | (x, y) :: r, P => K1 x fun k => onD y fun d => ZdJ r fun l => P ((k, d) :: l)
def Zjd (t : DTP) : DTE := fun Z M Φ => ∀ p, M p = none -> t Z (ZM M p (.dkv [])) fun qs M2 => ZdJ qs fun l => M2 p = some (.dkv []) /\ ((l.map (·.1)).Nodup /\ l.length <= 15) /\ Φ (.own p) (ZM M2 p (.dkv l))
def ZiO (td ti tx : DTE) : DTE := fun Z M Φ => td Z M fun x M1 => onO x fun l => XM (M1 l) fun _ => ti Z M1 fun y M2 => tx Z M2 fun z M3 => onS y fun s => onD z fun d => XM (M3 l) fun ps => Φ (.dat ((QU ps (.inr s)).getD d)) M3
end
end DL
namespace DL
open PySem.W
section
variable {O : L2.St}
theorem Dts.Zbz (I : Inv X pins O H s) : ∀ {vs : List V} {ds : List PyData}, Dts X.K M H vs ds -> ∀ {us : List Value}, Vals vs us -> (∀ d ∈ ds, Shw d) ->
  ∃ as bs, ReadsAll s.heap us ds as /\ ReadAtMost s.heap (PyData.depthAll ds) bs /\ ReprAllK X.prog X.w bs s.heap (PyData.depthAll ds) us (PyData.shownAll ds)
 | _, _, .nil, _, r, _ => by
  cases r;exact ⟨[], [], .nil, (fun _ h => nomatch h), by simp only [PyData.shownAll]; exact .nil⟩
 | _, _, .cons (d := d) (ds := ds) h1 h2, _, r, hs => by
  cases r with
  | cons r1 r2 =>
   obtain ⟨as, ra, ha⟩ := Dt.reads I h1 r1;obtain ⟨as', bs', rb, hb, kb⟩ := Dts.Zbz I h2 r2 fun x hx => hs x (List.mem_cons_of_mem _ hx);have sd := hs d List.mem_cons_self;obtain ⟨b1, hb1, k1⟩ := ReprK.of_reads (prog := X.prog) (w := X.w) ra sd.s (fun hx => ha (by have := sd.m; rw [hx, Bool.true_and] at this; exact this)) sd.z;refine ⟨as ++ as', b1 ++ bs', .cons ra rb, ?_, ?_⟩
   ·intro b hm;simp only [PyData.depthAll]
    rcases List.mem_append.mp hm with hm | hm
    ·obtain ⟨d', as', r', hd'⟩ := hb1 b hm;exact ⟨d', as', r', Nat.le_trans hd' (Nat.le_max_left _ _)⟩
    ·obtain ⟨d', as', r', hd'⟩ := hb b hm;exact ⟨d', as', r', Nat.le_trans hd' (Nat.le_max_right _ _)⟩
   ·simp only [PyData.depthAll, PyData.shownAll];exact .cons ((k1.more fun b hb => List.mem_append_left _ hb).level_le (Nat.le_max_left _ _)) (kb.more_le (fun b hb => List.mem_append_right _ hb) (Nat.le_max_right _ _))
end
section
def ZfT : D1 := fun xs M Φ => on1 xs fun x => onT x fun ds => ((∀ d ∈ ds, Shw d) /\ (PyData.tuple ds).depth <= 64 /\ (PyData.tuple ds).shown.length <= sizeLine) /\ Φ (.dat (.str (PyData.tuple ds).shown)) M
end
end DL
namespace DL
open PySem.W
def Rsg (l : List Nat) : Prop := l.Pairwise (· < ·)
theorem Rsg.lt {l : List Nat} (h : Rsg l) {u v : Nat} (hi : l[i]? = some u) (hj : l[j]? = some v) (hij : i < j) : u < v := by
 obtain ⟨h1, rfl⟩ := List.getElem?_eq_some_iff.mp hi;obtain ⟨h2, rfl⟩ := List.getElem?_eq_some_iff.mp hj;exact (List.pairwise_iff_getElem.mp h) i j h1 h2 hij
def Spl (l : List Nat) (j r : Nat) : Prop := (∀ k v, k < r -> l[k]? = some v -> v < j) /\ (∀ k v, r <= k -> l[k]? = some v -> j <= v) /\ r <= l.length
theorem Ur {xs : Array Nat} (h : Rsg xs.toList) (j : Nat) : ∀ fuel lo hi, hi - lo <= fuel -> lo <= hi -> hi <= xs.size -> (∀ k v, k < lo -> xs.toList[k]? = some v -> v < j) -> (∀ k v, hi <= k -> xs.toList[k]? = some v -> j <= v) -> Spl xs.toList j (SetTable.below.go xs j fuel lo hi)
 | 0, lo, hi, hf, hl, hs, h1, h2 => by
  have e : hi = lo := by omega
  subst e;exact ⟨h1, h2, by rw [Array.length_toList]; exact hs⟩
 | fuel + 1, lo, hi, hf, hl, hs, h1, h2 => by
  unfold SetTable.below.go
  by_cases hlt : lo < hi
  ·rw [if_pos hlt];dsimp only;have hm : (lo + hi) / 2 < xs.size := by omega
   have hg : xs.toList[(lo + hi) / 2]? = some (xs.getD ((lo + hi) / 2) j) := by
    rw [Array.getElem?_toList, Array.getElem?_eq_getElem hm];simp [Array.getD, hm]
   by_cases hc : xs.getD ((lo + hi) / 2) j < j
   ·rw [if_pos hc];refine Ur h j fuel _ _ (by omega) (by omega) hs (fun k v hk hv => ?_) h2
    by_cases e : k = (lo + hi) / 2
    ·rw [e, hg] at hv;cases hv;exact hc
    ·exact Nat.lt_trans (h.lt hv hg (by omega)) hc
   ·rw [if_neg hc];refine Ur h j fuel _ _ (by omega) (by omega) (by omega) h1 (fun k v hk hv => ?_)
    by_cases e : k = (lo + hi) / 2
    ·rw [e, hg] at hv;cases hv;omega
    ·have := h.lt hg hv (by omega);omega
  ·rw [if_neg hlt];have e : hi = lo := by omega
   subst e;exact ⟨h1, h2, by rw [Array.length_toList]; exact hs⟩
theorem X8 {xs : Array Nat} (h : Rsg xs.toList) (j : Nat) : Spl xs.toList j (SetTable.below xs j) := by
 unfold SetTable.below;exact Ur h j _ _ _ (by omega) (by omega) (Nat.le_refl _) (fun k v hk => absurd hk (by omega)) fun k v hk hv => by
  have := (List.getElem?_eq_some_iff.mp hv).1;rw [Array.length_toList] at this;omega
theorem DP {xs : Array Nat} (h : Rsg xs.toList) (hn : xs[SetTable.below xs j]? ≠ some j) : Rsg (SetTable.insertAt xs (SetTable.below xs j) j).toList := by
 obtain ⟨h1, h2, h3⟩ := X8 h j;rw [SetTable.toList_insertAt];have hd : ∀ v ∈ xs.toList.drop (SetTable.below xs j), j < v := fun v hv => by
  obtain ⟨k, hk⟩ := List.mem_iff_getElem?.mp hv;rw [List.getElem?_drop] at hk;have l1 := h2 _ v (Nat.le_add_right _ k) hk
  by_cases e : k = 0
  ·rw [e, Nat.add_zero, Array.getElem?_toList] at hk
   rcases Nat.lt_or_eq_of_le l1 with z | z
   ·exact z
   ·rw [<- z] at hk;exact absurd hk hn
  ·have hb := (List.getElem?_eq_some_iff.mp hk).1;have := h.lt (List.getElem?_eq_getElem (show SetTable.below xs j < xs.toList.length by omega)) hk (by omega);have := h2 _ _ (Nat.le_refl _) (List.getElem?_eq_getElem (show SetTable.below xs j < xs.toList.length by omega));omega
 have ht : ∀ u ∈ xs.toList.take (SetTable.below xs j), u < j := fun u hu => by
  obtain ⟨k, hk⟩ := List.mem_iff_getElem?.mp hu;rw [List.getElem?_take] at hk
  split at hk
  ·exact h1 k u (by assumption) hk
  ·cases hk
 refine List.pairwise_append.mpr ⟨h.sublist (List.take_sublist _ _), List.pairwise_cons.mpr ⟨hd, h.sublist (List.drop_sublist _ _)⟩, fun u hu v hv => ?_⟩
 rcases List.mem_cons.mp hv with rfl | hv
 ·exact ht u hu
 ·exact Nat.lt_trans (ht u hu) (hd v hv)
structure TOk (bt : Bool) (t : SetTable) : Prop where
 led : t.led = !bt
 dm : t.dummies = #[]
 up : t.plain = true -> Rsg t.place.toList
theorem Sf {t : SetTable} (h : t.dummies = #[]) (j : Nat) : t.slot j ≠ .dummy := by
 unfold SetTable.slot SetTable.has;rw [h];dsimp only
 split
 ·exact fun e => nomatch e
 ·simp
theorem Kf {t : SetTable} {f : Nat -> Int} {h : Int} (hd : t.dummies = #[]) : ∀ (fuel : Nat) (p : SetTable.Probe), p.dummy = none -> ∀ j d, SetTable.probe.go t f h fuel p = some (.empty j d) -> d = none /\ t.slot j = .empty
 | 0, p, _, j, d, e => by unfold SetTable.probe.go at e; cases e
 | fuel + 1, p, hp, j, d, e => by
  unfold SetTable.probe.go at e;cases q : t.slot p.j with
  | empty =>
   rw [q] at e;cases e;exact ⟨hp, q⟩
  | dummy => exact absurd q (Sf hd _)
  | live i =>
   rw [q] at e;dsimp only at e
   split at e
   ·cases e
   ·refine Kf hd fuel _ ?_ j d e;unfold SetTable.advance
    split
    ·exact hp
    ·exact hp
theorem Oe {t : SetTable} {h : Int} {b : Bool} (hd : t.dummies = #[]) (e : t.freeSlot h = some (j, b)) : t.place[SetTable.below t.place j]? ≠ some j := by
 unfold SetTable.freeSlot at e
 split at e
 ·rename_i j' d' q;unfold SetTable.probe at q;obtain ⟨rfl, hs⟩ := Kf hd _ _ rfl _ _ q;simp only [Option.getD_none, Option.isSome_none, Option.some.injEq, Prod.mk.injEq] at e;obtain ⟨rfl, _⟩ := e;unfold SetTable.slot at hs;dsimp only at hs;intro z;rw [if_pos (by rw [z]; simp)] at hs;cases hs
 ·cases e
theorem TOk.NQ {bt : Bool} {t : SetTable} (h : TOk bt t) (n : Nat) : TOk bt (t.standIn n) := ⟨h.led, rfl, fun e => by simp [SetTable.standIn] at e⟩
theorem TOk.new {bt : Bool} {t : SetTable} (h : TOk bt t) (es : Array (Int × Value)) (k : Int) (x : Value) : TOk bt (layNew t es k x).2.1 := by
 unfold layNew
 split
 ·rename_i sl wd e;have hn := Oe h.dm e;have hp : TOk bt (t.put sl).1 := by
   unfold SetTable.put;refine ⟨h.led, ?_, fun e => DP (h.up e) hn⟩;show (if SetTable.has t.dummies sl = true then _ else t.dummies) = #[];rw [h.dm]
   split
   ·simp [SetTable.eraseAt]
   ·rfl
  dsimp only;unfold SetTable.orStandIn
  split
  ·exact hp
  ·exact hp.NQ _
 ·exact h.NQ _
theorem ZaA (f : Nat -> Option Nat) (n : Nat) : Rsg ((((List.range n).filterMap fun j => (f j).map (j, ·)).map (·.1))) := by
 have h : (((List.range n).filterMap fun j => (f j).map (j, ·)).map (·.1)).Sublist (List.range n) := by
  induction (List.range n) with
  | nil => exact .slnil
  | cons a l ih =>
   rw [List.filterMap_cons];cases f a with
   | none => exact ih.cons a
   | some v => exact ih.cons₂ a
 exact List.pairwise_lt_range.sublist h
theorem TOk.re {bt : Bool} {t : SetTable} (h : TOk bt t) (es : Array (Int × Value)) (n : Nat) : TOk bt (relayAll t es n).2.1 := by
 unfold relayAll
 split
 ·rename_i t' order e;dsimp only
  split
  ·unfold SetTable.relaid SetTable.laid at e;cases q : SetTable.layClean (SetTable.sizeAbove n - 1) (es.map (·.1)) with
   | none => rw [q] at e; cases e
   | some ow =>
    rw [q] at e;simp only [Option.pure_def, Option.bind_eq_bind, Option.bind_some, Option.some.injEq, Prod.mk.injEq] at e;obtain ⟨rfl, _⟩ := e;exact ⟨h.led, rfl, fun _ => by simpa using ZaA (fun j => ow.getD j none) _⟩
  ·exact h.NQ _
 ·exact h.NQ _
end DL
namespace DL
open PySem.W
noncomputable def Zjc : Value -> Int
 | .int i _ => i
 | _ => 0
abbrev C8 := Array (Int × Value)
noncomputable def Zhg (es : C8) : List Int := es.toList.map fun e => Zjc e.2
structure ZiG (P : Program) (w : World) (o : Obj) (es : C8) (t : SetTable) : Prop where
 ex : o.ExactSet
 dt : ∃ ep, o.data = .set es ep t
 el : ElemsOf (intKind P w) es.toList
 bd : es.size < scanBound
 ft : t.fits es.size = true
 ok : TOk (w.params.followText "set-order") t
 nd : (Zhg es).Nodup
def SI (P : Program) (w : World) (h : Heap) (a : Addr) (ks : List Int) : Prop := ∃ o es t, h.get? a = some o /\ ZiG P w o es t /\ ks = Zhg es
section
variable {E : Value -> Shared -> Prop}
theorem SI.same {ks : List Int} (hS : SI P w h a ks) (k : ∀ o, h.get? a = some o -> h'.get? a = some o) : SI P w h' a ks := by
 obtain ⟨o, es, t, g, r⟩ := hS;exact ⟨o, es, t, k o g, r⟩
end
end DL
namespace DL
open PySem.W
section
variable {R : Result -> Shared -> Prop} {I : Addr} {fp wr : List Addr} {G : Array GenState -> Array GenState -> Prop} {Pv : Nat -> Value -> Prop} {St : Nat -> Shared -> Prop}
end
section
variable {E : Value -> Shared -> Prop}
noncomputable def VF (w : World) : Obj := { cls := .type "set", dict := none, data := .set #[] 0 (.fresh 0 0 (!w.params.followText "set-order")) }
theorem Zdz (a : Value) {Q₁ : Value -> Shared -> Prop} (h : Q₁ (.ref s.heap.objs.size) { s with heap := s.heap.push (VF w) }) :
  codeAny (model P w) A (.call (.builtin "set.__new__") ⟨[.type "set", a], []⟩) (wants Q₁ E) s := by
 refine codeAny_of_tree ?_;refine wpAny_bind (m := checkBuiltinCall "set.__new__" ⟨[.type "set", a], []⟩) (wpAny_of_eq (PySem.F.newCall_set_1 a) (wpAny_pure ⟨plainId_quiet PySem.F.plain_set_new _, codeAny_builtin PySem.F.entry_set_new ?_⟩));rw [Around.under_plainId PySem.F.plain_set_new _]; unfold Builtin.«set.__new__» Builtin.Frozenset.newClass;have hsub := sub_set_self;obtain ⟨hp, g, d, tk, os⟩ := s; dsimp only; wp_walk;refine wpAny_askSetting (wpAny_pure ?_); dsimp only; simp only [newObj];exact wpAny_bind (wpAny_alloc (wpAny_pure (wpAny_pure h)))
set_option maxHeartbeats 4000000 in
end
end DL
namespace DL
open PySem.W
section
variable {E : Value -> Shared -> Prop}
theorem FP {src : Source} {Q : Nat -> Shared -> Prop} (hn : n ≠ 0) (h : ∀ r, r < n -> Q r { s with drawn := s.drawn.bump src }) : wpAny (model P w) A (choose src n) Q E s := fun _ _ _ => ⟨hn, h _ (Nat.mod_lt _ (Nat.pos_of_ne_zero hn))⟩
theorem Xh {α : Type} : ∀ (l : List α) (r : Nat) (h : r < l.length), (l[r] :: l.eraseIdx r).Perm l
 | a :: l, 0, _ => .refl _
 | a :: l, r + 1, h => by
  rw [List.getElem_cons_succ, List.eraseIdx_cons_succ];exact (List.Perm.swap a _ _).trans ((Xh l r (Nat.lt_of_succ_lt_succ h)).cons a)
theorem Fm {α : Type} : ∀ (n : Nat) (xs : List α) (s : Shared) (Q : List α -> Shared -> Prop), xs.length = n -> (∀ ys d, ys.Perm xs -> Q ys { s with drawn := d }) -> wpAny (model P w) A (drawOrder n xs) Q E s
 | 0, xs, s, Q, hl, h => by
  cases xs with
  | nil => exact wpAny_pure (h [] s.drawn (.refl _))
  | cons a l => cases hl
 | n + 1, [], s, Q, hl, h => by cases hl
 | n + 1, a :: l, s, Q, hl, h => by
  unfold drawOrder;refine wpAny_bind (FP (by simp) fun r hr => ?_);rw [List.getElem?_eq_getElem hr]; dsimp only;refine wpAny_bind (Fm n _ _ _ (by rw [List.length_eraseIdx, if_pos hr]; simpa using hl) fun ys d hp => wpAny_pure ?_);exact h _ d ((hp.cons _).trans (Xh _ _ hr))
theorem HR {α : Type} (next : Nat -> Nat) : ∀ (fuel k : Nat) (left : List α) (out : Array α), left.length = fuel -> (pickOrder.go next fuel k left out).toList.Perm (out.toList ++ left)
 | 0, k, left, out, hl => by
  rw [List.length_eq_zero_iff.mp hl, List.append_nil];unfold pickOrder.go;exact .refl _
 | fuel + 1, k, left, out, hl => by
  have hr : next k % left.length < left.length := Nat.mod_lt _ (by omega);unfold pickOrder.go;rw [List.getElem?_eq_getElem hr]; dsimp only;refine (HR next fuel (k + 1) _ _ (by rw [List.length_eraseIdx, if_pos hr, hl]; rfl)).trans ?_;rw [Array.toList_push, List.append_assoc];exact (List.Perm.refl _).append (Xh _ _ hr)
theorem YG {α : Type} (next : Nat -> Nat) (xs : Array α) : (pickOrder next xs).toList.Perm xs.toList := by
 unfold pickOrder;have := HR next xs.size 0 xs.toList #[] (by rw [Array.length_toList])
 simpa using this
abbrev VM (h : Heap) (it : Addr) (first : Value) (i : Nat) (S : Addr) (n ep : Nat) : Prop :=
 h.get? it = some { cls := .type "set_iterator", dict := none, data := .fields #[first, rawInt i, .ref S, rawInt n, rawInt ep], slots := #[] }
def Md (w : World) (h : Heap) (first : Value) (i : Nat) (S : Addr) (es : C8) (ep : Nat) (t : SetTable) (L : List Value) : Prop :=
 (w.params.followText "set-order" = true /\ first = rawInt 0 /\ L = (pickOrder (w.params.setOrder S ep) es).toList.map (·.2)) \/
 (w.params.followText "set-order" = false /\ ∃ (T : Addr) (ps : List Nat), first = .ref T /\ IsTup h T (ps.map fun p : Nat => rawInt (p : Int)).toArray /\ ps.Perm (List.range es.size) /\ L = ps.map fun p => (es.getD p (0, .none)).2) \/
 (w.params.followText "set-order" = false /\ first = rawInt (if i = 0 then 0 else t.place.getD (i - 1) 0 + 1) /\ Rsg t.place.toList /\ t.led = true /\ (t.plain = true \/ es.size <= 1) /\ L = es.toList.map (·.2))
theorem Zbn {first x : Value} {z : Int} {Q : PySem.Fin -> Shared -> Prop} (hit : VM s.heap it first i S n ep) (hQ : ∀ h', VM h' it (rawInt z) (i + 1) S n ep -> Heap.SameBut it s.heap h' -> Q (.done (.ret x)) { s with heap := h' }) :
  wpAny (model P w) A (do setField (.ref it) 0 (rawInt z); setField (.ref it) 1 (rawInt ((i : Int) + 1)); ret x) Q E s := by
 refine wpAny_bind (wpAny_setField_rec hit (by simp) fun h1 g1 s1 => ?_);refine wpAny_bind (wpAny_setField_rec (s := { s with heap := h1 }) g1 (by simp) fun h2 g2 s2 => wpAny_pure ?_);exact hQ h2 g2 (s1.trans s2)
theorem ZgD {first x : Value} {Q : PySem.Fin -> Shared -> Prop} (hit : VM s.heap it first i S n ep) (hQ : ∀ h', VM h' it first (i + 1) S n ep -> Heap.SameBut it s.heap h' -> Q (.done (.ret x)) { s with heap := h' }) :
  wpAny (model P w) A (do setField (.ref it) 1 (rawInt ((i : Int) + 1)); ret x) Q E s :=
 wpAny_bind (wpAny_setField_rec hit (by simp) fun h1 g1 s1 => wpAny_pure (hQ h1 g1 s1))
theorem FD {o : Obj} {es : C8} {t : SetTable} {Q : C8 -> Shared -> Prop} (ho : s.heap.get? S = some o) (hd : o.data = .set es ep t) (hf : t.fits es.size = true) (bt : w.params.followText "set-order" = true) (h : Q (pickOrder (w.params.setOrder S ep) es) s) : wpAny (model P w) A (setWalk S) Q E s := by
 unfold setWalk setsByText;refine wpAny_bind (wpAny_setState_of ho hd hf ?_); dsimp only;refine wpAny_bind (wpAny_bind (wpAny_askSetting (wpAny_pure ?_)));rw [if_pos (show (model P w).w.params.followText "set-order" = true from bt)];exact wpAny_bind (wpAny_askSetting (wpAny_pure h))
theorem below_at {xs : Array Nat} (h : Rsg xs.toList) (hi : i < xs.size) : SetTable.below xs (if i = 0 then 0 else xs.getD (i - 1) 0 + 1) = i := by
 have sp := X8 h (if i = 0 then 0 else xs.getD (i - 1) 0 + 1);generalize SetTable.below xs (if i = 0 then 0 else xs.getD (i - 1) 0 + 1) = r at sp;obtain ⟨s1, s2, s3⟩ := sp;rw [Array.length_toList] at s3;have at' : ∀ k, k < xs.size -> xs.toList[k]? = some (xs.getD k 0) := fun k hk => by rw [Array.getElem?_toList, Array.getElem?_eq_getElem hk]; simp [Array.getD, hk]
 by_cases e : i = 0
 ·subst e;rw [if_pos rfl] at s1
  by_cases hr : r = 0
  ·exact hr
  ·exact absurd (s1 0 _ (by omega) (at' 0 (by omega))) (Nat.not_lt_zero _)
 ·rw [if_neg e] at s1 s2;have h1 : ¬ r <= i - 1 := fun z => by
   have := s2 _ _ z (at' (i - 1) (by omega));omega
  have h2 : ¬ i < r := fun z => by
   have a := s1 i _ z (at' i hi);have b := h.lt (at' (i - 1) (by omega)) (at' i hi) (by omega);omega
  omega
theorem Zaa {first : Value} {o : Obj} {es : C8} {t : SetTable} {L : List Value} {Q : Fin -> Shared -> Prop} (hit : VM s.heap it first i S n ep) (ho : s.heap.get? S = some o) (hd : o.data = .set es ep t) (hf : t.fits es.size = true) (hn : es.size = n)
  (md : Md w s.heap first i S es ep t L) (hi : i < n)
  (hQ : ∀ h' v first', L[i]? = some v -> VM h' it first' (i + 1) S n ep -> Heap.SameBut it s.heap h' -> (∀ h'', (∀ b o, s.heap.get? b = some o -> b ≠ it -> h''.get? b = some o) -> Md w h'' first' (i + 1) S es ep t L) -> (∀ T', first' = .ref T' -> first = .ref T') -> Q (.done (.ret v)) { s with heap := h' }) :
  wpAny (model P w) A (Builtin.«set_iterator.__next__» ⟨[.ref it], []⟩) Q E s := by
 subst hn;show wpAny _ _ (fieldsOf (.ref it) >>= _) _ _ _;refine wpAny_bind (wpAny_fieldsOf hit rfl ?_);refine wpAny_bind (wpAny_setEntries_of ho hd hf ?_);rw [if_neg (by simp)]; dsimp only
 rcases md with ⟨bt, rfl, rfl⟩ | ⟨bt, T, ps, rfl, hT, hp, rfl⟩ | ⟨bt, rfl, up, led, pl, rfl⟩
 ·show wpAny _ _ (setNext S 0 ((i : Int)).toNat ((ep : Int)).toNat >>= _) _ _ _;rw [Int.toNat_natCast, Int.toNat_natCast];unfold setNext setsByText;refine wpAny_bind (wpAny_bind (wpAny_setState_of ho hd hf ?_)); dsimp only;refine wpAny_bind (wpAny_bind (wpAny_askSetting (wpAny_pure ?_)));rw [if_pos (show (model P w).w.params.followText "set-order" = true from bt), if_neg (by simp)];refine wpAny_bind (FD ho hd hf bt (wpAny_pure ?_));have lp : (pickOrder (w.params.setOrder S ep) es).size = es.size := by rw [<- Array.length_toList, (YG _ es).length_eq, Array.length_toList]
  rw [Array.getElem?_eq_getElem (by rw [lp]; exact hi)];refine Zbn (z := ((0 : Nat) : Int)) hit fun h' g sb => hQ h' _ _ ?_ g sb (fun h'' _ => .inl ⟨bt, rfl, rfl⟩) fun T' e => nomatch e;rw [List.getElem?_map, Array.getElem?_toList, Array.getElem?_eq_getElem (by rw [lp]; exact hi)];rfl
 ·show wpAny _ _ (seqItems? (.ref T) >>= _) _ _ _;obtain ⟨oT, gT, cT, nT, dT⟩ := hT;have lp : ps.length = es.size := by rw [hp.length_eq, List.length_range]
  refine wpAny_bind (wpAny_seqItems gT dT ?_); dsimp only;have ip : i < ps.length := by omega
  have pe : ps[i] < es.size := List.mem_range.mp (hp.mem_iff.mp (List.getElem_mem ip));rw [Int.toNat_natCast, List.getElem?_toArray, List.getElem?_map, List.getElem?_eq_getElem ip];show wpAny _ _ (setNextDrawn S ((ps[i] : Int)).toNat ((ep : Int)).toNat >>= _) _ _ _;rw [Int.toNat_natCast, Int.toNat_natCast]; unfold setNextDrawn;refine wpAny_bind (wpAny_bind (wpAny_setState_of ho hd hf ?_)); dsimp only;rw [if_neg (by simp), Array.getElem?_eq_getElem pe]; dsimp only;refine wpAny_pure (ZgD hit fun h' g sb => hQ h' _ _ ?_ g sb (fun h'' kk => .inr (.inl ⟨bt, T, ps, rfl, ⟨oT, kk T oT gT ?_, cT, nT, dT⟩, hp, rfl⟩)) fun T' e => e)
  ·rw [List.getElem?_map, List.getElem?_eq_getElem ip];simp [Array.getD, pe]
  ·intro e;rw [e, hit] at gT;cases gT;exact absurd (Value.type.inj cT) (by decide)
 ·have sz : t.place.size = es.size := by
   unfold SetTable.fits at hf;rw [Bool.and_eq_true] at hf;exact eq_of_beq hf.1
  show wpAny _ _ (setNext S ((if i = 0 then (0 : Int) else (t.place.getD (i - 1) 0 : Int) + 1)).toNat ((i : Int)).toNat ((ep : Int)).toNat >>= _) _ _ _;have ez : (if i = 0 then (0 : Int) else (t.place.getD (i - 1) 0 : Int) + 1).toNat = (if i = 0 then 0 else t.place.getD (i - 1) 0 + 1) := by split <;> omega
  rw [ez, Int.toNat_natCast, Int.toNat_natCast];unfold setNext setsByText;refine wpAny_bind (wpAny_bind (wpAny_setState_of ho hd hf ?_)); dsimp only;refine wpAny_bind (wpAny_bind (wpAny_askSetting (wpAny_pure ?_)));rw [if_neg (show ¬ (model P w).w.params.followText "set-order" = true by rw [show (model P w).w.params.followText "set-order" = false from bt]; exact Bool.false_ne_true)];have nd : (!t.plain && decide (es.size > 1)) = false := by
   rcases pl with pl | pl
   ·rw [pl]; rfl
   ·rw [decide_eq_false (by omega), Bool.and_false]
  show wpAny _ _ (if (!t.plain && decide (es.size > 1)) = true then _ else _) _ _ _;rw [nd, if_neg Bool.false_ne_true];show wpAny _ _ ((if (!t.led && !es.isEmpty) = true then unsupported "set:maker-not-led" else pure ()) >>= _) _ _ _;rw [led]; simp only [Bool.not_true, Bool.false_and, Bool.false_eq_true, if_false];refine wpAny_bind (wpAny_pure (wpAny_pure ?_));rw [below_at up (by rw [sz]; exact hi), Array.getElem?_eq_getElem hi, Array.getElem?_eq_getElem (by rw [sz]; exact hi)]; dsimp only;refine Zbn (z := ((t.place[i]'(by rw [sz]; exact hi) + 1 : Nat) : Int)) hit fun h' g sb => hQ h' _ _ ?_ g sb (fun h'' _ => .inr (.inr ⟨bt, ?_, up, led, pl, rfl⟩)) fun T' e => nomatch e
  ·rw [List.getElem?_map, Array.getElem?_toList, Array.getElem?_eq_getElem hi];rfl
  ·rw [if_neg (Nat.succ_ne_zero i)];simp [Array.getD, sz, hi]
end
end DL
namespace DL
open PySem.W
theorem JL : Slot "set_iterator" "__next__" "set_iterator.__next__" := .of (owner := "set_iterator") (n := "__next__") (by rw [typeLookup_type, builtinLookup_eq_fast]; kernel_rfl) (by walk_at "k") (by walk_at "k") (by walk_at "k") (by first | exact .inl (by walk_at "k") | exact .inr (by walk_at "k")) (by rw [isSubtype_type]; kernel_rfl)
theorem UR : entryFor table "set_iterator.__next__" = some Builtin.«set_iterator.__next__» := entryFor_of_tree (by kernel_rfl)
theorem Dz (a : Value) : argsOk "set_iterator.__next__" ⟨[a], []⟩ := by unfold argsOk; kernel_rfl
theorem GR : Slot "set_iterator" "__iter__" "set_iterator.__iter__" := .of (owner := "set_iterator") (n := "__iter__") (by rw [typeLookup_type, builtinLookup_eq_fast]; kernel_rfl) (by walk_at "k") (by walk_at "k") (by walk_at "k") (by first | exact .inl (by walk_at "k") | exact .inr (by walk_at "k")) (by rw [isSubtype_type]; kernel_rfl)
theorem En : entryFor table "set_iterator.__iter__" = some Builtin.«dict_keyiterator.__iter__» :=
 entryFor_alias (id' := "dict_keyiterator.__iter__") (by kernel_rfl) (by first | rfl | decide +kernel | (unfold String.splitOn; simp +decide [String.splitOnAux])) (by walk_at "k") (by kernel_rfl)
theorem LL (a : Value) : argsOk "set_iterator.__iter__" ⟨[a], []⟩ := by unfold argsOk; kernel_rfl
theorem Cq : entryFor table "set.__iter__" = some Builtin.«frozenset.__iter__» :=
 entryFor_alias (id' := "frozenset.__iter__") (by kernel_rfl) (by first | rfl | decide +kernel | (unfold String.splitOn; simp +decide [String.splitOnAux])) (by walk_at "k") (by kernel_rfl)
section
variable {E : Value -> Shared -> Prop}
theorem FA {α : Type} {Q : α -> Shared -> Prop} (hh : A.handled = none) (hE : ∀ h' e, (∀ b o, s.heap.get? b = some o -> h'.get? b = some o) -> (∃ o, h'.get? e = some o /\ o.cls = .type "StopIteration") -> E (.ref e) { s with heap := h' }) :
  wpAny (model P w) A (newExc (.type "StopIteration") [] >>= fun e => (raiseNew e : Sem α)) Q E s := by
 refine wpAny_bind ?_;simp only [newExc, newTuple];refine wpAny_bind (wpAny_newObj_type ?_ (by size_fits));refine wpAny_bind (m := firstArgMember _ _) (wpAny_of_eq (a := Value.none) (by first | rfl | (simp only [firstArgMember]; rfl)) ?_);refine wpAny_newObj_type ?_ (by size_fits);simp only [raiseNew];refine wpAny_bind (wpAny_handled ?_);rw [hh];refine wpAny_bind (wpAny_pure (wpAny_throw ?_));exact hE _ _ (fun b o q => Heap.get?_push_of_some _ (Heap.get?_push_of_some _ q)) ⟨_, Heap.get?_push_size _ rfl, rfl⟩
theorem Zb4 {first : Value} {o : Obj} {es : C8} {t : SetTable} {L : List Value} {Q : PySem.Fin -> Shared -> Prop} (hh : A.handled = none) (hit : VM s.heap it first n S n ep) (ho : s.heap.get? S = some o) (hd : o.data = .set es ep t) (hf : t.fits es.size = true) (hn : es.size = n)
  (md : Md w s.heap first n S es ep t L) (hE : ∀ h' e, (∀ b o, b ≠ it -> s.heap.get? b = some o -> h'.get? b = some o) -> (∃ o, h'.get? e = some o /\ o.cls = .type "StopIteration") -> E (.ref e) { s with heap := h' }) :
  wpAny (model P w) A (Builtin.«set_iterator.__next__» ⟨[.ref it], []⟩) Q E s := by
 subst hn;have fin : wpAny (model P w) A (do setField (.ref it) 2 .none; raiseNew (<- newExc (.type "StopIteration") []) : Sem PySem.Fin) Q E s :=
  wpAny_bind (wpAny_setField_rec hit (by simp) fun h1 g1 s1 => FA (s := { s with heap := h1 }) hh fun h' e k x => hE h' e (fun b o hb q => k b o ((s1.2 b hb).trans q)) x)
 show wpAny _ _ (fieldsOf (.ref it) >>= _) _ _ _;refine wpAny_bind (wpAny_fieldsOf hit rfl (wpAny_bind (wpAny_setEntries_of ho hd hf ?_)));rw [if_neg (by simp)]; dsimp only
 rcases md with ⟨bt, rfl, rfl⟩ | ⟨bt, T, ps, rfl, hT, hp, rfl⟩ | ⟨bt, rfl, up, led, pl, rfl⟩
 ·show wpAny _ _ (setNext S 0 ((es.size : Int)).toNat ((ep : Int)).toNat >>= _) _ _ _;rw [Int.toNat_natCast, Int.toNat_natCast]; unfold setNext setsByText;refine wpAny_bind (wpAny_bind (wpAny_setState_of ho hd hf (wpAny_bind (wpAny_bind (wpAny_askSetting (wpAny_pure ?_))))));rw [if_pos (show (model P w).w.params.followText "set-order" = true from bt), if_neg (by simp)];refine wpAny_bind (FD ho hd hf bt (wpAny_pure ?_));have lp : (pickOrder (w.params.setOrder S ep) es).size = es.size := by rw [<- Array.length_toList, (YG _ es).length_eq, Array.length_toList]
  rw [Array.getElem?_eq_none (by rw [lp]; exact Nat.le_refl _)];exact fin
 ·show wpAny _ _ (seqItems? (.ref T) >>= _) _ _ _;obtain ⟨oT, gT, cT, nT, dT⟩ := hT;have lp : ps.length = es.size := by rw [hp.length_eq, List.length_range]
  refine wpAny_bind (wpAny_seqItems gT dT ?_); dsimp only;rw [Int.toNat_natCast, List.getElem?_toArray, List.getElem?_map, List.getElem?_eq_none (by omega)]; dsimp only [Option.map_none];refine wpAny_bind (wpAny_setField_rec hit (by simp) fun h0 g0 s0 => ?_);exact wpAny_bind (wpAny_setField_rec (s := { s with heap := h0 }) g0 (by simp) fun h1 g1 s1 => FA (s := { s with heap := h1 }) hh fun h' e k x => hE h' e (fun b o hb q => k b o ((s1.2 b hb).trans ((s0.2 b hb).trans q))) x)
 ·have sz : t.place.size = es.size := by
   unfold SetTable.fits at hf;rw [Bool.and_eq_true] at hf;exact eq_of_beq hf.1
  show wpAny _ _ (setNext S ((if es.size = 0 then (0 : Int) else (t.place.getD (es.size - 1) 0 : Int) + 1)).toNat ((es.size : Int)).toNat ((ep : Int)).toNat >>= _) _ _ _;rw [Int.toNat_natCast, Int.toNat_natCast]; unfold setNext setsByText;refine wpAny_bind (wpAny_bind (wpAny_setState_of ho hd hf (wpAny_bind (wpAny_bind (wpAny_askSetting (wpAny_pure ?_))))));rw [if_neg (show ¬ (model P w).w.params.followText "set-order" = true by rw [show (model P w).w.params.followText "set-order" = false from bt]; exact Bool.false_ne_true)];have nd : (!t.plain && decide (es.size > 1)) = false := by
   rcases pl with pl | pl
   ·rw [pl]; rfl
   ·rw [decide_eq_false (by omega), Bool.and_false]
  show wpAny _ _ (if (!t.plain && decide (es.size > 1)) = true then _ else _) _ _ _;rw [nd, if_neg Bool.false_ne_true];show wpAny _ _ ((if (!t.led && !es.isEmpty) = true then unsupported "set:maker-not-led" else pure ()) >>= _) _ _ _;rw [led]; simp only [Bool.not_true, Bool.false_and, Bool.false_eq_true, if_false];refine wpAny_bind (wpAny_pure (wpAny_pure ?_));have bl : SetTable.below t.place ((if es.size = 0 then (0 : Int) else (t.place.getD (es.size - 1) 0 : Int) + 1)).toNat = es.size := by
   obtain ⟨s1, s2, s3⟩ := X8 up ((if es.size = 0 then (0 : Int) else (t.place.getD (es.size - 1) 0 : Int) + 1)).toNat;rw [Array.length_toList, sz] at s3
   by_cases e : es.size = 0
   ·omega
   ·rw [if_neg e] at s1 s2 s3 ⊢
    by_cases hr : SetTable.below t.place ((t.place.getD (es.size - 1) 0 : Int) + 1).toNat <= es.size - 1
    ·have := s2 _ _ hr (show t.place.toList[es.size - 1]? = some (t.place.getD (es.size - 1) 0) by rw [Array.getElem?_toList, Array.getElem?_eq_getElem (by omega)]; simp [Array.getD, sz]; omega);omega
    ·omega
  rw [bl, Array.getElem?_eq_none (Nat.le_refl _)];exact fin
def Zdg (w : World) (it S T : Addr) (es : C8) (ep : Nat) (t : SetTable) (L : List Value) (i : Nat) (h : Heap) : Prop :=
 ∃ first o, VM h it first i S es.size ep /\ h.get? S = some o /\ o.data = .set es ep t /\ t.fits es.size = true /\ Md w h first i S es ep t L /\ ∀ T', first = .ref T' -> T' = T
theorem Md.keep {first : Value} {es : C8} {t : SetTable} {L : List Value} (md : Md w h first i S es ep t L) (k : ∀ T, first = .ref T -> ∀ o, h.get? T = some o -> h'.get? T = some o) : Md w h' first i S es ep t L := by
 rcases md with md | ⟨bt, T, ps, e, ⟨o, g, r⟩, r'⟩ | md
 ·exact .inl md
 ·exact .inr (.inl ⟨bt, T, ps, e, ⟨o, k T e o g, r⟩, r'⟩)
 ·exact .inr (.inr md)
theorem EV {es : C8} {t : SetTable} {L : List Value} (hh : A.handled = none) (it S T : Addr) (hS : S ≠ it) (hT : T ≠ it) : Walks P w A it [it, S, T] [it] es.size (fun i v => L[i]? = some v) (Zdg w it S T es ep t L) where
 sub := fun b hb => by simp at hb; simp [hb]
 frame := fun i h h' st hk => by
  obtain ⟨first, o, g1, g2, d, f, md, hf⟩ := st;exact ⟨first, o, hk it (by simp) _ g1, hk S (by simp) _ g2, d, f, md.keep fun T' e o q => hk T' (by rw [hf T' e]; simp) o q, hf⟩
 item := fun i s Q E hi st hQ => by
  obtain ⟨first, o, g1, g2, d, f, md, hf⟩ := st;have hTy : s.TypeIs (.ref it) "set_iterator" := ⟨_, g1, rfl⟩
  unfold pyNext;refine wpAny_bind (wpAny_attempt (wpAny_callSpecial?_slot (name := Str.ofString "__next__") hTy JL (wpAny_call_entry JL hTy UR (Zaa g1 g2 d f rfl md hi fun h' v first' hv g' sb mk fr => ⟨v, rfl, wpAny_pure ?_⟩) (Dz _))));exact hQ v h' s.toks hv ⟨first', o, g', (sb.2 S hS).trans g2, d, f, mk h' fun b o q hb => (sb.2 b hb).trans q, fun T' e => hf T' (fr T' e)⟩ fun b o hb q => (sb.2 b fun e => hb (by simp [e])).trans q
 done := fun s Q E st hQ => by
  obtain ⟨first, o, g1, g2, d, f, md, hf⟩ := st;have hTy : s.TypeIs (.ref it) "set_iterator" := ⟨_, g1, rfl⟩
  unfold pyNext;refine wpAny_bind (wpAny_attempt (wpAny_callSpecial?_slot (name := Str.ofString "__next__") hTy JL (wpAny_call_entry JL hTy UR (Zb4 (by first | exact hh | simp [hh]) g1 g2 d f rfl md fun h' e k x => ?_) (Dz _))));obtain ⟨oe, ge, ce⟩ := x;refine wpAny_bind (wpAny_isInstance (T := "StopIteration") (b := true) ⟨oe, ge, ce⟩ isSubtype_stop (wpAny_pure ?_));exact hQ h' s.toks fun b o hb q => k b o (fun e => hb (by simp [e])) q
 self := fun i s Q E st hQ => by
  obtain ⟨first, o, g1, _⟩ := st;have hTy : s.TypeIs (.ref it) "set_iterator" := ⟨_, g1, rfl⟩
  refine wpAny_pyIter_slot hTy GR (wpAny_call_entry GR hTy En ?_ (LL _));exact wpAny_pure ⟨_, rfl, "set_iterator", _, hTy, JL.lookup, hQ⟩
end
end DL
namespace DL
open PySem.W
theorem RZ : Slot "set" "__len__" "set.__len__" := .of (owner := "set") (n := "__len__") (by rw [typeLookup_type, builtinLookup_eq_fast]; kernel_rfl) (by walk_at "k") (by walk_at "k") (by walk_at "k") (by first | exact .inl (by walk_at "k") | exact .inr (by walk_at "k")) (by rw [isSubtype_type]; kernel_rfl)
section
variable {E : Value -> Shared -> Prop}
end
theorem SI.nodup {ks : List Int} (q : SI P w h a ks) : ks.Nodup := by
 obtain ⟨o, es, t, _, so, rfl⟩ := q;exact so.nd
theorem MR {vs : List Value} {out : Array Value} {o : Obj} (q : h.get? b = some o) : (sortedHeap (h.push (seqObj "list" vs.toArray 0)) h.objs.size vs out).get? b = some o := by
 have bl : b < h.objs.size := Heap.lt_size q;unfold sortedHeap;exact (Heap.get?_update_other _ _ (Nat.ne_of_gt bl)).trans (Heap.get?_push_of_some _ (Heap.get?_push_of_some _ ((Heap.get?_update_other _ _ (Nat.ne_of_gt bl)).trans (Heap.get?_push_of_some _ q))))
theorem Tn (h : Heap) (vs : List Value) (out : Array Value) : ∃ e, (sortedHeap (h.push (seqObj "list" vs.toArray 0)) h.objs.size vs out).get? h.objs.size = some (seqObj "list" out e) := by
 unfold sortedHeap;have h1 : (h.push (seqObj "list" vs.toArray 0)).get? h.objs.size = some (seqObj "list" vs.toArray 0) := Heap.get?_push_size _ rfl;exact ⟨_, get?_update_seq (Heap.get?_push_of_some _ (Heap.get?_push_of_some _ (get?_update_seq h1 (fun _ => #[])))) (fun _ => out)⟩
section
variable {E : Value -> Shared -> Prop}
end
section
variable {t : TA} {p pos2 : Pos}
def tSS (X : Cx) (t : TA) : TE := fun O H Q => t O H fun xs H1 => ∃ (l : Addr) (ns : List Int), xs = [.ref l] /\ SqL X.K H1 l (ns.map V.int) /\ ns.length < 64 /\ ∀ ks : List Int, ks.Pairwise (· <= ·) -> ks.Nodup -> (∀ z, z ∈ ks ↔ z ∈ ns) -> ∀ l, H1 l = none -> Q (.ref l) (upd H1 l (.lst (ks.map V.int)))
def dSS (t : DTA) : DTE := fun Z M Φ => t Z M fun xs M1 => ∃ ns : List Int, VE xs M1 ns /\ ns.length < 64 /\ ∀ ks : List Int, ks.Pairwise (· <= ·) -> ks.Nodup -> (∀ z, z ∈ ks ↔ z ∈ ns) -> Φ (.dat (.list (ks.map PyData.int))) M1
end
end DL
namespace DL
section
def ZjH (τ : DTE) : DTT := fun Z M Φ => τ Z M fun x M1 => onQ x M1 fun ds => Φ (!ds.isEmpty) M1
end
end DL
namespace DL
open PySem.W
structure Gives (it l : Addr) (xs : Array Value) (st : Nat -> Heap -> Prop) : Prop where
 frame : ∀ {i : Nat} {h h' : Heap}, st i h -> (∀ b, b = it \/ b = l -> ∀ o, h.get? b = some o -> h'.get? b = some o) -> st i h'
 live : ∀ {i : Nat} {h : Heap}, st i h -> ∃ o, h.get? it = some o
 item : ∀ {prog : Program} {w : World} {A : Around} {E : Value -> Shared -> Prop} {s : Shared} {Q : Value -> Shared -> Prop} {i : Nat} {x : Value}, st i s.heap -> xs[i]? = some x ->
  (∀ h', st (i + 1) h' -> Heap.SameBut it s.heap h' -> Q x { s with heap := h' }) -> wpAny (model prog w) A (Builtin.SmallTypes.nextOf (.ref it)) Q E s
 done : ∀ {prog : Program} {w : World} {A : Around} {E : Value -> Shared -> Prop} {s : Shared} {Q : Value -> Shared -> Prop} {i : Nat}, A.handled = none -> st i s.heap -> xs[i]? = none ->
  (∀ h' e, Heap.ExtBut it s.heap h' -> (∃ o, h'.get? e = some o /\ o.cls = .type "StopIteration") -> E (.ref e) { s with heap := h' }) -> wpAny (model prog w) A (Builtin.SmallTypes.nextOf (.ref it)) Q E s
def ZjE (a b c d : Addr) (h h' : Heap) : Prop := ∀ x o, x ≠ a -> x ≠ b -> x ≠ c -> x ≠ d -> h.get? x = some o -> h'.get? x = some o
section
variable {prog : Program} {E : Value -> Shared -> Prop} {z TI TO l m : Addr} {xs ys : Array Value} {f g : Nat -> Heap -> Prop}
end
noncomputable abbrev zt1 (h : Heap) (l : Addr) : Heap := h.push { cls := .type "tuple_iterator", data := .fields #[.ref l, .int 0 0] }
noncomputable abbrev zt2 (h : Heap) (l m : Addr) : Heap := (zt1 h l).push { cls := .type "list_iterator", data := .fields #[.ref m, .int 0 0] }
noncomputable abbrev zt3 (h : Heap) (l m : Addr) : Heap := (zt2 h l m).push { cls := .type "tuple", data := .seq #[.ref h.objs.size, .ref (zt1 h l).objs.size] }
noncomputable abbrev zt4 (h : Heap) (l m : Addr) : Heap := (zt3 h l m).push { cls := .type "tuple", data := .seq #[.none, .none] }
noncomputable abbrev zt5 (h : Heap) (l m : Addr) : Heap := (zt4 h l m).push { cls := .type "zip", data := .fields #[.none, .bool false, .bool false, .ref (zt2 h l m).objs.size, .ref (zt3 h l m).objs.size] }
section
variable {prog : Program} {E : Value -> Shared -> Prop}
end
noncomputable def Ziq (K : Fk) (a b : Addr) : It :=
  ⟨fun i H => ∃ xs ys x y, SqT K H a xs /\ xs[i]? = some x /\ SqL K H b ys /\ ys[i]? = some y,
   fun i H v H' => ∃ T x y, (∀ xs, SqT K H a xs -> xs[i]? = some x) /\ (∀ ys, SqL K H b ys -> ys[i]? = some y) /\ H T = none /\ v = .ref T /\ H' = upd H T (.tup [x, y]),
   fun i H => ∃ xs ys, SqT K H a xs /\ SqL K H b ys /\ (xs.length <= i \/ ys.length <= i)⟩
def ZjA (a b : Addr) (n : Nat) (i : Nat) (h : Heap) : Prop :=
 IsZip h (n + 4) (n + 2) (n + 3) .none /\ IsPair h (n + 2) (.ref n) (.ref (n + 1)) /\ (∃ u v, IsPair h (n + 3) u v) /\ h.IsTupleIter n a i /\ h.IsListIter (n + 1) b i
section
def Zie (K : Fk) (ta : TA) : TI := fun O H R => ta O H fun vs H1 => ∃ a b, vs = [.ref a, .ref b] /\ (∃ xs, SqT K H1 a xs) /\ (∃ ys, SqL K H1 b ys) /\ R (Ziq K a b) H1
def ZiS (ta : DTA) : Y4 := fun Z M Ψ => ta Z M fun xs M1 => on2 xs fun x y => onT x fun as => onL y fun bs => Ψ (O5 as bs) M1
end
end DL
namespace DL
open PySem.W
section
variable {g : DTG} {tb : DTS} {body : List Stmt}
def ZbU (src : Y4) (g : DTG) (tb : DTS) : DTS := fun D Z M => src Z M fun ds M1 => Ej g tb D ds Z M1
theorem SU (src : Y4) (g : DTG) (tb : DTS) (D : Ql) (Z : DSt) (M : Mp) : ZbU src g tb D Z M = (src Z M fun ds M1 => Ej g tb D ds Z M1) := propext Iff.rfl
theorem SD {src : Y4} (hi : DI X tg iter src) (hg : DG X tg g) (hb : DSs X body tb) (hp : PassesOwn (model X.prog X.w) X.A X.env X.xe) (hc : X.calm = true) (hs : autoParam (∀ x, foldedSetIterable iter X.env x = pure x) zz2._auto_1) :
  DS X (.For tg iter body [] pos) (ZbU src g tb) := by
 obtain ⟨wi, p1, q1⟩ := hi;obtain ⟨t2, p2, q2⟩ := hg;obtain ⟨t3, p3, q3⟩ := hb;refine ⟨_, Hm hp hc p1 p2 p3 hs, fun O H Z M D E r e h k => ?_⟩;refine q1 O H Z M _ _ r e h fun J H1 M1 ds r1 st yl hx => ?_;obtain ⟨I, j0, jt, jd⟩ := hx;refine ⟨fun i m O H => (∃ Z M, ZR X.K M H /\ Step M1 H1 M H /\ Js X.K M H O Z /\ I i Z M) /\ i + m = ds.length, ⟨ds.length, ⟨Z, M1, r1, Step.refl, e.step st, j0⟩, Nat.zero_add _⟩, fun i m O H hW => ?_⟩;obtain ⟨⟨Z, M, r', st', e', j⟩, hm⟩ := hW
 by_cases hi : i < ds.length
 ·obtain ⟨go, yd⟩ := (yl M H st' i).1 hi;refine .inr ⟨go, fun σ' H' => ∃ Δ' M', ZR X.K M' H' /\ Step M1 H1 M' H' /\ Js X.K M' H' σ' Δ' /\ I (i + 1) Δ' M', fun σ' H' h => ⟨m - 1, by omega, h, by omega⟩, fun x H' hy => ?_⟩;obtain ⟨r2, st2, d, hd, hv⟩ := yd x H' hy r';refine q2 x O H' (.dat d) Z M _ _ r2 (e'.step st2) hv (jt i d Z M hd j) fun σ3 H3 Δ3 M3 r3 st3 e3 hb3 => ?_;refine q3 σ3 H3 Δ3 M3 _ _ r3 e3 hb3 ?_;have s12 : Step M1 H1 M3 H3 := (st'.trans st2).trans st3
  exact ⟨fun σ' H' Δ' M' a b c d => ⟨Δ', M', a, s12.trans b, c, d⟩, k.rt.step (st.trans s12), fun σ' H' Δ' M' a b c d => k.nx σ' H' Δ' M' a ((st.trans s12).trans b) c d,
   fun σ' H' Δ' M' a b c d => ⟨Δ', M', a, s12.trans b, c, d⟩⟩
 ·have ei : i = ds.length := by omega
  refine .inl ⟨(yl M H st' i).2 (by omega), ?_⟩;rw [ei] at j;exact k.nx O H Z M r' (st.trans st') e' (jd Z M j)
def ZhR (K : Fk) : V -> List V -> Hp -> VK -> Prop := fun x vs H Q => ∃ (l : Addr) (ss : List Str) (t : Str), x = .ref l /\ vs = [V.str t] /\ SqL K H l (List.map V.str ss) /\ t ∈ ss /\ Q (.int (ss.idxOf t : Nat)) H
def Ku (ds : List PyData) (P : List Str -> Prop) : Prop := ∃ ss, ds = ss.map PyData.str /\ P ss
theorem WG : ∀ {vs : List V} {ss : List Str}, Dts K M H vs (ss.map PyData.str) -> vs = ss.map V.str
 | vs, [], h => by
  rw [List.map_nil] at h;cases h;rfl
 | vs, n :: ns, h => by
  rw [List.map_cons] at h;cases h with
  | cons h1 h2 =>
   cases h1;rw [WG h2, List.map_cons]
def Zjy (to te : DTE) : DTE := fun Z M Φ => to Z M fun x M1 => onL x fun ds => te Z M1 fun y M2 => onS y fun t => Ku ds fun ss => t ∈ ss /\ Φ (.dat (.int (ss.idxOf t : Nat))) M2
def Zi0 (x : DV) (P : List PyData -> Prop) : Prop := match x with | .dat (.tuple ds) => P ds | .dat (.list ds) => P ds | _ => False
def iTL (K : Fk) (tl : TE) : TI := fun O H R => tl O H fun x H1 => ∃ a, x = .ref a /\ (((∃ xs, SqL K H1 a xs) /\ R (Itl K a) H1) \/ (∃ xs, SqT K H1 a xs) /\ R (Itt K a) H1)
def Zjg (te : DTE) : Y4 := fun Z M Ψ => te Z M fun x M1 => Zi0 x fun ds => Ψ ds M1
end
end DL
namespace DL
noncomputable def Zf3 (X : Cx) (scope : Scope) (k : Str) (C : Addr) (N : List Str) (ex : List Addr) (s : Shared) (H : Hp) : Cx :=
 { X with N := N, s₀ := s, H₀ := H, env := compEnvC scope ((k, C + 1) :: LY X.env scope.names []) C X.env, outer := X.stack, ex := ex, fn := fun x => x == k, pn := [], xe := fun _ _ => False }
structure Zf5 (X : Cx) (scope : Scope) (k : Str) (N : List Str) (ix : List (Option Nat)) : Prop where
 kind : scope.kind = .function
 cf : ∀ n cl, cellsFrom n scope.names cl = (k, n) :: cl
 pc : ∀ h, pushCells h scope.names = h.push { cls := .type "cell", data := .cell none }
 cellK : ∀ y ∈ scope.names, y.2 = .cell -> y.1 = k
 nk : ∀ y ∈ scope.names, y.2 = .free -> y.1 ≠ k
 names : ∀ y ∈ scope.names, y.2 = .local -> scope.names.lookup y.1 = some .local
 free : ∀ y ∈ scope.names, y.2 = .free -> X.env.kindOf y.1 = some .cell
 len : N.length = ix.length
 cap : ∀ (j : Nat) (x : Str) (i : Nat), N[j]? = some x -> ix[j]? = some (some i) -> X.N[i]? = some x /\ (x, NameKind.free) ∈ scope.names /\ (relabel scope X.env).names.lookup x = some .cell
section
variable {O : L2.St} {H2 : Hp} {s2 : Shared} {k : Str} {C : Addr} {fp : List Addr}
end
section
set_option maxHeartbeats 2000000 in
end
end DL
namespace DL
open PySem.W
def Zhd (o : Option OO) (P : List (Key × DV) -> Prop) : Prop := match o with | some (.dko ps) => P ps | _ => False
noncomputable def ZgL (ps : List (Key × DV)) (k : Key) : Option DV := (ps.find? fun p => decide (p.1 = k)).map (·.2)
noncomputable def Zfq (ps : List (Key × DV)) (k : Key) (x : DV) : List (Key × DV) := if (ps.any fun p => decide (p.1 = k)) = true then ps.map (fun p => if p.1 = k then (p.1, x) else p) else ps ++ [(k, x)]
section
abbrev KO (K : Fk) (M : Mp) (H : Hp) : List (Key × V) -> List (Key × DV) -> Prop := Paired fun (p : Key × V) (q : Key × DV) => p.1 = q.1 /\ VR0 K M H p.2 q.2
theorem QC.zero {x : DV} (h : QC K M H v x) (n : ∀ t, x ≠ .ty t) : VR0 K M H v x := by
 cases x with
 | dat d => exact h
 | own b => exact h
 | ty t => exact absurd rfl (n t)
 | mix xs => exact h
end
section
variable {o i value : Expr} {td ti tv : DTE} {pos' : Pos}
def ZaF (x : DV) (P : Prop) : Prop := match x with | .ty _ => False | _ => P
def ZiP (td ti tv : DTE) : DTS := fun D Z M => tv Z M fun x M1 => td Z M1 fun y M2 => ti Z M2 fun z M3 => ZaF x (onO y fun l => onS z fun s => Zhd (M3 l) fun ps => ps.length < sizeLine /\ D.nx Z (ZM M3 l (.dko (Zfq ps (.inr s) x))))
def ZiT (td ti : DTE) : DTE := fun Z M Φ => td Z M fun x M1 => ti Z M1 fun y M2 => onO x fun l => onS y fun s => Zhd (M2 l) fun ps => ∃ z, ZgL ps (.inr s) = some z /\ Φ z M2
def Zbm : List (DV × DV) -> (List (Key × DV) -> Prop) -> Prop
 | [], P => P []
 | (x, y) :: r, P => K1 x fun k => ZaF y (Zbm r fun l => P ((k, y) :: l))
def ZgZ (t : DTP) : DTE := fun Z M Φ => ∀ p, M p = none -> t Z (ZM M p (.dko [])) fun qs M2 => Zbm qs fun l => M2 p = some (.dko []) /\ ((l.map (·.1)).Nodup /\ l.length <= 15) /\ Φ (.own p) (ZM M2 p (.dko l))
end
end DL
namespace DL
open PySem.W
section
open PySem.SeqAt
open PySem.AutoSeq1 (wpAny_loadPart')
open PySem.MeetsSeq PySem.MeetsSeq2 PySem.MeetsSeq3
variable {prog : Program} {E : Value -> Shared -> Prop}
end
noncomputable def ZeD : PyData -> Option (Int × Str)
 | .tuple [.int i, .tuple (.str s :: _)] => some (i, s)
 | _ => none
noncomputable def ZhJ (ks : List (Int × Str)) (i j : Nat) : Bool := decide ((ks.getD i (0, Str.empty)).1 < (ks.getD j (0, Str.empty)).1 \/ (ks.getD i (0, Str.empty)).1 = (ks.getD j (0, Str.empty)).1 /\ (ks.getD i (0, Str.empty)).2.cps.toList < (ks.getD j (0, Str.empty)).2.cps.toList)
section
def ZhP (K : Fk) : List V -> Hp -> VK -> Prop := fun xs H Q => ∃ (p : Addr) (M : Mp) (vs : List V) (ds : List PyData) (ks : List (Int × Str)), xs = [.ref p] /\ SqL K H p vs /\ Dts K M H vs ds /\ ds.map ZeD = ks.map some /\ ks.Nodup /\ ds.length < 64 /\
 ∀ q, Pm ds.length q -> Up (ZhJ ks) q ds.length -> ∀ l, H l = none -> Q (.ref l) (upd H l (.lst (q.toList.map fun i => vs.getD i .non)))
def ZiE (a b : PyData) : Prop := ∀ s t, ZeD a = some s -> ZeD b = some t -> ¬ (t.1 < s.1 \/ t.1 = s.1 /\ t.2.cps.toList < s.2.cps.toList)
def Zfz : D1 := fun xs M Φ => on1 xs fun x => onK x M fun ds => ∃ ks : List (Int × Str), ds.map ZeD = ks.map some /\ ks.Nodup /\ ds.length < 64 /\ ∀ ds' : List PyData, ds'.Perm ds -> ds'.Pairwise ZiE -> Φ (.dat (.list ds')) M
theorem Xl : ∀ {ss : List Str} {us : List Value}, Vals (ss.map V.str) us -> StrsAre us ss
 | [], _, r => by rw [List.map_nil] at r; cases r; exact .nil
 | s :: ss, _, r => by
  rw [List.map_cons] at r;cases r with
  | cons r1 r2 =>
   obtain ⟨t, rfl⟩ := r1;exact .cons s t (Xl r2)
theorem UW : ∀ {us : List Value} {ss : List Str}, StrsAre us ss -> Vals (ss.map V.str) us
 | _, _, .nil => .nil
 | _, _, .cons n t h => .cons ⟨t, rfl⟩ (UW h)
theorem XY : ∀ ss : List Str, Dts K M H (ss.map V.str) (ss.map PyData.str)
 | [] => .nil
 | s :: ss => .cons (.str s) (XY ss)
def Zgu : D1 := fun xs M Φ => on1 xs fun x => onK x M fun ds => Ku ds fun ss => ss.length < 64 /\ ∀ ss' : List Str, ss'.Perm ss -> sortedS ss' = true -> Φ (.dat (.list (ss'.map PyData.str))) M
end
end DL
namespace DL
open PySem.W
theorem Step.all : Step M H (fun _ => none) H := ⟨fun _ _ _ h => h, fun _ _ _ _ => rfl⟩
def Ce (x : DV) (M : Mp) (P : PyData -> Prop) : Prop := match x with | .dat d => P d | .own q => Vp (M q) (fun ds => P (.list ds)) | _ => False
theorem O0 (d : PyData) (M : Mp) (P : PyData -> Prop) : Ce (.dat d) M P = P d := propext Iff.rfl
theorem Oo (q : Addr) (M : Mp) (P : PyData -> Prop) : Ce (.own q) M P = Vp (M q) (fun ds => P (.list ds)) := propext Iff.rfl
section
theorem BG {x : DV} {P : PyData -> Prop} (h : Ce x M P) (r : ZR X.K M H) (rv : QC X.K M H v x) : ∃ d, Dt X.K (fun _ => none) H v d /\ P d := by
 cases x with
 | dat d => exact ⟨d, Dt.step Step.all rv, h⟩
 | own q =>
  have h : Vp (M q) (fun ds => P (.list ds)) := h;replace h := Vs h;obtain ⟨ds, hm, h⟩ := h;cases (show v = .ref q from rv);obtain ⟨vs, g1, g2⟩ := r.ls q ds hm;exact ⟨.list ds, .lst (.inl ⟨rfl, .inl g1⟩) (g2.step Step.all), h⟩
 | ty t => exact h.elim
 | mix xs => exact h.elim
def Zdd : D2 := fun x y M Φ => Ce x M fun d => Ce y M fun e => EJ d e = true /\ Φ (.dat (.bool (PyData.eqv d e))) M
theorem Rn (x y : DV) (M : Mp) (Φ : DK) : Zdd x y M Φ = (Ce x M fun d => Ce y M fun e => EJ d e = true /\ Φ (.dat (.bool (PyData.eqv d e))) M) := propext Iff.rfl
def ZgC : D2 := fun x y M Φ => Ce x M fun d => Ce y M fun e => EJ d e = true /\ Φ (.dat (.bool (!PyData.eqv d e))) M
theorem S5 {e : PyData} (h : EJ d e = true) : d.canLay0 = true /\ e.canLay0 = true /\ min d.depth e.depth <= 64 := by
 unfold EJ at h;simp only [Bool.and_eq_true] at h;exact ⟨h.1.1, h.1.2, Nat.le_of_ble_eq_true h.2⟩
theorem P5 {k : Nat} (hr : V6 k X.A) : OpD X (compareOp .Eq) Zdd :=
 ⟨_, PN hr.units, fun v u H x y M Φ Q r rv ru h k => by
  obtain ⟨d, hd, h⟩ := BG h r rv;obtain ⟨e, he, ok, q⟩ := BG h r ru;obtain ⟨c1, c2, hdp⟩ := S5 ok
  exact ⟨_, d, e, hd, he, c1, c2, hdp, k.dat r Step.refl (Dt.bl _) q⟩⟩
def LA : D1 := fun xs M Φ => on1 xs fun x => Ce x M fun d => Shw d /\ Φ (.dat (.str d.shown)) M
theorem Lm (xs : List DV) (M : Mp) (Φ : DK) : LA xs M Φ = (on1 xs fun x => Ce x M fun d => Shw d /\ Φ (.dat (.str d.shown)) M) := propext Iff.rfl
theorem NB {k : Nat} (hr : V6 k X.A) : Vy X (.builtin "repr") LA := by
 refine ⟨_, K7 hr.gd (by have := hr.un; omega), fun vs H xs M Φ Q r rv h k => ?_⟩;replace h := Zw h;obtain ⟨x, rfl, h⟩ := h;obtain ⟨v, rfl, h1⟩ := Paired.one rv;obtain ⟨d, hd, hs, q⟩ := BG h r h1;exact ⟨v, d, _, rfl, hd, hs.s, hs.m, hs.dp, hs.z, k.dat r Step.refl (Dt.str _) q⟩
def ZgV (T : String) : D1 := fun xs M Φ => match xs with | [x, .ty t] => t = T /\ Ce x M fun d => Φ (.dat (.bool (ZJ T d))) M | _ => False
def Zig (te : DTE) : DTE := fun Z M Φ => te Z M fun x M1 => Ce x M1 fun d => Φ (.dat (.bool (ZJ "list" d || ZJ "tuple" d))) M1
end
end DL
namespace DL
def YlG (K : Fk) (J : It) (ds : List PyData) (G : Mp -> Prop) (M : Mp) (H : Hp) : Prop := ∀ M2 H2, Step M H M2 H2 -> ZR K M2 H2 -> G M2 -> ∀ i,
 (i < ds.length -> J.go i H2 /\ ∀ x H', J.yld i H2 x H' -> ZR K M2 H2 -> ZR K M2 H' /\ Step M2 H2 M2 H' /\ ∃ d, ds[i]? = some d /\ Dt K M2 H' x d) /\ (ds.length <= i -> J.stop i H2)
abbrev Hi := DSt -> Mp -> (List PyData -> (Mp -> Prop) -> Mp -> Prop) -> Prop
def DIG (X : Cx) (tg iter : Expr) (src : Hi) : Prop := ∃ wi, PI X tg iter wi /\ ∀ O H Z M Ψ (R : It -> Hp -> Prop), ZR X.K M H -> Js X.K M H O Z -> src Z M Ψ ->
 (∀ J H' M' ds G, ZR X.K M' H' -> Step M H M' H' -> YlG X.K J ds G M' H' -> Ψ ds G M' -> R J H') -> wi O H R
section
abbrev Zex (ds : List PyData) (G : Mp -> Prop) (M1 : Mp) (Z : DSt) (ix : List (Option Nat)) (g : DTG) (tc : DTT) (te : DTE) (ψ : List PyData -> Mp -> Prop) : Prop := ds.length <= sizeLine /\ ∃ J : Nat -> List PyData -> Mp -> Prop, (∀ i acc M', J i acc M' -> G M') /\ J 0 [] M1 /\
 (∀ i d acc M', ds[i]? = some d -> J i acc M' -> g (.dat d) (C1 ix Z) M' fun Δ2 M2 => tc Δ2 M2 fun b M3 => if b = true then te Δ2 M3 fun y M4 => onD y fun e => J (i + 1) (acc ++ [e]) M4 else J (i + 1) acc M3) /\ ∀ acc M', J ds.length acc M' -> ψ acc M'
set_option maxHeartbeats 2000000 in
def Zh2 (ow : Bool) (src : Hi) (ix : List (Option Nat)) (g : DTG) (tc : DTT) (te : DTE) : DTE := fun Z M Φ => src Z M fun ds G M1 => ds.length <= sizeLine /\ ∃ J : Nat -> List PyData -> Mp -> Prop, (∀ i acc M', J i acc M' -> G M') /\ J 0 [] M1 /\
 (∀ i d acc M', ds[i]? = some d -> J i acc M' -> g (.dat d) (C1 ix Z) M' fun Δ2 M2 => tc Δ2 M2 fun b M3 => if b = true then te Δ2 M3 fun y M4 => onD y fun e => J (i + 1) (acc ++ [e]) M4 else J (i + 1) acc M3) /\ ∀ acc M', J ds.length acc M' -> CT ow Φ acc M'
def ZiI (ta : DTA) : Hi := fun Z M Ψ => ta Z M fun xs M1 => on2 xs fun x y => onK x M1 fun as => onL y fun bs => Ψ (O5 as bs) (fun M2 => onK x M2 fun cs => cs = as) M1
end
end DL
namespace DL
section
def ZeL : D1 := fun xs M Φ => on1 xs fun x => onK x M fun ds => Ku ds fun ss => ss.length < 64 /\ ∀ ss' : List Str, ss'.Perm ss -> sortedS ss' = true -> ∀ p, M p = none -> Φ (.own p) (ZM M p (.lst (ss'.map PyData.str)))
end
end DL
namespace DL
open PySem.W
def Zcw (x : DV) (M : Mp) (P : List PyData -> Prop) : Prop := match x with | .dat (.list ds) => P ds | .own q => Vp (M q) P | _ => False
section
def Zgc : D2 := fun x y M Φ => onD x fun d => Zcw y M fun ds => okIn d ds = true /\ Φ (.dat (.bool (ds.any fun e => PyData.eqv e d))) M
def ZeW : D2 := fun x y M Φ => onD x fun d => Zcw y M fun ds => okIn d ds = true /\ Φ (.dat (.bool (!(ds.any fun e => PyData.eqv e d)))) M
def ZaV (i : Nat) (t : DTS) : DTS := fun D Z M => onV Z[i]? fun x => onO x fun l => Vp (M l) fun ds => t D (Z.set i (some (.dat (.list ds)))) (Yy M l)
theorem Sx (i : Nat) (t : DTS) (D : Ql) (Z : DSt) (M : Mp) : ZaV i t D Z M = (onV Z[i]? fun x => onO x fun l => Vp (M l) fun ds => t D (Z.set i (some (.dat (.list ds)))) (Yy M l)) := propext Iff.rfl
theorem Lg (i : Nat) {s : Stmt} {t : DTS} (h : DS X s t) : DS X s (ZaV i t) := by
 obtain ⟨u, p, k⟩ := h;refine ⟨u, p, fun O H Z M D E r er h e => ?_⟩;obtain ⟨x, hx, h⟩ := CZ h;obtain ⟨l, rfl, h⟩ := Z9 h;obtain ⟨ds, hm, h⟩ := Vs h;obtain ⟨vs, e1, e2⟩ := r.ls l ds hm;obtain ⟨v, hv, rv⟩ := er.at' i _ hx;cases (show v = .ref l from rv);have er2 := (er.step Step.frz).set (i := i) (v := .ref l) (x := .dat (.list ds)) (Dt.lst (.inl ⟨YJ, .inl e1⟩) (e2.step Step.frz));have es : O.set i (some (.ref l)) = O := by
  obtain ⟨hi, e⟩ := List.getElem?_eq_some_iff.mp hv;rw [<- e];exact List.set_getElem_self hi
 rw [es] at er2;exact k O H _ _ D E r.frz er2 h (e.step Step.frz)
end
end DL
namespace DL
open PySem.W
noncomputable def Itd (o : Obj) (a : Addr) (ks : List Key) : It :=
 ⟨fun i H => i < ks.length /\ ∃ kvs, H a = some (.frz o (.dK kvs)) /\ kvs.map (·.1) = ks, fun i H x H' => H' = H /\ ∃ k, ks[i]? = some k /\ x = kV k,
  fun i H => ks.length <= i /\ ∃ kvs, H a = some (.frz o (.dK kvs)) /\ kvs.map (·.1) = ks⟩
def Zjj (o : Obj) (a it : Addr) (n : Nat) (i : Nat) (h : Heap) : Prop := ∃ es ep, o.data = .dict es ep /\ h.IsKeyIter it a i n ep
theorem TQ {k : Key} (h : BB k u = true) : RelV (kV k) u := by
 cases k with
 | inl i => exact PySem.Value.isInt_shape h
 | inr x => exact PySem.Value.isStrOf_shape h
section
variable {l : Expr} {tl : TE}
def Zjo (tl : TE) : TI := fun O H R => tl O H fun x H1 => ∃ a kvs, x = .ref a /\ ((H1 a = some (.dK kvs) /\ ∀ o, R (Itd o a (kvs.map (·.1))) (upd H1 a (.frz o (.dK kvs)))) \/ ∃ o, H1 a = some (.frz o (.dK kvs)) /\ R (Itd o a (kvs.map (·.1))) H1)
end
def ZiF (o : Option OO) (P : List (Key × PyData) -> Prop) (Q : Obj -> List (Key × PyData) -> Prop) : Prop := match o with | some (.dkv ps) => P ps | some (.fdk o ps) => Q o ps | _ => False
theorem ZcB (k : Key) : Dt K M H (kV k) (kD k) := by
 cases k with
 | inl i => exact Dt.int i
 | inr x => exact Dt.str x
section
variable {g : DTG} {tb : DTS} {body : List Stmt}
def Zjw (te : DTE) : Hi := fun Z M Ψ => te Z M fun x M1 => onO x fun l => ZiF (M1 l) (fun ps => ∀ o, Ψ (ps.map fun p => kD p.1) (fun M2 => M2 l = some (.fdk o ps)) (ZM M1 l (.fdk o ps))) fun o ps => Ψ (ps.map fun p => kD p.1) (fun M2 => M2 l = some (.fdk o ps)) M1
def Za0 (G : Mp -> Prop) (g : DTG) (tb : DTS) (D : Ql) (ds : List PyData) (Z : DSt) (M : Mp) : Prop :=
 ∃ J : Nat -> DSt -> Mp -> Prop, (∀ i Z M, J i Z M -> G M) /\ J 0 Z M /\ (∀ i d Z M, ds[i]? = some d -> J i Z M -> g (.dat d) Z M fun Δ2 M2 => tb { D with nx := J (i + 1), ct := J (i + 1), bk := D.nx } Δ2 M2) /\ ∀ Z M, J ds.length Z M -> D.nx Z M
def Zjb (src : Hi) (g : DTG) (tb : DTS) : DTS := fun D Z M => src Z M fun ds G M1 => Za0 G g tb D ds Z M1
end
def ZhI (o : Option OO) (P : List (Key × PyData) -> Prop) : Prop := match o with | some (.dkv ps) => P ps | some (.fdk _ ps) => P ps | _ => False
section
variable {o i : Expr} {td ti : DTE}
def Zix (td ti : DTE) : DTE := fun Z M Φ => td Z M fun x M1 => ti Z M1 fun y M2 => onO x fun l => onS y fun s => ZhI (M2 l) fun ps => ∃ d, QU ps (.inr s) = some d /\ Φ (.dat d) M2
def Zg6 : D1 := fun xs M Φ => on1 xs fun x => onO x fun l => ZhI (M l) fun ps => Φ (.dat (.int ps.length)) M
end
end DL
namespace DL
open PySem.W
noncomputable def ZeM : PyData -> Option (Int × Str)
 | .tuple [.int i, .str s] => some (i, s)
 | _ => none
section
def ZhE (K : Fk) : List V -> Hp -> VK -> Prop := fun xs H Q => ∃ (p : Addr) (M : Mp) (vs : List V) (ds : List PyData) (ks : List (Int × Str)), xs = [.ref p] /\ SqL K H p vs /\ Dts K M H vs ds /\ ds.map ZeM = ks.map some /\ ks.Nodup /\ ds.length < 64 /\
 ∀ q, Pm ds.length q -> Up (ZhJ ks) q ds.length -> ∀ l, H l = none -> Q (.ref l) (upd H l (.lst (q.toList.map fun i => vs.getD i .non)))
def Zjv (a b : PyData) : Prop := ∀ s t, ZeM a = some s -> ZeM b = some t -> ¬ (t.1 < s.1 \/ t.1 = s.1 /\ t.2.cps.toList < s.2.cps.toList)
def ZfK : D1 := fun xs M Φ => on1 xs fun x => onK x M fun ds => ∃ ks : List (Int × Str), ds.map ZeM = ks.map some /\ ks.Nodup /\ ds.length < 64 /\ ∀ ds' : List PyData, ds'.Perm ds -> ds'.Pairwise Zjv -> Φ (.dat (.list ds')) M
def Zg0 (to : DTE) : DTE := fun Z M Φ => to Z M fun x M1 => onO x fun l => Vp (M1 l) fun _ => Φ (.dat .none) (ZM M1 l (.lst []))
end
end DL
namespace DL
open PySem.W
noncomputable def Lq : Value -> Str
 | .str i _ => i
 | _ => Str.empty
theorem LU : ∀ {vs : List Value} {ss : List Str}, StrsAre vs ss -> ∀ (i : Nat) (v : Value), vs[i]? = some v -> ∃ t, v = .str (ss.getD i Str.empty) t
 | _, _, .nil, i, v, h => by simp at h
 | _, _, .cons n t h, 0, v, e => ⟨t, by simpa using e.symm⟩
 | _, _, .cons n t h, i + 1, v, e => by
  obtain ⟨t', q⟩ := LU h i v (by simpa using e);exact ⟨t', by simpa using q⟩
noncomputable def Jd (es : C8) : List Str := es.toList.map fun e => Lq e.2
structure Mv (P : Program) (w : World) (o : Obj) (es : C8) (t : SetTable) : Prop where
 ex : o.ExactSet
 dt : ∃ ep, o.data = .set es ep t
 el : ElemsOf (PySem.strKind P w) es.toList
 bd : es.size < scanBound
 ft : t.fits es.size = true
 ok : TOk (w.params.followText "set-order") t
 nd : (Jd es).Nodup
def SIS (P : Program) (w : World) (h : Heap) (a : Addr) (ks : List Str) : Prop := ∃ o es t, h.get? a = some o /\ Mv P w o es t /\ ks = Jd es
section
variable {E : Value -> Shared -> Prop}
theorem CQ {es : List (Int × Value)} (h : ElemsOf (PySem.strKind P w) es) {e : Int × Value} (he : e ∈ es) : ∃ t, e.2 = .str (Lq e.2) t := by
 obtain ⟨⟨k, hk, _⟩, _⟩ := h e he;obtain ⟨t, q⟩ := Value.isStrOf_shape (x := k) (v := e.2) hk;rw [q];exact ⟨t, rfl⟩
theorem SIS.size (hS : SIS P w h a ks) : ks.length < scanBound := by
 obtain ⟨o, es, t, _, so, rfl⟩ := hS;unfold Jd;rw [List.length_map, Array.length_toList];exact so.bd
theorem SIS.same (hS : SIS P w h a ks) (k : ∀ o, h.get? a = some o -> h'.get? a = some o) : SIS P w h' a ks := by
 obtain ⟨o, es, t, g, r⟩ := hS;exact ⟨o, es, t, k o g, r⟩
theorem HW {o : Obj} {es es' : C8} {t t' : SetTable} (g : s.heap.get? a = some o) (so : Mv P w o es t) (el : ElemsOf (PySem.strKind P w) es'.toList) (bd : es'.size < scanBound) (ft : t'.fits es'.size = true) (ok : TOk (w.params.followText "set-order") t') (nd : (Jd es').Nodup) :
  ∃ o', (s.heap.update a (Obj.putSet es' t')).get? a = some o' /\ Mv P w o' es' t' := by
 obtain ⟨ep, hd⟩ := so.dt;have e := putSet_of es' t' hd;have q := Heap.get?_update_self (Obj.putSet es' t') g (by rw [e]; rfl);rw [e] at q;exact ⟨_, q, so.ex, ⟨_, rfl⟩, el, bd, ft, ok, nd⟩
theorem HJ {o : Obj} {es es' : C8} {t t' : SetTable} {Q : Unit -> Shared -> Prop} (g : s.heap.get? a = some o) (so : Mv P w o es t) (bd : es'.size < scanBound) (h : Q () { s with heap := s.heap.update a (Obj.putSet es' t') }) : wpAny (model P w) A (storeSet a es' t') Q E s := by
 obtain ⟨ep, hd⟩ := so.dt;exact wpAny_storeSet_of g hd h (fits_of_scanBound bd)
theorem NL {k : Str} {tok : Tok} {Q : Bool -> Shared -> Prop} (hS : SIS P w s.heap a ks) (room : ks.length + 1 < scanBound)
  (h : ∀ h' ks' b, Heap.SameBut a s.heap h' -> SIS P w h' a ks' -> (∀ z, z ∈ ks' ↔ z ∈ ks \/ z = k) -> ks'.length <= ks.length + 1 -> Q b { s with heap := h' }) :
  wpAny (model P w) A (setAddHashed a (.str k tok) ((PySem.strKind P w).hash k)) Q E s := by
 obtain ⟨o, es, t, g, so, rfl⟩ := hS;obtain ⟨ep, hd⟩ := so.dt;have len : (Jd es).length = es.size := by unfold Jd; rw [List.length_map, Array.length_toList]
 have key : (PySem.strKind P w).is k (.str k tok) = true := strKind_is _ _ _ _;have gv : ∀ (b : Bool) {s₁ : Shared} {Q' : Unit -> Shared -> Prop}, Q' () s₁ -> wpAny (model P w) A (match b with | true => rule "set.scan.the-table-gave-way" | false => pure ()) Q' E s₁ :=
  fun b s₁ Q' hq => match b with | false => wpAny_pure hq | true => wpAny_rule hq
 unfold setAddHashed setAddHashedIn;refine wpAny_holding (wpAny_bind (wpAny_setState_of g hd so.ft ?_)); dsimp only;rw [byScan_of (knd := PySem.strKind P w) (x := .str k tok) rfl so.bd so.el]; simp only [↓reduceIte]; unfold setAddByScan;refine wpAny_bind (wpAny_bind (wpAny_rule (wpAny_bind (wpAny_setScan_of key g hd so.ft so.el ?_))));cases hr : List.findIdx? (fun e => (PySem.strKind P w).is k e.2) es.toList with
 | some j =>
  obtain ⟨hj, hpj, _⟩ := List.findIdx?_eq_some_iff_getElem.mp hr;have hin : k ∈ Jd es := by
   obtain ⟨t', q⟩ := Value.isStrOf_shape (x := k) hpj;exact List.mem_map.mpr ⟨es.toList[j], List.getElem_mem hj, by rw [q]; rfl⟩
  refine wpAny_pure (wpAny_pure ?_);exact h s.heap (Jd es) false (Heap.SameBut.refl a s.heap) ⟨o, es, t, g, so, rfl⟩ (fun z => ⟨.inl, fun q => q.elim id fun e => e ▸ hin⟩) (Nat.le_succ _)
 | none =>
  have hno : k ∉ Jd es := fun hm => by
   obtain ⟨e, he, q⟩ := List.mem_map.mp hm;obtain ⟨t', q'⟩ := CQ so.el he;have := List.findIdx?_eq_none_iff.mp hr e he;rw [q', q] at this;exact absurd (strKind_is P w k t') (by rw [this]; exact Bool.false_ne_true)
  have pm := layNew_perm t es ((PySem.strKind P w).hash k) (.str k tok);have ft := layNew_fits t es ((PySem.strKind P w).hash k) (.str k tok);have tk := so.ok.new es ((PySem.strKind P w).hash k) (.str k tok);dsimp only;generalize layNew t es ((PySem.strKind P w).hash k) (.str k tok) = L at pm ft tk ⊢;obtain ⟨e1, t1, wd, gave⟩ := L; dsimp only at pm ft tk ⊢; rw [Array.toList_push] at pm;have el1 : ElemsOf (PySem.strKind P w) e1.toList := (so.el.push key rfl).perm pm;have pk : (Jd e1).Perm (Jd es ++ [k]) := by
   have := pm.map fun e : Int × Value => Lq e.2;rw [List.map_append] at this;exact this
  have sz1 : e1.size = es.size + 1 := by rw [<- Array.length_toList, pm.length_eq, List.length_append, Array.length_toList]; rfl
  have bd1 : e1.size < scanBound := by omega
  have nd1 : (Jd e1).Nodup := pk.nodup_iff.mpr (List.nodup_append.mpr ⟨so.nd, List.nodup_cons.mpr ⟨(fun q => nomatch q), List.nodup_nil⟩, fun x hx y hy e => hno (by rw [List.mem_singleton.mp hy] at e; rw [<- e]; exact hx)⟩);have mem1 : ∀ z, z ∈ Jd e1 ↔ z ∈ Jd es \/ z = k := fun z => by rw [pk.mem_iff, List.mem_append, List.mem_singleton]
  have fin : ∀ (t2 : SetTable), t2.fits e1.size = true -> TOk (w.params.followText "set-order") t2 -> wpAny (model P w) A (do
     storeSet a e1 t2
     if (!wd && t2.tooFull) = true then do
       (match (relayAll t2 e1 (SetTable.grown e1.size)).2.2 with | true => rule "set.scan.the-table-gave-way" | false => pure ())
       storeSet a (relayAll t2 e1 (SetTable.grown e1.size)).1 (relayAll t2 e1 (SetTable.grown e1.size)).2.1
       pure (some true)
      else pure (some true)) (fun r s' => ∃ h' ks', s' = { s with heap := h' } /\ r = some true /\ Heap.SameBut a s.heap h' /\ SIS P w h' a ks' /\ (∀ z, z ∈ ks' ↔ z ∈ Jd es \/ z = k) /\ ks'.length <= (Jd es).length + 1) E s := fun t2 ft2 tk2 => by
   obtain ⟨o1, g1, so1⟩ := HW (s := s) g so el1 bd1 ft2 tk2 nd1;refine wpAny_bind (HJ g so bd1 ?_);have sb1 := Heap.SameBut.update s.heap a (Obj.putSet e1 t2);have ln1 : (Jd e1).length <= (Jd es).length + 1 := by rw [pk.length_eq, List.length_append]; exact Nat.le_refl _
   split
   ·have pm2 := relayAll_perm t2 e1 (SetTable.grown e1.size);have ft3 := relayAll_fits t2 e1 (SetTable.grown e1.size);have tk3 := tk2.re e1 (SetTable.grown e1.size);generalize relayAll t2 e1 (SetTable.grown e1.size) = L at pm2 ft3 tk3 ⊢;obtain ⟨e2, t3, gave2⟩ := L; dsimp only at pm2 ft3 tk3 ⊢;have pk2 : (Jd e2).Perm (Jd e1) := pm2.map _;have sz2 : e2.size = e1.size := by rw [<- Array.length_toList, pm2.length_eq, Array.length_toList]
    have bd2 : e2.size < scanBound := by omega
    obtain ⟨o2, g2, so2⟩ := HW (s := { s with heap := s.heap.update a (Obj.putSet e1 t2) }) g1 so1 (el1.perm pm2) bd2 ft3 tk3 (pk2.nodup_iff.mpr nd1);refine wpAny_bind (gv _ (wpAny_bind (HJ (s := { s with heap := s.heap.update a (Obj.putSet e1 t2) }) g1 so1 bd2 (wpAny_pure ?_))));exact ⟨_, _, rfl, rfl, sb1.trans (Heap.SameBut.update _ a _), ⟨o2, e2, t3, g2, so2, rfl⟩, fun z => (pk2.mem_iff).trans (mem1 z), by rw [pk2.length_eq]; exact ln1⟩
   ·exact wpAny_pure ⟨_, _, rfl, rfl, sb1, ⟨o1, e1, t2, g1, so1, rfl⟩, mem1, ln1⟩
  refine wpAny_bind (gv _ ?_)
  split
  ·rw [hashByValue_scannable 8 (x := .str k tok) rfl];refine wpAny_bind (wpAny_pure ?_);rw [show plainKind (Value.str k tok) = false from rfl]; simp only [Bool.false_eq_true, ↓reduceIte];exact wpAny_mono (fin { t1 with plain := false } ft ⟨tk.led, tk.dm, fun e => (nomatch e)⟩) (fun r s' ⟨h', ks', e1, e2, sb, hs, hm, hl⟩ => by subst e1 e2; exact wpAny_pure (h h' ks' true sb hs hm hl)) fun _ _ q => q
  ·refine wpAny_bind (wpAny_pure ?_); simp only [↓reduceIte];exact wpAny_mono (fin t1 ft tk) (fun r s' ⟨h', ks', e1, e2, sb, hs, hm, hl⟩ => by subst e1 e2; exact wpAny_pure (h h' ks' true sb hs hm hl)) fun _ _ q => q
end
section
variable {R : Result -> Shared -> Prop} {I : Addr} {fp wr : List Addr} {G : Array GenState -> Array GenState -> Prop} {Pv : Nat -> Value -> Prop} {St : Nat -> Shared -> Prop}
theorem E9 (W : WalksS P w A.in1 I fp wr G n Pv St) (S : Addr) (hSf : S ∉ fp) (val : Nat -> Str) (hval : ∀ i v, Pv i v -> ∃ t, v = .str (val i) t) (hb : n + 1 < scanBound) :
  ∀ (k i : Nat) (s : Shared) (ks : List Str), n - i = k -> i <= n -> St i s -> SIS P w s.heap S ks -> ks.length <= i -> (∀ z, z ∈ ks ↔ ∃ j, j < i /\ z = val j) ->
   (∀ s' ks', Moved (S :: wr) G s s' -> SIS P w s'.heap S ks' -> (∀ z, z ∈ ks' ↔ ∃ j, j < n /\ z = val j) -> ks'.length <= n -> R (.ok (.ret .none)) s') ->
   codeAny (model P w) A (.builtin "set.update.loop" ⟨[.ref S, .ref I], []⟩) R s := by
 have hSw : S ∉ wr := fun h => hSf (W.sub _ h);have up : ∀ b, b ∈ wr -> b ∈ S :: wr := fun _ h => List.mem_cons_of_mem _ h;intro k
 induction k with
 | zero =>
  intro i s ks hk hi hst hS hl hm hR;obtain rfl : i = n := by omega
  refine codeAny_builtin PyProof.Rows.F.entry_set_update_loop ?_; rw [Around.under_plainId PyProof.Rows.F.plain_set_update_loop _];refine wpAny_bind (W.done s _ _ hst fun s' mv => wpAny_pure ?_);exact hR s' ks (mv.mono up) (hS.same fun o e => mv.heap S o hSw e) hm hl
 | succ k ih =>
  intro i s ks hk hi hst hS hl hm hR;have hlt : i < n := by omega
  refine codeAny_builtin PyProof.Rows.F.entry_set_update_loop ?_; rw [Around.under_plainId PyProof.Rows.F.plain_set_update_loop _];refine wpAny_bind (W.item i s _ _ hlt hst fun v s' hP hst' mv => ?_);obtain ⟨t, rfl⟩ := hval i v hP;have hS' : SIS P w s'.heap S ks := hS.same fun o e => mv.heap S o hSw e;refine wpAny_bind (wpAny_holding ?_); unfold setAdd;refine wpAny_holding (wpAny_bind ((PySem.strKind P w).pyHash (k := val i) (strKind_is _ _ _ _) ?_));refine NL (s := { s' with toks := s'.toks + 1 }) hS' (by omega) fun h' ks' b sb hS2 hm2 hl2 => ?_;refine wpAny_pure ⟨plainId_quiet PyProof.Rows.F.plain_set_update_loop _, ih (i + 1) _ ks' (by omega) hlt (W.frame _ s' _ _ hst' (Nat.le_succ _) fun b hb o e => ?_) hS2 (by omega) (fun z => ?_) fun s'' ks'' mv'' hS'' hm'' hl'' => ?_⟩
  ·exact (sb.2 b fun h : b = S => hSf (by rw [<- h]; exact hb)).trans e
  ·rw [hm2, hm];constructor
   ·rintro (⟨j, hj, e⟩ | e)
    ·exact ⟨j, by omega, e⟩
    ·exact ⟨i, by omega, e⟩
   ·rintro ⟨j, hj, e⟩
    by_cases ej : j = i
    ·exact .inr (by rw [e, ej])
    ·exact .inl ⟨j, by omega, e⟩
  ·exact hR s'' ks'' (Moved.trans W.gtrans ((mv.mono up).then_heap (Nat.le_succ _) fun b o hb e => (sb.2 b fun h : b = S => hb (by rw [h]; exact List.mem_cons_self)).trans e) mv'') hS'' hm'' hl''
end
section
variable {E : Value -> Shared -> Prop}
theorem HM (g : h.get? a = some (VF w)) : SIS P w h a [] :=
 ⟨_, #[], _, g, ⟨⟨rfl, rfl, rfl⟩, ⟨0, rfl⟩, fun e he => by simp at he, by decide, rfl, ⟨rfl, rfl, fun _ => List.Pairwise.nil⟩, by simp [Jd]⟩, rfl⟩
theorem getD_memS {ns : List Str} (hn : ns.length = n) (z : Str) : (∃ j, j < n /\ z = ns.getD j Str.empty) ↔ z ∈ ns := by
 subst hn;constructor
 ·rintro ⟨j, hj, rfl⟩;rw [List.getD_eq_getElem?_getD, List.getElem?_eq_getElem hj];exact List.getElem_mem hj
 ·intro hz;obtain ⟨j, hj, e⟩ := List.mem_iff_getElem.mp hz;exact ⟨j, hj, by rw [List.getD_eq_getElem?_getD, List.getElem?_eq_getElem hj]; exact e.symm⟩
set_option maxHeartbeats 4000000 in
theorem Gu {l : Addr} {items : Array Value} {ns : List Str} {Q : Value -> Shared -> Prop} (hh : A.handled = none) (hl : s.heap.IsList l items) (hi : StrsAre items.toList ns) (hb : items.size + 1 < scanBound)
  (h : ∀ (h' : Heap) (tk : Nat) (ks : List Str), SIS P w h' s.heap.objs.size ks -> (∀ z, z ∈ ks ↔ z ∈ ns) -> ks.length <= ns.length -> (∀ b o, b < s.heap.objs.size -> s.heap.get? b = some o -> h'.get? b = some o) -> Q (.ref s.heap.objs.size) { s with heap := h', toks := tk }) :
  wpAny (model P w) A (call (.type "set") [.ref l]) Q E s := by
 obtain ⟨c, tl, hmro⟩ := PySem.F.called_set.mro;have ln : ns.length = items.size := by rw [<- StrsAre.length hi, Array.length_toList]
 have hmade := PySem.F.called_set.made; have hsub := PySem.F.called_set.sub;refine wpAny_call (codeAny_of_tree ?_); show wpAny _ _ (callAny (.type "set") _) _ _ _;refine wpAny_pure ⟨Code.quiet_builtin _ (by walk_at "k"), codeAny_builtin PySem.F.entry_type_call ?_⟩;rw [Around.under_plain (weight_type_call_type "set" [.ref l] []) rfl];have h1 := PySem.F.called_set.notType; have h2 := PySem.F.called_set.canCreate; have hct := PySem.F.typeCall_set_1 (.ref l)
 repeat (any_goals (first | assumption | wp_step))
 refine codeAny_mono (Zdz (P := P) (w := w) (.ref l) (E := E) (Q₁ := fun obj s₁ => obj = .ref s.heap.objs.size /\ s₁ = { s with heap := s.heap.push (VF w) }) ⟨rfl, rfl⟩) fun r s₁ hr => ?_;cases r with
 | error e => exact hr
 | ok fl =>
  cases fl with
  | ret obj =>
   obtain ⟨rfl, rfl⟩ := hr;have hS : (s.heap.push (VF w)).get? s.heap.objs.size = some (VF w) := Heap.get?_push_size _ rfl;have hT : Shared.TypeIs { s with heap := s.heap.push (VF w) } (.ref s.heap.objs.size) "set" := ⟨_, hS, rfl⟩
   have hli := PySem.F.called_set.init.lookup; have hbi := PySem.F.called_set.init.bind (.ref s.heap.objs.size)
   repeat (any_goals (first | assumption | wp_step))
   refine codeAny_mono (codeAny_call_builtin (R := wants (fun r s₂ => r = .none /\ ∃ h' tk ks, s₂ = { s with heap := h', toks := tk } /\ SIS P w h' s.heap.objs.size ks /\ (∀ z, z ∈ ks ↔ z ∈ ns) /\ ks.length <= ns.length /\ (∀ b o, b < s.heap.objs.size -> s.heap.get? b = some o -> h'.get? b = some o)) E)
    PySem.F.called_set.init.plain PySem.F.entry_set_init (check_set_init_1 hT ?_)) fun r₂ s₂ hr₂ => ?_
   ·obtain ⟨ol, hol, hcl, nl, hdl⟩ := hl;obtain ⟨ocls, odict, odata, oslots⟩ := ol;simp only at hcl hdl;subst hcl; subst hdl;have hol' : (s.heap.push (VF w)).get? l = some { cls := .type "list", dict := odict, data := .seq items nl, slots := oslots } := Heap.get?_push_of_some _ hol;have hsls := PySem.F.sub_list_set; have hslf := PySem.F.sub_list_frozenset; have hne : (Value.type "list" == Value.type "dict") = false := by decide
    have hl1 : (s.heap.push (VF w)).IsList l items := ⟨_, hol', rfl, nl, rfl⟩
    unfold Builtin.«set.__init__» noKeywords Builtin.Frozenset.updateFrom;generalize hPI : pyIter = PI; wp_walk; subst hPI;refine wpAny_pyIter_list hl1 (wpAny_bind (wpAny_runValue ?_));have lS : l < s.heap.objs.size := Heap.lt_size hol;have nI : l ≠ (s.heap.push (VF w)).objs.size := by rw [Heap.size_push]; exact Nat.ne_of_lt (Nat.lt_succ_of_lt lS)
    have nS : s.heap.objs.size ∉ [(s.heap.push (VF w)).objs.size, l] := by
     rw [Heap.size_push]; simp only [List.mem_cons, List.not_mem_nil, or_false, not_or]; exact ⟨Nat.ne_of_lt (Nat.lt_succ_self _), Nat.ne_of_gt lS⟩
    refine E9 (P := P) (w := w) ((Walks.list (show A.in1.in1.in1.handled = none by simp [hh]) _ l nI items).toS) s.heap.objs.size nS (fun i => ns.getD i Str.empty) (fun i v hv => LU hi i v (by rw [Array.getElem?_toList]; exact hv)) hb (items.size - 0) 0 _ [] (by omega) (Nat.zero_le _)
     ⟨⟨_, Heap.get?_push_size _ rfl, rfl, rfl⟩, (hl1.push _)⟩ (HM (Heap.get?_push_of_some _ hS)) (Nat.le_refl _) (fun z => ⟨fun q => (nomatch q), fun ⟨j, hj, _⟩ => by omega⟩) ?_
    intro s' ks mv hS' hm hlk;obtain ⟨h', g', d', tk', os'⟩ := s';have eg : g' = s.gens := mv.gens;have ed : d' = s.drawn := mv.drawn;have eo : os' = s.os := mv.os;subst eg ed eo;refine wpAny_pure (wpAny_pure ⟨rfl, h', tk', ks, rfl, hS', fun z => (hm z).trans (getD_memS ln z), by rw [ln]; exact hlk, fun b o hb e => ?_⟩);have b2 : b ≠ (s.heap.push (VF w)).objs.size := by rw [Heap.size_push]; exact Nat.ne_of_lt (Nat.lt_succ_of_lt hb)
    exact mv.heap b o (by simp only [List.mem_cons, List.not_mem_nil, or_false, not_or]; exact ⟨Nat.ne_of_lt hb, b2⟩) (Heap.get?_push_of_some _ (Heap.get?_push_of_some _ e))
   ·cases r₂ with
    | error e => exact hr₂
    | ok fl₂ =>
     cases fl₂ with
     | ret r =>
      obtain ⟨rfl, h', tk, ks, rfl, q1, q2, q3, q4⟩ := hr₂
      repeat (any_goals (first | assumption | wp_step))
      exact h _ _ ks q1 q2 q3 q4
     | _ => exact hr₂.elim
  | _ => exact hr.elim
end
section
variable {E : Value -> Shared -> Prop}
theorem Pa {Q : Value -> Shared -> Prop} (hS : SIS P w s.heap S ks)
  (hQ : ∀ it T es ep t L h' d, Zdg w it S T es ep t L 0 h' -> S ≠ it -> T ≠ it -> s.heap.objs.size <= it -> (T = S \/ s.heap.objs.size <= T) -> (L.map Lq).Perm ks -> (∀ v ∈ L, ∃ t, v = .str (Lq v) t) -> es.size = ks.length -> (∀ b o, s.heap.get? b = some o -> h'.get? b = some o) -> Q (.ref it) { s with heap := h', drawn := d }) :
  wpAny (model P w) A (pyIter (.ref S)) Q E s := by
 obtain ⟨o, es, t, g, so, rfl⟩ := hS;obtain ⟨ep, hd⟩ := so.dt;have hTy : s.TypeIs (.ref S) "set" := ⟨o, g, so.ex.1⟩
 have all : ∀ v ∈ es.toList.map (·.2), ∃ t, v = .str (Lq v) t := fun v hv => by
  obtain ⟨e, he, rfl⟩ := List.mem_map.mp hv;exact CQ so.el he
 have len : es.size = (Jd es).length := by unfold Jd; rw [List.length_map, Array.length_toList]
 have lt : S < s.heap.objs.size := Heap.lt_size g;refine wpAny_pyIter_slot hTy PySem.F.slot_set_iter (wpAny_call_entry PySem.F.slot_set_iter hTy Cq ?_ (PySem.F.args_set_iter_1 _));show wpAny _ _ (Builtin.Frozenset.sizeOf S >>= _) _ _ _;unfold Builtin.Frozenset.sizeOf;refine wpAny_bind (wpAny_bind (wpAny_setEntries_of g hd so.ft (wpAny_pure ?_)));unfold setDrawn setsByText;refine wpAny_bind (wpAny_bind (wpAny_setState_of g hd so.ft ?_)); dsimp only;refine wpAny_bind (wpAny_bind (wpAny_askSetting (wpAny_pure (wpAny_pure ?_))))
 have fin : ∀ (first : Value) (s₁ : Shared), s₁.heap.get? S = some o -> wpAny (model P w) A.in1 (do
    let e <- setEpoch S
    let it <- newFields "set_iterator" [first, rawInt 0, Value.ref S, rawInt (es.size : Int), rawInt (e : Int)]
    ret it) (fun fin s' => ∃ v, fin = PySem.Fin.done (Flow.ret v) /\ v = .ref s₁.heap.objs.size /\ s' = { s₁ with heap := s₁.heap.push { cls := .type "set_iterator", dict := none, data := .fields #[first, rawInt 0, .ref S, rawInt es.size, rawInt ep], slots := #[] } }) E s₁ := fun first s₁ g₁ => by
  refine wpAny_bind (wpAny_setEpoch_of g₁ hd so.ft ?_);unfold newFields;refine wpAny_bind (wpAny_newObj_type ?_ (by size_fits));exact wpAny_pure ⟨_, rfl, rfl, rfl⟩
 have nx : ∀ (s' : Shared) (it : Addr) (first : Value), s'.heap.get? it = some { cls := .type "set_iterator", dict := none, data := .fields #[first, rawInt 0, .ref S, rawInt es.size, rawInt ep], slots := #[] } -> s'.TypeIs (.ref it) "set_iterator" := fun _ _ _ q => ⟨_, q, rfl⟩;show wpAny _ _ (if (!w.params.followText "set-order" && (!t.plain && decide (es.size > 1))) = true then _ else _) _ _ _;cases bt : w.params.followText "set-order" with
 | true =>
  simp only [Bool.not_true, Bool.false_and, Bool.false_eq_true, if_false];refine wpAny_bind (wpAny_pure (wpAny_mono (fin (rawInt 0) s g) (fun r s' ⟨v, e1, e2, e3⟩ => ?_) fun _ _ q => q));subst e1 e2 e3;have gi : (s.heap.push { cls := .type "set_iterator", dict := none, data := .fields #[rawInt 0, rawInt 0, .ref S, rawInt es.size, rawInt ep], slots := #[] }).get? s.heap.objs.size = some _ := Heap.get?_push_size _ rfl;refine ⟨_, rfl, "set_iterator", _, nx _ _ _ gi, JL.lookup, hQ _ S es ep t _ _ s.drawn ⟨_, o, gi, Heap.get?_push_of_some _ g, hd, so.ft, .inl ⟨bt, rfl, rfl⟩, fun T' e => nomatch e⟩ (Nat.ne_of_lt lt) (Nat.ne_of_lt lt) (Nat.le_refl _) (.inl rfl) ?_ ?_ len fun b o q => Heap.get?_push_of_some _ q⟩
  ·rw [List.map_map];exact (YG _ es).map _
  ·intro v hv;exact all v (((YG _ es).map _).mem_iff.mp hv)
 | false =>
  cases dr : (!t.plain && decide (es.size > 1)) with
  | false =>
   simp only [Bool.not_false, Bool.true_and, Bool.false_eq_true, if_false];refine wpAny_bind (wpAny_pure (wpAny_mono (fin (rawInt 0) s g) (fun r s' ⟨v, e1, e2, e3⟩ => ?_) fun _ _ q => q));subst e1 e2 e3;have gi : (s.heap.push { cls := .type "set_iterator", dict := none, data := .fields #[rawInt 0, rawInt 0, .ref S, rawInt es.size, rawInt ep], slots := #[] }).get? s.heap.objs.size = some _ := Heap.get?_push_size _ rfl;have pl : t.plain = true \/ es.size <= 1 := by
    cases hp : t.plain with
    | true => exact .inl rfl
    | false =>
     rw [hp] at dr;have := of_decide_eq_false (show decide (es.size > 1) = false from dr);exact .inr (by omega)
   have up : Rsg t.place.toList := by
    rcases pl with pl | pl
    ·exact so.ok.up pl
    ·have sz : t.place.toList.length <= 1 := by
      have hf := so.ft;unfold SetTable.fits at hf;rw [Bool.and_eq_true] at hf;rw [Array.length_toList, eq_of_beq hf.1];exact pl
     match t.place.toList, sz with
     | [], _ => exact List.Pairwise.nil
     | [a], _ => exact List.pairwise_singleton _ _
   refine ⟨_, rfl, "set_iterator", _, nx _ _ _ gi, JL.lookup, hQ _ S es ep t _ _ s.drawn ⟨_, o, gi, Heap.get?_push_of_some _ g, hd, so.ft, .inr (.inr ⟨bt, rfl, up, by rw [so.ok.led, bt]; rfl, pl, rfl⟩), fun T' e => nomatch e⟩ (Nat.ne_of_lt lt) (Nat.ne_of_lt lt) (Nat.le_refl _) (.inl rfl) ?_ all len fun b o q => Heap.get?_push_of_some _ q⟩;rw [List.map_map];exact .refl _
  | true =>
   simp only [Bool.not_false, Bool.true_and, if_true];refine wpAny_bind (Fm _ _ _ _ List.length_range fun ps d hp => ?_);have lp : ps.length = es.size := by rw [hp.length_eq, List.length_range]
   refine wpAny_bind (wpAny_newTuple ?_ (by rw [List.length_map, lp]; exact fits_of_scanBound so.bd));refine wpAny_mono (fin (.ref s.heap.objs.size) _ (Heap.get?_push_of_some _ g)) (fun r s' ⟨v, e1, e2, e3⟩ => ?_) fun _ _ q => q;subst e1 e2 e3;have sz : (s.heap.push { cls := .type "tuple", data := .seq (ps.map fun p : Nat => rawInt (p : Int)).toArray }).objs.size = s.heap.objs.size + 1 := Heap.size_push ..;have gT : (s.heap.push { cls := .type "tuple", data := .seq (ps.map fun p : Nat => rawInt (p : Int)).toArray }).get? s.heap.objs.size = some _ := Heap.get?_push_size _ rfl;have gi : ((s.heap.push { cls := .type "tuple", data := .seq (ps.map fun p : Nat => rawInt (p : Int)).toArray }).push { cls := .type "set_iterator", dict := none, data := .fields #[.ref s.heap.objs.size, rawInt 0, .ref S, rawInt es.size, rawInt ep], slots := #[] }).get? (s.heap.push { cls := .type "tuple", data := .seq (ps.map fun p : Nat => rawInt (p : Int)).toArray }).objs.size = some _ := Heap.get?_push_size _ rfl;have pm : (ps.map fun p => (es.getD p (0, Value.none)).2).Perm (es.toList.map (·.2)) := by
    refine (hp.map _).trans (.of_eq ?_);refine List.ext_getElem (by simp) fun i h1 h2 => ?_;have hi : i < es.size := by simpa using h1
    simp [Array.getD, hi]
   refine ⟨_, rfl, "set_iterator", _, nx _ _ _ gi, JL.lookup, hQ _ s.heap.objs.size es ep t _ _ d ⟨_, o, gi, Heap.get?_push_of_some _ (Heap.get?_push_of_some _ g), hd, so.ft, .inr (.inl ⟨bt, s.heap.objs.size, ps, rfl, ⟨_, Heap.get?_push_of_some _ gT, rfl, _, rfl⟩, hp, rfl⟩), fun T' e => by cases e; rfl⟩ ?_ ?_ ?_ (.inr (Nat.le_refl _)) ?_ ?_ len fun b o q => Heap.get?_push_of_some _ (Heap.get?_push_of_some _ q)⟩
   ·intro e;rw [sz] at e;exact absurd e (Nat.ne_of_lt (Nat.lt_succ_of_lt lt))
   ·intro e;rw [sz] at e;exact absurd e (Nat.ne_of_lt (Nat.lt_succ_self _))
   ·rw [sz];exact Nat.le_succ _
   ·have := pm.map Lq;rw [List.map_map (f := fun x : Int × Value => x.2)] at this;exact this
   ·intro v hv;exact all v (pm.mem_iff.mp hv)
end
theorem L1 : ∀ L : List Value, (∀ v ∈ L, ∃ t, v = .str (Lq v) t) -> StrsAre L (L.map Lq)
 | [], _ => .nil
 | v :: L, h => by
  obtain ⟨t, e⟩ := h v List.mem_cons_self;have := L1 L fun x hx => h x (List.mem_cons_of_mem _ hx);rw [List.map_cons, e];exact .cons _ t this
section
variable {E : Value -> Shared -> Prop}
theorem GW {Q : List Value -> Shared -> Prop} (hh : A.handled = none) (hS : SIS P w s.heap S ks)
  (hQ : ∀ (vs : List Value) (s' : Shared), StrsAre vs (vs.map Lq) -> (vs.map Lq).Perm ks -> s'.gens = s.gens -> s'.os = s.os -> s.toks <= s'.toks -> (∀ b o, s.heap.get? b = some o -> s'.heap.get? b = some o) -> Q vs s') :
  wpAny (model P w) A (collect (.ref S)) Q E s := by
 have hz := hS.size;obtain ⟨o, es0, t0, g, so, e0⟩ := id hS;have lt : S < s.heap.objs.size := Heap.lt_size g;unfold collect;refine wpAny_bind (wpAny_runValue (codeAny_builtin PySem.F.entry_proto_collect ?_)); rw [Around.under_plainId PySem.F.plain_proto_collect _];show wpAny _ A.in1 (newList [] >>= fun l => again (.builtin "list.__iadd__" ⟨[l, .ref S], []⟩)) _ _ s;refine wpAny_bind (wpAny_newObj_type (wpAny_pure ⟨plainId_quiet PySem.F.plain_list_iadd _, codeAny_builtin PySem.F.entry_list_iadd ?_⟩)); rw [Around.under_plainId PySem.F.plain_list_iadd _];show wpAny _ A.in1 (Builtin.List.listExtendWith (.ref s.heap.objs.size) (.ref S) (.ref s.heap.objs.size)) _ _ _;have hS1 : SIS P w (s.heap.push { cls := .type "list", data := .seq ([] : List Value).toArray }) S ks := hS.same fun o q => Heap.get?_push_of_some _ q;have hTy : Shared.TypeIs { s with heap := s.heap.push { cls := .type "list", data := .seq ([] : List Value).toArray } } (.ref S) "set" := ⟨o, Heap.get?_push_of_some _ g, so.ex.1⟩
 unfold Builtin.List.listExtendWith;refine wpAny_bind (wpAny_typeOf hTy ?_);have h1 : Builtin.List.listSameRef (.ref s.heap.objs.size) (.ref S) = false := by simp [Builtin.List.listSameRef]; exact fun e => absurd e (Nat.ne_of_gt lt)
 simp only [h1, show (Value.type "set" == Value.type "list") = false by decide, show (Value.type "set" == Value.type "tuple") = false by decide, Bool.or_false, Bool.false_eq_true, if_false];refine wpAny_bind (Pa hS1 fun it T es ep t L h2 d st nS nT lit lT pL hL len k2 => ?_);have hTy2 : Shared.TypeIs { s with heap := h2, drawn := d } (.ref S) "set" := ⟨o, k2 S o (Heap.get?_push_of_some _ g), so.ex.1⟩
 refine wpAny_bind (wpAny_holding ?_);unfold Builtin.List.listLengthHint;refine wpAny_bind (wpAny_specialOf hTy2 RZ.lookup ?_)
 (generalize hid : ("set.__len__" : String) = id0; (fail_if_success (clear hid id0)); wp_delta; rw [show splitId id0 = some ("set", "__len__") from by subst hid; decide +kernel]; subst hid)
 refine wpAny_bind (wpAny_isInstance (b := true) hTy2 sub_set_self ?_);rw [if_neg (by decide)]; dsimp only;rw [if_pos (by walk_at "k")];refine wpAny_bind (wpAny_typeOf hTy2 (wpAny_pure ?_));rw [if_pos (by walk_at "k")];have gN : h2.get? s.heap.objs.size = some { cls := .type "list", data := .seq ([] : List Value).toArray } := k2 _ _ (Heap.get?_push_size _ rfl);have szp : (s.heap.push { cls := .type "list", data := .seq ([] : List Value).toArray }).objs.size = s.heap.objs.size + 1 := size_push' _ _;have nN : s.heap.objs.size ∉ [it, S, T] := fun hm => by
  rw [show (Shared.heap { s with heap := s.heap.push { cls := .type "list", data := .seq ([] : List Value).toArray } }).objs.size = s.heap.objs.size + 1 from szp] at lit lT;simp at hm
  rcases hm with e | e | e
  ·omega
  ·exact absurd e (Nat.ne_of_gt lt)
  ·rcases lT with q | q
   ·exact absurd (e.trans q) (Nat.ne_of_gt lt)
   ·omega
 have W := (EV (P := P) (w := w) (A := A.in1) (es := es) (ep := ep) (t := t) (L := L) hh it S T nS nT)
 have g2 := Heap.get?_update_self (Obj.mapSeq (·.push Value.none)) gN rfl;have g3 := Heap.get?_update_self (Obj.mapSeq (·.pop)) g2 rfl;have oth : ∀ b o, b ≠ s.heap.objs.size -> h2.get? b = some o -> ((h2.update s.heap.objs.size (Obj.mapSeq (·.push Value.none))).update s.heap.objs.size (Obj.mapSeq (·.pop))).get? b = some o :=
  fun b o hb e => (Heap.get?_update_other _ _ (Ne.symm hb)).trans ((Heap.get?_update_other _ _ (Ne.symm hb)).trans e)
 refine wpAny_bind (wpAny_rule (wpAny_bind ?_));show wpAny _ A.in1 (updateSeq s.heap.objs.size (·.push .none) >>= fun _ => updateSeq s.heap.objs.size (·.pop)) _ _ _;refine wpAny_bind (wpAny_updateSeq gN rfl (wpAny_updateSeq g2 rfl ?_));have lL : L.length = es.size := by rw [len, <- pL.length_eq, List.length_map]
 refine wpAny_pure ⟨plainId_quiet PySem.F.plain_extend_loop _, codeAny_extend_loopS W.toS (by rw [len]; exact Nat.le_trans (Nat.le_of_lt hz) (by decide)) _ nN _ es.size 0 _ _ _ rfl (Nat.zero_le _) (W.frame 0 h2 _ st fun b hb o e => oth b o (fun q => nN (q ▸ hb)) e) g3 (ItemsOf.nil _) fun s' acc c hm hS' hacc => ?_⟩;have eL : acc.toList = L := by
  refine List.ext_getElem? fun j => ?_
  by_cases hj : j < acc.size
  ·rw [Array.getElem?_toList, Array.getElem?_eq_getElem hj];exact (hacc.2 j _ (Array.getElem?_eq_getElem hj)).symm
  ·rw [List.getElem?_eq_none (by rw [Array.length_toList]; omega), List.getElem?_eq_none (by rw [lL, <- hacc.1]; omega)]
 show wpAny _ A (load s.heap.objs.size >>= _) _ _ s';refine wpAny_bind (wpAny_load hS' (wpAny_pure ?_));rw [eL];refine hQ L s' (L1 L hL) pL hm.gens hm.os hm.toks fun b o q => ?_;have bl : b < s.heap.objs.size := Heap.lt_size q;refine hm.heap b o (fun hb => ?_) (oth b o (Nat.ne_of_lt bl) (k2 b o (Heap.get?_push_of_some _ q)));rw [show (Shared.heap { s with heap := s.heap.push { cls := .type "list", data := .seq ([] : List Value).toArray } }).objs.size = s.heap.objs.size + 1 from szp] at lit
 rcases List.mem_cons.mp hb with e | e
 ·exact absurd e (Nat.ne_of_lt bl)
 ·rw [List.mem_singleton.mp e] at bl; exact absurd (Nat.lt_of_lt_of_le bl (Nat.le_of_succ_le lit)) (Nat.lt_irrefl _)
end
theorem SIS.nodup (q : SIS P w h a ks) : ks.Nodup := by
 obtain ⟨o, es, t, _, so, rfl⟩ := q;exact so.nd
section
variable {E : Value -> Shared -> Prop}
theorem Cc {Q : Value -> Shared -> Prop} (hh : A.handled = none) (hS : SIS P w s.heap S ks) (h64 : ks.length < 64)
  (h : ∀ (out : Array Value) (ns : List Str) (s1 : Shared) (h' : Heap) (e : Nat), StrsAre out.toList ns -> ns.Perm ks -> sortedS ns = true -> s1.gens = s.gens -> s1.os = s.os -> (∀ b o, s.heap.get? b = some o -> s1.heap.get? b = some o) -> (∀ b o, s1.heap.get? b = some o -> h'.get? b = some o) -> h'.get? s1.heap.objs.size = some (seqObj "list" out e) -> Q (.ref s1.heap.objs.size) { s1 with heap := h' }) :
  wpAny (model P w) A (call (.builtin "sorted") [.ref S]) Q E s := by
 refine Calls.call_function_entry kind_sorted plain_sorted entry_sorted (args_sorted1 _) ?_; unfold Builtin.«sorted»;refine wpAny_bind (m := checkCount "sorted" 1 1 _) (wpAny_pure (wpAny_bind (GW (by exact hh) hS fun vs s1 a1 a2 a3 a4 a5 a6 => wpAny_bind (wpAny_newList ?_ (by have := a2.length_eq; rw [List.length_map] at this; rw [sizeLine_eq]; omega)))));have hoL : (s1.heap.push (seqObj "list" vs.toArray 0)).get? s1.heap.objs.size = some (seqObj "list" vs.toArray 0) := Heap.get?_push_size _ rfl;have hl : vs.length < 64 := by have := a2.length_eq; rw [List.length_map] at this; omega
 show wpAny _ _ _ _ _ { s1 with heap := s1.heap.push (seqObj "list" vs.toArray 0) };refine wpAny_bind (wpAny_holding (wpAny_call_entry slot_list_sort ⟨_, hoL, rfl⟩ entry_list_sort (list_sort_treeK strKind_oneLt hoL a1.keysOf (fun v₁ v₂ rest e => keyKind_strs (by rw [<- e]; exact a1)) hl fun st' hp hs => ⟨_, rfl, ?_⟩) (args_list_sort _)));obtain ⟨ns', b1, b2, b3⟩ := sorted_out_str a1 hp hs;obtain ⟨e, he⟩ := Tn s1.heap vs ((arrOf st').map (·.2));exact wpAny_pure ⟨_, rfl, h _ ns' s1 _ e b1 (b2.trans a2) b3 a3 a4 a6 (fun b o q => MR q) he⟩
end
section
variable {t : TA} {p pos2 : Pos}
def Ziy (X : Cx) (t : TA) : TE := fun O H Q => t O H fun xs H1 => ∃ (l : Addr) (ns : List Str), xs = [.ref l] /\ SqL X.K H1 l (ns.map V.str) /\ ns.length < 64 /\ ∀ ks : List Str, sortedS ks = true -> ks.Nodup -> (∀ z, z ∈ ks ↔ z ∈ ns) -> ∀ l, H1 l = none -> Q (.ref l) (upd H1 l (.lst (ks.map V.str)))
theorem W8 (hc : X.calm = true) (hg : Gl X "sorted") (hm : X.mg "sorted" = none) (hg2 : Gl X "set") (hm2 : X.mg "set" = none) (ha : PA X [e] t) (he : autoParam (starEach [e] X.env = [(false, eval e X.env)]) zz3._auto_1) :
  PE X (.Call (.Name "sorted" p) [.Call (.Name "set" p2) [e] [] pos2] [] pos) (Ziy X t) := by
 intro pins s O H Q I h;refine wpAny_Call_Name_kw (Vx I hg hm (u := .builtin "sorted") (by rfl) ?_ (by decide) (by decide));refine PyProof.Rows.callWith_builtin1 ?_ (by rfl) (by rfl);refine Calls.spliced_cons (wpAny_Call_Name_kw (Vx I hg2 hm2 (u := .type "set") (by rfl) ?_ (by decide) (by decide)));refine PyProof.Rows.callWith_type1 (thn (ha pos2 pins s O H _ I h) fun us s1 ⟨vs, H1, I1, r1, q1⟩ => ?_) he (by rfl);obtain ⟨l, ns, rfl, hq, h64, q⟩ := q1;obtain ⟨u, rfl, rx⟩ := vals1 r1;cases rx;obtain ⟨its, rv, pl, hz⟩ := I1.list hq;have hi : StrsAre its ns := Xl rv;have hlen : its.length < 64 := by have := rv.length; rw [List.length_map] at this; omega
 refine Gu (I1.ok.hd hc) pl.isList (by simpa using hi) (by simpa using Nat.lt_trans (Nat.succ_lt_succ hlen) (by decide)) fun h' tk ks a1 a2 a3 a4 => ?_;have k1 : ∀ b o, s1.heap.get? b = some o -> h'.get? b = some o := fun b o q => a4 b o (Heap.lt_size q) q;refine Calls.spliced_nil ?_;refine Cc (s := { s1 with heap := h', toks := tk }) (I1.ok.hd hc) a1 (by omega) fun out ns' s2 h2 e b1 b2 b3 b4 b5 b6 b7 b8 => ?_;have I2 := I1.kept (t' := tk) k1;have I3 : Inv X pins O H1 s2 := I2.Zds (ch := []) b5 (Un.kept b6) (I2.hok.kept b6) (by rw [b4]; exact I2.bare) (fun _ z => nomatch z);have hn : H1 s2.heap.objs.size = none := I3.hok.fresh (Nat.le_refl _);refine ⟨.ref s2.heap.objs.size, _, I3.laid (t' := s2.toks) (a := s2.heap.objs.size) (o := .lst (ns'.map V.str)) b7 (Nat.le_refl _) ⟨?_, out.toList, e, UW b1, b8⟩, rfl, q ns' b3 ?_ (fun z => (b2.mem_iff).trans (a2 z)) _ hn⟩
 ·rw [List.length_map, b2.length_eq, sizeLine_eq];omega
 ·exact b2.nodup_iff.mpr (SIS.nodup a1)
def Zhp (t : DTA) : DTE := fun Z M Φ => t Z M fun xs M1 => on1 xs fun x => onK x M1 fun ds => Ku ds fun ns => ns.length < 64 /\ ∀ ks : List Str, sortedS ks = true -> ks.Nodup -> (∀ z, z ∈ ks ↔ z ∈ ns) -> Φ (.dat (.list (ks.map PyData.str))) M1
theorem Zba (t : DTA) (Z : DSt) (M : Mp) (Φ : DK) : Zhp t Z M Φ = (t Z M fun xs M1 => on1 xs fun x => onK x M1 fun ds => Ku ds fun ns => ns.length < 64 /\ ∀ ks : List Str, sortedS ks = true -> ks.Nodup -> (∀ z, z ∈ ks ↔ z ∈ ns) -> Φ (.dat (.list (ks.map PyData.str))) M1) := propext Iff.rfl
theorem WS {t : DTA} (hg : Gl X "sorted") (hm : X.mg "sorted" = none) (hg2 : Gl X "set") (hm2 : X.mg "set" = none) (ha : DA X [e] t) (hc : autoParam (X.calm = true) zz3._auto_1) (he : autoParam (starEach [e] X.env = [(false, eval e X.env)]) zz3._auto_1) :
  DE X (.Call (.Name "sorted" p) [.Call (.Name "set" p2) [e] [] pos2] [] pos) (Zhp t) := by
 obtain ⟨u, pa, q⟩ := ha;refine ⟨_, W8 hc hg hm hg2 hm2 pa he, fun O H Z M Φ Q r e h k => ?_⟩;refine q O H Z M _ _ r e h fun vs H1 xs M1 r1 st rv hx => ?_;replace hx := Zw hx;obtain ⟨x, rfl, hx⟩ := hx;replace hx := YV hx;obtain ⟨ds, hl, ns, rfl, h64, q⟩ := hx;replace hl : E8 x M1 (ns.map PyData.str) := hl;obtain ⟨v, rfl, h1⟩ := Paired.one rv;obtain ⟨a, ys, rfl, g1, g2⟩ := hl.sq r1 h1;rw [WG g2] at g1;exact ⟨a, ns, rfl, g1, h64, fun ks a b c l hl => (k.step st).dat (r1.new hl) (Step.new hl) (Dt.Y0 r1 hl (XY ks)) (q ks a b c)⟩
end
end DL
namespace DL
open PySem.W Builtin Builtin.Str
section
def Zg5 : V -> List V -> Hp -> VK -> Prop := fun x xs H Q => ∃ z y, x = .str z /\ xs = [.str y] /\ (y.length == 0) = false /\ z.length <= 10000000 /\ ∀ l, H l = none -> Q (.ref l) (upd H l (.lst ((Txt.split z y).map V.str)))
def ZhQ (to te : DTE) : DTE := fun Z M Φ => to Z M fun x M1 => onS x fun z => te Z M1 fun y M2 => onS y fun w => ((w.length == 0) = false /\ z.length <= 10000000) /\ Φ (.dat (.list ((Txt.split z w).map PyData.str))) M2
def Zgx : V -> List V -> Hp -> VK -> Prop := fun x xs H Q => ∃ z y, x = .str z /\ xs = [.str y] /\ Q (.bl (Txt.startswith z y)) H
def Zgt (to te : DTE) : DTE := fun Z M Φ => to Z M fun x M1 => onS x fun z => te Z M1 fun y M2 => onS y fun w => Φ (.dat (.bool (Txt.startswith z w))) M2
def Zhu : D1 := fun xs M Φ => on1 xs fun x => onS x fun z => ∃ n, PySem.intText? z = some n /\ z.length <= 640 /\ Φ (.dat (.int n)) M
section
variable {a b : Expr} {rest : List Expr} {ta tb : DTE}
def Zjz (ta tb : DTE) : DTE := fun Z M Φ => ta Z M fun x M1 => onS x fun z => z.length <= 1000 /\ if z.length = 0 then tb Z M1 Φ else Φ (.dat (.str z)) M1
end
def ZeS (to : DTE) : DTE := fun Z M Φ => to Z M fun x M1 => onO x fun l => Vp (M1 l) fun ds => Φ (.dat .none) (ZM M1 l (.lst ds.reverse))
def PV : DTS := fun _ _ _ => False
theorem OR (D : Ql) (Z : DSt) (M : Mp) : PV D Z M = False := rfl
theorem WY : DS X st PV := ⟨_, MD, fun _ _ _ _ _ _ _ _ h => h.elim⟩
end
end DL
namespace DL
open PySem.W
theorem Paired.getL {α β : Type} {F : α -> β -> Prop} : ∀ {l : List α} {m : List β} {i : Nat} {a : α}, Paired F l m -> l[i]? = some a -> ∃ b, m[i]? = some b /\ F a b
 | _, _, _, _, .nil, e => by simp at e
 | _, _, 0, _, .cons h _, e => by simp at e; subst e; exact ⟨_, rfl, h⟩
 | _, _, i + 1, a, .cons _ h, e => by
  obtain ⟨b, h1, h2⟩ := Paired.getL (i := i) (a := a) h (by simpa using e);exact ⟨b, by simpa using h1, h2⟩
theorem Paired.atI {α β : Type} {F : α -> β -> Prop} {l : List α} {m : List β} {i : Int} {b : β} (h : Paired F l m) (e : L2.atI m i = some b) : ∃ a, L2.atI l i = some a /\ F a b := by
 unfold L2.atI at e ⊢;rw [Paired.length h];cases q : ixN m.length i with
 | none => rw [q] at e; cases e
 | some j =>
  rw [q] at e;exact Paired.ZfS h e
section
theorem ZR.lv (r : ZR K M H) {xs : List DV} (h : M a = some (.lsv n xs)) : ∃ vs, H a = some (.lst vs) /\ Paired (VR0 K M H) vs xs := r.ok a _ h
theorem Mxs.of : ∀ {vs : List V} {xs : List DV}, Paired (VR0 K M H) vs xs -> Mxs K M H vs xs
 | _, _, .nil => .nil
 | _, .dat d :: _, .cons h1 h2 => .dat h1 (Mxs.of h2)
 | _, .own b :: _, .cons h1 h2 => by
  cases (show _ = V.ref b from h1);exact .own (Mxs.of h2)
 | _, .mix ys :: _, .cons h1 h2 => .mix h1 (Mxs.of h2)
 | _, .ty t :: _, .cons h1 h2 => h1.elim
theorem Mxs.vr : ∀ {vs : List V} {xs : List DV}, Mxs K M H vs xs -> Paired (VR0 K M H) vs xs
 | _, _, .nil => .nil
 | _, _, .dat h1 h2 => .cons h1 (Mxs.vr h2)
 | _, _, .own h2 => .cons rfl (Mxs.vr h2)
 | _, _, .mix h1 h2 => .cons h1 (Mxs.vr h2)
mutual
inductive AsD (M : Mp) : DV -> PyData -> Prop
 | dat (d : PyData) : AsD M (.dat d) d
 | lsv {a : Addr} {n : Nat} {xs : List DV} {ds : List PyData} : M a = some (.lsv n xs) -> Ml M xs ds -> AsD M (.own a) (.list ds)
 | mix {xs : List DV} {ds : List PyData} : Ml M xs ds -> AsD M (.mix xs) (.tuple ds)
 | lst {a : Addr} {ds : List PyData} : M a = some (.lst ds) -> AsD M (.own a) (.list ds)
 | dkv {a : Addr} {ps : List (Key × PyData)} : M a = some (.dkv ps) -> AsD M (.own a) (.dict (ps.map fun q => (kD q.1, q.2)))
inductive Ml (M : Mp) : List DV -> List PyData -> Prop
 | nil : Ml M [] []
 | cons {x : DV} {xs : List DV} {d : PyData} {ds : List PyData} : AsD M x d -> Ml M xs ds -> Ml M (x :: xs) (d :: ds)
end
theorem Zen (r : ZR K M H) {ps : List (Key × PyData)} (hm : M a = some (.dkv ps)) : Dt K (fun _ => none) H (.ref a) (.dict (ps.map fun q => (kD q.1, q.2))) := by
 obtain ⟨kvs, g1, g2, g3⟩ := (show OOk K M H a (.dkv ps) from r.ok a _ hm)
 have e : (kvs.map fun kv => kD kv.1) = ps.map fun q => kD q.1 := by
  have := congrArg (List.map kD) g2
  rwa [List.map_map, List.map_map] at this
 have z := Dt.dK (K := K) (M := fun _ => none) (H := H) (a := a) rfl g1 (g3.step Step.all);rw [e, List.zip_map'] at z;exact z
mutual
theorem AsD.dt (r : ZR K M H) : ∀ {x : DV} {d : PyData}, AsD M x d -> ∀ {v : V}, VR0 K M H v x -> Dt K (fun _ => none) H v d
 | _, _, .dat _, _, h => Dt.step Step.all h
 | _, _, .lsv hm hs, _, h => by
  cases (show _ = V.ref _ from h);exact .lst (.inl ⟨rfl, .inl (r.lv hm).choose_spec.1⟩) (Ml.dt r hs (r.lv hm).choose_spec.2)
 | _, _, .mix hs, _, h => by
  cases (show Mx K M H _ _ from h) with
  | mk h1 h2 h3 => exact .tup (.inl ⟨rfl, .inl h2⟩) (Ml.dt r hs h3.vr)
 | _, _, .lst hm, _, h => by
  cases (show _ = V.ref _ from h);exact .lst (.inl ⟨rfl, .inl (r.ls _ _ hm).choose_spec.1⟩) ((r.ls _ _ hm).choose_spec.2.step Step.all)
 | _, _, .dkv hm, _, h => by
  cases (show _ = V.ref _ from h);exact Zen r hm
theorem Ml.dt (r : ZR K M H) : ∀ {xs : List DV} {ds : List PyData}, Ml M xs ds -> ∀ {vs : List V}, Paired (VR0 K M H) vs xs -> Dts K (fun _ => none) H vs ds
 | _, _, .nil, _, h => by cases h; exact .nil
 | _, _, .cons h1 h2, _, h => by
  cases h with
  | cons a b => exact .cons (AsD.dt r h1 a) (Ml.dt r h2 b)
end
mutual
noncomputable def X3 : PyData -> Bool
 | .none => true
 | .bool _ => true
 | .int _ => true
 | .str _ => true
 | .tuple ds => Gr ds
 | _ => false
noncomputable def Gr : List PyData -> Bool
 | [] => true
 | d :: ds => X3 d && Gr ds
end
theorem ZaC (r : ZR K M H) (h : Rd H a (.tup xs)) : M a = none := by
 cases q : M a with
 | none => rfl
 | some o =>
  have g := r.ok a o q;exfalso;have no : ∀ u, H a = some u -> (∀ ys, u ≠ .tup ys) -> (∀ o ys, u ≠ .frz o (.tup ys)) -> False := fun u e n1 n2 => by
   rcases h with h | ⟨o, h⟩
   ·rw [h] at e; cases e; exact n1 _ rfl
   ·rw [h] at e; cases e; exact n2 _ _ rfl
  cases o with
  | lst ds => obtain ⟨vs, e, _⟩ := g; exact no _ e (fun _ z => nomatch z) (fun _ _ z => nomatch z)
  | dct ks => obtain ⟨vs, e, _⟩ := g; exact no _ e (fun _ z => nomatch z) (fun _ _ z => nomatch z)
  | dtv ps => obtain ⟨vs, e, _⟩ := g; exact no _ e (fun _ z => nomatch z) (fun _ _ z => nomatch z)
  | dkv ps => obtain ⟨vs, e, _⟩ := g; exact no _ e (fun _ z => nomatch z) (fun _ _ z => nomatch z)
  | dko ps => obtain ⟨vs, e, _⟩ := g; exact no _ e (fun _ z => nomatch z) (fun _ _ z => nomatch z)
  | fdk o ps => obtain ⟨vs, e, _⟩ := g; exact no _ e (fun _ z => nomatch z) (fun _ _ z => (by cases z))
  | lsv n xs => obtain ⟨vs, e, _⟩ := g; exact no _ e (fun _ z => nomatch z) (fun _ _ z => nomatch z)
  | ext φ => exact no _ g (fun _ z => nomatch z) (fun _ _ z => nomatch z)
theorem O7 (r : ZR K M H) (h : TupAt K M' H a xs) : TupAt K M H a xs := by
 rcases h with ⟨_, h⟩ | h
 ·exact .inl ⟨ZaC r h, h⟩
 ·exact .inr h
mutual
theorem Dt.back (r : ZR K M H) : ∀ {v : V} {d : PyData}, Dt K M' H v d -> X3 d = true -> Dt K M H v d
 | _, _, .non, _ => .non
 | _, _, .bl b, _ => .bl b
 | _, _, .int i, _ => .int i
 | _, _, .str x, _ => .str x
 | _, _, .tup h1 h2, l => .tup (O7 r h1) (Dts.back r h2 (by rw [X3] at l; exact l))
 | _, _, .lst _ _, l => by simp [X3] at l
 | _, _, .dK _ _ _, l => by simp [X3] at l
 | _, _, .dT _ _ _ _, l => by simp [X3] at l
 | _, _, .dX _ _ _ _ _ _, l => by simp [X3] at l
theorem Dts.back (r : ZR K M H) : ∀ {vs : List V} {ds : List PyData}, Dts K M' H vs ds -> Gr ds = true -> Dts K M H vs ds
 | _, _, .nil, _ => .nil
 | _, _, .cons h1 h2, l => .cons (Dt.back r h1 (by rw [Gr, Bool.and_eq_true] at l; exact l.1)) (Dts.back r h2 (by rw [Gr, Bool.and_eq_true] at l; exact l.2))
end
end
noncomputable def JI : DSt -> DSt
 | [] => []
 | _ :: r => none :: JI r
noncomputable def DZ : Nat -> DV -> DSt -> DSt
 | _, _, [] => []
 | 0, x, _ :: r => some x :: JI r
 | n + 1, x, _ :: r => none :: DZ n x r
theorem UB : JI [] = [] := by rw [JI]
theorem Ua (y : Option DV) (r : DSt) : JI (y :: r) = none :: JI r := by rw [JI]
theorem K9 : ∀ (Z : DSt), (JI Z).length = Z.length
 | [] => rfl
 | _ :: r => by rw [JI, List.length_cons, List.length_cons, K9 r]
theorem Wi : ∀ (Z : DSt) (j : Nat) (y : DV), (JI Z)[j]? ≠ some (some y)
 | [], j, y, h => by simp [JI] at h
 | _ :: r, 0, y, h => by simp [JI] at h
 | _ :: r, j + 1, y, h => by rw [JI, List.getElem?_cons_succ] at h; exact Wi r j y h
section
variable {o i : Expr} {es : List Expr} {to ti : DTE} {t : DTA} {pos' : Pos}
def Si (o : Option OO) (P : Nat -> List DV -> Prop) : Prop := match o with | some (.lsv n xs) => P n xs | _ => False
def ZjK (n : Nat) (te : DTE) : DTE := fun Z M Φ => onV Z[n]? fun x => ∃ d, AsD M x d /\ te (DZ n (.dat d) Z) (fun _ => none) fun y _ => onD y fun c => X3 c = true /\ Φ (.dat c) M
theorem QC.Zgs {x : DV} (h : QC K M H v x) (a : AsD M x d) : VR0 K M H v x := h.zero fun t e => by subst e; cases a
def ZiR (n m : Nat) (te : DTE) : DTE := fun Z M Φ => onV Z[n]? fun x => onV Z[m]? fun y => ∃ d f, AsD M x d /\ AsD M y f /\ te ((DZ n (.dat d) Z).set m (some (.dat f))) (fun _ => none) fun y _ => onD y fun c => X3 c = true /\ Φ (.dat c) M
def ZjG (to ti : DTE) : DTE := fun Z M Φ => to Z M fun x M1 => ti Z M1 fun y M2 => onO x fun l => onI y fun i => Si (M2 l) fun _ xs => ∃ z, L2.atI xs i = some z /\ Φ z M2
def ZiD (t : DTA) (ti : DTE) : DTE := fun Z M Φ => t Z M fun xs M1 => Nat.ble xs.length 100 = true /\ ti Z M1 fun y M2 => onI y fun i => ∃ x, L2.atI xs i = some x /\ Φ x M2
def Zhf : List DV -> Prop -> Prop
 | [], P => P
 | x :: r, P => ZaF x (Zhf r P)
def ZiZ (n : Nat) (t : DTA) : DTE := fun Z M Φ => t Z M fun xs M1 => Zhf xs (Nat.ble xs.length 100 = true /\ ∀ p, M1 p = none -> Φ (.own p) (ZM M1 p (.lsv n xs)))
def ZeA (to te : DTE) : DTE := fun Z M Φ => to Z M fun x M1 => onO x fun l => Si (M1 l) fun _ _ => te Z M1 fun y M2 => ZaF y (Si (M2 l) fun n xs => xs.length < sizeLine /\ Φ (.dat .none) (ZM M2 l (.lsv n (xs ++ [y]))))
def Zd9 (to : DTE) : DTE := fun Z M Φ => to Z M fun x M1 => onO x fun l => Si (M1 l) fun n xs => Φ (.dat .none) (ZM M1 l (.lsv n xs.reverse))
def ZhB : D1 := fun xs M Φ => on1 xs fun x => onO x fun l => Si (M l) fun _ ys => (Φ (.mix ys) M) \/ ∃ ds, ys = ds.map DV.dat /\ Φ (.dat (.tuple ds)) M
def Zff (n : Nat) : D1 := fun xs M Φ => on1 xs fun x => onT x fun ds => ∀ p, M p = none -> Φ (.own p) (ZM M p (.lsv n (ds.map DV.dat)))
def Zjm (x : DV) (M : Mp) (P : Bool -> Prop) : Prop := match x with
 | .dat d => P (ZJ "list" d)
 | .mix _ => P false
 | .own l => Si (M l) fun _ _ => P true
 | .ty _ => False
def Zg8 : D1 := fun xs M Φ => on2 xs fun x y => y = .ty "list" /\ Zjm x M fun b => Φ (.dat (.bool b)) M
end
def Zit (x : DV) (M : Mp) (P : List DV -> (Mp -> Prop) -> Prop) : Prop := match x with
 | .dat (.tuple ds) => P (ds.map DV.dat) (fun _ => True)
 | .mix xs => P xs (fun _ => True)
 | .own l => Si (M l) fun n xs => P xs (fun M2 => M2 l = some (.lsv n xs))
 | _ => False
def YlV (K : Fk) (J : It) (xs : List DV) (G : Mp -> Prop) (M : Mp) (H : Hp) : Prop := ∀ M2 H2, Step M H M2 H2 -> ZR K M2 H2 -> G M2 -> ∀ i,
 (i < xs.length -> J.go i H2 /\ ∀ x H', J.yld i H2 x H' -> H' = H2 /\ ∃ y, xs[i]? = some y /\ QC K M2 H2 x y) /\ (xs.length <= i -> J.stop i H2)
section
variable {g : DTG} {tb : DTS} {body : List Stmt}
def ZcL (G : Mp -> Prop) (g : DTG) (tb : DTS) (D : Ql) (xs : List DV) (Z : DSt) (M : Mp) : Prop :=
 ∃ J : Nat -> DSt -> Mp -> Prop, (∀ i Z M, J i Z M -> G M) /\ J 0 Z M /\ (∀ i x Z M, xs[i]? = some x -> J i Z M -> g x Z M fun Δ2 M2 => tb { D with nx := J (i + 1), ct := J (i + 1), bk := D.nx } Δ2 M2) /\ ∀ Z M, J xs.length Z M -> D.nx Z M
def Zi7 (te : DTE) (g : DTG) (tb : DTS) : DTS := fun D Z M => te Z M fun x M1 => Zit x M1 fun xs G => ZcL G g tb D xs Z M1
end
end DL
namespace DL
open PySem.W
section
variable {E : Value -> Shared -> Prop}
theorem Ot (hS : SIS P w s.heap S ks) (h : ∀ tk tk', Q (.int (ks.length : Int) tk) { s with toks := tk' }) : wpAny (model P w) A (call (.builtin "len") [.ref S]) Q E s := by
 obtain ⟨o, es, t, g, so, rfl⟩ := hS;obtain ⟨ep, hd⟩ := so.dt;have e : (Jd es).length = es.size := by unfold Jd; rw [List.length_map, Array.length_toList]
 have b := so.bd;have sb : scanBound < 2 ^ 62 := by decide
 refine PySem.call_len_set g so.ex hd so.ft (by omega) ?_;rw [<- e];exact h _ _
end
section
variable {t : TA} {p pos2 : Pos}
def ZiV (X : Cx) (t : TA) : TE := fun O H Q => t O H fun xs H1 => ∃ (l : Addr) (ns : List Str), xs = [.ref l] /\ SqL X.K H1 l (ns.map V.str) /\ ns.length < 64 /\ ∀ ks : List Str, ks.Nodup -> (∀ z, z ∈ ks ↔ z ∈ ns) -> Q (.int (ks.length : Int)) H1
theorem DU (hc : X.calm = true) (hg : Gl X "len") (hm : X.mg "len" = none) (hg2 : Gl X "set") (hm2 : X.mg "set" = none) (ha : PA X [e] t) (he : autoParam (starEach [e] X.env = [(false, eval e X.env)]) zz3._auto_1) :
  PE X (.Call (.Name "len" p) [.Call (.Name "set" p2) [e] [] pos2] [] pos) (ZiV X t) := by
 intro pins s O H Q I h;refine wpAny_Call_Name_kw (Vx I hg hm (u := .builtin "len") (by rfl) ?_ (by decide) (by decide));refine PyProof.Rows.callWith_builtin1 ?_ (by rfl) (by rfl);refine Calls.spliced_cons (wpAny_Call_Name_kw (Vx I hg2 hm2 (u := .type "set") (by rfl) ?_ (by decide) (by decide)));refine PyProof.Rows.callWith_type1 (thn (ha pos2 pins s O H _ I h) fun us s1 ⟨vs, H1, I1, r1, q1⟩ => ?_) he (by rfl);obtain ⟨l, ns, rfl, hq, h64, q⟩ := q1;obtain ⟨u, rfl, rx⟩ := vals1 r1;cases rx;obtain ⟨its, rv, pl, hz⟩ := I1.list hq;have hi : StrsAre its ns := Xl rv;have hlen : its.length < 64 := by have := rv.length; rw [List.length_map] at this; omega
 refine Gu (I1.ok.hd hc) pl.isList (by simpa using hi) (by simpa using Nat.lt_trans (Nat.succ_lt_succ hlen) (by decide)) fun h' tk ks a1 a2 a3 a4 => ?_;have k1 : ∀ b o, s1.heap.get? b = some o -> h'.get? b = some o := fun b o q => a4 b o (Heap.lt_size q) q;refine Calls.spliced_nil ?_;refine Ot (s := { s1 with heap := h', toks := tk }) a1 fun t1 t2 => ?_;exact ⟨.int _, H1, (I1.kept (t' := tk) k1).tok t2, ⟨t1, rfl⟩, q ks (SIS.nodup a1) a2⟩
def Zho (t : DTA) : DTE := fun Z M Φ => t Z M fun xs M1 => on1 xs fun x => onK x M1 fun ds => Ku ds fun ns => ns.length < 64 /\ ∀ ks : List Str, ks.Nodup -> (∀ z, z ∈ ks ↔ z ∈ ns) -> Φ (.dat (.int (ks.length : Int))) M1
theorem Zc0 (t : DTA) (Z : DSt) (M : Mp) (Φ : DK) : Zho t Z M Φ = (t Z M fun xs M1 => on1 xs fun x => onK x M1 fun ds => Ku ds fun ns => ns.length < 64 /\ ∀ ks : List Str, ks.Nodup -> (∀ z, z ∈ ks ↔ z ∈ ns) -> Φ (.dat (.int (ks.length : Int))) M1) := propext Iff.rfl
theorem Wk {t : DTA} (hg : Gl X "len") (hm : X.mg "len" = none) (hg2 : Gl X "set") (hm2 : X.mg "set" = none) (ha : DA X [e] t) (hc : autoParam (X.calm = true) zz3._auto_1) (he : autoParam (starEach [e] X.env = [(false, eval e X.env)]) zz3._auto_1) :
  DE X (.Call (.Name "len" p) [.Call (.Name "set" p2) [e] [] pos2] [] pos) (Zho t) := by
 obtain ⟨u, pa, q⟩ := ha;refine ⟨_, DU hc hg hm hg2 hm2 pa he, fun O H Z M Φ Q r e h k => ?_⟩;refine q O H Z M _ _ r e h fun vs H1 xs M1 r1 st rv hx => ?_;replace hx := Zw hx;obtain ⟨x, rfl, hx⟩ := hx;replace hx := YV hx;obtain ⟨ds, hl, ns, rfl, h64, q⟩ := hx;replace hl : E8 x M1 (ns.map PyData.str) := hl;obtain ⟨v, rfl, h1⟩ := Paired.one rv;obtain ⟨a, ys, rfl, g1, g2⟩ := hl.sq r1 h1;rw [WG g2] at g1;exact ⟨a, ns, rfl, g1, h64, fun ks b c => (k.step st).dat r1 Step.refl (Dt.int _) (q ks b c)⟩
end
end DL
namespace DL
open PySem.W
theorem X7 {α β : Type} {F : α -> β -> Prop} : ∀ {l : List α} {m : List β}, l.length = m.length -> (∀ (j : Nat) (a : α) (b : β), l[j]? = some a -> m[j]? = some b -> F a b) -> Paired F l m
 | [], [], _, _ => .nil
 | a :: l, b :: m, e, h => .cons (h 0 a b rfl rfl) (X7 (by simpa using e) fun j x y hx hy => h (j + 1) x y (by simpa using hx) (by simpa using hy))
 | [], _ :: _, e, _ => by simp at e
 | _ :: _, [], e, _ => by simp at e
theorem Zcu {O : L2.St} (I : L2.Inv X pins O H s) (e : H a = some (.dK kvs)) :
  ∃ vs ep, KV kvs vs /\ s.heap.DictAt (ZK X.prog X.w) a vs ep /\ (a == sysModules) = false := by
 obtain ⟨_, hs, vs, rel, o, es, ep, ho, hx, hd, hr⟩ := (show QO X.prog X.w H s.heap a (.dK kvs) from I.hok a _ e)
 exact ⟨vs, ep, rel, ⟨o, es, ho, hx, hd, hr⟩, hs⟩
section
variable {o : Expr} {to : TE} {p apos cpos : Pos}
def tLV (f : Key × V -> V) (to : TE) : TE := fun O H Q => to O H fun x H1 => ∃ a kvs, x = .ref a /\ H1 a = some (.dK kvs) /\ kvs.length <= sizeLine /\ ∀ l, H1 l = none -> Q (.ref l) (upd H1 l (.lst (kvs.map f)))
theorem BJ (hc : X.calm = true) (hgl : Gl X "list") (hml : X.mg "list" = none) (ho : PE X o to) (hbase : autoParam (attributeBase o "keys" X.env (eval o X.env) = eval o X.env) zz3._auto_1) (hline : autoParam ((apos.endLine == cpos.line) = true) zz3._auto_1) :
  PE X (.Call (.Name "list" p) [.Call (.Attribute o "keys" apos) [] [] cpos] [] pos) (tLV (fun kv => kV kv.1) to) := by
 intro pins s O H Q I h;refine wpAny_Call_Name_kw (Vx I hgl hml (u := .type "list") (by rfl) ?_ (by decide) (by decide));refine PyProof.Rows.callWith_type1 (Calls.spliced_cons ?_) (by rfl) (by rfl);refine wpAny_Call_method0_late hbase hline (thn (ho pins s O H _ I h) fun v s1 ⟨x, H1, I1, r1, q1⟩ => ?_);obtain ⟨a, kvs, rfl, hq, hz, q⟩ := q1;cases r1;obtain ⟨h1, h2⟩ := LC I1 (x := .ref a) (v := .ref a) (T := "dict") rfl (.inr (.inr (.inl ⟨rfl, .inl ⟨kvs, hq⟩⟩)));obtain ⟨vs, ep, rel, dat, hs⟩ := Zcu I1 hq;have kl : kvs.length = vs.length := Paired.length rel;refine ⟨"dict", "dict.keys", PySem.F.plainAttrs_dict, PySem.F.slot_dict_keys, PySem.F.type_dict_keys, h1, h2, Calls.callWith_builtin rfl (PySem.evalArgs_none ?_)⟩;refine call_meetsIn PySem.F.slot_dict_keys dat.dictOf.typeIs PySem.F.entry_dict_keys (PySem.F.args_dict_keys_1 _) (kdl_meets_keys (ZK X.prog X.w) a hs) ⟨⟨vs, dat.dictOf⟩, ?_⟩;refine Calls.spliced_nil ?_;refine kdl_call (s := { s1 with heap := s1.heap.push { cls := .type "dict_keys", data := .fields #[.ref a] } }) (kdl_keys (knd := ZK X.prog X.w) (kvs := vs) (ep := ep)) (I1.ok.hd hc) ⟨⟨_, Heap.get?_push_size _ rfl, rfl, rfl⟩, dat.push _⟩ (by rw [<- kl]; exact hz) fun h' tk acc c k hS hacc => ?_;have I2 : L2.Inv X pins O H1 { s1 with heap := s1.heap.push { cls := .type "dict_keys", data := .fields #[.ref a] }, toks := s1.toks } := I1.kept (t' := s1.toks) fun b u e => Heap.get?_push_of_some _ e;have hn := I2.hok.fresh (Nat.le_refl _);have rv : Vals (kvs.map fun kv => kV kv.1) acc.toList := by
  refine X7 (by rw [List.length_map, kl, <- hacc.1]; exact (Array.length_toList (xs := acc)).symm) fun j x u hx hu => ?_;obtain ⟨kk, w', ev, hk⟩ := hacc.2 j u (by rw [<- Array.getElem?_toList]; exact hu);rw [List.getElem?_map] at hx;cases e : kvs[j]? with
  | none => rw [e] at hx; cases hx
  | some kv =>
   rw [e] at hx;cases hx;obtain ⟨q', e2, e3⟩ := Paired.getL rel e;rw [ev] at e2;cases e2;show RelV (kV kv.1) u;rw [show kv.1 = kk from e3.1];exact TQ hk
 refine ⟨.ref _, _, I2.laid (t' := tk) (o := .lst (kvs.map fun kv => kV kv.1)) k (Nat.le_refl _) ⟨by rw [List.length_map]; exact hz, acc.toList, c, rv, ?_⟩, rfl, q _ hn⟩;rw [Array.toArray_toList];exact hS
theorem Bu (hc : X.calm = true) (hgl : Gl X "list") (hml : X.mg "list" = none) (ho : PE X o to) (hbase : autoParam (attributeBase o "values" X.env (eval o X.env) = eval o X.env) zz3._auto_1) (hline : autoParam ((apos.endLine == cpos.line) = true) zz3._auto_1) :
  PE X (.Call (.Name "list" p) [.Call (.Attribute o "values" apos) [] [] cpos] [] pos) (tLV (fun kv => kv.2) to) := by
 intro pins s O H Q I h;refine wpAny_Call_Name_kw (Vx I hgl hml (u := .type "list") (by rfl) ?_ (by decide) (by decide));refine PyProof.Rows.callWith_type1 (Calls.spliced_cons ?_) (by rfl) (by rfl);refine wpAny_Call_method0_late hbase hline (thn (ho pins s O H _ I h) fun v s1 ⟨x, H1, I1, r1, q1⟩ => ?_);obtain ⟨a, kvs, rfl, hq, hz, q⟩ := q1;cases r1;obtain ⟨h1, h2⟩ := LC I1 (x := .ref a) (v := .ref a) (T := "dict") rfl (.inr (.inr (.inl ⟨rfl, .inl ⟨kvs, hq⟩⟩)));obtain ⟨vs, ep, rel, dat, hs⟩ := Zcu I1 hq;have kl : kvs.length = vs.length := Paired.length rel;refine ⟨"dict", "dict.values", PySem.F.plainAttrs_dict, PySem.F.slot_dict_values, PySem.F.type_dict_values, h1, h2, Calls.callWith_builtin rfl (PySem.evalArgs_none ?_)⟩;refine call_meetsIn PySem.F.slot_dict_values dat.dictOf.typeIs PySem.F.entry_dict_values (PySem.F.args_dict_values_1 _) (meets_dict_values (ZK X.prog X.w) a hs) ⟨⟨vs, dat.dictOf⟩, ?_⟩;refine Calls.spliced_nil ?_;refine kdl_call (s := { s1 with heap := s1.heap.push { cls := .type "dict_values", data := .fields #[.ref a] } }) (kdl_values (knd := ZK X.prog X.w) (kvs := vs) (ep := ep)) (I1.ok.hd hc) ⟨⟨_, Heap.get?_push_size _ rfl, rfl, rfl⟩, dat.push _⟩ (by rw [<- kl]; exact hz) fun h' tk acc c k hS hacc => ?_;have I2 : L2.Inv X pins O H1 { s1 with heap := s1.heap.push { cls := .type "dict_values", data := .fields #[.ref a] }, toks := s1.toks } := I1.kept (t' := s1.toks) fun b u e => Heap.get?_push_of_some _ e;have hn := I2.hok.fresh (Nat.le_refl _);have rv : Vals (kvs.map fun kv => kv.2) acc.toList := by
  refine X7 (by rw [List.length_map, kl, <- hacc.1]; exact (Array.length_toList (xs := acc)).symm) fun j x u hx hu => ?_;obtain ⟨kk, ev⟩ := hacc.2 j u (by rw [<- Array.getElem?_toList]; exact hu);rw [List.getElem?_map] at hx;cases e : kvs[j]? with
  | none => rw [e] at hx; cases hx
  | some kv =>
   rw [e] at hx;cases hx;obtain ⟨q', e2, e3⟩ := Paired.getL rel e;rw [ev] at e2;cases e2;exact e3.2
 refine ⟨.ref _, _, I2.laid (t' := tk) (o := .lst (kvs.map fun kv => kv.2)) k (Nat.le_refl _) ⟨by rw [List.length_map]; exact hz, acc.toList, c, rv, ?_⟩, rfl, q _ hn⟩;rw [Array.toArray_toList];exact hS
end
section
variable {o : Expr} {td : DTE} {p apos cpos : Pos}
theorem Dw : ∀ {kvs : List (Key × V)} {ps : List (Key × PyData)}, kvs.map (·.1) = ps.map (·.1) -> Dts K M H (kvs.map fun kv => kV kv.1) (ps.map fun q => kD q.1)
 | [], [], _ => .nil
 | kv :: kvs, q :: ps, e => by
  rw [List.map_cons, List.map_cons, List.cons.injEq] at e;rw [List.map_cons, List.map_cons, e.1];exact .cons (ZcB _) (Dw e.2)
 | [], _ :: _, e => by simp at e
 | _ :: _, [], e => by simp at e
def dLK (td : DTE) : DTE := fun Z M Φ => td Z M fun x M1 => onO x fun l => XM (M1 l) fun ps => ps.length <= sizeLine /\ Φ (.dat (.list (ps.map fun q => kD q.1))) M1
def ZjU (td : DTE) : DTE := fun Z M Φ => td Z M fun x M1 => onO x fun l => XM (M1 l) fun ps => ps.length <= sizeLine /\ Φ (.dat (.list (ps.map fun q => q.2))) M1
end
end DL
namespace DL
open PySem.W
section
abbrev Oy (ds : List PyData) (M1 : Mp) (Z : DSt) (ix : List (Option Nat)) (g : DTG) (tc : DTT) (te : DTE) (ψ : List DV -> Mp -> Prop) : Prop := ds.length <= sizeLine /\ ∃ J : Nat -> List DV -> Mp -> Prop, J 0 [] M1 /\
 (∀ i d acc M', ds[i]? = some d -> J i acc M' -> g (.dat d) (C1 ix Z) M' fun Δ2 M2 => tc Δ2 M2 fun b M3 => if b = true then te Δ2 M3 fun y M4 => ZaF y (J (i + 1) (acc ++ [y]) M4) else J (i + 1) acc M3) /\ ∀ acc M', J ds.length acc M' -> ψ acc M'
set_option maxHeartbeats 2000000 in
def ZhD (n : Nat) (src : Y4) (ix : List (Option Nat)) (g : DTG) (tc : DTT) (te : DTE) : DTE := fun Z M Φ => src Z M fun ds M1 => Oy ds M1 Z ix g tc te fun acc M' => ∀ p, M' p = none -> Φ (.own p) (ZM M' p (.lsv n acc))
def CG (g : DTG) (tc : DTT) (te : DTE) (Δc : DSt) (fin : List DV -> Mp -> Prop) : List PyData -> List DV -> Mp -> Prop
 | [], acc, M => fin acc M
 | d :: ds, acc, M => g (.dat d) Δc M fun Δ2 M2 => tc Δ2 M2 fun b M3 => if b = true then te Δ2 M3 fun y M4 => ZaF y (CG g tc te Δc fin ds (acc ++ [y]) M4) else CG g tc te Δc fin ds acc M3
end
end DL
namespace DL
open PySem.W
def ZaG (d : PyData) : Prop := Shw d \/ ∃ e ds, d = .list (e :: ds) /\ ∀ x ∈ e :: ds, Shw x
theorem EU {as : List Addr} {d : Nat} : ∀ {l : List Value} {ts : List Str}, ReprAllK P w as h d l ts -> ∀ (i : Nat) (y : Value), l[i]? = some y -> ∃ t, ts[i]? = some t /\ ReprK P w as h d y t
 | _, _, .nil, _, _, e => by simp at e
 | _, _, .cons h _, 0, _, e => by simp at e; subst e; exact ⟨_, rfl, h⟩
 | _, _, .cons _ h, i + 1, y, e => by
  obtain ⟨t, h1, h2⟩ := EU h i y (by simpa using e);exact ⟨t, by simpa using h1, h2⟩
section
variable {O : L2.St}
theorem Dt.Zfx (I : Inv X pins O H s) (h : Dt X.K M H v d) (r : RelV v u) (hs : ZaG d) : ∃ as bs, Reads s.heap u d as /\ ReadAtMost s.heap d.depth bs /\ ReprK X.prog X.w bs s.heap d.depth u d.shown := by
 rcases hs with sd | ⟨e, ds, rfl, hs⟩
 ·obtain ⟨as, ra, ha⟩ := Dt.reads I h r;obtain ⟨b1, hb1, k1⟩ := ReprK.of_reads (prog := X.prog) (w := X.w) ra sd.s (fun hx => ha (by have := sd.m; rw [hx, Bool.true_and] at this; exact this)) sd.z;exact ⟨as, b1, ra, hb1, k1⟩
 ·cases h with
  | @lst a ys _ h1 h2 =>
   cases r;obtain ⟨its, rv, ⟨o, n, ho, hc, _, hd⟩, _⟩ := I.list h1.sq;obtain ⟨as, bs, ra, hb, hk⟩ := h2.Zbz I rv hs;have hr : Reads s.heap (.ref a) (.list (e :: ds)) (a :: as) := .list ho hc hd (by simpa using ra);have hna : a ∉ bs := not_mem_of_deeper hr (by simp only [PyData.depth]; omega) hb;have ln := hk.length_eq;cases its with
   | nil => cases ra
   | cons x l =>
    refine ⟨_, a :: bs, hr, fun b hm => ?_, ?_⟩
    ·rcases List.mem_cons.mp hm with e' | hm
     ·rw [e'];exact ⟨_, _, hr, Nat.le_refl _⟩
     ·obtain ⟨d', as', r', hd'⟩ := hb b hm;exact ⟨d', as', r', Nat.le_trans hd' (by simp only [PyData.depth]; omega)⟩
    ·have k := ReprK.list (prog := X.prog) (w := X.w) (d := PyData.depthAll (e :: ds)) ho hc hd hna (by simpa using ln) (fun i y hy => EU hk i y (by simpa using hy));simp only [PyData.shown, PyData.depth]
     first | exact k | (rw [Nat.add_comm]; exact k)
theorem Dts.Px (I : Inv X pins O H s) : ∀ {vs : List V} {ds : List PyData}, Dts X.K M H vs ds -> ∀ {us : List Value}, Vals vs us -> (∀ d ∈ ds, ZaG d) ->
  ∃ as bs, ReadsAll s.heap us ds as /\ ReadAtMost s.heap (PyData.depthAll ds) bs /\ ReprAllK X.prog X.w bs s.heap (PyData.depthAll ds) us (PyData.shownAll ds)
 | _, _, .nil, _, r, _ => by
  cases r;exact ⟨[], [], .nil, (fun _ h => nomatch h), by simp only [PyData.shownAll]; exact .nil⟩
 | _, _, .cons (d := d) (ds := ds) h1 h2, _, r, hs => by
  cases r with
  | cons r1 r2 =>
   obtain ⟨as, b1, ra, hb1, k1⟩ := Dt.Zfx I h1 r1 (hs d List.mem_cons_self);obtain ⟨as', bs', rb, hb, kb⟩ := Dts.Px I h2 r2 fun x hx => hs x (List.mem_cons_of_mem _ hx);refine ⟨as ++ as', b1 ++ bs', .cons ra rb, ?_, ?_⟩
   ·intro b hm;simp only [PyData.depthAll]
    rcases List.mem_append.mp hm with hm | hm
    ·obtain ⟨d', as', r', hd'⟩ := hb1 b hm;exact ⟨d', as', r', Nat.le_trans hd' (Nat.le_max_left _ _)⟩
    ·obtain ⟨d', as', r', hd'⟩ := hb b hm;exact ⟨d', as', r', Nat.le_trans hd' (Nat.le_max_right _ _)⟩
   ·simp only [PyData.depthAll, PyData.shownAll];exact .cons ((k1.more fun b hb => List.mem_append_left _ hb).level_le (Nat.le_max_left _ _)) (kb.more_le (fun b hb => List.mem_append_right _ hb) (Nat.le_max_right _ _))
end
section
theorem Co (hg : X.A.guards = some []) (hu : X.A.units + 100 < cLine) : Vz X (.builtin "repr") (fun xs H Q => ∃ v ds M, xs = [v] /\ Dt X.K M H v (.tuple ds) /\ (∀ d ∈ ds, ZaG d) /\ (PyData.tuple ds).depth <= 64 /\
  (PyData.tuple ds).shown.length <= sizeLine /\ Q (.str (PyData.tuple ds).shown) H) := by
 intro pins s O H xs us Q I r h;obtain ⟨v, ds, M, rfl, hd, hs, hdp, hz, q⟩ := h;obtain ⟨u, rfl, ru⟩ := vals1 r;cases hd with
 | @tup a ys _ h1 h2 =>
  cases ru;obtain ⟨its, rv, ⟨o, ho, hc, n, hdt⟩, _⟩ := I.tuple h1.sq;obtain ⟨as, bs, ra, hb, hk⟩ := h2.Px I rv hs;have hz' : (tupleText (PyData.shownAll ds)).length <= sizeLine := by simpa only [PyData.shown] using hz
  have hr : Reads s.heap (.ref a) (.tuple ds) as := .tuple ho hc hdt (by simpa using ra);have hna : a ∉ bs := not_mem_of_deeper hr (by simp only [PyData.depth]; omega) hb;simp only [PyData.depth] at hdp;refine call_repr_slot (by omega) ⟨o, ho, hc⟩ F.slot_tuple_repr (call_tuple_reprK ho hc hdt hna (by simpa using hk) (show X.A.in1.guards = some [] from hg) (fun b _ => Clear.nil b) (by show X.A.units + 1 + (PyData.depthAll ds + 1) < cLine; omega) (fun _ _ e => e) (fun h' u tk hkk => ⟨_, _, rfl, .str (PyData.tuple ds).shown, H, I.kept hkk, ⟨u, by simp only [PyData.shown]⟩, q⟩) hz')
def C4 : D1 := fun xs M Φ => on1 xs fun x => onT x fun ds => ((∀ d ∈ ds, ZaG d) /\ (PyData.tuple ds).depth <= 64 /\ (PyData.tuple ds).shown.length <= sizeLine) /\ Φ (.dat (.str (PyData.tuple ds).shown)) M
theorem Eh (xs : List DV) (M : Mp) (Φ : DK) : C4 xs M Φ = (on1 xs fun x => onT x fun ds => ((∀ d ∈ ds, ZaG d) /\ (PyData.tuple ds).depth <= 64 /\ (PyData.tuple ds).shown.length <= sizeLine) /\ Φ (.dat (.str (PyData.tuple ds).shown)) M) := propext Iff.rfl
theorem UD {k : Nat} (hr : V6 k X.A) : Vy X (.builtin "repr") C4 := by
 refine ⟨_, Co hr.gd (by have := hr.un; omega), fun vs H xs M Φ Q r rv h k => ?_⟩;replace h := Zw h;obtain ⟨x, rfl, h⟩ := h;replace h := Xz h;obtain ⟨ds, rfl, ⟨h1, h2, h3⟩, q⟩ := h;obtain ⟨v, rfl, hv⟩ := Paired.one rv;exact ⟨v, ds, M, rfl, hv, h1, h2, h3, k.dat r Step.refl (Dt.str _) q⟩
end
end DL
namespace DL
open PySem.W
noncomputable def kvD (ps : List (Key × PyData)) : PyData := .dict (ps.map fun q => (kD q.1, q.2))
def U0 (x : DV) (P : List (Key × PyData) -> Prop) : Prop := ∃ ps, x = .dat (kvD ps) /\ P ps
section
theorem PX {a b : Key} (h : kD a = kD b) : a = b := by
 cases a <;> cases b <;> first | (cases h; rfl) | (cases h)
theorem Rg : ∀ {kvs : List (Key × V)} {ds : List PyData} {ps : List (Key × PyData)}, Dts K M H (kvs.map (·.2)) ds -> (kvs.map fun kv => kD kv.1).zip ds = ps.map (fun q => (kD q.1, q.2)) -> KD K M H kvs ps
 | [], _, [], _, _ => .nil
 | [], _, _ :: _, _, h => by simp at h
 | (k, v) :: kvs, _, [], .cons _ _, h => by simp at h
 | (k, v) :: kvs, _, (k', d') :: ps, .cons h1 h2, h => by
  rw [List.map_cons, List.map_cons, List.zip_cons_cons, List.cons.injEq, Prod.mk.injEq] at h;obtain ⟨⟨e1, e2⟩, e3⟩ := h;dsimp only at e1 e2;cases PX e1;subst e2;exact .cons h1 (Rg h2 e3)
theorem Dt.kv {ps : List (Key × PyData)} (h : Dt K M H v (kvD ps)) : ∃ a kvs, v = .ref a /\ M a = none /\ H a = some (.dK kvs) /\ KD K M H kvs ps := by
 generalize e : kvD ps = d at h;cases h with
 | dK h0 h1 h2 =>
  unfold kvD at e;rw [PyData.dict.injEq] at e;exact ⟨_, _, rfl, h0, h1, Rg h2 e.symm⟩
 | @dT a kvs ds h0 h1 h2 h3 =>
  unfold kvD at e;rw [PyData.dict.injEq] at e;cases kvs with
  | nil => exact absurd rfl h3
  | cons kv kvs =>
   cases h2 with
   | cons h2 h4 =>
    cases ps with
    | nil => simp at e
    | cons q ps =>
     rw [List.map_cons, List.map_cons, List.zip_cons_cons, List.cons.injEq, Prod.mk.injEq] at e;obtain ⟨⟨e1, _⟩, _⟩ := e;obtain ⟨k, d⟩ := q;cases k <;> cases e1
 | dX h0 h1 h2 h3 h4 h5 =>
  unfold kvD at e;rw [PyData.dict.injEq] at e;cases ps with
  | nil => simp at e
  | cons q ps =>
   rw [List.map_cons, List.cons.injEq, Prod.mk.injEq] at e;obtain ⟨⟨e1, _⟩, _⟩ := e;obtain ⟨k, d⟩ := q;cases k with
   | inl i => dsimp only [kD] at e1; subst e1; cases h4
   | inr i => dsimp only [kD] at e1; subst e1; cases h4
 | _ => unfold kvD at e; cases e
theorem ZfI {ps : List (Key × PyData)} (h0 : M a = none) (h1 : H a = some (.dK kvs)) (h : KD K M H kvs ps) : Dt K M H (.ref a) (kvD ps) := by
 have z := Dt.dK (K := K) h0 h1 h.vals;have e : (kvs.map fun kv => kD kv.1) = ps.map fun q => kD q.1 := by
  have := congrArg (List.map kD) h.keys
  rwa [List.map_map, List.map_map] at this
 rw [e, List.zip_map'] at z;exact z
end
section
variable {o f : Expr} {td tf : DTE} {p apos cpos : Pos}
def ZaW (t : DTE) : DTE := fun Z M Φ => t Z M fun x M1 => onO x fun l => XM (M1 l) fun ps => Φ (.dat (kvD ps)) (Yy M1 l)
theorem Sl (t : DTE) (Z : DSt) (M : Mp) (Φ : DK) : ZaW t Z M Φ = (t Z M fun x M1 => onO x fun l => XM (M1 l) fun ps => Φ (.dat (kvD ps)) (Yy M1 l)) := propext Iff.rfl
theorem FI (h : DE X e te) : DE X e (ZaW te) := by
 obtain ⟨u, p, q⟩ := h;refine ⟨u, p, fun O H Z M Φ Q r e h k => ?_⟩;refine q O H Z M _ _ r e h fun v H1 x M1 r1 st rv hx => ?_;replace hx := Z9 hx;obtain ⟨l, rfl, hx⟩ := hx;replace hx := Cr hx;obtain ⟨ps, hm, hx⟩ := hx;obtain ⟨kvs, e1, e2⟩ := r1.dk hm;cases (show v = .ref l from rv);exact k.dat r1.frz (st.trans Step.frz) (ZfI YJ e1 (e2.step Step.frz)) hx
def Zb7 (td ti tx : DTE) : DTE := fun Z M Φ => td Z M fun x M1 => U0 x fun ps => ti Z M1 fun y M2 => tx Z M2 fun z M3 => onS y fun s => onD z fun d => Φ (.dat ((QU ps (.inr s)).getD d)) M3
theorem Sw (td ti tx : DTE) (Z : DSt) (M : Mp) (Φ : DK) : Zb7 td ti tx Z M Φ = (td Z M fun x M1 => U0 x fun ps => ti Z M1 fun y M2 => tx Z M2 fun z M3 => onS y fun s => onD z fun d => Φ (.dat ((QU ps (.inr s)).getD d)) M3) := propext Iff.rfl
theorem Vg {k : Nat} (hr : V6 k X.A) (ho : DE X o td) (he : DE X e te) (hf : DE X f tf) (hbase : autoParam (attributeBase o "get" X.env (eval o X.env) = eval o X.env) zz3._auto_1)
  (hfew : ((backTo cpos (starEach [e, f] X.env)).all (fun x => !x.1) && (backToKw cpos (keywordEach [] X.env)).all (fun x => x.1.isSome)
   && decide (([e, f] : List Expr).length + ([] : List Keyword).length + (if ([] : List Keyword).isEmpty then 0 else 1) < 30)) = true := by rfl)
  (hline : autoParam ((apos.endLine == cpos.line) = true) zz3._auto_1) (htr : autoParam (backTo cpos (starEach [e, f] X.env) = [(false, eval e X.env), (false, eval f X.env)]) zz3._auto_1) : DE X (.Call (.Attribute o "get" apos) [e, f] [] cpos) (Zb7 td te tf) := by
 obtain ⟨t1, p1, q1⟩ := ho;obtain ⟨t2, p2, q2⟩ := he;obtain ⟨t3, p3, q3⟩ := hf;refine ⟨_, O6 (by have := hr.un; omega) p1 p2 p3 ⟨hbase, hfew, hline, htr⟩, fun O H Z M Φ Q r e h k => ?_⟩;refine q1 O H Z M _ _ r e h fun v H1 x M1 r1 st1 rv hx => ?_;obtain ⟨ps, rfl, hx⟩ := hx;have rv' : Dt X.K M1 H1 v (kvD ps) := rv;obtain ⟨l, kvs, rfl, m0, g0, _⟩ := rv'.kv;refine ⟨l, rfl, .inl ⟨kvs, .inl g0⟩, q2 O H1 Z M1 _ _ r1 (e.step st1) hx fun w H2 y M2 r2 st2 rw2 hy => ?_⟩;refine q3 O H2 Z M2 _ _ r2 ((e.step st1).step st2) hy fun z H3 z' M3 r3 st3 rz hz => ?_;replace hz := Qo hz;obtain ⟨s, rfl, hz⟩ := hz;replace hz := ZX hz;obtain ⟨d, rfl, q⟩ := hz;cases rw2.str;obtain ⟨l', kvs', e', m1, g1, g2⟩ := (rv'.step (st2.trans st3)).kv;cases e';refine ⟨_, BF.k (k := .inr s) g1, ?_⟩
 rcases g2.val (.inr s) with ⟨a, b⟩ | ⟨u, d', a, b, du⟩
 ·rw [b] at q;rw [a];exact k.dat r3 ((st1.trans st2).trans st3) rz q
 ·rw [b] at q;rw [a];exact k.dat r3 ((st1.trans st2).trans st3) du q
def Zh5 (td : DTE) : DTE := fun Z M Φ => td Z M fun x M1 => U0 x fun ps => ps.length <= sizeLine /\ Φ (.dat (.list (ps.map fun q => kD q.1))) M1
theorem ZcN (td : DTE) (Z : DSt) (M : Mp) (Φ : DK) : Zh5 td Z M Φ = (td Z M fun x M1 => U0 x fun ps => ps.length <= sizeLine /\ Φ (.dat (.list (ps.map fun q => kD q.1))) M1) := propext Iff.rfl
def ZhT (td : DTE) : DTE := fun Z M Φ => td Z M fun x M1 => U0 x fun ps => ps.length <= sizeLine /\ Φ (.dat (.list (ps.map fun q => q.2))) M1
theorem ZaU (td : DTE) (Z : DSt) (M : Mp) (Φ : DK) : ZhT td Z M Φ = (td Z M fun x M1 => U0 x fun ps => ps.length <= sizeLine /\ Φ (.dat (.list (ps.map fun q => q.2))) M1) := propext Iff.rfl
theorem UE (hgl : Gl X "list") (hml : X.mg "list" = none) (ho : DE X o td) (hc : autoParam (X.calm = true) zz3._auto_1) (hbase : autoParam (attributeBase o "keys" X.env (eval o X.env) = eval o X.env) zz3._auto_1) (hline : autoParam ((apos.endLine == cpos.line) = true) zz3._auto_1) :
  DE X (.Call (.Name "list" p) [.Call (.Attribute o "keys" apos) [] [] cpos] [] pos) (Zh5 td) := by
 obtain ⟨t1, p1, q1⟩ := ho;refine ⟨_, BJ hc hgl hml p1 hbase hline, fun O H Z M Φ Q r e h k => ?_⟩;refine q1 O H Z M _ _ r e h fun v H1 x M1 r1 st rv hx => ?_;obtain ⟨ps, rfl, hz, hx⟩ := hx;obtain ⟨l, kvs, rfl, m0, g1, g2⟩ := (show Dt X.K M1 H1 v (kvD ps) from rv).kv;exact ⟨l, kvs, rfl, g1, by rw [g2.length]; exact hz, fun a ha => (k.step st).dat (r1.new ha) (Step.new ha) (Dt.Y0 r1 ha (Dw g2.keys)) hx⟩
theorem U4 (hgl : Gl X "list") (hml : X.mg "list" = none) (ho : DE X o td) (hc : autoParam (X.calm = true) zz3._auto_1) (hbase : autoParam (attributeBase o "values" X.env (eval o X.env) = eval o X.env) zz3._auto_1) (hline : autoParam ((apos.endLine == cpos.line) = true) zz3._auto_1) :
  DE X (.Call (.Name "list" p) [.Call (.Attribute o "values" apos) [] [] cpos] [] pos) (ZhT td) := by
 obtain ⟨t1, p1, q1⟩ := ho;refine ⟨_, Bu hc hgl hml p1 hbase hline, fun O H Z M Φ Q r e h k => ?_⟩;refine q1 O H Z M _ _ r e h fun v H1 x M1 r1 st rv hx => ?_;obtain ⟨ps, rfl, hz, hx⟩ := hx;obtain ⟨l, kvs, rfl, m0, g1, g2⟩ := (show Dt X.K M1 H1 v (kvD ps) from rv).kv;exact ⟨l, kvs, rfl, g1, by rw [g2.length]; exact hz, fun a ha => (k.step st).dat (r1.new ha) (Step.new ha) (Dt.Y0 r1 ha g2.vals) hx⟩
end
section
def Fh (te : DTE) (Z : DSt) (M : Mp) (Φ : DK) : List Nat -> DSt -> Prop
 | [], Δ0 => te Δ0 (fun _ => none) fun y _ => onD y fun c => X3 c = true /\ Φ (.dat c) M
 | n :: ns, Δ0 => onV Z[n]? fun x => ∃ d, AsD M x d /\ Fh te Z M Φ ns (Δ0.set n (some (.dat d)))
theorem Zbr (te : DTE) (Z : DSt) (M : Mp) (Φ : DK) (Δ0 : DSt) : Fh te Z M Φ [] Δ0 = (te Δ0 (fun _ => none) fun y _ => onD y fun c => X3 c = true /\ Φ (.dat c) M) := by rw [Fh]
theorem Zdm (te : DTE) (Z : DSt) (M : Mp) (Φ : DK) (n : Nat) (ns : List Nat) (Δ0 : DSt) : Fh te Z M Φ (n :: ns) Δ0 = (onV Z[n]? fun x => ∃ d, AsD M x d /\ Fh te Z M Φ ns (Δ0.set n (some (.dat d)))) := by rw [Fh]
def Za3 (ns : List Nat) (te : DTE) : DTE := fun Z M Φ => Fh te Z M Φ ns (JI Z)
theorem Zas (ns : List Nat) (te : DTE) (Z : DSt) (M : Mp) (Φ : DK) : Za3 ns te Z M Φ = Fh te Z M Φ ns (JI Z) := propext Iff.rfl
theorem Js.putD {O : L2.St} {Z : DSt} (e : Js K M H O Z) (hv : O[n]? = some (some v)) (hd : Dt K M H v d) : Js K M H O (Z.set n (some (.dat d))) := ⟨by rw [List.length_set]; exact e.len, fun j y z => by
 by_cases q : n = j
 ·subst q
  by_cases hl : n < Z.length
  ·rw [List.getElem?_set_self hl] at z;cases z;exact ⟨v, hv, hd⟩
  ·rw [List.getElem?_eq_none (by rw [List.length_set]; omega)] at z;cases z
 ·rw [List.getElem?_set_ne q] at z
  exact e.at' j y z⟩
theorem B5 (ns : List Nat) (h : DE X e te) : DE X e (Za3 ns te) := by
 obtain ⟨u, p, q⟩ := h;refine ⟨u, p, fun O H Z M Φ Q r er h k => ?_⟩;have r0 : ZR X.K (fun _ => none) H := ⟨fun a o z => nomatch z⟩
 have go : ∀ (ns : List Nat) (Δ0 : DSt), Js X.K (fun _ => none) H O Δ0 -> Fh te Z M Φ ns Δ0 -> u O H Q := fun ns => by
  induction ns with
  | nil =>
   intro Δ0 e0 h;rw [Fh] at h;refine q O H _ _ _ _ r0 e0 h fun w H' y M' r' st' rw' hy => ?_;replace hy := ZX hy;obtain ⟨c, rfl, lf, f⟩ := hy;have st : Step M H M H' := ⟨fun b o _ z => st'.keep b o rfl z, fun b o z _ => z⟩
   have r2 : ZR X.K M H' := r.step_same st fun a u _ z => st'.keep a u rfl z;exact k _ _ (.dat c) M r2 st (Dt.back r2 rw' lf) f
  | cons n ns ih =>
   intro Δ0 e0 h;rw [Fh] at h;replace h := CZ h;obtain ⟨x, ex, d, hd, h⟩ := h;obtain ⟨v, ev, rv⟩ := er.at' n x ex;exact ih _ (e0.putD ev (AsD.dt r hd (rv.Zgs hd))) h
 exact go ns _ ⟨by rw [K9]; exact er.len, fun j y z => absurd z (Wi Z j y)⟩ h
end
section
def Cw : D1 := fun xs M Φ => on1 xs fun x => onT x fun ds => ∀ p, M p = none -> Φ (.own p) (ZM M p (.lst ds))
theorem Eg (xs : List DV) (M : Mp) (Φ : DK) : Cw xs M Φ = (on1 xs fun x => onT x fun ds => ∀ p, M p = none -> Φ (.own p) (ZM M p (.lst ds))) := propext Iff.rfl
theorem LJ : Vy X (.type "list") Cw := by
 refine ⟨_, US, fun vs H xs M Φ Q r rv h k => ?_⟩;replace h := Zw h;obtain ⟨x, rfl, h⟩ := h;replace h := Xz h;obtain ⟨ds, rfl, q⟩ := h;obtain ⟨v, rfl, h1⟩ := Paired.one rv;obtain ⟨p, ys, rfl, g1, g2⟩ := QC.tup h1;exact ⟨p, ys, rfl, .inr g1.sq, fun l hl => k _ _ (.own l) _ (r.Wx (Step.Va hl) g2) (Step.Va hl) rfl (q l (r.tracked hl))⟩
end
end DL
namespace My
open DL
set_option maxHeartbeats 8000000
noncomputable def top (i : Nat) : Stmt := PySem.Challenge.pw_landsentered_k42_put_off_and_called.main.body.getD i (.Pass ⟨0, 0, 0, 0⟩)
noncomputable abbrev Jt : Stmt := top 6
noncomputable abbrev Ju : Stmt := top 7
noncomputable abbrev Qj : Stmt := top 9
noncomputable abbrev JX : Stmt := top 10
noncomputable abbrev VZ : Stmt := top 11
noncomputable abbrev QX : Stmt := top 12
noncomputable abbrev Z6 : Stmt := top 13
noncomputable abbrev Eu : Stmt := top 14
noncomputable abbrev QV : Stmt := top 17
noncomputable abbrev QY : Stmt := top 18
noncomputable abbrev JD : Stmt := top 22
noncomputable abbrev J3 : Stmt := top 23
noncomputable abbrev QA : Stmt := top 24
noncomputable abbrev ZP : Stmt := top 25
noncomputable abbrev QT : Stmt := top 26
noncomputable abbrev JK : Stmt := top 28
noncomputable abbrev Vc : Stmt := top 29
noncomputable abbrev JG : Stmt := top 30
noncomputable abbrev Qx : Stmt := top 31
noncomputable abbrev Jy : Stmt := top 32
noncomputable abbrev ZL : Stmt := top 33
noncomputable abbrev ZF : Stmt := top 34
noncomputable abbrev ZQ : Stmt := top 35
noncomputable abbrev Wv : Stmt := top 37
noncomputable abbrev Ww : Stmt := top 38
noncomputable abbrev s_same : Stmt := top 39
noncomputable abbrev Yr : Stmt := top 40
noncomputable abbrev Q0 : Stmt := top 41
noncomputable abbrev J6 : Stmt := top 42
noncomputable abbrev JH : Stmt := top 43
noncomputable abbrev Xs : Stmt := top 44
noncomputable abbrev Kg : Stmt := top 45
noncomputable abbrev Wc : Stmt := top 46
noncomputable abbrev J2 : Stmt := top 47
noncomputable abbrev X9 : Stmt := top 48
noncomputable abbrev Jx : Stmt := top 49
noncomputable abbrev Vn : Stmt := top 50
noncomputable abbrev Wf : Stmt := top 51
noncomputable abbrev Jw : Stmt := top 52
noncomputable abbrev X4 : Stmt := top 53
noncomputable abbrev ZT : Stmt := top 54
noncomputable abbrev Q5 : Stmt := top 55
noncomputable abbrev Bq : Stmt := top 56
theorem B3 : Zq ["thing"] ["thing"] (Ze Jt) := ⟨rfl, rfl, rfl, by walk_at "k", rfl, by walk_at "k", by walk_at "k"⟩
theorem B6 : Zq ["thing"] ["thing"] (Ze Ju) := ⟨rfl, rfl, rfl, by walk_at "k", rfl, by walk_at "k", by walk_at "k"⟩
theorem KY : Zq ["thing"] ["thing"] (Ze Qj) := ⟨rfl, rfl, rfl, by walk_at "k", rfl, by walk_at "k", by walk_at "k"⟩
theorem DY : Zq ["thing"] ["thing"] (Ze JX) := ⟨rfl, rfl, rfl, by walk_at "k", rfl, by walk_at "k", by walk_at "k"⟩
theorem Hf : Zq ["thing"] ["thing"] (Ze VZ) := ⟨rfl, rfl, rfl, by walk_at "k", rfl, by walk_at "k", by walk_at "k"⟩
theorem UH : Zq ["box"] ["box"] (Ze QX) := ⟨rfl, rfl, rfl, by walk_at "k", rfl, by walk_at "k", by walk_at "k"⟩
theorem XG : Zq ["one", "other"] ["one", "other"] (Ze Z6) := ⟨rfl, rfl, rfl, by walk_at "k", rfl, by walk_at "k", by walk_at "k"⟩
theorem Zej : Zq ["one", "other", "way"] ["one", "other", "way"] (Ze Eu) := ⟨rfl, rfl, rfl, by walk_at "k", rfl, by walk_at "k", by walk_at "k"⟩
theorem Bw : Zq ["thing"] ["thing"] (Ze QV) := ⟨rfl, rfl, rfl, by walk_at "k", rfl, by walk_at "k", by walk_at "k"⟩
theorem G8 : Zq ["boxes"] ["boxes"] (Ze QY) := ⟨rfl, rfl, rfl, by walk_at "k", rfl, by walk_at "k", by walk_at "k"⟩
theorem Em : Zq ["thing"] ["thing"] (Ze JD) := ⟨rfl, rfl, rfl, by walk_at "k", rfl, by walk_at "k", by walk_at "k"⟩
theorem Ef : Zq ["thing"] ["thing"] (Ze J3) := ⟨rfl, rfl, rfl, by walk_at "k", rfl, by walk_at "k", by walk_at "k"⟩
theorem WM : Zq ["thing"] ["thing"] (Ze QA) := ⟨rfl, rfl, rfl, by walk_at "k", rfl, by walk_at "k", by walk_at "k"⟩
theorem YD : Zq ["thing"] ["thing"] (Ze ZP) := ⟨rfl, rfl, rfl, by walk_at "k", rfl, by walk_at "k", by walk_at "k"⟩
theorem Gz : Zq ["thing"] ["thing"] (Ze QT) := ⟨rfl, rfl, rfl, by walk_at "k", rfl, by walk_at "k", by walk_at "k"⟩
theorem Ek : Zq ["tellings", "by"] ["tellings", "by"] (Ze JK) := ⟨rfl, rfl, rfl, by walk_at "k", rfl, by walk_at "k", by walk_at "k"⟩
theorem HN : Zq ["tellings", "things", "lands"] ["tellings", "things", "lands"] (Ze Vc) := ⟨rfl, rfl, rfl, by walk_at "k", rfl, by walk_at "k", by walk_at "k"⟩
theorem DN : Zq ["tellings"] ["tellings"] (Ze JG) := ⟨rfl, rfl, rfl, by walk_at "k", rfl, by walk_at "k", by walk_at "k"⟩
theorem UY : Zq ["names"] ["names"] (Ze Qx) := ⟨rfl, rfl, rfl, by walk_at "k", rfl, by walk_at "k", by walk_at "k"⟩
theorem Ep : Zq ["names", "others"] ["names", "others"] (Ze Jy) := ⟨rfl, rfl, rfl, by walk_at "k", rfl, by walk_at "k", by walk_at "k"⟩
theorem YZ : Zq ["tellings"] ["tellings"] (Ze ZL) := ⟨rfl, rfl, rfl, by walk_at "k", rfl, by walk_at "k", by walk_at "k"⟩
theorem Vb : Zq ["tellings", "names"] ["tellings"] (Ze ZF) := ⟨rfl, rfl, rfl, by walk_at "k", rfl, by walk_at "k", by walk_at "k"⟩
theorem Qu : Zq ["telling", "things", "lands", "name", "outer"] ["telling", "things", "lands"] (Ze ZQ) := ⟨rfl, rfl, rfl, by walk_at "k", rfl, by walk_at "k", by walk_at "k"⟩
theorem Yq : Zq ["_law_pen", "_law_many", "_law_at", "_law_cell", "_law_one", "_law_two", "_law_digit"] ["_law_pen", "_law_many"] (Ze Wv) := ⟨rfl, rfl, rfl, by walk_at "k", rfl, by walk_at "k", by walk_at "k"⟩
theorem Ux : Zq ["_law_pen", "_law_many", "_law_found", "_law_k"] ["_law_pen", "_law_many"] (Ze Ww) := ⟨rfl, rfl, rfl, by walk_at "k", rfl, by walk_at "k", by walk_at "k"⟩
theorem Zan : Zq ["_law_found", "_law_due"] ["_law_found", "_law_due"] (Ze s_same) := ⟨rfl, rfl, rfl, by walk_at "k", rfl, by walk_at "k", by walk_at "k"⟩
theorem JP : Zq ["_law_pen", "_law_most", "_law_low", "_law_found", "_law_k", "_law_wide_here", "_law_first", "_law_last"] ["_law_pen", "_law_most"] (Ze Yr) := ⟨rfl, rfl, rfl, by walk_at "k", rfl, by walk_at "k", by walk_at "k"⟩
theorem Q9 : Zq ["_law_boxes_here", "_law_by", "_law_off", "_law_found", "_law_low", "_law_high", "_law_first"] ["_law_boxes_here", "_law_by", "_law_off"] (Ze Q0) := ⟨rfl, rfl, rfl, by walk_at "k", rfl, by walk_at "k", by walk_at "k"⟩
theorem V3 : Zq ["_law_pen", "_law_by", "_law_off"] ["_law_pen"] (Ze J6) := ⟨rfl, rfl, rfl, by walk_at "k", rfl, by walk_at "k", by walk_at "k"⟩
theorem Jr : Zq ["_law_pen", "_law_many", "_law_letters", "_law_words", "_law_base", "_law_start", "_law_manner", "_law_long", "_law_at", "_law_signs"] ["_law_pen", "_law_many"] (Ze JH) := ⟨rfl, rfl, rfl, by walk_at "k", rfl, by walk_at "k", by walk_at "k"⟩
theorem JM : Zq ["_law_pen", "_law_far", "_law_begin", "_law_span", "_law_things", "_law_lands", "_law_by", "_law_off"] ["_law_pen"] (Ze Xs) := ⟨rfl, rfl, rfl, by walk_at "k", rfl, by walk_at "k", by walk_at "k"⟩
theorem HI : Zq ["_law_pen", "_law_world_here", "_law_by"] ["_law_pen", "_law_world_here"] (Ze Kg) := ⟨rfl, rfl, rfl, by walk_at "k", rfl, by walk_at "k", by walk_at "k"⟩
theorem Yi : Zq ["_law_pen", "_law_world_here", "_law_time", "_law_lands", "_law_by", "_law_outer", "_law_boxes_here", "_law_wobble", "_law_name"] ["_law_pen", "_law_world_here", "_law_time"] (Ze Wc) := ⟨rfl, rfl, rfl, by walk_at "k", rfl, by walk_at "k", by walk_at "k"⟩
theorem VW : Zq ["_law_pen", "_law_world_here", "_law_kind", "_law_time", "_law_thing"] ["_law_pen", "_law_world_here"] (Ze J2) := ⟨rfl, rfl, rfl, by walk_at "k", rfl, by walk_at "k", by walk_at "k"⟩
theorem Zao : Zq ["_law_pen", "_law_world_here", "_law_most"] ["_law_pen", "_law_world_here", "_law_most"] (Ze X9) := ⟨rfl, rfl, rfl, by walk_at "k", rfl, by walk_at "k", by walk_at "k"⟩
theorem Yo : Zq ["_law_tellings", "_law_kinds", "_law_found", "_law_one"] ["_law_tellings", "_law_kinds"] (Ze Jx) := ⟨rfl, rfl, rfl, by walk_at "k", rfl, by walk_at "k", by walk_at "k"⟩
theorem Kq : Zq ["_law_pen", "_law_some_here", "_law_found", "_law_sign"] ["_law_pen", "_law_some_here"] (Ze Vn) := ⟨rfl, rfl, rfl, by walk_at "k", rfl, by walk_at "k", by walk_at "k"⟩
theorem YC : Zq ["_law_pen", "_law_some_here", "_law_others_here", "_law_found", "_law_kind", "_law_shift", "_law_k", "_law_name"] ["_law_pen", "_law_some_here"] (Ze Wf) := ⟨rfl, rfl, rfl, by walk_at "k", rfl, by walk_at "k", by walk_at "k"⟩
theorem Vt : Zq ["_law_tellings", "_law_things", "_law_lands", "_law_found", "_law_one", "_law_parts"] ["_law_tellings", "_law_things", "_law_lands"] (Ze Jw) := ⟨rfl, rfl, rfl, by walk_at "k", rfl, by walk_at "k", by walk_at "k"⟩
theorem S8 : Zq ["_law_some_here", "_law_names_here"] ["_law_some_here", "_law_names_here"] (Ze X4) := ⟨rfl, rfl, rfl, by walk_at "k", rfl, by walk_at "k", by walk_at "k"⟩
theorem ZN : Zq ["_law_pen", "_law_tellings", "_law_some_here", "_law_dicts", "_law_kept", "_law_due", "_law_back_here", "_law_again", "_law_found"] ["_law_pen", "_law_tellings"] (Ze ZT) := ⟨rfl, rfl, rfl, by walk_at "k", rfl, by walk_at "k", by walk_at "k"⟩
theorem Qz : Zq ["_law_tellings", "_law_by", "_law_due", "_law_one", "_law_kept", "_law_again", "_law_found"] ["_law_tellings", "_law_by"] (Ze Q5) := ⟨rfl, rfl, rfl, by walk_at "k", rfl, by walk_at "k", by walk_at "k"⟩
theorem YS : Zq ["_law_script", "_law_pen", "_law_world_here", "_law_tellings", "_law_times", "_law_low", "_law_high", "_law_by", "_law_k"] ["_law_script"] (Ze Bq) := ⟨rfl, rfl, rfl, by walk_at "k", rfl, by walk_at "k", by walk_at "k"⟩
theorem Lr : bootBuiltins "abs" = some (.builtin "abs") := by walk_at "k"
theorem Gg : bootBuiltins "all" = some (.builtin "all") := by walk_at "k"
theorem T5 : bootBuiltins "bool" = some (.type "bool") := by walk_at "k"
theorem Se : bootBuiltins "dict" = some (.type "dict") := by walk_at "k"
theorem Zbl : bootBuiltins "int" = some (.type "int") := by walk_at "k"
theorem Z8 : bootBuiltins "isinstance" = some (.builtin "isinstance") := by walk_at "k"
theorem Qh : bootBuiltins "len" = some (.builtin "len") := by walk_at "k"
theorem RN : bootBuiltins "list" = some (.type "list") := by walk_at "k"
theorem E5 : bootBuiltins "max" = some (.builtin "max") := by walk_at "k"
theorem ZdK : bootBuiltins "min" = some (.builtin "min") := by walk_at "k"
theorem Xa : bootBuiltins "repr" = some (.builtin "repr") := by walk_at "k"
theorem PB : bootBuiltins "str" = some (.type "str") := by walk_at "k"
theorem Jq : bootBuiltins "tuple" = some (.type "tuple") := by walk_at "k"
set_option genInjectivity false in
structure Tx (K : Fk) (mg : Str -> Option Value) where
 J0 : Addr
 J7 : FuncData
 ZU : Own K mg "is_whole" Jt ["thing"] J0 J7
 VR : Addr
 VY : FuncData
 Qa : Own K mg "is_short" Ju ["thing"] VR VY
 Vo : Addr
 Vl : FuncData
 Jo : Own K mg "is_any_spot" Qj ["thing"] Vo Vl
 YY : Addr
 Y2 : FuncData
 Qq : Own K mg "is_spot" JX ["thing"] YY Y2
 WB : Addr
 WW : FuncData
 XJ : Own K mg "is_box" VZ ["thing"] WB WW
 Yv : Addr
 Yf : FuncData
 Vi : Own K mg "has_spots" QX ["box"] Yv Yf
 JB : Addr
 JJ : FuncData
 QI : Own K mg "steps_between" Z6 ["one", "other"] JB JJ
 Tp : Addr
 SF : FuncData
 B9 : Own K mg "gap" Eu ["one", "other", "way"] Tp SF
 Xv : Addr
 Xb : FuncData
 V4 : Own K mg "is_shape" QV ["thing"] Xv Xb
 Xe : Addr
 Y7 : FuncData
 VS : Own K mg "is_chain" QY ["boxes"] Xe Y7
 VA : Addr
 VL : FuncData
 Qr : Own K mg "is_name" JD ["thing"] VA VL
 XQ : Addr
 XT : FuncData
 YW : Own K mg "is_time" J3 ["thing"] XQ XT
 VG : Addr
 VP : FuncData
 JN : Own K mg "is_telling" QA ["thing"] VG VP
 QN : Addr
 QL : FuncData
 Qe : Own K mg "is_name_or_empty" ZP ["thing"] QN QL
 Ys : Addr
 YB : FuncData
 Vu : Own K mg "is_wobble" QT ["thing"] Ys YB
 Y1 : Addr
 YT : FuncData
 Qn : Own K mg "put_off" JK ["tellings", "by"] Y1 YT
 WJ : Addr
 Ud : FuncData
 Qk : Own K mg "called" Vc ["tellings", "things", "lands"] WJ Ud
 Kr : Addr
 XS : FuncData
 YO : Own K mg "checked" JG ["tellings"] Kr XS
 Yx : Addr
 Yu : FuncData
 Qv : Own K mg "are_names" Qx ["names"] Yx Yu
 X0 : Addr
 Kc : FuncData
 JA : Own K mg "clashes" Jy ["names", "others"] X0 Kc
 QW : Addr
 Q3 : FuncData
 Qi : Own K mg "names_of_things" ZL ["tellings"] QW Q3
 Je : Addr
 Jg : FuncData
 Qs : Own K mg "names_of_lands" ZF ["tellings"] Je Jg
 QM : Addr
 QG : FuncData
 Qf : Own K mg "called_otherwise" ZQ ["telling", "things", "lands"] QM QG
 J9 : Addr
 J4 : FuncData
 Zi : Own K mg "_law_take" Wv ["_law_pen", "_law_many"] J9 J4
 Wb : Addr
 Wu : FuncData
 Ji : Own K mg "_law_wide" Ww ["_law_pen", "_law_many"] Wb Wu
 Cv : Addr
 Dy : FuncData
 Jl : Own K mg "_law_same" s_same ["_law_found", "_law_due"] Cv Dy
 BK : Addr
 Cb : FuncData
 W2 : Own K mg "_law_boxes" Yr ["_law_pen", "_law_most"] BK Cb
 Yc : Addr
 Yd : FuncData
 Vr : Own K mg "_law_stretched" Q0 ["_law_boxes_here", "_law_by", "_law_off"] Yc Yd
 Kj : Addr
 XR : FuncData
 YR : Own K mg "_law_stretch" J6 ["_law_pen"] Kj XR
 Uu : Addr
 WR : FuncData
 JU : Own K mg "_law_names" JH ["_law_pen", "_law_many"] Uu WR
 Br : Addr
 BN : FuncData
 W5 : Own K mg "_law_world" Xs ["_law_pen"] Br BN
 E6 : Addr
 FL : FuncData
 CO : Own K mg "_law_spot" Kg ["_law_pen", "_law_world_here"] E6 FL
 Ls : Addr
 Hr : FuncData
 Dq : Own K mg "_law_land" Wc ["_law_pen", "_law_world_here", "_law_time"] Ls Hr
 KI : Addr
 XX : FuncData
 YQ : Own K mg "_law_telling" J2 ["_law_pen", "_law_world_here"] KI XX
 E1 : Addr
 FQ : FuncData
 CF : Own K mg "_law_some" X9 ["_law_pen", "_law_world_here", "_law_most"] E1 FQ
 Xu : Addr
 Xc : FuncData
 Q2 : Own K mg "_law_standing" Jx ["_law_tellings", "_law_kinds"] Xu Xc
 Wy : Addr
 Uw : FuncData
 XI : Own K mg "_law_others" Vn ["_law_pen", "_law_some_here"] Wy Uw
 LK : Addr
 HQ : FuncData
 CH : Own K mg "_law_dict" Wf ["_law_pen", "_law_some_here"] LK HQ
 Xw : Addr
 Y5 : FuncData
 VU : Own K mg "_law_called" Jw ["_law_tellings", "_law_things", "_law_lands"] Xw Y5
 FU : Addr
 E4 : FuncData
 Cz : Own K mg "_law_back" X4 ["_law_some_here", "_law_names_here"] FU E4
 JV : Addr
 JS : FuncData
 Q7 : Own K mg "_law_called_right" ZT ["_law_pen", "_law_tellings"] JV JS
 Yn : Addr
 YA : FuncData
 Vh : Own K mg "_law_put_right" Q5 ["_law_tellings", "_law_by"] Yn YA
 Zcz : Addr
 Zbk : FuncData
 o_law : Own K mg "law" Bq ["_law_script"] Zcz Zbk
 RP : mg "abs" = none
 H9 : mg "all" = none
 Zcq : mg "bool" = none
 Zcl : mg "dict" = none
 Zfo : mg "int" = none
 Qg : mg "isinstance" = none
 Jc : mg "len" = none
 Lz : mg "list" = none
 Zab : mg "max" = none
 ZfL : mg "min" = none
 QF : mg "range" = none
 Wt : mg "repr" = none
 RB : mg "set" = none
 OE : mg "sorted" = none
 Zbq : mg "str" = none
 Vf : mg "tuple" = none
 Zgm : mg "zip" = none
 Zcy : Tok
 P6 : mg "MOST" = some (.int 999999999999 Zcy)
 U8 : Tok
 GN : mg "MOST_BOXES" = some (.int 6 U8)
 K0 : Tok
 KW : mg "MOST_LETTERS" = some (.int 8 K0)
 G6 : Tok
 BZ : mg "LAST_TIME" = some (.int 1000000000000 G6)
local macro_rules | `(tactic| walk_at "hd") => `(tactic| (subst_vars; (try dsimp only); refine DL.OL fun R hR => ?_))
local macro_rules | `(tactic| walk_at "h") => `(tactic| (walk_at "hd"; walk_at "rk"))
noncomputable def gp (a b a' b' : Int) : Int := max 0 (max (a' - b) (a - b'))
noncomputable def btw (x y X Y x' y' X' Y' : Int) : Int := max (gp x X x' X') (gp y Y y' Y')
structure B4 where
 x : Int
 y : Int
 X : Int
 Y : Int
noncomputable def bD (b : B4) : PyData := .tuple [.tuple [.int b.x, .int b.y], .tuple [.int b.X, .int b.Y]]
noncomputable def QK (a b : B4) : Int := btw a.x a.y a.X a.Y b.x b.y b.X b.Y
noncomputable def okB (b : B4) : Bool := decide (b.x <= b.X) && decide (b.y <= b.Y)
noncomputable def Bl (f ox oy : Int) (b : B4) : B4 := ⟨b.x * f + ox, b.y * f + oy, b.X * f + f - 1 + ox, b.Y * f + f - 1 + oy⟩
noncomputable def toB : PyData -> B4
 | .tuple [.tuple [.int x, .int y], .tuple [.int X, .int Y]] => ⟨x, y, X, Y⟩
 | _ => ⟨0, 0, 0, 0⟩
def onX (x : DV) (P : B4 -> Prop) : Prop := ∃ b, x = .dat (bD b) /\ P b
theorem Du (b : B4) (P : B4 -> Prop) : onX (.dat (bD b)) P = P b := propext ⟨fun ⟨c, e, h⟩ => by
 rw [DV.dat.injEq] at e;rw [show b = c from congrArg toB e]
 exact h, fun h => ⟨b, rfl, h⟩⟩
theorem Nd (x y X Y : Int) (P : B4 -> Prop) : onX (.dat (.tuple [.tuple [.int x, .int y], .tuple [.int X, .int Y]])) P = P ⟨x, y, X, Y⟩ := Du ⟨x, y, X, Y⟩ P
theorem UJ {x : DV} {P : B4 -> Prop} (h : onX x P) : ∃ b, x = .dat (bD b) /\ P b := h
theorem MB (b : B4) (M : Mp) (P : List PyData -> Prop) : onQ (.dat (bD b)) M P = P [.tuple [.int b.x, .int b.y], .tuple [.int b.X, .int b.Y]] := propext Iff.rfl
theorem Ov (b : B4) (P : List PyData -> Prop) : onT (.dat (bD b)) P = P [.tuple [.int b.x, .int b.y], .tuple [.int b.X, .int b.Y]] := propext Iff.rfl
theorem Kn : ∀ bs : List B4, (bs.map bD).map toB = bs
 | [] => rfl
 | b :: bs => by rw [List.map_cons, List.map_cons, Kn bs]; rfl
def ZeR (x : DV) (P : List B4 -> Prop) : Prop := ∃ bs, x = .dat (.tuple (bs.map bD)) /\ P bs
def ZeK (x : DV) (P : List B4 -> Prop) : Prop := ∃ bs, x = .dat (.list (bs.map bD)) /\ P bs
theorem TY {x : DV} {P : List B4 -> Prop} (h : ZeR x P) : ∃ bs, x = .dat (.tuple (bs.map bD)) /\ P bs := h
theorem R0 {x : DV} {P : List B4 -> Prop} (h : ZeK x P) : ∃ bs, x = .dat (.list (bs.map bD)) /\ P bs := h
theorem K6 {as bs : List B4} (h : as.map bD = bs.map bD) : as = bs := by
 rw [<- Kn as, h, Kn]
theorem Zag (bs : List B4) (P : List B4 -> Prop) : ZeR (.dat (.tuple (bs.map bD))) P = P bs := propext ⟨fun ⟨cs, e, h⟩ => by
 rw [DV.dat.injEq, PyData.tuple.injEq] at e;rw [K6 e]
 exact h, fun h => ⟨bs, rfl, h⟩⟩
theorem RU (bs : List B4) (P : List B4 -> Prop) : ZeK (.dat (.list (bs.map bD))) P = P bs := propext ⟨fun ⟨cs, e, h⟩ => by
 rw [DV.dat.injEq, PyData.list.injEq] at e;rw [K6 e]
 exact h, fun h => ⟨bs, rfl, h⟩⟩
noncomputable def ZY : PyData -> Bool
 | .int _ => true
 | _ => false
noncomputable def ZH : PyData -> Bool
 | .int i => decide (-999999999999 <= i) && decide (i <= 999999999999)
 | _ => false
noncomputable def V9 : PyData -> Bool
 | .tuple [a, b] => ZY a && ZY b
 | _ => false
noncomputable def QH : PyData -> Bool
 | .tuple [a, b] => ZH a && ZH b
 | _ => false
noncomputable def Vw : PyData -> Bool
 | .tuple [a, b] => QH a && (QH b && okB (toB (.tuple [a, b])))
 | _ => false
noncomputable def chB : List B4 -> Bool
 | a :: b :: l => decide (QK a b <= 1) && chB (b :: l)
 | _ => true
noncomputable def Jn : PyData -> Bool
 | .tuple ds => (decide (1 <= ds.length) && decide (ds.length <= 6)) && (ds.all Vw && chB (ds.map toB))
 | _ => false
noncomputable def ML (c : Nat) : Bool := decide (97 <= c) && decide (c <= 122)
noncomputable def Qd : PyData -> Bool
 | .str s => (decide (1 <= s.length) && decide (s.length <= 8)) && s.cps.toList.all ML
 | _ => false
noncomputable def KN : PyData -> Bool
 | .str s => decide (s.length <= 1000)
 | _ => true
noncomputable def JW : PyData -> Bool
 | .int i => decide (0 <= i) && decide (i <= 1000000000000)
 | _ => false
noncomputable def Dv : PyData -> Bool
 | .int i => decide (0 <= i) && decide (i <= 999999999999)
 | _ => false
noncomputable def T2 : List PyData -> Bool
 | [o, s, v] => (isS o (Str.ofString "") || Qd o) && (Jn s && Dv v)
 | _ => false
noncomputable def RO : List PyData -> Bool
 | [s] => QH s
 | _ => false
noncomputable def Yj (k : PyData) (l : List PyData) : Bool :=
 if isS k (Str.ofString "land") = true then T2 l else if isS k (Str.ofString "spot") = true then RO l else l.isEmpty && (isS k (Str.ofString "drop") || isS k (Str.ofString "free"))
noncomputable def QB : PyData -> Bool
 | .tuple (k :: t :: n :: l) => JW t && (Qd n && Yj k l)
 | _ => false
noncomputable def Zfb : PyData -> Bool
 | .tuple ds => ds.all KN
 | _ => true
def spW : DSp := fun xs M Φ => on1 xs fun x => onD x fun d => Φ (.dat (.bool (ZY d))) M
theorem ZfB (xs : List DV) (M : Mp) (Φ : DK) : spW xs M Φ = (on1 xs fun x => onD x fun d => Φ (.dat (.bool (ZY d))) M) := propext Iff.rfl
def ZeU : DSp := fun xs M Φ => on1 xs fun x => onD x fun d => Φ (.dat (.bool (ZH d))) M
theorem Zc3 (xs : List DV) (M : Mp) (Φ : DK) : ZeU xs M Φ = (on1 xs fun x => onD x fun d => Φ (.dat (.bool (ZH d))) M) := propext Iff.rfl
def ZgB : DSp := fun xs M Φ => on1 xs fun x => onD x fun d => Φ (.dat (.bool (V9 d))) M
theorem ZdO (xs : List DV) (M : Mp) (Φ : DK) : ZgB xs M Φ = (on1 xs fun x => onD x fun d => Φ (.dat (.bool (V9 d))) M) := propext Iff.rfl
def ZeG : DSp := fun xs M Φ => on1 xs fun x => onD x fun d => Φ (.dat (.bool (QH d))) M
theorem Zbo (xs : List DV) (M : Mp) (Φ : DK) : ZeG xs M Φ = (on1 xs fun x => onD x fun d => Φ (.dat (.bool (QH d))) M) := propext Iff.rfl
def Zfr : DSp := fun xs M Φ => on1 xs fun x => onD x fun d => Φ (.dat (.bool (Vw d))) M
theorem ZdG (xs : List DV) (M : Mp) (Φ : DK) : Zfr xs M Φ = (on1 xs fun x => onD x fun d => Φ (.dat (.bool (Vw d))) M) := propext Iff.rfl
def Cg : DSp := fun xs M Φ => on1 xs fun x => onD x fun d => Φ (.dat (.bool (Jn d))) M
theorem Lb (xs : List DV) (M : Mp) (Φ : DK) : Cg xs M Φ = (on1 xs fun x => onD x fun d => Φ (.dat (.bool (Jn d))) M) := propext Iff.rfl
def spT : DSp := fun xs M Φ => on1 xs fun x => onD x fun d => Φ (.dat (.bool (JW d))) M
theorem Ze2 (xs : List DV) (M : Mp) (Φ : DK) : spT xs M Φ = (on1 xs fun x => onD x fun d => Φ (.dat (.bool (JW d))) M) := propext Iff.rfl
def TC : DSp := fun xs M Φ => on1 xs fun x => onD x fun d => Φ (.dat (.bool (Dv d))) M
theorem Sv (xs : List DV) (M : Mp) (Φ : DK) : TC xs M Φ = (on1 xs fun x => onD x fun d => Φ (.dat (.bool (Dv d))) M) := propext Iff.rfl
def spN : DSp := fun xs M Φ => on1 xs fun x => onD x fun d => KN d = true /\ Φ (.dat (.bool (Qd d))) M
theorem Zfj (xs : List DV) (M : Mp) (Φ : DK) : spN xs M Φ = (on1 xs fun x => onD x fun d => KN d = true /\ Φ (.dat (.bool (Qd d))) M) := propext Iff.rfl
def Zfu : DSp := fun xs M Φ => on1 xs fun x => onD x fun d => KN d = true /\ Φ (.dat (.bool (isS d (Str.ofString "") || Qd d))) M
theorem ZaR (xs : List DV) (M : Mp) (Φ : DK) : Zfu xs M Φ = (on1 xs fun x => onD x fun d => KN d = true /\ Φ (.dat (.bool (isS d (Str.ofString "") || Qd d))) M) := propext Iff.rfl
def Hn : DSp := fun xs M Φ => on1 xs fun x => onD x fun d => Zfb d = true /\ Φ (.dat (.bool (QB d))) M
theorem Ms (xs : List DV) (M : Mp) (Φ : DK) : Hn xs M Φ = (on1 xs fun x => onD x fun d => Zfb d = true /\ Φ (.dat (.bool (QB d))) M) := propext Iff.rfl
def ZaB : DSp := fun xs M Φ => on1 xs fun x => onX x fun b => Φ (.dat (.bool (okB b))) M
theorem RG (xs : List DV) (M : Mp) (Φ : DK) : ZaB xs M Φ = (on1 xs fun x => onX x fun b => Φ (.dat (.bool (okB b))) M) := propext Iff.rfl
def Rz : DSp := fun xs M Φ => on3 xs fun x y z => onX x fun a => onX y fun b => onI z fun i => (i = 0 \/ i = 1) /\ Φ (.dat (.int (if i = 0 then gp a.x a.X b.x b.X else gp a.y a.Y b.y b.Y))) M
theorem SG (xs : List DV) (M : Mp) (Φ : DK) : Rz xs M Φ = (on3 xs fun x y z => onX x fun a => onX y fun b => onI z fun i => (i = 0 \/ i = 1) /\ Φ (.dat (.int (if i = 0 then gp a.x a.X b.x b.X else gp a.y a.Y b.y b.Y))) M) := propext Iff.rfl
def Kx : DSp := fun xs M Φ => on2 xs fun x y => onX x fun a => onX y fun b => Φ (.dat (.int (QK a b))) M
theorem G4 (xs : List DV) (M : Mp) (Φ : DK) : Kx xs M Φ = (on2 xs fun x y => onX x fun a => onX y fun b => Φ (.dat (.int (QK a b))) M) := propext Iff.rfl
def Cp : DSp := fun xs M Φ => on1 xs fun x => ZeR x fun bs => bs.length <= 6 /\ Φ (.dat (.bool (chB bs))) M
theorem Hx (xs : List DV) (M : Mp) (Φ : DK) : Cp xs M Φ = (on1 xs fun x => ZeR x fun bs => bs.length <= 6 /\ Φ (.dat (.bool (chB bs))) M) := propext Iff.rfl
section
variable {base : Heap}
theorem Gs {α : Type} {ds : List α} (h : ds.length = 2) : ∃ a b, ds = [a, b] := by
 match ds, h with
 | [a, b], _ => exact ⟨a, b, rfl⟩
theorem UC (h : ds.length ≠ 2) : V9 (.tuple ds) = false /\ QH (.tuple ds) = false /\ Vw (.tuple ds) = false := by
 match ds, h with
 | [], _ => exact ⟨rfl, rfl, rfl⟩
 | [_], _ => exact ⟨rfl, rfl, rfl⟩
 | [_, _], h => exact absurd rfl h
 | _ :: _ :: _ :: _, _ => exact ⟨rfl, rfl, rfl⟩
theorem Dp (h : ZY d = true) : ∃ i, d = .int i := by
 cases d <;> first | exact ⟨_, rfl⟩ | cases h
theorem Km (h : ZY d = false) : ZH d = false := by
 cases d <;> first | rfl | cases h
theorem Zhk (n : Nat) : decide ((n : Int) = 2) = decide (n = 2) := decide_eq_decide.mpr (by omega)
theorem PQ (h : V9 d = true) : ∃ x y, d = .tuple [.int x, .int y] := by
 cases d with
 | tuple ds =>
  by_cases hl : ds.length = 2
  ·obtain ⟨a, b, rfl⟩ := Gs hl;have h' : ZY a = true /\ ZY b = true := by simpa [V9] using h
   obtain ⟨x, rfl⟩ := Dp h'.1;obtain ⟨y, rfl⟩ := Dp h'.2;exact ⟨x, y, rfl⟩
  ·rw [(UC hl).1] at h;cases h
 | _ => cases h
theorem CW (h : V9 d = false) : QH d = false := by
 cases d with
 | tuple ds =>
  by_cases hl : ds.length = 2
  ·obtain ⟨a, b, rfl⟩ := Gs hl;have h' : ZY a = false \/ ZY b = false := by
    have : (ZY a && ZY b) = false := h;exact Bool.and_eq_false_iff.mp this
   show (ZH a && ZH b) = false
   rcases h' with h' | h'
   ·rw [Km h'];rfl
   ·rw [Km h', Bool.and_false]
  ·exact (UC hl).2.1
 | _ => rfl
theorem Uz (h : QH d = true) : ∃ x y : Int, d = .tuple [.int x, .int y] /\ ZH (.int x) = true /\ ZH (.int y) = true := by
 cases q : V9 d with
 | false => rw [CW q] at h; cases h
 | true =>
  obtain ⟨x, y, rfl⟩ := PQ q;exact ⟨x, y, rfl, Bool.and_eq_true_iff.mp h⟩
theorem Zdf (h : Vw d = true) : ∃ b, d = bD b /\ okB b = true := by
 cases d with
 | tuple ds =>
  by_cases hl : ds.length = 2
  ·obtain ⟨a, b, rfl⟩ := Gs hl;have h' : QH a = true /\ QH b = true /\ okB (toB (.tuple [a, b])) = true := by simpa [Vw] using h
   obtain ⟨x, y, rfl, _⟩ := Uz h'.1;obtain ⟨x', y', rfl, _⟩ := Uz h'.2.1;exact ⟨⟨x, y, x', y'⟩, rfl, h'.2.2⟩
  ·rw [(UC hl).2.2] at h;cases h
 | _ => cases h
noncomputable def stB (bs : List B4) (j : Nat) : Bool := match bs[j]?, bs[j + 1]? with
 | some a, some b => decide (QK a b <= 1)
 | _, _ => true
theorem ET : ∀ bs : List B4, chB bs = (List.range (bs.length - 1)).all (stB bs)
 | [] => rfl
 | [_] => rfl
 | a :: b :: l => by
  have ih := ET (b :: l);show (decide (QK a b <= 1) && chB (b :: l)) = (List.range (l.length + 1)).all (stB (a :: b :: l));rw [ih, List.range_succ_eq_map, List.all_cons, List.all_map];rfl
theorem Gk {p : Prop} [Decidable p] {A B : Prop} (h1 : ¬ p -> A) (h2 : p -> B) : if (!decide p) = true then A else B := by
 by_cases h : p
 ·rw [decide_eq_true h, if_neg (by decide)];exact h2 h
 ·rw [decide_eq_false h, if_pos (by decide)];exact h1 h
theorem C3 : ∀ {ds : List PyData}, ds.all Vw = true -> ∃ bs : List B4, ds = bs.map bD
 | [], _ => ⟨[], rfl⟩
 | d :: ds, h => by
  rw [List.all_cons, Bool.and_eq_true] at h;obtain ⟨b, rfl, _⟩ := Zdf h.1;obtain ⟨bs, rfl⟩ := C3 h.2;exact ⟨b :: bs, rfl⟩
theorem GY (h : ¬ 1 <= (ds.length : Int) \/ ¬ (ds.length : Int) <= 6) : Jn (.tuple ds) = false := by
 show ((decide (1 <= ds.length) && decide (ds.length <= 6)) && _) = false
 rcases h with h | h
 ·rw [decide_eq_false (show ¬ 1 <= ds.length by omega)];rfl
 ·rw [decide_eq_false (show ¬ ds.length <= 6 by omega), Bool.and_false];rfl
theorem ZfU (c : Nat) : (!decide ((⟨#[c]⟩ : Str).cps.toList < (Str.ofString "a").cps.toList)) = decide (97 <= c) := by
 rw [YL, show (Str.ofString "a").cps.toList = [97] by decide +kernel]
 by_cases h : 97 <= c
 ·rw [decide_eq_true h, decide_eq_false (fun z => by simp [List.cons_lt_cons_iff] at z; omega)];rfl
 ·rw [decide_eq_false h, decide_eq_true (by simp [List.cons_lt_cons_iff]; omega)];rfl
theorem Zfd (c : Nat) : (!decide ((Str.ofString "z").cps.toList < (⟨#[c]⟩ : Str).cps.toList)) = decide (c <= 122) := by
 rw [YL, show (Str.ofString "z").cps.toList = [122] by decide +kernel]
 by_cases h : c <= 122
 ·rw [decide_eq_true h, decide_eq_false (fun z => by simp [List.cons_lt_cons_iff] at z; omega)];rfl
 ·rw [decide_eq_false h, decide_eq_true (by simp [List.cons_lt_cons_iff]; omega)];rfl
theorem U6 {s : Str} (h : ¬ 1 <= (s.length : Int) \/ ¬ (s.length : Int) <= 8) : Qd (.str s) = false := by
 show ((decide (1 <= s.length) && decide (s.length <= 8)) && s.cps.toList.all ML) = false
 rcases h with h | h
 ·rw [decide_eq_false (show ¬ 1 <= s.length by omega)];rfl
 ·rw [decide_eq_false (show ¬ s.length <= 8 by omega), Bool.and_false];rfl
theorem Ht (h : ds.length < 3) : QB (.tuple ds) = false := by
 match ds, h with
 | [], _ => rfl
 | [_], _ => rfl
 | [_, _], _ => rfl
theorem ON {α : Type} {ds : List α} (h : ¬ ds.length < 3) : ∃ a b c l, ds = a :: b :: c :: l := by
 match ds, h with
 | [], h => exact absurd (by simp) h
 | [_], h => exact absurd (by simp) h
 | [_, _], h => exact absurd (by simp) h
 | a :: b :: c :: l, _ => exact ⟨a, b, c, l, rfl⟩
theorem OQ {α : Type} {ds : List α} (h : ds.length = 3) : ∃ a b c, ds = [a, b, c] := by
 match ds, h with
 | [a, b, c], _ => exact ⟨a, b, c, rfl⟩
theorem Zb2 {α : Type} {ds : List α} (h : ds.length = 1) : ∃ a, ds = [a] := by
 match ds, h with
 | [a], _ => exact ⟨a, rfl⟩
theorem RH (h : l.length ≠ 3) : T2 l = false := by
 match l, h with
 | [], _ => rfl
 | [_], _ => rfl
 | [_, _], _ => rfl
 | [_, _, _], h => exact absurd rfl h
 | _ :: _ :: _ :: _ :: _, _ => rfl
theorem Rx (h : l.length ≠ 1) : RO l = false := by
 match l, h with
 | [], _ => rfl
 | [_], h => exact absurd rfl h
 | _ :: _ :: _, _ => rfl
def Ze5 (o : OO) : Prop := ∃ (ns : List Int) (i b : Int), 0 <= i /\ o = .lst [.list (ns.map PyData.int), .int i, .int b]
def Pen (M : Mp) (p : Addr) : Prop := ∃ o, Ze5 o /\ M p = some o
theorem Pen.ZM (h : Ze5 o) : Pen (ZM M p o) p := ⟨o, h, Zv⟩
theorem Pen.ne (h : Pen M p) (hq : M q = none) : p ≠ q := fun e => by
 obtain ⟨o, _, ho⟩ := h;rw [e, hq] at ho;cases ho
theorem Pen.put (h : Pen M p) (hq : p ≠ q) : Pen (DL.ZM M q o) p := by
 obtain ⟨o', h1, h2⟩ := h;exact ⟨o', h1, by rw [Z5 hq]; exact h2⟩
theorem Pen.del (h : Pen M p) (hq : p ≠ q) : Pen (DL.Yy M q) p := by
 obtain ⟨o', h1, h2⟩ := h;exact ⟨o', h1, by rw [JE hq]; exact h2⟩
def Zg7 (x : DV) (P : List Int -> Prop) : Prop := ∃ ns, x = .dat (.list (ns.map PyData.int)) /\ P ns
theorem KC : ∀ {as bs : List Int}, as.map PyData.int = bs.map PyData.int -> as = bs
 | [], [], _ => rfl
 | [], _ :: _, h => by simp at h
 | _ :: _, [], h => by simp at h
 | a :: as, b :: bs, h => by
  rw [List.map_cons, List.map_cons, List.cons.injEq, PyData.int.injEq] at h;rw [h.1, KC h.2]
theorem RR (bs : List Int) (P : List Int -> Prop) : Zg7 (.dat (.list (bs.map PyData.int))) P = P bs := propext ⟨fun ⟨cs, e, h⟩ => by
 rw [DV.dat.injEq, PyData.list.injEq] at e;rw [KC e]
 exact h, fun h => ⟨bs, rfl, h⟩⟩
theorem tab {l : List Int} {r : Int} (P : Int -> Prop) (h0 : 0 <= r) (h1 : r < l.length) (hl : ∀ w ∈ l, P w) {Q : PyData -> Prop} (k : ∀ w, P w -> Q (.int w)) : KR (l.map PyData.int) r Q := by
 obtain ⟨w, hw, e⟩ := Tb h0 h1;exact VD e (k w (hl w hw))
def Fr (p : Addr) (M M' : Mp) : Prop := Pen M' p /\ ∀ a, a ≠ p -> M a ≠ none -> M' a = M a
theorem Fr.refl (h : Pen M p) : Fr p M M := ⟨h, fun _ _ _ => rfl⟩
theorem Fr.trans {M1 M2 : Mp} (h : Fr p M M1) (k : Fr p M1 M2) : Fr p M M2 := ⟨k.1, fun a ha hn => by
 have e := h.2 a ha hn;rw [<- e]
 exact k.2 a ha (by rw [e]; exact hn)⟩
theorem Fr.ZM (h : Ze5 o) : Fr p M (ZM M p o) := ⟨Pen.ZM h, fun a ha _ => Z5 ha⟩
theorem Fr.own (h : Fr p M M') (hq : M q = some o) (hne : q ≠ p) : M' q = some o := by
 rw [h.2 q hne (by rw [hq]; exact Option.some_ne_none _)];exact hq
theorem Fr.new (h : Fr p M M') (hq : M q = none) (hne : q ≠ p) : Fr p M (DL.ZM M' q o) := ⟨h.1.put (Ne.symm hne), fun a ha hn => by
 rw [Z5 (fun e => hn (by rw [e]; exact hq))]
 exact h.2 a ha hn⟩
def J8 : DSp := fun xs M Φ => on2 xs fun x y => onO x fun p => onI y fun m => (0 < m /\ m < 10 ^ 60) /\ Pen M p /\ ∀ r M', 0 <= r -> r < m -> Fr p M M' -> Φ (.dat (.int r)) M'
theorem Ny (xs : List DV) (M : Mp) (Φ : DK) : J8 xs M Φ = (on2 xs fun x y => onO x fun p => onI y fun m => (0 < m /\ m < 10 ^ 60) /\ Pen M p /\ ∀ r M', 0 <= r -> r < m -> Fr p M M' -> Φ (.dat (.int r)) M') := propext Iff.rfl
theorem Pen.get (h : Pen M p) : ∃ (ns : List Int) (i b : Int), 0 <= i /\ M p = some (.lst [.list (ns.map PyData.int), .int i, .int b]) := by
 obtain ⟨o, ⟨ns, i, b, hi, eo⟩, hp⟩ := h;exact ⟨ns, i, b, hi, by rw [hp, eo]⟩
def Wh : DSp := fun xs M Φ => on2 xs fun x y => onO x fun p => onI y fun m => (0 < m /\ m < 10 ^ 60) /\ Pen M p /\ ∀ r M', 0 <= r -> r < m -> Fr p M M' -> Φ (.dat (.int r)) M'
theorem NO (xs : List DV) (M : Mp) (Φ : DK) : Wh xs M Φ = (on2 xs fun x y => onO x fun p => onI y fun m => (0 < m /\ m < 10 ^ 60) /\ Pen M p /\ ∀ r M', 0 <= r -> r < m -> Fr p M M' -> Φ (.dat (.int r)) M') := propext Iff.rfl
def ZA (s : Str) : Prop := (1 <= s.length /\ s.length <= 8) /\ ∀ c ∈ s.cps.toList, 97 <= c /\ c <= 122
def Nml (n : Nat) (ss : List Str) : Prop := (1 <= ss.length /\ ss.length <= n) /\ ∀ s ∈ ss, ZA s
def Grb (n : Int) (b : B4) : Prop := (b.x <= b.X /\ b.y <= b.Y) /\ (-(4 * n) <= b.x /\ b.X <= 15 + 4 * n) /\ (-(4 * n) <= b.y /\ b.Y <= 15 + 4 * n)
def Grd (bs : List B4) : Prop := (1 <= bs.length /\ bs.length <= 6) /\ chB bs = true /\ ∀ b ∈ bs, Grb 5 b
def Frm (f ox oy : Int) : Prop := (1 <= f /\ f <= 10000000000) /\ (-100000000000 <= ox /\ ox <= 100000000000) /\ (-100000000000 <= oy /\ oy <= 100000000000)
noncomputable def EL (f ox oy bg sp : Int) (ts ls : List Str) : OO := .dkv [(.inr (Str.ofString "by"), .int f), (.inr (Str.ofString "off"), .tuple [.int ox, .int oy]), (.inr (Str.ofString "begin"), .int bg), (.inr (Str.ofString "span"), .int sp), (.inr (Str.ofString "things"), .list (ts.map PyData.str)), (.inr (Str.ofString "lands"), .list (ls.map PyData.str))]
def Wd (M : Mp) (q : Addr) : Prop := ∃ f ox oy bg sp ts ls, M q = some (EL f ox oy bg sp ts ls) /\ Frm f ox oy /\ (0 <= bg /\ bg <= 999999999992) /\ (1 <= sp /\ sp <= 9) /\ Nml 4 ts /\ Nml 5 ls
def LsW (M : Mp) (q : Addr) (P : List Str -> List Str -> Prop) : Prop := ∀ f ox oy bg sp ts ls, M q = some (EL f ox oy bg sp ts ls) -> P ts ls
theorem WA : ∀ {as bs : List Str}, as.map PyData.str = bs.map PyData.str -> as = bs
 | [], [], _ => rfl
 | [], _ :: _, h => by simp at h
 | _ :: _, [], h => by simp at h
 | a :: as, b :: bs, h => by
  rw [List.map_cons, List.map_cons, List.cons.injEq, PyData.str.injEq] at h;rw [h.1, WA h.2]
theorem LsW.of {f ox oy bg sp : Int} {ts ls : List Str} {P : List Str -> List Str -> Prop} (h : M q = some (EL f ox oy bg sp ts ls)) (k : P ts ls) : LsW M q P := fun f' ox' oy' bg' sp' ts' ls' h' => by
 rw [h, Option.some.injEq] at h';unfold EL at h';simp only [OO.dkv.injEq, List.cons.injEq, Prod.mk.injEq, PyData.list.injEq, true_and, and_true] at h';obtain ⟨_, _, _, _, e1, e2⟩ := h';rw [<- WA e1, <- WA e2];exact k
theorem LsW.imp {P Q : List Str -> List Str -> Prop} (h : LsW M q P) (k : ∀ ts ls, P ts ls -> Q ts ls) : LsW M q Q := fun f ox oy bg sp ts ls e => k ts ls (h f ox oy bg sp ts ls e)
theorem LsW.fr {P : List Str -> List Str -> Prop} (h : LsW M' q P) (k : Fr p M M') (hne : q ≠ p) : LsW M q P := fun f ox oy bg sp ts ls e => h f ox oy bg sp ts ls (k.own e hne)
theorem Wd.fr (h : Wd M q) (k : Fr p M M') (hne : q ≠ p) : Wd M' q := by
 obtain ⟨f, ox, oy, bg, sp, ts, ls, hq, hh⟩ := h;exact ⟨f, ox, oy, bg, sp, ts, ls, k.own hq hne, hh⟩
def Sh (x : Int) : Prop := -999999999999 <= x /\ x <= 999999999999
def Ug : DSp := fun xs M Φ => on2 xs fun x y => onO x fun p => onI y fun m => (1 <= m /\ m <= 8) /\ Pen M p /\ ∀ (ss : List Str) (M' : Mp), ss.length = m.toNat -> (∀ s ∈ ss, ZA s) -> ss.Nodup -> Fr p M M' -> Φ (.dat (.list (ss.map PyData.str))) M'
theorem LS (xs : List DV) (M : Mp) (Φ : DK) : Ug xs M Φ = (on2 xs fun x y => onO x fun p => onI y fun m => (1 <= m /\ m <= 8) /\ Pen M p /\ ∀ (ss : List Str) (M' : Mp), ss.length = m.toNat -> (∀ s ∈ ss, ZA s) -> ss.Nodup -> Fr p M M' -> Φ (.dat (.list (ss.map PyData.str))) M') := propext Iff.rfl
def Bd : DSp := fun xs M Φ => on2 xs fun x y => onO x fun p => onI y fun m => (1 <= m /\ m <= 6) /\ Pen M p /\ ∀ bs M', Grd bs -> Fr p M M' -> Φ (.dat (.list (bs.map bD))) M'
theorem L8 (xs : List DV) (M : Mp) (Φ : DK) : Bd xs M Φ = (on2 xs fun x y => onO x fun p => onI y fun m => (1 <= m /\ m <= 6) /\ Pen M p /\ ∀ bs M', Grd bs -> Fr p M M' -> Φ (.dat (.list (bs.map bD))) M') := propext Iff.rfl
def Yz : DSp := fun xs M Φ => on3 xs fun x y z => ZeK x fun bs => onI y fun f => onP z fun ox oy => Grd bs /\ Φ (.dat (.tuple ((bs.map (Bl f ox oy)).map bD))) M
theorem WH (xs : List DV) (M : Mp) (Φ : DK) : Yz xs M Φ = (on3 xs fun x y z => ZeK x fun bs => onI y fun f => onP z fun ox oy => Grd bs /\ Φ (.dat (.tuple ((bs.map (Bl f ox oy)).map bD))) M) := propext Iff.rfl
def Kb : DSp := fun xs M Φ => on1 xs fun x => onO x fun p => Pen M p /\ ∀ f ox oy M', Frm f ox oy -> Fr p M M' -> Φ (.dat (.tuple [.int f, .tuple [.int ox, .int oy]])) M'
theorem Ba (xs : List DV) (M : Mp) (Φ : DK) : Kb xs M Φ = (on1 xs fun x => onO x fun p => Pen M p /\ ∀ f ox oy M', Frm f ox oy -> Fr p M M' -> Φ (.dat (.tuple [.int f, .tuple [.int ox, .int oy]])) M') := propext Iff.rfl
def Ck : DSp := fun xs M Φ => on1 xs fun x => onO x fun p => Pen M p /\ ∀ q M', Wd M' q -> q ≠ p -> Fr p M M' -> Φ (.own q) M'
theorem Hs (xs : List DV) (M : Mp) (Φ : DK) : Ck xs M Φ = (on1 xs fun x => onO x fun p => Pen M p /\ ∀ q M', Wd M' q -> q ≠ p -> Fr p M M' -> Φ (.own q) M') := propext Iff.rfl
def LQ : DSp := fun xs M Φ => on2 xs fun x y => onO x fun p => onO y fun q => Wd M q /\ q ≠ p /\ Pen M p /\ ∀ u v M', Sh u -> Sh v -> Fr p M M' -> Φ (.dat (.tuple [.int u, .int v])) M'
theorem N7 (xs : List DV) (M : Mp) (Φ : DK) : LQ xs M Φ = (on2 xs fun x y => onO x fun p => onO y fun q => Wd M q /\ q ≠ p /\ Pen M p /\ ∀ u v M', Sh u -> Sh v -> Fr p M M' -> Φ (.dat (.tuple [.int u, .int v])) M') := propext Iff.rfl
noncomputable def Zbf (t : Int) (nm ou : Str) (bs : List B4) (wb : Int) : PyData := .tuple [.str (Str.ofString "land"), .int t, .str nm, .str ou, .tuple (bs.map bD), .int wb]
def Ho : DSp := fun xs M Φ => on3 xs fun x y z => onO x fun p => onO y fun q => onI z fun t => Wd M q /\ q ≠ p /\ Pen M p /\
 ∀ nm ou bs f ox oy wb M', ZA nm -> (ou = Str.ofString "" \/ ZA ou) -> LsW M q (fun _ ls => nm ∈ ls /\ (ou = Str.ofString "" \/ ou ∈ ls)) -> Grd bs -> Frm f ox oy -> (0 <= wb /\ wb <= 30000000000) -> Fr p M M' -> Φ (.dat (Zbf t nm ou (bs.map (Bl f ox oy)) wb)) M'
theorem MO (xs : List DV) (M : Mp) (Φ : DK) : Ho xs M Φ = (on3 xs fun x y z => onO x fun p => onO y fun q => onI z fun t => Wd M q /\ q ≠ p /\ Pen M p /\ ∀ nm ou bs f ox oy wb M', ZA nm -> (ou = Str.ofString "" \/ ZA ou) -> LsW M q (fun _ ls => nm ∈ ls /\ (ou = Str.ofString "" \/ ou ∈ ls)) -> Grd bs -> Frm f ox oy -> (0 <= wb /\ wb <= 30000000000) -> Fr p M M' -> Φ (.dat (Zbf t nm ou (bs.map (Bl f ox oy)) wb)) M') := propext Iff.rfl
theorem ZA.is {s : Str} (h : ZA s) : Qd (.str s) = true := by
 show ((decide (1 <= s.length) && decide (s.length <= 8)) && s.cps.toList.all ML) = true;rw [decide_eq_true h.1.1, decide_eq_true h.1.2];exact List.all_eq_true.mpr fun c hc => by unfold ML; rw [decide_eq_true (h.2 c hc).1, decide_eq_true (h.2 c hc).2]; rfl
def Zfp (s : Str) : Prop := ∃ c, s = ⟨#[c]⟩ /\ 97 <= c /\ c <= 122
theorem abc : (Str.ofString "abcdefghijklmnopqrstuvwxyz").cps.toList = (List.range 26).map fun k => 97 + k := by walk_at "k"
theorem LH : (Str.ofString "abcdefghijklmnopqrstuvwxyz").length = 26 := by walk_at "k"
theorem Pr {i : Int} (h0 : 0 <= i) (h1 : i < 26) : L2.atI (Str.ofString "abcdefghijklmnopqrstuvwxyz").cps.toList i = some (97 + i.toNat) := by
 obtain ⟨k, rfl⟩ := Int.eq_ofNat_of_zero_le h0;rw [abc];refine Vj ?_;rw [List.getElem?_map, List.getElem?_range (by omega)];rfl
theorem UN : ∀ {ss : List Str}, (∀ s ∈ ss, Zfp s) -> ((ss.map (·.cps.toList)).flatten).length = ss.length /\ ∀ c ∈ (ss.map (·.cps.toList)).flatten, 97 <= c /\ c <= 122
 | [], _ => ⟨rfl, fun c hc => (nomatch hc)⟩
 | s :: ss, h => by
  obtain ⟨c, rfl, hc⟩ := h s List.mem_cons_self;obtain ⟨i1, i2⟩ := UN fun t ht => h t (List.mem_cons_of_mem _ ht);rw [List.map_cons, List.flatten_cons, YL];refine ⟨by rw [List.length_append, i1, List.length_cons]; simp; omega, fun d hd => ?_⟩
  rcases List.mem_append.mp hd with hd | hd
  ·rw [List.mem_singleton.mp hd];exact hc
  ·exact i2 d hd
theorem LF (h8 : ss.length = 8) (h : ∀ s ∈ ss, Zfp s) : (Txt.join (Str.ofString "") ss).length = 8 /\ ∀ c ∈ (Txt.join (Str.ofString "") ss).cps.toList, 97 <= c /\ c <= 122 := by
 obtain ⟨i1, i2⟩ := UN h;rw [<- str_len, DL.join_list];exact ⟨by omega, i2⟩
theorem tabS {l : List Str} {r : Int} (P : Str -> Prop) (h0 : 0 <= r) (h1 : r < l.length) (hl : ∀ s ∈ l, P s) {Q : PyData -> Prop} (k : ∀ s, P s -> Q (.str s)) : KR (l.map PyData.str) r Q := by
 obtain ⟨n, rfl⟩ := Int.eq_ofNat_of_zero_le h0;have hn : n < l.length := by omega
 refine VD (d := .str l[n]) (Vj (by rw [List.getElem?_map, List.getElem?_eq_getElem hn]; rfl)) (k _ (hl _ (List.getElem_mem hn)))
theorem Ll : ∀ s ∈ (["land", "drop", "free", "spot", "comes", "goes", "in", "out", "stays", "wait", "none", "a", "z"] : List Str), ZA s := by
 unfold ZA
 decide +kernel
def Nmz (f : Str -> Int) (g : Nat -> Int) (i : Nat) (acc : List PyData) : Prop := ∃ ss : List Str, acc = ss.map PyData.str /\ ss.length = i /\ (∀ s ∈ ss, ZA s) /\ ∀ (j : Nat) (s : Str), ss[j]? = some s -> f s = g j
theorem Nmz.nil {f : Str -> Int} {g : Nat -> Int} : Nmz f g 0 [] := ⟨[], rfl, rfl, fun s hs => (nomatch hs), fun j s hj => by simp at hj⟩
theorem Nmz.snoc {f : Str -> Int} {g : Nat -> Int} {acc : List PyData} {s : Str} (h : Nmz f g i acc) (hs : ZA s) (e : f s = g i) : Nmz f g (i + 1) (acc ++ [.str s]) := by
 obtain ⟨ss, rfl, hl, ha, hg⟩ := h;refine ⟨ss ++ [s], by rw [List.map_append]; rfl, by rw [List.length_append, hl]; rfl, fun t ht => ?_, fun j t hj => ?_⟩
 ·rcases List.mem_append.mp ht with ht | ht
  ·exact ha t ht
  ·rw [List.mem_singleton.mp ht];exact hs
 ·by_cases hij : j < i
  ·rw [List.getElem?_append_left (by omega)] at hj;exact hg j t hj
  ·rw [List.getElem?_append_right (by omega), hl] at hj;obtain ⟨q, z⟩ := List.getElem?_eq_some_iff.mp hj;have hj0 : j = i := by
    rw [List.length_singleton] at q;omega
   subst hj0;simp at z;rw [<- z];exact e
theorem Np {ss : List Str} {α : Type} (f : Str -> α) (g : Nat -> α) (h : ∀ (j : Nat) (s : Str), ss[j]? = some s -> f s = g j) (hg : ∀ i j, i < ss.length -> j < ss.length -> i ≠ j -> g i ≠ g j) : ss.Nodup := by
 rw [List.nodup_iff_pairwise_ne, List.pairwise_iff_getElem];intro i j hi hj hij e;have a := h i _ (List.getElem?_eq_getElem hi);have b := h j _ (List.getElem?_eq_getElem hj);rw [e] at a;exact hg i j hi hj (by omega) (a.symm.trans b)
noncomputable def Df : List Str := ["land", "drop", "free", "spot", "comes", "goes", "in", "out", "stays", "wait", "none", "a", "z"]
theorem NG : ∀ k : Fin 13, Df.idxOf (Df[k.val]'(by have := k.isLt; exact this)) = k.val := by walk_at "k"
theorem Zi2 {l : List Str} {r : Int} (h0 : 0 <= r) (h1 : r < l.length) {Q : PyData -> Prop} (k : ∀ h, Q (.str (l[r.toNat]'h))) : KR (l.map PyData.str) r Q := by
 obtain ⟨n, rfl⟩ := Int.eq_ofNat_of_zero_le h0;have hn : n < l.length := by omega
 exact VD (d := .str l[n]) (Vj (by rw [List.getElem?_map, List.getElem?_eq_getElem hn]; rfl)) (k hn)
theorem Fr.fresh (h : Fr p M M') (hq : M' q = none) : M q = none := by
 cases e : M q with
 | none => rfl
 | some o =>
  have hn : q ≠ p := Ne.symm (h.1.ne hq);rw [h.own e hn] at hq;cases hq
theorem Fr.gone (h : Fr p M M') (hq : M q = none) (hne : q ≠ p) : Fr p M (DL.Yy M' q) := ⟨h.1.del (Ne.symm hne), fun a ha hn => by
 rw [JE (fun e => hn (by rw [e]; exact hq))]
 exact h.2 a ha hn⟩
theorem C5 : ∀ (l : List B4) (b c : B4), chB (l ++ [b, c]) = (chB (l ++ [b]) && decide (QK b c <= 1))
 | [], b, c => by
  show (decide (QK b c <= 1) && true) = (true && decide (QK b c <= 1))
  rw [Bool.and_true, Bool.true_and]
 | [a], b, c => by
  show (decide (QK a b <= 1) && (decide (QK b c <= 1) && true)) = ((decide (QK a b <= 1) && true) && decide (QK b c <= 1))
  rw [Bool.and_true, Bool.and_true]
 | a :: a' :: l, b, c => by
  have ih := C5 (a' :: l) b c;show (decide (QK a a' <= 1) && chB (a' :: l ++ [b, c])) = ((decide (QK a a' <= 1) && chB (a' :: l ++ [b])) && decide (QK b c <= 1))
  rw [ih, Bool.and_assoc]
theorem SX {a b a' b' : Int} (h1 : a' - b <= 1) (h2 : a - b' <= 1) : gp a b a' b' <= 1 := by
 unfold gp;omega
theorem Mq {a b : B4} (h1 : b.x - a.X <= 1) (h2 : a.x - b.X <= 1) (h3 : b.y - a.Y <= 1) (h4 : a.y - b.Y <= 1) : QK a b <= 1 := Int.max_le.mpr ⟨SX h1 h2, SX h3 h4⟩
theorem D5 (k : Key) (d : PyData) (ps : List (Key × PyData)) : QU ((k, d) :: ps) k = some d := by
 unfold QU;rw [List.find?_cons_of_pos (by simp)];rfl
theorem Yp {k k' : Key} (d : PyData) (ps : List (Key × PyData)) (h : k' ≠ k) : QU ((k', d) :: ps) k = QU ps k := by
 unfold QU;rw [List.find?_cons_of_neg (by simpa using h)]
theorem Xk {ps : List (Key × PyData)} {k : Key} (e : QU ps k = some d) (Q : PyData -> Prop) : (XM (some (.dkv ps)) fun ps => ∃ d, QU ps k = some d /\ Q d) = Q d := propext ⟨fun ⟨d', e', h⟩ => by
 rw [e, Option.some.injEq] at e';rw [e']
 exact h, fun h => ⟨d, e, h⟩⟩
theorem Zh7 (f ox oy bg sp : Int) (ts ls : List Str) (Q : PyData -> Prop) : (XM (some (EL f ox oy bg sp ts ls)) fun ps => ∃ d, QU ps (.inr (Str.ofString "by")) = some d /\ Q d) = Q (.int f) := Xk (D5 _ _ _) Q
theorem Zat (f ox oy bg sp : Int) (ts ls : List Str) (Q : PyData -> Prop) : (XM (some (EL f ox oy bg sp ts ls)) fun ps => ∃ d, QU ps (.inr (Str.ofString "off")) = some d /\ Q d) = Q (.tuple [.int ox, .int oy]) := Xk ((Yp _ _ (by walk_at "k")).trans (D5 _ _ _)) Q
theorem Lx (f ox oy bg sp : Int) (ts ls : List Str) (Q : PyData -> Prop) : (XM (some (EL f ox oy bg sp ts ls)) fun ps => ∃ d, QU ps (.inr (Str.ofString "begin")) = some d /\ Q d) = Q (.int bg) := Xk ((Yp _ _ (by walk_at "k")).trans ((Yp _ _ (by walk_at "k")).trans (D5 _ _ _))) Q
theorem ZdN (f ox oy bg sp : Int) (ts ls : List Str) (Q : PyData -> Prop) : (XM (some (EL f ox oy bg sp ts ls)) fun ps => ∃ d, QU ps (.inr (Str.ofString "span")) = some d /\ Q d) = Q (.int sp) := Xk ((Yp _ _ (by walk_at "k")).trans ((Yp _ _ (by walk_at "k")).trans ((Yp _ _ (by walk_at "k")).trans (D5 _ _ _)))) Q
theorem MN (f ox oy bg sp : Int) (ts ls : List Str) (Q : PyData -> Prop) : (XM (some (EL f ox oy bg sp ts ls)) fun ps => ∃ d, QU ps (.inr (Str.ofString "things")) = some d /\ Q d) = Q (.list (ts.map PyData.str)) := Xk ((Yp _ _ (by walk_at "k")).trans ((Yp _ _ (by walk_at "k")).trans ((Yp _ _ (by walk_at "k")).trans ((Yp _ _ (by walk_at "k")).trans (D5 _ _ _))))) Q
theorem Hd (f ox oy bg sp : Int) (ts ls : List Str) (Q : PyData -> Prop) : (XM (some (EL f ox oy bg sp ts ls)) fun ps => ∃ d, QU ps (.inr (Str.ofString "lands")) = some d /\ Q d) = Q (.list (ls.map PyData.str)) := Xk ((Yp _ _ (by walk_at "k")).trans ((Yp _ _ (by walk_at "k")).trans ((Yp _ _ (by walk_at "k")).trans ((Yp _ _ (by walk_at "k")).trans ((Yp _ _ (by walk_at "k")).trans (D5 _ _ _)))))) Q
theorem BP {a f lo hi : Int} (h1 : lo <= a) (h2 : a <= hi) (hf : 1 <= f) : lo * f <= a * f /\ a * f <= hi * f := ⟨Int.mul_le_mul_of_nonneg_right h1 (by omega), Int.mul_le_mul_of_nonneg_right h2 (by omega)⟩
theorem Pu (n : Nat) (ls : List Str) : (List.replicate n [PyData.str (Str.ofString "")]).flatten ++ ls.map PyData.str = (List.replicate n (Str.ofString "") ++ ls).map PyData.str := by
 rw [List.map_append, List.map_replicate]
 congr 1
 induction n with
 | zero => rfl
 | succ n ih => rw [List.replicate_succ, List.flatten_cons, ih]; rfl
theorem ZbB {x f r2 : Int} (h0 : 0 <= x) (h3 : x <= 3) (hf : 1 <= f /\ f <= 10000000000) (hr : r2 = 1 \/ r2 = 2) : 0 <= x * f / r2 /\ x * f / r2 <= 30000000000 := by
 have e := BP h0 h3 hf.1
 rcases hr with rfl | rfl <;> omega
structure Pl (k n : Nat) (d : PyData) : Prop where
 s : d.showable = true
 nd : d.hasDict = false
 nl : Z3 d = false
 dp : d.depth <= k
 z : cost d <= n
structure Pls (k n : Nat) (l : List PyData) : Prop where
 s : PyData.showableAll l = true
 nd : PyData.hasDictAll l = false
 nl : ZI l = false
 dp : PyData.depthAll l <= k
 z : Qt l <= n
structure Od (k n : Nat) (d : PyData) : Prop where
 s : d.showable = true
 m : (d.hasDict && Z3 d) = false
 dp : d.depth <= k
 z : cost d <= n
theorem Pl.od {k : Nat} (h : Pl k n d) : Od k n d := ⟨h.s, by rw [h.nd]; rfl, h.dp, h.z⟩
theorem Od.le {k k' n' : Nat} (h : Od k n d) (hk : k <= k') (hn : n <= n') : Od k' n' d := ⟨h.s, h.m, Nat.le_trans h.dp hk, Nat.le_trans h.z hn⟩
theorem Pl.le {k k' n' : Nat} (h : Pl k n d) (hk : k <= k') (hn : n <= n') : Pl k' n' d := ⟨h.s, h.nd, h.nl, Nat.le_trans h.dp hk, Nat.le_trans h.z hn⟩
theorem Od.shw {k : Nat} (h : Od k n d) (hk : k <= 64) (hn : n <= 1000000) : Shw d := Shw.of h.s h.m (Nat.le_trans h.dp hk) (Nat.le_trans h.z hn)
theorem Pls.nil : Pls 0 0 [] := ⟨by simp [PyData.showableAll], by simp [PyData.hasDictAll], by simp [ZI], by simp [PyData.depthAll], by simp [Qt]⟩
theorem Pls.cons {k k' m : Nat} (h : Pl k n d) (t : Pls k' m l) : Pls (max k k') (n + 2 + m) (d :: l) :=
 ⟨by simp only [PyData.showableAll, h.s, t.s, Bool.and_self], by simp only [PyData.hasDictAll, h.nd, t.nd, Bool.or_self], by simp only [ZI, h.nl, t.nl, Bool.or_self],
  by simp only [PyData.depthAll]; have := h.dp; have := t.dp; omega, by simp only [Qt]; have := h.z; have := t.z; omega⟩
theorem Pls.le {k k' n' : Nat} (h : Pls k n l) (hk : k <= k') (hn : n <= n') : Pls k' n' l := ⟨h.s, h.nd, h.nl, Nat.le_trans h.dp hk, Nat.le_trans h.z hn⟩
theorem Pls.all {k m : Nat} : ∀ {l : List PyData}, l.length <= m -> (∀ d ∈ l, Pl k n d) -> Pls k ((n + 2) * m) l
 | [], _, _ => Pls.nil.le (Nat.zero_le _) (Nat.zero_le _)
 | d :: l, hm, h => by
  obtain ⟨m, rfl⟩ : ∃ m', m = m' + 1 := ⟨m - 1, by rw [List.length_cons] at hm; omega⟩
  refine (Pls.cons (h d List.mem_cons_self) (Pls.all (m := m) (by rw [List.length_cons] at hm; omega) fun e he => h e (List.mem_cons_of_mem _ he))).le (by omega) ?_;rw [Nat.mul_succ];omega
theorem Pl.tup {k : Nat} (h : Pls k n l) : Pl (k + 1) (n + 3) (.tuple l) :=
 ⟨by simp only [PyData.showable.eq_6, h.s], by simp only [PyData.hasDict, h.nd], by simp only [Z3, h.nl], by simp only [PyData.depth]; have := h.dp; omega, by simp only [cost]; have := h.z; omega⟩
theorem Od.lst {k : Nat} (h : Pls k n l) : Od (k + 1) (n + 2) (.list l) :=
 ⟨by simp only [PyData.showable, h.s], by simp only [PyData.hasDict, h.nd]; rfl, by simp only [PyData.depth]; have := h.dp; omega, by simp only [cost]; have := h.z; omega⟩
theorem Od.dct : Od 1 2 (.dict []) := ⟨by simp [PyData.showable, PyData.showableKv], by simp [Z3, Q6], by simp [PyData.depth, PyData.depthKv], by simp [cost, YM]⟩
theorem Od.tup {k a b : Nat} {e : PyData} : ∀ {l l' : List PyData}, Pls k a l -> Od k n e -> Pls k b l' -> PyData.showableAll (l ++ e :: l') = true /\ PyData.hasDictAll (l ++ e :: l') = e.hasDict /\ ZI (l ++ e :: l') = Z3 e /\ PyData.depthAll (l ++ e :: l') <= k /\ Qt (l ++ e :: l') <= a + (n + 2 + b)
 | [], l', g, h, g' => by
  have := g'.dp;have := h.dp;have := g'.z;have := h.z;refine ⟨?_, ?_, ?_, ?_, ?_⟩
  ·simp only [List.nil_append, PyData.showableAll, h.s, g'.s, Bool.and_self]
  ·simp only [List.nil_append, PyData.hasDictAll, g'.nd, Bool.or_false]
  ·simp only [List.nil_append, ZI, g'.nl, Bool.or_false]
  ·simp only [List.nil_append, PyData.depthAll]; omega
  ·simp only [List.nil_append, Qt]; omega
 | d :: l, l', g, h, g' => by
  have gs := g.s;have gd := g.nd;have gl := g.nl;have gp := g.dp;have gz := g.z;simp only [PyData.showableAll, Bool.and_eq_true] at gs;simp only [PyData.hasDictAll, Bool.or_eq_false_iff] at gd;simp only [ZI, Bool.or_eq_false_iff] at gl;simp only [PyData.depthAll] at gp;simp only [Qt] at gz;obtain ⟨t1, t2, t3, t4, t5⟩ := Od.tup (l := l) (a := a - (cost d + 2)) ⟨gs.2, gd.2, gl.2, by omega, by omega⟩ h g';refine ⟨?_, ?_, ?_, ?_, ?_⟩
  ·simp only [List.cons_append, PyData.showableAll, gs.1, t1, Bool.and_self]
  ·simp only [List.cons_append, PyData.hasDictAll, gd.1, t2, Bool.false_or]
  ·simp only [List.cons_append, ZI, gl.1, t3, Bool.false_or]
  ·simp only [List.cons_append, PyData.depthAll]; omega
  ·simp only [List.cons_append, Qt]; omega
theorem Od.put {k a b : Nat} {e : PyData} {l' : List PyData} (g : Pls k a l) (h : Od k n e) (g' : Pls k b l') : Od (k + 1) (a + (n + 2 + b) + 3) (.tuple (l ++ e :: l')) := by
 obtain ⟨t1, t2, t3, t4, t5⟩ := Od.tup g h g';exact ⟨by simp only [PyData.showable.eq_6, t1], by simp only [PyData.hasDict, Z3, t2, t3, h.m], by simp only [PyData.depth]; omega, by simp only [cost]; omega⟩
theorem ZcY {i : Int} (h : -(10 ^ 60) <= i /\ i <= 10 ^ 60) : Pl 0 1921 (.int i) := ⟨Mid.show ⟨by omega, by omega⟩, by simp [PyData.hasDict], by simp [Z3], by simp [PyData.depth], by simp [cost]⟩
theorem Zhi {s : Str} (h : ∀ c ∈ s.cps.toList, c < 16 ^ 8) (hn : s.length <= n) : Pl 0 (10 * n + 2) (.str s) := ⟨by simp [PyData.showable], by simp [PyData.hasDict], by simp [Z3], by simp [PyData.depth], by
 simp only [cost];have := StrLaws.reprText_len s h
 omega⟩
theorem Nq (t : String) : ∀ c ∈ (Str.ofString t).cps.toList, c < 16 ^ 8 := by
 intro c hc;rw [PySem.Str.ofString_eq_toList] at hc;simp at hc;obtain ⟨a, _, rfl⟩ := hc;have h := a.valid;show a.val.toNat < 16 ^ 8;unfold UInt32.isValidChar Nat.isValidChar at h;omega
theorem Zek (t : String) (hn : (Str.ofString t).length <= n) : Pl 0 (10 * n + 2) (.str (Str.ofString t)) := Zhi (Nq t) hn
theorem pNm {s : Str} (h : ZA s) : Pl 0 82 (.str s) := Zhi (n := 8) (fun c hc => by have := h.2 c hc; omega) h.1.2
theorem pSp {x y : Int} (hx : Sh x) (hy : Sh y) : Pl 1 3849 (.tuple [.int x, .int y]) :=
 (Pl.tup (Pls.cons (ZcY (by unfold Sh at hx; omega)) (Pls.cons (ZcY (by unfold Sh at hy; omega)) Pls.nil))).le (by decide) (by decide)
theorem fn {Q : PyData -> Prop} : ∀ d ∈ ([] : List PyData), Q d := fun _ h => (nomatch h)
structure Thg (d : PyData) : Prop where
 t : KN d = true
 o : Od 20 90000 d
theorem Od.th {k : Nat} (h : Od k n d) (t : KN d = true) (hk : autoParam (k <= 20) zz1._auto_1) (hn : autoParam (n <= 90000) zz1._auto_1) : Thg d := ⟨t, h.le hk hn⟩
theorem Pl.th {k : Nat} (h : Pl k n d) (t : KN d = true) (hk : autoParam (k <= 20) zz1._auto_1) (hn : autoParam (n <= 90000) zz1._auto_1) : Thg d := h.od.th t hk hn
def Zcx (bs : List B4) : Prop := (1 <= bs.length /\ bs.length <= 6) /\ chB bs = true /\ ∀ b ∈ bs, okB b = true /\ (Sh b.x /\ Sh b.y) /\ (Sh b.X /\ Sh b.Y)
def Zda (w : Str) (l : List PyData) : Prop := w = Str.ofString "land" /\ ∃ (ou : Str) (bs : List B4) (wb : Int), l = [.str ou, .tuple (bs.map bD), .int wb] /\ (ou = Str.ofString "" \/ ZA ou) /\ Zcx bs /\ (0 <= wb /\ wb <= 30000000000)
def ZbO (w : Str) (l : List PyData) : Prop := w = Str.ofString "spot" /\ ∃ u v : Int, l = [.tuple [.int u, .int v]] /\ Sh u /\ Sh v
def ZcS (w : Str) (l : List PyData) : Prop := (w = Str.ofString "drop" \/ w = Str.ofString "free") /\ l = []
def Tel (ds : List PyData) : Prop := ∃ (w : Str) (t : Int) (nm : Str) (l : List PyData), ds = .str w :: .int t :: .str nm :: l /\ (0 <= t /\ t <= 1000000000000) /\ ZA nm /\ (Zda w l \/ ZbO w l \/ ZcS w l)
def Gw (M M' : Mp) : Prop := ∀ a, M a ≠ none -> M' a = M a
theorem Gw.refl : Gw M M := fun _ _ => rfl
theorem Gw.trans {M1 M2 : Mp} (h : Gw M M1) (k : Gw M1 M2) : Gw M M2 := fun a ha => by
 rw [k a (by rw [h a ha]; exact ha), h a ha]
theorem Gw.new (h : Gw M M') (hq : M' q = none) : Gw M (ZM M' q o) := fun a ha => by
 have e := h a ha;rw [Z5 (fun z => ha (by rw [<- e, z]; exact hq)), e]
theorem Gw.pen (h : Gw M M') (hp : Pen M p) : Pen M' p := by
 obtain ⟨o, h1, h2⟩ := hp;exact ⟨o, h1, by rw [h p (by rw [h2]; exact Option.some_ne_none _)]; exact h2⟩
theorem Gw.wd (h : Gw M M') (hw : Wd M q) : Wd M' q := by
 obtain ⟨f, ox, oy, bg, sp, ts, ls, hq, hh⟩ := hw;exact ⟨f, ox, oy, bg, sp, ts, ls, by rw [h q (by rw [hq]; exact Option.some_ne_none _)]; exact hq, hh⟩
def Knd (w : Str) (l : List PyData) : Prop := Zda w l \/ ZbO w l \/ ZcS w l
theorem Sg {s : Str} (h : ZA s) : KN (.str s) = true := decide_eq_true (by have := h.1; omega)
theorem FG {bs : List B4} (hs : Zcx bs) : Pl 3 46245 (.tuple (bs.map bD)) := by
 refine (Pl.tup (Pls.all (k := 2) (n := 7705) (m := 6) (by rw [List.length_map]; exact hs.1.2) fun d hd => ?_)).le (by decide) (by decide);obtain ⟨c, hc, rfl⟩ := List.mem_map.mp hd;have hc := hs.2.2 c hc;exact (Pl.tup (Pls.cons (pSp hc.2.1.1 hc.2.1.2) (Pls.cons (pSp hc.2.2.1 hc.2.2.2) Pls.nil))).le (by decide) (by decide)
theorem Cm {w : Str} (h : Knd w l) : Pls 19 60000 l /\ l.all KN = true /\ l.length <= 3 /\ Pl 0 102 (.str w) /\ KN (.str w) = true := by
 rcases h with ⟨rfl, ou, bs, wb, rfl, ho, hs, hw⟩ | ⟨rfl, u, v, rfl, hu, hv⟩ | ⟨hw, rfl⟩
 ·have po : Pl 0 102 (.str ou) /\ KN (.str ou) = true := by
   rcases ho with rfl | ho
   ·exact ⟨Zek "" (n := 10) (by walk_at "k"), by walk_at "k"⟩
   ·exact ⟨(pNm ho).le (by decide) (by decide), Sg ho⟩
  refine ⟨(Pls.cons po.1 (Pls.cons (FG hs) (Pls.cons (ZcY (by omega)) Pls.nil))).le (by decide) (by decide), ?_, by simp, Zek "land" (n := 10) (by walk_at "k"), by walk_at "k"⟩;show (KN (.str ou) && _) = true;rw [po.2];rfl
 ·exact ⟨(Pls.cons (pSp hu hv) Pls.nil).le (by decide) (by decide), rfl, by simp, Zek "spot" (n := 10) (by walk_at "k"), by walk_at "k"⟩
 ·refine ⟨Pls.nil.le (by decide) (by decide), rfl, by simp, ?_⟩
  rcases hw with rfl | rfl
  ·exact ⟨Zek "drop" (n := 10) (by walk_at "k"), by walk_at "k"⟩
  ·exact ⟨Zek "free" (n := 10) (by walk_at "k"), by walk_at "k"⟩
theorem Zew : isS (.str (Str.ofString "land")) (Str.ofString "land") = true := by walk_at "k"
theorem ZeF : isS (.str (Str.ofString "spot")) (Str.ofString "land") = false := by walk_at "k"
theorem Ziz : isS (.str (Str.ofString "spot")) (Str.ofString "spot") = true := by walk_at "k"
theorem Zd2 : isS (.str (Str.ofString "drop")) (Str.ofString "land") = false /\ isS (.str (Str.ofString "drop")) (Str.ofString "spot") = false := by walk_at "k"
theorem Zeg : isS (.str (Str.ofString "free")) (Str.ofString "land") = false /\ isS (.str (Str.ofString "free")) (Str.ofString "spot") = false := by walk_at "k"
theorem Za4 (l : List PyData) : Yj (.str (Str.ofString "land")) l = T2 l := by unfold Yj; rw [if_pos Zew]
theorem Zc9 (l : List PyData) : Yj (.str (Str.ofString "spot")) l = RO l := by unfold Yj; rw [ZeF, if_neg (by decide), if_pos Ziz]
theorem Ex {x : Int} (h : Sh x) : ZH (.int x) = true := by
 show (decide (-999999999999 <= x) && decide (x <= 999999999999)) = true;rw [decide_eq_true h.1, decide_eq_true h.2];rfl
theorem O4 {bs : List B4} (h : Zcx bs) : Jn (.tuple (bs.map bD)) = true := by
 show ((decide (1 <= (bs.map bD).length) && decide ((bs.map bD).length <= 6)) && ((bs.map bD).all Vw && chB ((bs.map bD).map toB))) = true;rw [Kn, h.2.1, List.length_map, decide_eq_true h.1.1, decide_eq_true h.1.2, List.all_eq_true.mpr fun d hd => ?_]
 ·rfl
 ·obtain ⟨b, hb, rfl⟩ := List.mem_map.mp hd;obtain ⟨h1, ⟨h2, h3⟩, h4, h5⟩ := h.2.2 b hb;show ((ZH (.int b.x) && ZH (.int b.y)) && ((ZH (.int b.X) && ZH (.int b.Y)) && okB b)) = true;rw [Ex h2, Ex h3, Ex h4, Ex h5, h1];rfl
theorem Zci {w : Str} (h : Knd w l) : Yj (.str w) l = true := by
 rcases h with ⟨rfl, ou, bs, wb, rfl, ho, hs, hw⟩ | ⟨rfl, u, v, rfl, hu, hv⟩ | ⟨hw, rfl⟩
 ·rw [Za4];show ((isS (.str ou) (Str.ofString "") || Qd (.str ou)) && (Jn (.tuple (bs.map bD)) && (decide (0 <= wb) && decide (wb <= 999999999999)))) = true;rw [O4 hs, decide_eq_true hw.1, decide_eq_true (show wb <= 999999999999 by omega)]
  rcases ho with rfl | ho
  ·decide +kernel
  ·rw [ho.is, Bool.or_true];rfl
 ·rw [Zc9];show (ZH (.int u) && ZH (.int v)) = true;rw [Ex hu, Ex hv];rfl
 ·rcases hw with rfl | rfl <;> decide +kernel
theorem ZaN {D : List PyData} (h : Tel D) : QB (.tuple D) = true /\ Zfb (.tuple D) = true := by
 obtain ⟨w, t, nm, l, rfl, ht, hn, hk⟩ := h;obtain ⟨_, lt, _, _, wt⟩ := Cm hk;constructor
 ·show ((decide (0 <= t) && decide (t <= 1000000000000)) && (Qd (.str nm) && Yj (.str w) l)) = true;rw [decide_eq_true ht.1, decide_eq_true ht.2, hn.is, Zci hk];rfl
 ·show (KN (.str w) && (true && (KN (.str nm) && l.all KN))) = true;rw [wt, Sg hn, lt];rfl
theorem PL {a b a' b' f o : Int} (hf : 1 <= f) (h : gp a b a' b' <= 1) : gp (a * f + o) (b * f + f - 1 + o) (a' * f + o) (b' * f + f - 1 + o) <= 1 := by
 have h1 : a' - b <= 1 := by unfold gp at h; omega
 have h2 : a - b' <= 1 := by unfold gp at h; omega
 have e1 : a' * f <= (b + 1) * f := Int.mul_le_mul_of_nonneg_right (by omega) (by omega);have e2 : a * f <= (b' + 1) * f := Int.mul_le_mul_of_nonneg_right (by omega) (by omega);rw [Int.add_mul, Int.one_mul] at e1 e2;exact SX (by omega) (by omega)
theorem PY {f ox oy : Int} (hf : 1 <= f) : ∀ bs : List B4, chB bs = true -> chB (bs.map (Bl f ox oy)) = true
 | [], _ => rfl
 | [_], _ => rfl
 | a :: b :: l, h => by
  have h' : decide (QK a b <= 1) = true /\ chB (b :: l) = true := Bool.and_eq_true_iff.mp h;show (decide (QK (Bl f ox oy a) (Bl f ox oy b) <= 1) && chB ((b :: l).map (Bl f ox oy))) = true;rw [PY hf (b :: l) h'.2];have k := Int.max_le.mp (of_decide_eq_true h'.1);rw [decide_eq_true (show QK (Bl f ox oy a) (Bl f ox oy b) <= 1 from Int.max_le.mpr ⟨PL hf k.1, PL hf k.2⟩)];rfl
theorem Su {bs : List B4} {f ox oy : Int} (h : Grd bs) (hf : Frm f ox oy) : Zcx (bs.map (Bl f ox oy)) := by
 obtain ⟨⟨f1, f2⟩, hx, hy⟩ := hf;refine ⟨by rw [List.length_map]; exact h.1, PY f1 bs h.2.1, fun c hc => ?_⟩;obtain ⟨b, hb, rfl⟩ := List.mem_map.mp hc;obtain ⟨⟨g1, g2⟩, ⟨g3, g4⟩, g5, g6⟩ := h.2.2 b hb;have a1 := BP (a := b.x) (lo := -20) (hi := 35) (by omega) (by omega) f1;have a2 := BP (a := b.y) (lo := -20) (hi := 35) (by omega) (by omega) f1;have a3 := BP (a := b.X) (lo := -20) (hi := 35) (by omega) (by omega) f1;have a4 := BP (a := b.Y) (lo := -20) (hi := 35) (by omega) (by omega) f1;have c1 : b.x * f <= b.X * f := Int.mul_le_mul_of_nonneg_right g1 (by omega);have c2 : b.y * f <= b.Y * f := Int.mul_le_mul_of_nonneg_right g2 (by omega);unfold Bl okB Sh;dsimp only;refine ⟨?_, ⟨⟨by omega, by omega⟩, by omega, by omega⟩, ⟨by omega, by omega⟩, by omega, by omega⟩;rw [decide_eq_true (show b.x * f + ox <= b.X * f + f - 1 + ox by omega), decide_eq_true (show b.y * f + oy <= b.Y * f + f - 1 + oy by omega)];rfl
theorem Wd.put {g : Addr} (h : Wd M q) (hq : q ≠ g) : Wd (DL.ZM M g o) q := by
 obtain ⟨f, ox, oy, bg, sp, ts, ls, h1, hh⟩ := h;exact ⟨f, ox, oy, bg, sp, ts, ls, by rw [Z5 hq]; exact h1, hh⟩
theorem Wd.del {g : Addr} (h : Wd M q) (hq : q ≠ g) : Wd (DL.Yy M g) q := by
 obtain ⟨f, ox, oy, bg, sp, ts, ls, h1, hh⟩ := h;exact ⟨f, ox, oy, bg, sp, ts, ls, by rw [JE hq]; exact h1, hh⟩
inductive Tl where
 | land (t : Int) (nm ou : Str) (bs : List B4) (wb : Int)
 | spot (t : Int) (nm : Str) (u v : Int)
 | off (w : Str) (t : Int) (nm : Str)
noncomputable def tlD : Tl -> PyData
 | .land t nm ou bs wb => .tuple [.str (Str.ofString "land"), .int t, .str nm, .str ou, .tuple (bs.map bD), .int wb]
 | .spot t nm u v => .tuple [.str (Str.ofString "spot"), .int t, .str nm, .tuple [.int u, .int v]]
 | .off w t nm => .tuple [.str w, .int t, .str nm]
def ZfG (t : Int) (nm : Str) : Prop := (0 <= t /\ t <= 1000000000000) /\ ZA nm
def KZ : Tl -> Prop
 | .land t nm ou bs wb => ZfG t nm /\ (ou = Str.ofString "" \/ ZA ou) /\ Zcx bs /\ (0 <= wb /\ wb <= 30000000000)
 | .spot t nm u v => ZfG t nm /\ Sh u /\ Sh v
 | .off w t nm => ZfG t nm /\ (w = Str.ofString "drop" \/ w = Str.ofString "free")
theorem P9 {x : Tl} (h : KZ x) : ∃ D, tlD x = .tuple D /\ Tel D := by
 cases x with
 | land t nm ou bs wb => exact ⟨_, rfl, _, t, nm, _, rfl, h.1.1, h.1.2, .inl ⟨rfl, ou, bs, wb, rfl, h.2⟩⟩
 | spot t nm u v => exact ⟨_, rfl, _, t, nm, _, rfl, h.1.1, h.1.2, .inr (.inl ⟨rfl, u, v, rfl, h.2⟩)⟩
 | off w t nm => exact ⟨_, rfl, w, t, nm, [], rfl, h.1.1, h.1.2, .inr (.inr ⟨h.2, rfl⟩)⟩
noncomputable def KL : Tl -> List Str
 | .land _ _ _ _ _ => []
 | .spot _ nm _ _ => [nm]
 | .off w _ nm => if w = Str.ofString "free" then [nm] else []
noncomputable def XF : Tl -> List Str
 | .land _ nm _ _ _ => [nm]
 | .spot _ _ _ _ => []
 | .off w _ nm => if w = Str.ofString "free" then [] else [nm]
noncomputable def Yh : Tl -> List Str
 | .land _ _ ou _ _ => if ou = Str.ofString "" then [] else [ou]
 | .spot _ _ _ _ => []
 | .off _ _ _ => []
def InW (tn ln : List Str) (x : Tl) : Prop := (∀ s ∈ KL x, s ∈ tn) /\ ∀ s ∈ XF x ++ Yh x, s ∈ ln
def Kz : DSp := fun xs M Φ => on2 xs fun x y => onO x fun p => onO y fun q => Wd M q /\ q ≠ p /\ Pen M p /\ ∀ x M', KZ x -> LsW M q (fun tn ln => InW tn ln x) -> Fr p M M' -> Φ (.dat (tlD x)) M'
theorem Bc (xs : List DV) (M : Mp) (Φ : DK) : Kz xs M Φ = (on2 xs fun x y => onO x fun p => onO y fun q => Wd M q /\ q ≠ p /\ Pen M p /\ ∀ x M', KZ x -> LsW M q (fun tn ln => InW tn ln x) -> Fr p M M' -> Φ (.dat (tlD x)) M') := propext Iff.rfl
theorem Za2 : Str.ofString "drop" ≠ Str.ofString "free" := by walk_at "k"
theorem RD {tn ls : List Str} {t : Int} {nm ou : Str} {bs : List B4} {wb : Int} (h : nm ∈ ls /\ (ou = Str.ofString "" \/ ou ∈ ls)) : InW tn ls (.land t nm ou bs wb) := by
 refine ⟨fun s hs => (nomatch hs), fun s hs => ?_⟩
 rcases List.mem_append.mp hs with hs | hs
 ·rw [List.mem_singleton.mp hs];exact h.1
 ·simp only [Yh] at hs
  split at hs
  ·cases hs
  ·rename_i ne;rw [List.mem_singleton.mp hs];exact h.2.resolve_left ne
theorem R1 {tn ls : List Str} {t : Int} {nm : Str} (h : nm ∈ ls) : InW tn ls (.off (Str.ofString "drop") t nm) := by
 refine ⟨fun s hs => ?_, fun s hs => ?_⟩
 ·simp only [KL, if_neg Za2] at hs;cases hs
 ·simp only [XF, Yh, if_neg Za2, List.append_nil, List.mem_singleton] at hs;rw [hs];exact h
theorem Rw {tn ls : List Str} {t : Int} {nm : Str} (h : nm ∈ tn) : InW tn ls (.off (Str.ofString "free") t nm) := by
 refine ⟨fun s hs => ?_, fun s hs => ?_⟩
 ·simp only [KL, if_pos, List.mem_singleton] at hs;rw [hs];exact h
 ·simp only [XF, Yh, if_pos, List.append_nil] at hs;cases hs
theorem T9 {tn ls : List Str} {t u v : Int} {nm : Str} (h : nm ∈ tn) : InW tn ls (.spot t nm u v) := by
 refine ⟨fun s hs => ?_, fun s hs => (nomatch hs)⟩;rw [List.mem_singleton.mp hs];exact h
theorem Fn {α : Type} {P : α -> Prop} {a b : α} (ha : P a) (hb : P b) : ∀ p ∈ [a, b], P p := fun p hp => by
 rcases List.mem_cons.mp hp with rfl | hp
 ·exact ha
 ·rw [List.mem_singleton.mp hp];exact hb
def ZhS (x : DV) (P : Tl -> Prop) : Prop := ∃ t, x = .dat (tlD t) /\ P t
def V7 (x : DV) (P : List Tl -> Prop) : Prop := ∃ ts : List Tl, x = .dat (.list (ts.map tlD)) /\ P ts
def QD (ts : List Tl) : Prop := ts.length <= 20 /\ ∀ t ∈ ts, KZ t
theorem Ut : ∀ {l : List PyData} {n : Nat}, (∀ d ∈ l, d.canLay0 = true /\ d.depth <= n) -> PyData.canLayAll0 l = true /\ PyData.depthAll l <= n
 | [], _, _ => by simp [PyData.canLayAll0, PyData.depthAll]
 | d :: l, n, h => by
  have h1 := h d (.head _);have h2 := Ut (l := l) (n := n) fun d hd => h d (.tail _ hd);rw [PyData.canLayAll0, PyData.depthAll, h1.1, h2.1];exact ⟨rfl, by have := h1.2; have := h2.2; omega⟩
theorem Y8 (h : ∀ d ∈ l, d.canLay0 = true /\ d.depth <= n) : (PyData.tuple l).canLay0 = true /\ (PyData.tuple l).depth <= n + 1 := by
 obtain ⟨a, b⟩ := Ut h;rw [PyData.canLay0, PyData.depth];exact ⟨a, by omega⟩
theorem V0 {s : Str} (h : ZA s) : (PyData.str s).canLay0 = true := by
 show s.cps.all (fun c => decide (c < 0x110000)) = true;rw [<- Array.all_toList];exact List.all_eq_true.mpr fun c hc => decide_eq_true (by have := h.2 c hc; omega)
theorem Xp (i : Int) (n : Nat) : (PyData.int i).canLay0 = true /\ (PyData.int i).depth <= n := by simp [PyData.canLay0, PyData.depth]
theorem Cu (u v : Int) : (PyData.tuple [.int u, .int v]).canLay0 = true /\ (PyData.tuple [.int u, .int v]).depth <= 1 := Y8 (n := 0) (Fn (Xp u 0) (Xp v 0))
theorem ZbY {x : Tl} (h : KZ x) : (tlD x).canLay0 = true /\ (tlD x).depth <= 5 := by
 have st : ∀ {s : Str}, (PyData.str s).canLay0 = true -> (PyData.str s).canLay0 = true /\ (PyData.str s).depth <= 4 := fun e => ⟨e, by simp [PyData.depth]⟩;have lit : ∀ s ∈ [Str.ofString "land", Str.ofString "spot", Str.ofString "drop", Str.ofString "free", Str.ofString ""], (PyData.str s).canLay0 = true := by walk_at "k"
 cases x with
 | land t nm ou bs wb =>
  refine Y8 (n := 4) fun d hd => ?_;simp only [List.mem_cons, List.not_mem_nil, or_false] at hd
  rcases hd with rfl | rfl | rfl | rfl | rfl | rfl
  ·exact st (lit _ (by simp))
  ·exact Xp _ _
  ·exact st (V0 h.1.2)
  ·rcases h.2.1 with rfl | n
   ·exact st (lit _ (by simp))
   ·exact st (V0 n)
  ·have := Y8 (l := bs.map bD) (n := 2) fun d hd => by
    obtain ⟨b, _, rfl⟩ := List.mem_map.mp hd;exact Y8 (n := 1) (Fn (Cu b.x b.y) (Cu b.X b.Y))
   exact ⟨this.1, by omega⟩
  ·exact Xp _ _
 | spot t nm u v =>
  refine Y8 (n := 4) fun d hd => ?_;simp only [List.mem_cons, List.not_mem_nil, or_false] at hd
  rcases hd with rfl | rfl | rfl | rfl
  ·exact st (lit _ (by simp))
  ·exact Xp _ _
  ·exact st (V0 h.1.2)
  ·exact ⟨(Cu u v).1, Nat.le_trans (Cu u v).2 (by decide)⟩
 | off w t nm =>
  refine Y8 (n := 4) fun d hd => ?_;simp only [List.mem_cons, List.not_mem_nil, or_false] at hd
  rcases hd with rfl | rfl | rfl
  ·rcases h.2 with rfl | rfl
   ·exact st (lit _ (by simp))
   ·exact st (lit _ (by simp))
  ·exact Xp _ _
  ·exact st (V0 h.1.2)
theorem SE {ts : List Tl} (h : ∀ t ∈ ts, KZ t) : PyData.canLayAll0 (ts.map tlD) = true /\ PyData.depthAll (ts.map tlD) <= 5 := Ut fun d hd => by
 obtain ⟨x, hx, rfl⟩ := List.mem_map.mp hd;exact ZbY (h x hx)
theorem ZdU {x : Tl} (h : KZ x) : Pl 20 63000 (tlD x) := by
 obtain ⟨D, e, w, t, nm, l, rfl, ht, hn, hk⟩ := P9 h;obtain ⟨a, _, _, b, _⟩ := Cm hk;rw [e];exact (Pl.tup (Pls.cons b (Pls.cons (ZcY (by omega)) (Pls.cons (pNm hn) a)))).le (by decide) (by decide)
theorem XO {ts : List Tl} (h : QD ts) : Shw (.list (ts.map tlD)) := by
 have o := Od.lst (Pls.all (k := 20) (n := 63000) (m := 20) (l := ts.map tlD) (by rw [List.length_map]; exact h.1) fun d hd => by
  obtain ⟨x, hx, rfl⟩ := List.mem_map.mp hd
  exact ZdU (h.2 x hx))
 exact ⟨o.s, o.m, Nat.le_trans o.dp (by decide), Nat.le_trans (Jv _ o.s) (Nat.le_trans o.z (by rw [sizeLine_eq]; decide))⟩
theorem G0 {ts : List Tl} (h : ∀ t ∈ ts, KZ t) : EJ (.list (ts.map tlD)) (.list (ts.map tlD)) = true /\ PyData.eqv (.list (ts.map tlD)) (.list (ts.map tlD)) = true := by
 obtain ⟨a, b⟩ := SE h;have c : (PyData.list (ts.map tlD)).canLay0 = true := a;refine ⟨?_, PySem.SeqAt.eqv_refl _ c⟩;unfold EJ;rw [c, PyData.depth];simp only [Bool.and_self, Bool.true_and, Nat.min_self];exact Nat.ble_eq_true_of_le (by omega)
def C0 : DSp := fun xs M Φ => on2 xs fun x y => ∃ d, (x = .dat d \/ ∃ q ds, x = .own q /\ M q = some (.lst ds) /\ d = .list ds) /\ y = .dat d /\ (EJ d d = true /\ PyData.eqv d d = true /\ Shw d) /\ Φ (.dat (.bool true)) M
theorem MH (xs : List DV) (M : Mp) (Φ : DK) : C0 xs M Φ = (on2 xs fun x y => ∃ d, (x = .dat d \/ ∃ q ds, x = .own q /\ M q = some (.lst ds) /\ d = .list ds) /\ y = .dat d /\ (EJ d d = true /\ PyData.eqv d d = true /\ Shw d) /\ Φ (.dat (.bool true)) M) := propext Iff.rfl
def Lh : DSp := fun xs M Φ => on3 xs fun x y z => onO x fun p => onO y fun q => onI z fun m => m = 12 /\ Wd M q /\ q ≠ p /\ Pen M p /\ ∀ (ts : List Tl) (M' : Mp) (r : Addr), ts.length <= 12 -> (∀ t ∈ ts, KZ t) -> LsW M q (fun tn ln => ∀ t ∈ ts, InW tn ln t) -> M' r = some (.lst (ts.map tlD)) -> M r = none -> (∀ a, a ≠ p -> M a ≠ none -> M' a = M a) -> Pen M' p -> r ≠ p -> Φ (.own r) M'
theorem ND (xs : List DV) (M : Mp) (Φ : DK) : Lh xs M Φ = (on3 xs fun x y z => onO x fun p => onO y fun q => onI z fun m => m = 12 /\ Wd M q /\ q ≠ p /\ Pen M p /\ ∀ (ts : List Tl) (M' : Mp) (r : Addr), ts.length <= 12 -> (∀ t ∈ ts, KZ t) -> LsW M q (fun tn ln => ∀ t ∈ ts, InW tn ln t) -> M' r = some (.lst (ts.map tlD)) -> M r = none -> (∀ a, a ≠ p -> M a ≠ none -> M' a = M a) -> Pen M' p -> r ≠ p -> Φ (.own r) M') := propext Iff.rfl
theorem T4 {r : Addr} {ts : List Tl} {F : Mp -> Prop} (hr : M r = some (.lst (ts.map tlD))) (hP : Pen M p) (hrp : r ≠ p) (hl : ts.length <= 12) (ht : ∀ t ∈ ts, KZ t) (k : ∀ (ts' : List Tl) (M' : Mp), QD ts' -> (∀ t ∈ ts', t ∈ ts) -> (∀ a, a ≠ p -> a ≠ r -> M a ≠ none -> M' a = M a) -> M' r = some (.lst (ts'.map tlD)) -> Pen M' p -> F M') :
  if (!(ts.map tlD).isEmpty) = true then Pen M p /\ ∀ (r1 : Int) (M1 : Mp), 0 <= r1 -> r1 < 3 -> Fr p M M1 -> (if decide (r1 = 0) = true then Vp (M1 r) fun _ => Vp (M1 r) fun ds => ((0 : Int) < ds.length /\ (ds.length : Int) < 1000000000000000000000000000000000000000000000000000000000000) /\ Pen M1 p /\ ∀ (r2 : Int) (M2 : Mp), 0 <= r2 -> r2 < ds.length -> Fr p M1 M2 -> Vp (M2 r) fun ds => KR ds r2 fun d => Vp (M2 r) fun ds => ds.length < 16777216 /\ F (ZM M2 r (.lst (ds ++ [d]))) else F M1) else F M := by
 have len := List.length_map (as := ts) tlD;cases ts with
 | nil => exact k [] M ⟨by decide, fun t h => (nomatch h)⟩ (fun t h => h) (fun _ _ _ _ => rfl) hr hP
 | cons a l =>
  rw [if_pos (by rfl)];refine ⟨hP, fun r1 M1 _ _ f1 => ?_⟩;have q1 := f1.own hr hrp;refine Zn (fun _ => ?_) fun _ => k (a :: l) M1 ⟨by omega, ht⟩ (fun t h => h) (fun b h1 _ h2 => f1.2 b h1 h2) q1 f1.1;rw [q1, QJ, QJ, len];have pos : 0 < (a :: l).length := by rw [List.length_cons]; omega
  refine ⟨⟨by omega, by omega⟩, f1.1, fun r2 M2 h0 h1 f2 => ?_⟩;have q2 := f2.own q1 hrp;rw [q2, QJ];obtain ⟨j, rfl⟩ := Int.eq_ofNat_of_zero_le h0;have hj : j < (a :: l).length := by omega
  refine VD (d := tlD (a :: l)[j]) (Vj (by rw [List.getElem?_map, List.getElem?_eq_getElem hj]; rfl)) ?_;rw [QJ];refine ⟨by omega, ?_⟩;refine k ((a :: l) ++ [(a :: l)[j]]) _ ⟨by rw [List.length_append, List.length_singleton]; omega, fun t m => ?_⟩ (fun t m => ?_) (fun b h1 h2 h3 => by rw [Z5 h2]; exact (f1.trans f2).2 b h1 h3) (by rw [Zv, List.map_append]; rfl) (f2.1.put (Ne.symm hrp))
  ·rcases List.mem_append.mp m with m | m
   ·exact ht t m
   ·rw [List.mem_singleton.mp m];exact ht _ (List.getElem_mem hj)
  rcases List.mem_append.mp m with m | m
  ·exact m
  ·rw [List.mem_singleton.mp m];exact List.getElem_mem hj
noncomputable def ndK (ps : List (Str × Str)) : List (Key × PyData) := ps.map fun q => ((.inr q.1 : Key), PyData.str q.2)
noncomputable def ndD (ps : List (Str × Str)) : PyData := kvD (ndK ps)
noncomputable def ndV (ps : List (Str × Str)) (s : Str) : Str := ((ps.find? fun q => decide (q.1 = s)).map (·.2)).getD s
noncomputable def K2 (ps : List (Str × Str)) (a b : Str) : List (Str × Str) := if (ps.any fun q => decide (q.1 = a)) = true then ps.map (fun q => if q.1 = a then (q.1, b) else q) else ps ++ [(a, b)]
theorem ZcW (ps : List (Str × Str)) (s : Str) : (QU (ndK ps) (.inr s)).getD (.str s) = .str (ndV ps s) := by
 unfold QU ndV ndK
 induction ps with
 | nil => rfl
 | cons q ps ih =>
  rw [List.map_cons]
  by_cases e : q.1 = s
  ·rw [List.find?_cons_of_pos (by simpa using e), List.find?_cons_of_pos (by simpa using e)];rfl
  ·rw [List.find?_cons_of_neg (by simpa using e), List.find?_cons_of_neg (by simpa using e)];exact ih
theorem Zd7 (ps : List (Str × Str)) (a : Str) : ((ndK ps).any fun kv => decide (kv.1 = (.inr a : Key))) = ps.any fun q => decide (q.1 = a) := by
 unfold ndK;rw [List.any_map]
 congr 1
 funext q
 exact decide_eq_decide.mpr ⟨fun h => Sum.inr.inj h, fun h => by dsimp only; rw [h]⟩
theorem Gy (ps : List (Str × Str)) (a b : Str) : Xg (ndK ps) (.inr a) (.str b) = ndK (K2 ps a b) := by
 unfold Xg K2;rw [Zd7]
 split
 ·unfold ndK;rw [List.map_map, List.map_map]
  congr 1
  funext q
  by_cases e : q.1 = a
  ·simp [e]
  ·simp [e]
 ·unfold ndK;rw [List.map_append];rfl
theorem Om {s : Str} (h : ∀ q ∈ ps, q.1 ≠ s) : ndV ps s = s := by
 unfold ndV;rw [List.find?_eq_none.mpr fun q hq => by simpa using h q hq];rfl
theorem RY (ps : List (Str × Str)) (a b s : Str) (h : ∀ q ∈ ps, q.1 ≠ a) : ndV (ps ++ [(a, b)]) s = if s = a then b else ndV ps s := by
 unfold ndV;rw [List.find?_append]
 by_cases e : s = a
 ·subst e;rw [if_pos rfl, List.find?_eq_none.mpr fun q hq => by simpa using h q hq];simp
 ·rw [if_neg e, List.find?_cons_of_neg (by simpa using Ne.symm e), List.find?_nil, Option.or_none]
theorem SA (ps : List (Str × Str)) (a b s : Str) (h : (ps.any fun q => decide (q.1 = a)) = true) : ndV (ps.map fun q => if q.1 = a then (q.1, b) else q) s = if s = a then b else ndV ps s := by
 induction ps with
 | nil => simp at h
 | cons q ps ih =>
  unfold ndV at ih ⊢;rw [List.map_cons]
  by_cases e : q.1 = a
  ·rw [if_pos e]
   by_cases e2 : s = a
   ·rw [if_pos e2, List.find?_cons_of_pos (by simp [e, e2])];rfl
   ·have e3 : q.1 ≠ s := fun z => e2 (z.symm.trans e);rw [if_neg e2, List.find?_cons_of_neg (by simpa using e3), List.find?_cons_of_neg (by simpa using e3)]
    by_cases h' : (ps.any fun q => decide (q.1 = a)) = true
    ·have := ih h';rw [if_neg e2] at this;exact this
    ·have hn : ∀ q ∈ ps, q.1 ≠ a := fun q hq z => h' (List.any_eq_true.mpr ⟨q, hq, decide_eq_true z⟩);rw [List.map_congr_left (g := id) fun q hq => by rw [if_neg (hn q hq)]; rfl, List.map_id]
  ·rw [if_neg e];have h' : (ps.any fun q => decide (q.1 = a)) = true := by
    rw [List.any_cons, decide_eq_false e, Bool.false_or] at h;exact h
   by_cases e2 : q.1 = s
   ·have e3 : s ≠ a := fun z => e (e2.trans z);rw [if_neg e3, List.find?_cons_of_pos (by simpa using e2), List.find?_cons_of_pos (by simpa using e2)]
   ·rw [List.find?_cons_of_neg (by simpa using e2), List.find?_cons_of_neg (by simpa using e2)];exact ih h'
theorem B0 (ps : List (Str × Str)) (a b s : Str) : ndV (K2 ps a b) s = if s = a then b else ndV ps s := by
 unfold K2
 split
 ·rename_i h;exact SA ps a b s h
 ·rename_i h;exact RY ps a b s fun q hq z => h (List.any_eq_true.mpr ⟨q, hq, decide_eq_true z⟩)
theorem GI {a b : Str} {P : Str × Str -> Prop} (h : ∀ q ∈ ps, P q) (hab : P (a, b)) : ∀ q ∈ K2 ps a b, P q := by
 intro q hq;unfold K2 at hq
 split at hq
 ·obtain ⟨r, hr, rfl⟩ := List.mem_map.mp hq
  by_cases e : r.1 = a
  ·rw [if_pos e, e];exact hab
  ·rw [if_neg e];exact h r hr
 ·rcases List.mem_append.mp hq with hq | hq
  ·exact h q hq
  ·rw [List.mem_singleton.mp hq];exact hab
theorem UK (ps : List (Str × Str)) (a b : Str) : (K2 ps a b).length <= ps.length + 1 := by
 unfold K2
 split
 ·rw [List.length_map];omega
 ·rw [List.length_append, List.length_singleton];exact Nat.le_refl _
theorem Pk : ∀ {a b : List (Key × PyData)}, (a.map fun q => (kD q.1, q.2)) = (b.map fun q => (kD q.1, q.2)) -> a = b
 | [], [], _ => rfl
 | [], _ :: _, h => by simp at h
 | _ :: _, [], h => by simp at h
 | (k, d) :: a, (k', d') :: b, h => by
  rw [List.map_cons, List.map_cons, List.cons.injEq, Prod.mk.injEq] at h;obtain ⟨⟨e1, e2⟩, e3⟩ := h;rw [Pk e3, show k = k' from PX e1, show d = d' from e2]
theorem ZcU (ps : List (Str × Str)) (P : List (Key × PyData) -> Prop) : U0 (.dat (ndD ps)) P = P (ndK ps) := propext ⟨fun ⟨qs, e, h⟩ => by
 unfold ndD kvD at e;rw [DV.dat.injEq, PyData.dict.injEq] at e;rw [Pk e]
 exact h, fun h => ⟨_, rfl, h⟩⟩
theorem ZdM (P : List (Key × PyData) -> Prop) : U0 (.dat (.dict [])) P = P [] := ZcU [] P
theorem Sj (ps : List (Str × Str)) : ((ndK ps).map fun q => kD q.1) = (ps.map (·.1)).map PyData.str := by
 unfold ndK;rw [List.map_map, List.map_map];rfl
theorem S7 (ps : List (Str × Str)) : ((ndK ps).map fun q => q.2) = (ps.map (·.2)).map PyData.str := by
 unfold ndK;rw [List.map_map, List.map_map];rfl
theorem UL (ps : List (Str × Str)) : (ndK ps).length = ps.length := by unfold ndK; rw [List.length_map]
noncomputable def shT (b : Int) : Tl -> Tl
 | .land t nm ou bs wb => .land (t + b) nm ou bs wb
 | .spot t nm u v => .spot (t + b) nm u v
 | .off w t nm => .off w (t + b) nm
noncomputable def tmT : Tl -> Int
 | .land t _ _ _ _ => t
 | .spot t _ _ _ => t
 | .off _ t _ => t
noncomputable def free : Str := Str.ofString "free"
noncomputable def reT (f g : Str -> Str) : Tl -> Tl
 | .land t nm ou bs wb => .land t (g nm) (g ou) bs wb
 | .spot t nm u v => .spot t (f nm) u v
 | .off w t nm => .off w t (if w = Str.ofString "free" then f nm else g nm)
noncomputable def thN (ts : List Tl) : List Str := ts.flatMap KL
noncomputable def laN (ts : List Tl) : List Str := ts.flatMap XF ++ ts.flatMap Yh
theorem Zfg (b : Int) (t : Tl) : shT (0 - b) (shT b t) = t := by
 have e : ∀ x : Int, x + b + (0 - b) = x := fun x => by omega
 cases t <;> simp only [shT, e]
theorem Mi (b : Int) (ts : List Tl) : (ts.map (shT b)).map (shT (0 - b)) = ts := by
 rw [List.map_map, List.map_congr_left (f := shT (0 - b) ∘ shT b) (g := id) fun t _ => Zfg b t, List.map_id]
theorem ZfH {b : Int} {t : Tl} (h : KZ t) (h0 : 0 <= tmT t + b) (h1 : tmT t + b <= 1000000000000) : KZ (shT b t) := by
 cases t with
 | land t nm ou bs wb => exact ⟨⟨⟨h0, h1⟩, h.1.2⟩, h.2⟩
 | spot t nm u v => exact ⟨⟨⟨h0, h1⟩, h.1.2⟩, h.2⟩
 | off w t nm => exact ⟨⟨⟨h0, h1⟩, h.1.2⟩, h.2⟩
theorem Zf1 {t : Tl} (h : KZ t) : 0 <= tmT t /\ tmT t <= 1000000000000 := by
 cases t <;> exact h.1.1
theorem Ew : Str.ofString "drop" ≠ Str.ofString "free" := by walk_at "k"
structure DOk (ss : List Str) (ps : List (Str × Str)) : Prop where
 nm : ∀ q ∈ ps, ZA q.1 /\ ZA q.2
 len : ps.length <= 60
 inj : ∀ a ∈ ss, ∀ b ∈ ss, ndV ps a = ndV ps b -> a = b
theorem L7 {s : Str} (h : ZA s) : s ≠ Str.ofString "" := fun e => by
 have := h.1.1;rw [e] at this;exact absurd this (by walk_at "k")
theorem VC (h : ∀ q ∈ ps, ZA q.1 /\ ZA q.2) : ndV ps (Str.ofString "") = Str.ofString "" := Om fun q hq => L7 (h q hq).1
theorem Vd (h : ∀ q ∈ ps, ZA q.1 /\ ZA q.2) {s : Str} (hs : ZA s) : ZA (ndV ps s) := by
 unfold ndV;cases e : ps.find? fun q => decide (q.1 = s) with
 | none => exact hs
 | some q => exact (h q (List.mem_of_find?_eq_some e)).2
theorem Zf0 {rs : List (Str × Str)} (hp : ∀ q ∈ ps, ZA q.1 /\ ZA q.2) (hr : ∀ q ∈ rs, ZA q.1 /\ ZA q.2) {t : Tl} (h : KZ t) : KZ (reT (ndV ps) (ndV rs) t) := by
 cases t with
 | land t nm ou bs wb =>
  refine ⟨⟨h.1.1, Vd hr h.1.2⟩, ?_, h.2.2⟩
  rcases h.2.1 with e | n
  ·exact .inl (by rw [e]; exact VC hr)
  ·exact .inr (Vd hr n)
 | spot t nm u v => exact ⟨⟨h.1.1, Vd hp h.1.2⟩, h.2⟩
 | off w t nm =>
  refine ⟨⟨h.1.1, ?_⟩, h.2⟩
  split
  ·exact Vd hp h.1.2
  ·exact Vd hr h.1.2
theorem ZdX {rs : List (Str × Str)} (hp : ∀ q ∈ ps, ZA q.1 /\ ZA q.2) (hr : ∀ q ∈ rs, ZA q.1 /\ ZA q.2) {ts : List Tl} (h : QD ts) : QD (ts.map (reT (ndV ps) (ndV rs))) :=
 ⟨by rw [List.length_map]; exact h.1, fun t ht => by
  obtain ⟨x, hx, rfl⟩ := List.mem_map.mp ht
  exact Zf0 hp hr (h.2 x hx)⟩
theorem ZaS {b : Int} {ts : List Tl} (h : QD ts) (hb : ∀ t ∈ ts, 0 <= tmT t + b /\ tmT t + b <= 1000000000000) : QD (ts.map (shT b)) :=
 ⟨by rw [List.length_map]; exact h.1, fun t ht => by
  obtain ⟨x, hx, rfl⟩ := List.mem_map.mp ht
  exact ZfH (h.2 x hx) (hb x hx).1 (hb x hx).2⟩
theorem Y3 {α β : Type} {l : List α} {i : Nat} {a : α} (f : α -> List β) (h : l[i]? = some a) : (l.take (i + 1)).flatMap f = (l.take i).flatMap f ++ f a := by
 rw [List.take_add_one, h, List.flatMap_append];simp
theorem Vm {α β : Type} {f : α -> List β} {k : Nat} (hf : ∀ a, (f a).length <= k) : ∀ l : List α, (l.flatMap f).length <= k * l.length
 | [] => Nat.zero_le _
 | a :: l => by
  rw [List.flatMap_cons, List.length_append, List.length_cons, Nat.mul_succ];have := hf a;have := Vm hf l;omega
theorem ZdY (ts : List Tl) : (thN ts).length <= ts.length := by
 have := Vm (f := KL) (k := 1) (fun t => by cases t <;> simp [KL]; split <;> simp) ts;unfold thN;omega
theorem P8 (ts : List Tl) : (laN ts).length <= 2 * ts.length := by
 have := Vm (f := XF) (k := 1) (fun t => by cases t <;> simp [XF]; split <;> simp) ts;have := Vm (f := Yh) (k := 1) (fun t => by cases t <;> simp [Yh]; split <;> simp) ts;unfold laN;rw [List.length_append];omega
theorem RL {ts : List Tl} (h : QD ts) : ∀ s ∈ thN ts, ZA s := fun s hs => by
 obtain ⟨t, ht, hs⟩ := List.mem_flatMap.mp hs;have := h.2 t ht;cases t with
 | land t nm ou bs wb => cases hs
 | spot t nm u v => rw [List.mem_singleton.mp hs]; exact this.1.2
 | off w t nm =>
  simp only [KL] at hs
  split at hs
  ·rw [List.mem_singleton.mp hs]; exact this.1.2
  ·cases hs
theorem Fv {ts : List Tl} (h : QD ts) : ∀ s ∈ laN ts, ZA s := fun s hs => by
 rcases List.mem_append.mp hs with hs | hs
 ·obtain ⟨t, ht, hs⟩ := List.mem_flatMap.mp hs;have := h.2 t ht;cases t with
  | land t nm ou bs wb => rw [List.mem_singleton.mp hs]; exact this.1.2
  | spot t nm u v => cases hs
  | off w t nm =>
   simp only [XF] at hs
   split at hs
   ·cases hs
   ·rw [List.mem_singleton.mp hs]; exact this.1.2
 ·obtain ⟨t, ht, hs⟩ := List.mem_flatMap.mp hs;have := h.2 t ht;cases t with
  | land t nm ou bs wb =>
   simp only [Yh] at hs
   split at hs
   ·cases hs
   ·rename_i ne;rw [List.mem_singleton.mp hs];exact this.2.1.resolve_left ne
  | spot t nm u v => cases hs
  | off w t nm => cases hs
def NmP (ps : List (Str × Str)) : Prop := (∀ q ∈ ps, ZA q.1 /\ ZA q.2) /\ ps.length <= 60
def UA (x : DV) (P : List (Str × Str) -> Prop) : Prop := ∃ ps, x = .dat (ndD ps) /\ P ps
def Rh (x : DV) (P : List Str -> Prop) : Prop := ∃ ss : List Str, x = .dat (.list (ss.map PyData.str)) /\ P ss
def KA : DSp := fun xs M Φ => on1 xs fun x => ∃ q ts, x = .own q /\ M q = some (.lst (ts.map tlD)) /\ QD ts /\ Φ (.own q) M
theorem Bz (xs : List DV) (M : Mp) (Φ : DK) : KA xs M Φ = (on1 xs fun x => ∃ q ts, x = .own q /\ M q = some (.lst (ts.map tlD)) /\ QD ts /\ Φ (.own q) M) := propext Iff.rfl
def XH : DSp := fun xs M Φ => on2 xs fun x y => V7 x fun ts => onI y fun b => (QD ts /\ QD (ts.map (shT b))) /\ ∀ q, M q = none -> Φ (.own q) (ZM M q (.lst ((ts.map (shT b)).map tlD)))
theorem Eo (xs : List DV) (M : Mp) (Φ : DK) : XH xs M Φ = (on2 xs fun x y => V7 x fun ts => onI y fun b => (QD ts /\ QD (ts.map (shT b))) /\ ∀ q, M q = none -> Φ (.own q) (ZM M q (.lst ((ts.map (shT b)).map tlD)))) := propext Iff.rfl
def Xo : DSp := fun xs M Φ => on1 xs fun x => UA x fun ps => NmP ps /\ Φ (.dat (.bool true)) M
theorem UT (xs : List DV) (M : Mp) (Φ : DK) : Xo xs M Φ = (on1 xs fun x => UA x fun ps => NmP ps /\ Φ (.dat (.bool true)) M) := propext Iff.rfl
def XZ : DSp := fun xs M Φ => on2 xs fun x y => Rh x fun ns => UA y fun ps => (ns.length < 64 /\ ∀ a ∈ ns, ∀ b ∈ ns, ndV ps a = ndV ps b -> a = b) /\ Φ (.dat (.bool false)) M
theorem BS (xs : List DV) (M : Mp) (Φ : DK) : XZ xs M Φ = (on2 xs fun x y => Rh x fun ns => UA y fun ps => (ns.length < 64 /\ ∀ a ∈ ns, ∀ b ∈ ns, ndV ps a = ndV ps b -> a = b) /\ Φ (.dat (.bool false)) M) := propext Iff.rfl
def WV : DSp := fun xs M Φ => on1 xs fun x => V7 x fun ts => QD ts /\ Φ (.dat (.list ((thN ts).map PyData.str))) M
theorem EC (xs : List DV) (M : Mp) (Φ : DK) : WV xs M Φ = (on1 xs fun x => V7 x fun ts => QD ts /\ Φ (.dat (.list ((thN ts).map PyData.str))) M) := propext Iff.rfl
def B7 : DSp := fun xs M Φ => on1 xs fun x => V7 x fun ts => QD ts /\ Φ (.dat (.list ((laN ts).map PyData.str))) M
theorem Fe (xs : List DV) (M : Mp) (Φ : DK) : B7 xs M Φ = (on1 xs fun x => V7 x fun ts => QD ts /\ Φ (.dat (.list ((laN ts).map PyData.str))) M) := propext Iff.rfl
def Bb : DSp := fun xs M Φ => on3 xs fun x y z => ZhS x fun t => UA y fun ps => UA z fun rs => KZ t /\ Φ (.dat (tlD (reT (ndV ps) (ndV rs) t))) M
theorem Fw (xs : List DV) (M : Mp) (Φ : DK) : Bb xs M Φ = (on3 xs fun x y z => ZhS x fun t => UA y fun ps => UA z fun rs => KZ t /\ Φ (.dat (tlD (reT (ndV ps) (ndV rs) t))) M) := propext Iff.rfl
def WC : DSp := fun xs M Φ => on3 xs fun x y z => V7 x fun ts => UA y fun ps => UA z fun rs => (QD ts /\ DOk (thN ts) ps /\ DOk (laN ts) rs) /\ ∀ q, M q = none -> Φ (.own q) (ZM M q (.lst ((ts.map (reT (ndV ps) (ndV rs))).map tlD)))
theorem D0 (xs : List DV) (M : Mp) (Φ : DK) : WC xs M Φ = (on3 xs fun x y z => V7 x fun ts => UA y fun ps => UA z fun rs => (QD ts /\ DOk (thN ts) ps /\ DOk (laN ts) rs) /\ ∀ q, M q = none -> Φ (.own q) (ZM M q (.lst ((ts.map (reT (ndV ps) (ndV rs))).map tlD)))) := propext Iff.rfl
noncomputable def VI (b : Bool) : List PyData := if b = true then [.str (Str.ofString "free"), .str (Str.ofString "spot")] else [.str (Str.ofString "land"), .str (Str.ofString "drop")]
noncomputable def stN (b : Bool) (ts : List Tl) : List Str := if b = true then thN ts else laN ts
def Xr : DSp := fun xs M Φ => on2 xs fun x y => V7 x fun ts => ∃ b, y = .dat (.tuple (VI b)) /\ QD ts /\ ∀ ks : List Str, ks.Nodup -> (∀ z, z ∈ ks ↔ z ∈ stN b ts) -> Φ (.dat (.list (ks.map PyData.str))) M
theorem U7 (xs : List DV) (M : Mp) (Φ : DK) : Xr xs M Φ = (on2 xs fun x y => V7 x fun ts => ∃ b, y = .dat (.tuple (VI b)) /\ QD ts /\ ∀ ks : List Str, ks.Nodup -> (∀ z, z ∈ ks ↔ z ∈ stN b ts) -> Φ (.dat (.list (ks.map PyData.str))) M) := propext Iff.rfl
def ZaI (ss : List Str) : Prop := ss.length <= 10 /\ ss.Nodup /\ ∀ s ∈ ss, ZA s
structure Zgb (ss os : List Str) : Prop where
 nd : os.Nodup
 ap : ∀ s ∈ os, s ∉ ss
 nm : ∀ s ∈ os, ZA s
 lo : 7 <= os.length
 hi : os.length <= 34
def Wz : DSp := fun xs M Φ => on2 xs fun x y => onO x fun p => Rh y fun ss => ZaI ss /\ Pen M p /\ ∀ os M', Zgb ss os -> Fr p M M' -> Φ (.dat (.list (os.map PyData.str))) M'
theorem Ei (xs : List DV) (M : Mp) (Φ : DK) : Wz xs M Φ = (on2 xs fun x y => onO x fun p => Rh y fun ss => ZaI ss /\ Pen M p /\ ∀ os M', Zgb ss os -> Fr p M M' -> Φ (.dat (.list (os.map PyData.str))) M') := propext Iff.rfl
def HF : DSp := fun xs M Φ => on2 xs fun x y => onO x fun p => Rh y fun ss => ZaI ss /\ Pen M p /\ ∀ ps M', DOk ss ps -> Fr p M M' -> Φ (.dat (ndD ps)) M'
theorem Oi (xs : List DV) (M : Mp) (Φ : DK) : HF xs M Φ = (on2 xs fun x y => onO x fun p => Rh y fun ss => ZaI ss /\ Pen M p /\ ∀ ps M', DOk ss ps -> Fr p M M' -> Φ (.dat (ndD ps)) M') := propext Iff.rfl
def Ki : DSp := fun xs M Φ => on3 xs fun x y z => V7 x fun ts => UA y fun ps => UA z fun rs => (QD ts /\ NmP ps /\ NmP rs) /\ Φ (.dat (.list ((ts.map (reT (ndV ps) (ndV rs))).map tlD))) M
theorem BL (xs : List DV) (M : Mp) (Φ : DK) : Ki xs M Φ = (on3 xs fun x y z => V7 x fun ts => UA y fun ps => UA z fun rs => (QD ts /\ NmP ps /\ NmP rs) /\ Φ (.dat (.list ((ts.map (reT (ndV ps) (ndV rs))).map tlD))) M) := propext Iff.rfl
noncomputable def bkP (ps : List (Str × Str)) (ss : List Str) : List (Str × Str) := ss.map fun n => (ndV ps n, n)
def Mf : DSp := fun xs M Φ => on2 xs fun x y => Rh x fun ss => UA y fun ps => (ss.length <= 60 /\ (ss.map (ndV ps)).Nodup) /\ Φ (.dat (ndD (bkP ps ss))) M
theorem Ob (xs : List DV) (M : Mp) (Φ : DK) : Mf xs M Φ = (on2 xs fun x y => Rh x fun ss => UA y fun ps => (ss.length <= 60 /\ (ss.map (ndV ps)).Nodup) /\ Φ (.dat (ndD (bkP ps ss))) M) := propext Iff.rfl
def Ve : DSp := fun xs M Φ => on2 xs fun x y => onO x fun p => V7 y fun ts => QD ts /\ (∃ tn ln, tn.length <= 10 /\ ln.length <= 10 /\ ∀ t ∈ ts, InW tn ln t) /\ Pen M p /\ ∀ M', Fr p M M' -> Φ (.dat (.bool true)) M'
theorem Ky (xs : List DV) (M : Mp) (Φ : DK) : Ve xs M Φ = (on2 xs fun x y => onO x fun p => V7 y fun ts => QD ts /\ (∃ tn ln, tn.length <= 10 /\ ln.length <= 10 /\ ∀ t ∈ ts, InW tn ln t) /\ Pen M p /\ ∀ M', Fr p M M' -> Φ (.dat (.bool true)) M') := propext Iff.rfl
def Xq : DSp := fun xs M Φ => on2 xs fun x y => V7 x fun ts => onI y fun b => (QD ts /\ ∀ t ∈ ts, 0 <= tmT t + b /\ tmT t + b <= 1000000000000) /\ ∀ M', Gw M M' -> Φ (.dat (.bool true)) M'
theorem Ge (xs : List DV) (M : Mp) (Φ : DK) : Xq xs M Φ = (on2 xs fun x y => V7 x fun ts => onI y fun b => (QD ts /\ ∀ t ∈ ts, 0 <= tmT t + b /\ tmT t + b <= 1000000000000) /\ ∀ M', Gw M M' -> Φ (.dat (.bool true)) M') := propext Iff.rfl
theorem kw1 : ([Str.ofString "free", Str.ofString "spot"].any (isS (.str (Str.ofString "land"))) = false /\ [Str.ofString "free", Str.ofString "spot"].any (isS (.str (Str.ofString "spot"))) = true) /\ ([Str.ofString "free", Str.ofString "spot"].any (isS (.str (Str.ofString "drop"))) = false /\ [Str.ofString "free", Str.ofString "spot"].any (isS (.str (Str.ofString "free"))) = true) := by walk_at "k"
theorem kw2 : ([Str.ofString "land", Str.ofString "drop"].any (isS (.str (Str.ofString "land"))) = true /\ [Str.ofString "land", Str.ofString "drop"].any (isS (.str (Str.ofString "spot"))) = false) /\ ([Str.ofString "land", Str.ofString "drop"].any (isS (.str (Str.ofString "drop"))) = true /\ [Str.ofString "land", Str.ofString "drop"].any (isS (.str (Str.ofString "free"))) = false) := by walk_at "k"
theorem kw3 : isS (.str (Str.ofString "drop")) (Str.ofString "drop") = true /\ isS (.str (Str.ofString "land")) (Str.ofString "drop") = false := by walk_at "k"
theorem VT {x : Tl} (h : KZ x) : (∃ t nm ou bs wb, x = .land t nm ou bs wb) \/ (∃ t nm u v, x = .spot t nm u v) \/ (∃ t nm, x = .off (Str.ofString "drop") t nm) \/ ∃ t nm, x = .off (Str.ofString "free") t nm := by
 cases x with
 | land t nm ou bs wb => exact .inl ⟨_, _, _, _, _, rfl⟩
 | spot t nm u v => exact .inr (.inl ⟨_, _, _, _, rfl⟩)
 | off w t nm =>
  rcases h.2 with rfl | rfl
  ·exact .inr (.inr (.inl ⟨_, _, rfl⟩))
  ·exact .inr (.inr (.inr ⟨_, _, rfl⟩))
theorem GS (n : Nat) : (List.replicate n true).all id = true := by
 induction n with
 | zero => rfl
 | succ n ih => rw [List.replicate_succ, List.all_cons, ih]; rfl
theorem Oj (i : Nat) : (List.replicate i true).map PyData.bool ++ [.bool true] = .bool true :: (List.replicate i true).map PyData.bool := by
 rw [<- List.map_cons (f := PyData.bool), <- List.replicate_succ, List.replicate_succ', List.map_append];rfl
theorem Mc (k : Nat) (ds : List PyData) : DL.cutD ds (some (k : Int)) none = ds.drop k := by
 unfold DL.cutD;rw [KH (by omega), HT.Ul];show List.take (ds.length - min k ds.length) (ds.drop (min k ds.length)) = _
 by_cases h : k <= ds.length
 ·rw [Nat.min_eq_left h, List.take_of_length_le (by rw [List.length_drop]; omega)]
 ·rw [Nat.min_eq_right (by omega), List.drop_length, List.drop_of_length_le (by omega), List.take_nil]
theorem RE (k : Nat) (ds : List PyData) : DL.cutD ds none (some (k : Int)) = ds.take k := by
 unfold DL.cutD;rw [KH (by omega), HT.Ul, List.drop_zero];show List.take (min k ds.length - 0) ds = _;rw [Nat.sub_zero, <- List.take_eq_take_min]
theorem DJ (ds : List PyData) : DL.cutD ds (some 2) none = ds.drop 2 := Mc 2 ds
theorem Zcv (ds : List PyData) : DL.cutD ds (some 3) none = ds.drop 3 := Mc 3 ds
theorem Zfi (ds : List PyData) : DL.cutD ds (some 4) none = ds.drop 4 := Mc 4 ds
theorem CL (ds : List PyData) : DL.cutD ds none (some 2) = ds.take 2 := RE 2 ds
theorem Mg (ds : List PyData) : DL.cutD ds none (some 1) = ds.take 1 := RE 1 ds
theorem VB {α : Type} [DecidableEq α] : ∀ {l l' : List α}, l.Nodup -> (∀ a ∈ l, a ∈ l') -> l.length <= l'.length
 | [], _, _, _ => Nat.zero_le _
 | a :: l, l', hn, h => by
  rw [List.nodup_cons] at hn;have h1 := h a List.mem_cons_self;have := VB (l := l) (l' := l'.erase a) hn.2 fun b hb => (List.mem_erase_of_ne fun e => hn.1 (by rw [<- e]; exact hb)).mpr (h b (List.mem_cons_of_mem _ hb));have e := List.length_erase_of_mem h1;have p := List.length_pos_of_mem h1;rw [List.length_cons];omega
theorem VH {α β : Type} {f : α -> β} : ∀ {l : List α}, l.Nodup -> (∀ a ∈ l, ∀ b ∈ l, f a = f b -> a = b) -> (l.map f).Nodup
 | [], _, _ => List.nodup_nil
 | a :: l, hn, h => by
  rw [List.nodup_cons] at hn;rw [List.map_cons, List.nodup_cons];refine ⟨fun m => ?_, VH hn.2 fun x hx y hy => h x (List.mem_cons_of_mem _ hx) y (List.mem_cons_of_mem _ hy)⟩;obtain ⟨b, hb, e⟩ := List.mem_map.mp m;rw [h b (List.mem_cons_of_mem _ hb) a List.mem_cons_self e] at hb;exact hn.1 hb
noncomputable def UQ (b : Bool) (x : Tl) : List Str := if b = true then KL x else XF x ++ Yh x
theorem Zel (b : Bool) (ts : List Tl) (z : Str) : z ∈ ts.flatMap (UQ b) ↔ z ∈ stN b ts := by
 cases b with
 | true => exact Iff.rfl
 | false =>
  unfold stN laN;rw [if_neg Bool.false_ne_true, List.mem_append, List.mem_flatMap, List.mem_flatMap, List.mem_flatMap];constructor
  ·rintro ⟨x, hx, hz⟩
   rcases List.mem_append.mp hz with hz | hz
   ·exact .inl ⟨x, hx, hz⟩
   ·exact .inr ⟨x, hx, hz⟩
  ·rintro (⟨x, hx, hz⟩ | ⟨x, hx, hz⟩)
   ·exact ⟨x, hx, List.mem_append_left _ hz⟩
   ·exact ⟨x, hx, List.mem_append_right _ hz⟩
theorem Ri (b : Bool) (ts : List Tl) : (ts.flatMap (UQ b)).length <= 2 * ts.length := by
 refine Vm (fun t => ?_) ts;unfold UQ;cases b with
 | true => cases t <;> simp [KL]; split <;> simp
 | false =>
  cases t with
  | land t nm ou bs wb => simp [XF, Yh]; split <;> simp
  | spot t nm u v => simp [XF, Yh]
  | off w t nm => simp [XF, Yh]; split <;> simp
theorem Fr.del (h : Fr p M M') (hq : M q = none) (hne : q ≠ p) : Fr p M (DL.Yy M' q) := ⟨h.1.del (Ne.symm hne), fun a ha hn => by
 rw [JE (fun e => hn (by rw [e]; exact hq))]
 exact h.2 a ha hn⟩
theorem Fr.set (h : Fr p M M') (hq : M q = none) (hne : q ≠ p) : Fr p M (DL.ZM M' q o) := h.new hq hne
theorem Ld (l : List Str) (s : Str) : ((l.map PyData.str).any fun e => PyData.eqv e (.str s)) = decide (s ∈ l) := by
 induction l with
 | nil => rfl
 | cons a l ih =>
  rw [List.map_cons, List.any_cons, ih]
  by_cases e : a = s
  ·subst e;simp [PyData.eqv]
  ·have : (PyData.str a).eqv (.str s) = false := by simp [PyData.eqv, e]
   rw [this, Bool.false_or]
   exact decide_eq_decide.mpr ⟨fun m => List.mem_cons_of_mem _ m, fun m => by
    rcases List.mem_cons.mp m with z | z
    ·exact absurd z.symm e
    ·exact z⟩
theorem ZcZ {l : List Str} {s : Str} (hs : ZA s) (hl : ∀ t ∈ l, ZA t) : okIn (.str s) (l.map PyData.str) = true := by
 have a : PyData.canLayAll0 (l.map PyData.str) = true := (Ut (n := 0) fun d hd => by
  obtain ⟨t, ht, rfl⟩ := List.mem_map.mp hd
  exact ⟨V0 (hl t ht), by simp [PyData.depth]⟩).1
 unfold okIn;rw [V0 hs, a];simp [PyData.depth]
noncomputable def qS (c : Nat) : Str := Str.ofString "q" ++ ⟨#[c]⟩
theorem FF (c : Nat) : (qS c).cps.toList = [113, c] := by
 unfold qS;rw [add_list];rfl
theorem Za7 {c : Nat} (h : 97 <= c /\ c <= 122) : ZA (qS c) := by
 refine ⟨?_, fun d hd => ?_⟩
 ·rw [<- str_len, FF];exact ⟨Nat.le_of_ble_eq_true rfl, Nat.le_of_ble_eq_true rfl⟩
 ·rw [FF] at hd;simp only [List.mem_cons, List.not_mem_nil, or_false] at hd;omega
theorem ZfC {c d : Nat} (h : qS c = qS d) : c = d := by
 have := congrArg (fun s : Str => s.cps.toList) h;simp only [FF] at this
 simpa using this
theorem OP : ((List.range 26).map fun k => qS (97 + k)).Nodup := VH List.nodup_range fun a _ b _ h => by have := ZfC h; omega
theorem lq : (Str.ofString "q").length = 1 := by walk_at "k"
theorem Xn {l : List Str} {Q : PyData -> Prop} {s : Str} (h : l[j]? = some s) (k : Q (.str s)) : KR (l.map PyData.str) (j : Int) Q :=
 VD (d := .str s) (Vj (by rw [List.getElem?_map, h]; rfl)) k
theorem Xf {l : List Str} (h : l.Nodup) {k : Nat} {a : Str} (hj : l[j]? = some a) (hk : l[k]? = some a) : j = k := by
 obtain ⟨h1, e1⟩ := List.getElem?_eq_some_iff.mp hj;obtain ⟨h2, e2⟩ := List.getElem?_eq_some_iff.mp hk;exact (List.getElem_inj h).mp (e1.trans e2.symm)
theorem HC {l : List Str} (h : l.Nodup) (n : Nat) : (l.drop n ++ l.take n).Nodup := by
 have p : (l.drop n ++ l.take n).Perm l := List.perm_append_comm.trans (by rw [List.take_append_drop]);exact p.nodup_iff.mpr h
theorem HL (l : List Str) (r : Int) (h0 : 0 <= r) : DL.cutD (l.map PyData.str) (some r) none ++ DL.cutD (l.map PyData.str) none (some r) = (l.drop r.toNat ++ l.take r.toNat).map PyData.str := by
 obtain ⟨n, rfl⟩ := Int.eq_ofNat_of_zero_le h0;rw [Mc, RE, List.map_append, List.map_drop, List.map_take];rfl
structure Al (kd : Int) (ss os rt : List Str) (A : Nat -> Str -> Prop) : Prop where
 un : ∀ j k a, A j a -> A k a -> j = k
 r : kd = 0 -> ∀ j a, rt[j]? = some a -> A j a
 o : kd = 1 -> ∀ j a, os[j]? = some a -> A j a
 s : kd ≠ 0 -> ∀ j a, ss[j]? = some a -> A j a
theorem ZfF (kd : Int) {os rt : List Str} (hs : ss.Nodup) (ho : Zgb ss os) (hr : rt.Nodup) : ∃ A, Al kd ss os rt A := by
 by_cases e0 : kd = 0
 ·exact ⟨fun j a => rt[j]? = some a, fun j k a h1 h2 => Xf hr h1 h2, fun _ _ _ h => h, fun z => by omega, fun z => absurd e0 z⟩
 ·by_cases e1 : kd = 1
  ·refine ⟨fun j a => ss[j]? = some a \/ os[j]? = some a, fun j k a h1 h2 => ?_, fun z => absurd z e0, fun _ _ _ h => .inr h, fun _ _ _ h => .inl h⟩
   rcases h1 with h1 | h1 <;> rcases h2 with h2 | h2
   ·exact Xf hs h1 h2
   ·exact absurd (List.mem_of_getElem? h1) (ho.ap a (List.mem_of_getElem? h2))
   ·exact absurd (List.mem_of_getElem? h2) (ho.ap a (List.mem_of_getElem? h1))
   ·exact Xf ho.nd h1 h2
  ·exact ⟨fun j a => ss[j]? = some a, fun j k a h1 h2 => Xf hs h1 h2, fun z => absurd z e0, fun z => absurd z e1, fun _ _ _ h => h⟩
structure Dt1 (ss : List Str) (A : Nat -> Str -> Prop) (i : Nat) (ps : List (Str × Str)) : Prop where
 nm : ∀ q ∈ ps, ZA q.1 /\ ZA q.2
 len : ps.length <= i
 lo : ∀ j a, j < i -> ss[j]? = some a -> A j (ndV ps a)
 hi : ∀ j a, i <= j -> ss[j]? = some a -> ndV ps a = a
theorem Dt1.put (hs : ss.Nodup) {A : Nat -> Str -> Prop} (h : Dt1 ss A i ps) {a b : Str} (ha : ss[i]? = some a) (na : ZA a) (nb : ZA b) (hb : A i b) : Dt1 ss A (i + 1) (K2 ps a b) := by
 refine ⟨GI h.nm ⟨na, nb⟩, by have := UK ps a b; have := h.len; omega, fun j c hj hc => ?_, fun j c hj hc => ?_⟩
 ·rw [B0]
  by_cases e : j = i
  ·subst e;rw [hc] at ha;cases ha;rw [if_pos rfl];exact hb
  ·rw [if_neg fun z : c = a => e (Xf hs (by rw [<- z]; exact hc) ha)];exact h.lo j c (by omega) hc
 ·have e : j ≠ i := by omega
  rw [B0, if_neg fun z : c = a => e (Xf hs (by rw [<- z]; exact hc) ha)];exact h.hi j c (by omega) hc
theorem Dt1.no {A : Nat -> Str -> Prop} (h : Dt1 ss A i ps) (hA : ∀ a, ss[i]? = some a -> A i a) : Dt1 ss A (i + 1) ps := by
 refine ⟨h.nm, by have := h.len; omega, fun j c hj hc => ?_, fun j c hj hc => h.hi j c (by omega) hc⟩
 by_cases e : j = i
 ·subst e;rw [h.hi j c (Nat.le_refl _) hc];exact hA c hc
 ·exact h.lo j c (by omega) hc
theorem CU : ∀ (l : List (Str × PyData)) (m : List (Key × PyData)), (l.map (·.1)).Nodup -> (∀ p ∈ l, ∀ q ∈ m, q.1 ≠ .inr p.1) -> l.foldl (fun m p => Xg m (.inr p.1) p.2) m = m ++ l.map fun p => ((.inr p.1 : Key), p.2)
 | [], m, _, _ => by simp
 | p :: l, m, hn, hd => by
  rw [List.map_cons, List.nodup_cons] at hn;have e : Xg m (.inr p.1) p.2 = m ++ [(.inr p.1, p.2)] := by
   unfold Xg;rw [if_neg];intro z;obtain ⟨q, hq, e⟩ := List.any_eq_true.mp z;exact hd p List.mem_cons_self q hq (of_decide_eq_true e)
  rw [List.foldl_cons, e, CU l _ hn.2 fun p' hp' q hq => ?_]
  ·simp
  ·rcases List.mem_append.mp hq with hq | hq
   ·exact hd p' (List.mem_cons_of_mem _ hp') q hq
   ·rw [List.mem_singleton.mp hq];intro z;exact hn.1 (List.mem_map.mpr ⟨p', hp', (Sum.inr.inj z).symm⟩)
theorem TV {r : Addr} {o2 o3 : OO} (h : ZM M q o r = none) : ZM (Yy (ZM (ZM M q o) r o2) r) q o3 = ZM M q o3 := by
 rw [J5 h, UG]
theorem EH (ss : List Str) (ps : List (Str × Str)) (h : (ss.map (ndV ps)).Nodup) : Fj (ss.map fun n => (ndV ps n, PyData.str n)) = ndK (bkP ps ss) := by
 unfold Fj;rw [CU _ _ (by rw [List.map_map]; exact h) fun p _ q hq => by cases hq];unfold ndK bkP;rw [List.nil_append, List.map_map, List.map_map];rfl
theorem Wl {α β : Type} {f g : α -> List β} : ∀ {l : List α}, (∀ x ∈ l, f x = g x) -> l.flatMap f = l.flatMap g
 | [], _ => rfl
 | a :: l, h => by rw [List.flatMap_cons, List.flatMap_cons, h a List.mem_cons_self, Wl fun x hx => h x (List.mem_cons_of_mem _ hx)]
theorem Zga {f g : Str -> Str} (ts : List Tl) : thN (ts.map (reT f g)) = (thN ts).map f := by
 unfold thN;rw [List.flatMap_map, List.map_flatMap]
 congr 1
 funext x
 cases x with
 | land t nm ou bs wb => rfl
 | spot t nm u v => rfl
 | off w t nm =>
  simp only [reT, KL]
  split <;> rfl
theorem Zf6 {f g : Str -> Str} {ts : List Tl} (h0 : ∀ x ∈ ts, ∀ s ∈ Yh x, g s ≠ Str.ofString "") (he : g (Str.ofString "") = Str.ofString "") : laN (ts.map (reT f g)) = (laN ts).map g := by
 unfold laN;rw [List.map_append, List.flatMap_map, List.flatMap_map, List.map_flatMap, List.map_flatMap]
 congr 1
 ·congr 1
  funext x
  cases x with
  | land t nm ou bs wb => rfl
  | spot t nm u v => rfl
  | off w t nm =>
   simp only [reT, XF]
   split <;> rfl
 ·refine Wl fun x hx => ?_;have := h0 x hx;cases x with
  | land t nm ou bs wb =>
   by_cases e : ou = Str.ofString ""
   ·simp only [reT, Yh, e, he, if_pos, List.map_nil]
   ·have n := this ou (by simp only [Yh, if_neg e]; exact .head _);simp only [reT, Yh, if_neg e, if_neg n, List.map_cons, List.map_nil]
  | spot t nm u v => rfl
  | off w t nm => rfl
theorem Kt : ∀ {ss : List Str}, (∀ a ∈ ss, ∀ b ∈ ss, ndV ps a = ndV ps b -> a = b) -> ∀ n ∈ ss, ndV (bkP ps ss) (ndV ps n) = n
 | [], _, n, hn => nomatch hn
 | a :: ss, h, n, hn => by
  show ((((ndV ps a, a) :: ss.map fun n => (ndV ps n, n)).find? fun q => decide (q.1 = ndV ps n)).map (·.2)).getD (ndV ps n) = n
  by_cases e : ndV ps a = ndV ps n
  ·rw [List.find?_cons_of_pos (by simpa using e)];exact h a List.mem_cons_self n hn e
  ·rw [List.find?_cons_of_neg (by simpa using e)];have m : n ∈ ss := by
    rcases List.mem_cons.mp hn with z | z
    ·exact absurd (by rw [z]) e
    ·exact z
   exact Kt (fun x hx y hy => h x (List.mem_cons_of_mem _ hx) y (List.mem_cons_of_mem _ hy)) n m
theorem DOk.of {ns : List Str} (h : DOk ss ps) (hm : ∀ z, z ∈ ns -> z ∈ ss) : DOk ns ps := ⟨h.nm, h.len, fun a ha b hb => h.inj a (hm a ha) b (hm b hb)⟩
theorem Zdo (h : DOk ss ps) (hl : ss.length <= 60) (hn : ∀ s ∈ ss, ZA s) {ns : List Str} (hm : ∀ z, z ∈ ns -> z ∈ ss.map (ndV ps)) : DOk ns (bkP ps ss) := by
 refine ⟨fun q hq => ?_, by unfold bkP; rw [List.length_map]; exact hl, fun a ha b hb e => ?_⟩
 ·obtain ⟨n, m, rfl⟩ := List.mem_map.mp hq;exact ⟨Vd h.nm (hn n m), hn n m⟩
 ·obtain ⟨n, mn, rfl⟩ := List.mem_map.mp (hm a ha);obtain ⟨k, mk, rfl⟩ := List.mem_map.mp (hm b hb);rw [Kt h.inj n mn, Kt h.inj k mk] at e;rw [e]
theorem Tg (s : Str) : ndV [] s = s := rfl
theorem ZdF (ts : List Tl) : ts.map (reT (ndV []) (ndV [])) = ts := by
 rw [List.map_congr_left (g := id) fun x _ => ?_, List.map_id];cases x with
 | land t nm ou bs wb => rfl
 | spot t nm u v => rfl
 | off w t nm =>
  simp only [reT, Tg, ite_self];rfl
theorem DOk.nil (ss : List Str) : DOk ss [] := ⟨fun q hq => (nomatch hq), Nat.zero_le _, fun a _ b _ e => e⟩
theorem S2 {rs bs cs : List (Str × Str)} {ts : List Tl} (h1 : ∀ s ∈ thN ts, ndV bs (ndV ps s) = s) (h2 : ∀ s ∈ laN ts, ndV cs (ndV rs s) = s) (he : ndV cs (ndV rs (Str.ofString "")) = Str.ofString "") :
  (ts.map (reT (ndV ps) (ndV rs))).map (reT (ndV bs) (ndV cs)) = ts := by
 rw [List.map_map, List.map_congr_left (f := reT (ndV bs) (ndV cs) ∘ reT (ndV ps) (ndV rs)) (g := id) fun x hx => ?_, List.map_id];have m1 : ∀ s ∈ KL x, ndV bs (ndV ps s) = s := fun s hs => h1 s (List.mem_flatMap.mpr ⟨x, hx, hs⟩);have m2 : ∀ s ∈ XF x, ndV cs (ndV rs s) = s := fun s hs => h2 s (List.mem_append_left _ (List.mem_flatMap.mpr ⟨x, hx, hs⟩));have m3 : ∀ s ∈ Yh x, ndV cs (ndV rs s) = s := fun s hs => h2 s (List.mem_append_right _ (List.mem_flatMap.mpr ⟨x, hx, hs⟩));cases x with
 | land t nm ou bs' wb =>
  have e2 := m2 nm (.head _);have e3 : ndV cs (ndV rs ou) = ou := by
   by_cases e : ou = Str.ofString ""
   ·rw [e];exact he
   ·exact m3 ou (by simp only [Yh, if_neg e]; exact .head _)
  show Tl.land t (ndV cs (ndV rs nm)) (ndV cs (ndV rs ou)) bs' wb = _;rw [e2, e3];rfl
 | spot t nm u v =>
  show Tl.spot t (ndV bs (ndV ps nm)) u v = _;rw [m1 nm (.head _)];rfl
 | off w t nm =>
  by_cases e : w = Str.ofString "free"
  ·have := m1 nm (by simp only [KL, if_pos e]; exact .head _);simp only [Function.comp, reT, if_pos e, this];rfl
  ·have := m2 nm (by simp only [XF, if_neg e]; exact .head _);simp only [Function.comp, reT, if_neg e, this];rfl
theorem PH : ∀ {ps : List (Str × Str)}, (∀ q ∈ ps, ZA q.1 /\ ZA q.2) -> PyData.showableKv ((ndK ps).map fun q => (kD q.1, q.2)) = true /\ Q6 ((ndK ps).map fun q => (kD q.1, q.2)) = false /\ PyData.depthKv ((ndK ps).map fun q => (kD q.1, q.2)) = 0 /\ YM ((ndK ps).map fun q => (kD q.1, q.2)) <= 168 * ps.length
 | [], _ => by
  refine ⟨by simp [ndK, PyData.showableKv], by simp [ndK, Q6], by simp [ndK, PyData.depthKv], by simp [ndK, YM]⟩
 | (a, b) :: ps, h => by
  obtain ⟨i1, i2, i3, i4⟩ := PH (ps := ps) fun q hq => h q (List.mem_cons_of_mem _ hq);obtain ⟨na, nb⟩ := h (a, b) List.mem_cons_self;have pa := pNm na;have pb := pNm nb;rw [show ((ndK ((a, b) :: ps)).map fun q => (kD q.1, q.2)) = (PyData.str a, PyData.str b) :: ((ndK ps).map fun q => (kD q.1, q.2)) from rfl];generalize ((ndK ps).map fun q => (kD q.1, q.2)) = l at *;dsimp only at pa pb;refine ⟨?_, ?_, ?_, ?_⟩
  ·simp only [PyData.showableKv, pa.s, pb.s, i1, Bool.and_self]
  ·simp only [Q6, pa.nl, pb.nl, i2, Bool.or_self]
  ·have d1 : (PyData.str a).depth = 0 := by simp [PyData.depth]
   have d2 : (PyData.str b).depth = 0 := by simp [PyData.depth]
   simp only [PyData.depthKv, d1, d2, i3, Nat.max_self]
  ·have c1 := pa.z;have c2 := pb.z;simp only [YM, List.length_cons];omega
theorem Zc7 (h : ∀ q ∈ ps, ZA q.1 /\ ZA q.2) (hl : ps.length <= 60) : Od 1 10082 (ndD ps) := by
 obtain ⟨a, b, c, d⟩ := PH h;unfold ndD kvD;refine ⟨by rw [PyData.showable]; exact a, ?_, by rw [PyData.depth, c]; exact Nat.le_refl 1, ?_⟩
 ·rw [Z3, b, Bool.and_false]
 ·rw [cost];omega
theorem Zdj {ts : List Tl} {rs : List (Str × Str)} (h : QD ts) (hp : NmP ps) (hr : NmP rs) : (∀ d ∈ [PyData.list (ts.map tlD), PyData.list [ndD ps, ndD rs]], ZaG d) /\ (PyData.tuple [.list (ts.map tlD), .list [ndD ps, ndD rs]]).depth <= 64 /\ (PyData.tuple [.list (ts.map tlD), .list [ndD ps, ndD rs]]).shown.length <= 16777216 := by
 have o1 := Zc7 hp.1 hp.2;have o2 := Zc7 hr.1 hr.2
 have o := Od.lst (Pls.all (k := 20) (n := 63000) (m := 20) (l := ts.map tlD) (by rw [List.length_map]; exact h.1) fun d hd => by
  obtain ⟨x, hx, rfl⟩ := List.mem_map.mp hd
  exact ZdU (h.2 x hx))
 refine ⟨fun d hd => ?_, ?_, ?_⟩
 ·rcases List.mem_cons.mp hd with rfl | hd
  ·exact .inl (XO h)
  ·rw [List.mem_singleton.mp hd];refine .inr ⟨_, _, rfl, fun x hx => ?_⟩
   rcases List.mem_cons.mp hx with rfl | hx
   ·exact o1.shw (by decide) (by decide)
   ·rw [List.mem_singleton.mp hx];exact o2.shw (by decide) (by decide)
 ·have a := o.dp;have b := o1.dp;have c := o2.dp;rw [PyData.depth] at a;simp only [PyData.depth, PyData.depthAll];omega
 ·refine Nat.le_trans (Jv _ ?_) ?_
  ·have a := o.s;rw [PyData.showable] at a;simp only [PyData.showable.eq_6, PyData.showableAll, PyData.showable.eq_5, a, o1.s, o2.s, Bool.and_self]
  ·have a := o.z;have b := o1.z;have c := o2.z;rw [cost] at a;simp only [cost, Qt];omega
local macro_rules | `(tactic| walk_at "rk") => `(tactic| try simp (config := { maxSteps := 10000000 }) only [↓Oz, ↓NC, ↓MZ, ↓Oc, ↓NV, ↓OC, ↓Of, ↓Nb, ↓Hg, ↓RJ, ↓Tu, ↓Zad, ↓Zav, ↓Zar, ↓O9, ↓NX, ↓N8, ↓O2, ↓NK, ↓OX, ↓Nk, ↓M0, ↓MX, ↓Oa, ↓ZaL, ↓Zil, ↓ZgP, ↓Zfs, ↓Zis, ↓Nh, ↓Zbb, ↓Zfc, ↓Zcn, ↓RF, ↓ZbW, ↓Th, ↓ZbF, ↓Zgp, ↓ZcO, ↓Zc2, ↓SR, ↓Zef, ↓ZbG, ↓Sz, ↓Zdk, ↓Nt, ↓MA, ↓OY, ↓Ox, ↓Ng, ↓OH, ↓ZcV, ↓ZgA, ↓TZ, ↓Nl, ↓OG, ↓Zah, ↓Zcj, ↓Nf, ↓Ee, ↓OU, ↓ZdI, ↓ZcM, ↓Ts, ↓FY, ↓T8, ↓Rp, ↓ZdZ, ↓RA, ↓Zdu, ↓ZcR, ↓V5, ↓D4, ↓BX, ↓NU, ↓Ow, ↓S4, ↓Ro, ↓Zed, ↓HD, ↓Zaj, ↓OZ, ↓R4, ↓Nm, ↓ZcG, ↓ZaZ, ↓SM, ↓Rv, ↓MK, ↓Nc, ↓R7, ↓Zeu, ↓NW, ↓NF, ↓Zce, ↓HV, ↓To, ↓OD, ↓Dj, ↓ZdB, ↓OK, ↓T3, ↓GX, E2, Fo, O3, OB, MI, C1, XA, HE, Zf8, MY, Zdq, PR, Pd, Rf, ZbM, isNone_none, Bf, EI, Es, BA, U2, Bi,
 Option.bind_some, Option.bind_none, Option.join_some, Option.join_none, Option.getD_some, Option.map_some, Option.map_none, List.getElem?_cons_zero, List.getElem?_cons_succ, List.set_cons_zero, List.set_cons_succ, List.map_cons, List.map_nil, List.length_cons, List.length_nil, List.replicate, List.cons_append, List.nil_append, List.any_cons, List.any_nil,
 Zv, UG, ↓reduceIte, Bool.not_true, Bool.not_false, Bool.or_false, Bool.or_true, Bool.true_or, Bool.false_or, Bool.and_true, Bool.and_false, Bool.true_and, Bool.false_and, Bool.bne_true, Bool.bne_false, Bool.false_eq_true, eq_self, true_and, and_true, ZbR, Zet, Zby, exists_eq_left', exists_eq_left, Option.some.injEq, Nat.reduceAdd, Nat.reduceSub, Nat.zero_add, Nat.reduceLT, Nat.reduceLeDiff, Int.reduceToNat, Int.reducePow, Int.reduceSub, Int.reduceMul, Int.reduceAdd, Int.reduceNeg,
 Int.reduceLT, Int.reduceLE, Int.reduceEq, Int.zero_add, Int.cast_ofNat_Int, decide_true, decide_false, sizeLine_eq, R3, Mw, Zev, Zd8, Ze8, Zfk, ZgE, Ze6, ZgH, ZgK, B2, Cj, DQ, D7, BV, GH, Bv, GK, GG, BO, BD, GO, WI, U9, W4, Uv, UO, U3, WL, KS, Uc, G2, UM, B1, Cn, Gm, WT, GQ, Bn, G9, Et, EE, Ci, Gp, BM, U1, Gh, Bh, G5, UX, W6, UI, ↓Du, ↓Nd, ↓MB, ↓Ov, Zag, RU, ↓ZfB, ↓Zc3, ↓ZdO, ↓Zbo, ↓ZdG, ↓Lb, ↓Ze2, ↓Sv, ↓Zfj, ↓ZaR, ↓Ms, ↓RG, ↓SG, ↓G4, ↓Hx, ↓Zc1, ↓Zal, ↓NI, ↓Sd, ↓ZdL, ↓Zax, ↓L5, ↓Tw, ↓TX, ↓OJ, ↓SW, ↓TJ, ↓L4, ↓Ny, RR, ↓NO, ↓LS, ↓L8, ↓WH, ↓Ba, ↓Hs, ↓N7, ↓MO, ↓Bc, ↓Fs, ↓OR, ↓Rn, ↓Lm, ↓O0, ↓Oo, ↓Sx, ↓MH, ↓ND, ↓Zas, Zbr, Zdm, ↓UB, ↓Ua, ↓Sl, ↓Sw, ↓ZcN, ↓ZaU, ↓Eg, ↓Zc0, ↓Zba, ↓Me, ↓RQ, ↓FJ, ↓HS, ↓Eh, ↓SU, ↓ZbT, ↓Dj, ↓GX, ZcU, ZdM, ZcW, Sj, S7, ↓Bz, ↓Eo, ↓UT, ↓BS, ↓EC, ↓Fe, ↓Fw, ↓D0, ↓U7, ↓Ei, ↓Oi, ↓BL, ↓Ob, ↓Ky, ↓Ge])
theorem Ye (T : Tx K mg) : ZD P w K mg base CX0 1 T.J0 T.J7 ["thing"] (lift K spW) := by
 refine okD T.ZU.F B3 (fun xs M Φ h => by obtain ⟨_, rfl, _⟩ := Zw h; rfl) fun cdv A outer s H E hr => ⟨_, (Zh (Zp (QE (Zk (Ko (Sy _)) rfl T.Qg Z8 (Za (Zb 0) (Za (Ca rfl T.Zfo Zbl) Zd))) (JO (Zec (Zk (Ko (NN _)) rfl T.Qg Z8 (Za (Zb 0) (Za (Ca rfl T.Zcq T5) Zd)))))))), fun xs M Φ h => ?_⟩;replace h := Zw h;obtain ⟨x1, rfl, h⟩ := h;replace h := ZX h;obtain ⟨d, rfl, h⟩ := h;walk_at "rk";cases d <;> simpa [ZJ, tyN, ZY] using h
theorem Ke (T : Tx K mg) : ZD P w K mg base CX0 2 T.VR T.VY ["thing"] (lift K ZeU) := by
 have G_is_whole : ZD P w K mg base CX0 1 T.J0 T.J7 ["thing"] (lift K spW) := Ye T;refine okD T.Qa.F B6 (fun xs M Φ h => by obtain ⟨_, rfl, _⟩ := Zw h; rfl) fun cdv A outer s H E hr => ⟨_, (Zh (Zp (QE (Zg G_is_whole (hr.mono (by walk_at "w")) rfl T.ZU.m T.ZU.F.kp T.ZU.b Zm (Za (Zb 0) Zd)) (JO (Uq Kd Kd (Pz (YN rfl T.P6)) (Zb 0) (YN rfl T.P6)))))), fun xs M Φ h => ?_⟩;replace h := Zw h;obtain ⟨x1, rfl, h⟩ := h;replace h := ZX h;obtain ⟨d, rfl, h⟩ := h;walk_at "rk";cases d with
 | int i =>
  walk_at "rk";simp only [ZY];walk_at "rk";refine Zn (fun h1 => ?_) fun h1 => ?_
  ·simpa [ZH, h1] using h
  ·simpa [ZH, h1] using h
 | _ => simpa [ZY, ZH] using h
theorem KU (T : Tx K mg) : ZD P w K mg base CX0 2 T.Vo T.Vl ["thing"] (lift K ZgB) := by
 have G_is_whole : ZD P w K mg base CX0 1 T.J0 T.J7 ["thing"] (lift K spW) := Ye T;refine okD T.Jo.F KY (fun xs M Φ h => by obtain ⟨_, rfl, _⟩ := Zw h; rfl) fun cdv A outer s H E hr => ⟨_, (Zh (Zp (QE (Zk (Ko (kit_tuple _)) rfl T.Qg Z8 (Za (Zb 0) (Za (Ca rfl T.Vf Jq) Zd))) (QE (Jm (Yg hr) (Zk Qp rfl T.Jc Qh (Za (Zb 0) Zd)) Zc) (QE (Zg G_is_whole (hr.mono (by walk_at "w")) rfl T.ZU.m T.ZU.F.kp T.ZU.b Zm (Za (Zl (Zb 0) Zc) Zd)) (JO (Zg G_is_whole (hr.mono (by walk_at "w")) rfl T.ZU.m T.ZU.F.kp T.ZU.b Zm (Za (Zl (Zb 0) Zc) Zd)))))))), fun xs M Φ h => ?_⟩;replace h := Zw h;obtain ⟨x1, rfl, h⟩ := h;replace h := ZX h;obtain ⟨d, rfl, h⟩ := h;cases d with
 | tuple ds =>
  walk_at "rk";rw [Zhk];refine Zn (fun h1 => ?_) fun h1 => ?_
  ·obtain ⟨a, b, rfl⟩ := Gs h1;walk_at "rk";cases q : ZY a with
   | true =>
    walk_at "rk"
    simpa [V9, q] using h
   | false =>
    walk_at "rk"
    simpa [V9, q] using h
  ·rw [(UC h1).1] at h;exact h
 | _ =>
  walk_at "rk";exact h
theorem Wr (T : Tx K mg) : ZD P w K mg base CX0 3 T.YY T.Y2 ["thing"] (lift K ZeG) := by
 have G_is_any_spot : ZD P w K mg base CX0 2 T.Vo T.Vl ["thing"] (lift K ZgB) := KU T;have G_is_short : ZD P w K mg base CX0 2 T.VR T.VY ["thing"] (lift K ZeU) := Ke T;refine okD T.Qq.F DY (fun xs M Φ h => by obtain ⟨_, rfl, _⟩ := Zw h; rfl) fun cdv A outer s H E hr => ⟨_, (Zh (Zp (QE (Zg G_is_any_spot (hr.mono (by walk_at "w")) rfl T.Jo.m T.Jo.F.kp T.Jo.b Zm (Za (Zb 0) Zd)) (QE (Zg G_is_short (hr.mono (by walk_at "w")) rfl T.Qa.m T.Qa.F.kp T.Qa.b Zm (Za (Zl (Zb 0) Zc) Zd)) (JO (Zg G_is_short (hr.mono (by walk_at "w")) rfl T.Qa.m T.Qa.F.kp T.Qa.b Zm (Za (Zl (Zb 0) Zc) Zd))))))), fun xs M Φ h => ?_⟩;replace h := Zw h;obtain ⟨x1, rfl, h⟩ := h;replace h := ZX h;obtain ⟨d, rfl, h⟩ := h;walk_at "rk";cases q : V9 d with
 | false =>
  walk_at "rk";rw [CW q] at h;exact h
 | true =>
  obtain ⟨x, y, rfl⟩ := PQ q;walk_at "rk";replace h : Φ (.dat (.bool (ZH (.int x) && ZH (.int y)))) M := h;cases q1 : ZH (.int x) with
  | false =>
   rw [q1] at h;walk_at "rk";exact h
  | true =>
   rw [q1] at h;walk_at "rk";exact h
theorem GD (T : Tx K mg) : ZD P w K mg base CX0 1 T.Yv T.Yf ["box"] (lift K ZaB) := by
 refine okD T.Vi.F UH (fun xs M Φ h => by obtain ⟨_, rfl, _⟩ := Zw h; rfl) fun cdv A outer s H E hr => ⟨_, (Zh (Zp (QE (Jm Kd (Zl (Zl (Zb 0) Zc) Zc) (Zl (Zl (Zb 0) Zc) Zc)) (JO (Jm Kd (Zl (Zl (Zb 0) Zc) Zc) (Zl (Zl (Zb 0) Zc) Zc)))))), fun xs M Φ h => ?_⟩;replace h := Zw h;obtain ⟨x1, rfl, h⟩ := h;replace h := UJ h;obtain ⟨b, rfl, h⟩ := h;walk_at "rk";refine Zn (fun h1 => ?_) (fun h1 => ?_)
 ·unfold okB at h
  simpa [h1] using h
 ·unfold okB at h
  simpa [h1] using h
theorem HZ (T : Tx K mg) : ZD P w K mg base CX0 4 T.WB T.WW ["thing"] (lift K Zfr) := by
 have G_is_spot : ZD P w K mg base CX0 3 T.YY T.Y2 ["thing"] (lift K ZeG) := Wr T;have G_has_spots : ZD P w K mg base CX0 1 T.Yv T.Yf ["box"] (lift K ZaB) := GD T
 refine okD T.XJ.F Hf (fun xs M Φ h => by obtain ⟨_, rfl, _⟩ := Zw h; rfl) fun cdv A outer s H E hr => ⟨_, (Zf (Qb (DW.dt (KQ (QS (QR (Zk (Ko (kit_tuple _)) rfl T.Qg Z8 (Za (Zb 0) (Za (Ca rfl T.Vf Jq) Zd))))) (Ya (ZG (Zf2 hr) (Zk Qp rfl T.Jc Qh (Za (Zb 0) Zd)) Zc)))) (Zh (Zp KP)) Zy)
 (Zh (Zp (QE (Zg G_is_spot (hr.mono (by walk_at "w")) rfl T.Qq.m T.Qq.F.kp T.Qq.b Zm (Za (Zl (Zb 0) Zc) Zd)) (QE (Zg G_is_spot (hr.mono (by walk_at "w")) rfl T.Qq.m T.Qq.F.kp T.Qq.b Zm (Za (Zl (Zb 0) Zc) Zd)) (JO (Zg G_has_spots (hr.mono (by walk_at "w")) rfl T.Vi.m T.Vi.F.kp T.Vi.b Zm (Za (Zb 0) Zd)))))))), fun xs M Φ h => ?_⟩
 replace h := Zw h;obtain ⟨x1, rfl, h⟩ := h;replace h := ZX h;obtain ⟨d, rfl, h⟩ := h;cases d with
 | tuple ds =>
  walk_at "h";rw [Zhk]
  by_cases h1 : ds.length = 2
  ·obtain ⟨a, b, rfl⟩ := Gs h1;replace h : Φ (.dat (.bool (QH a && (QH b && okB (toB (.tuple [a, b])))))) M := h;subst_vars;walk_at "rk";cases q : QH a with
   | false =>
    rw [q] at h;walk_at "rk";exact h
   | true =>
    rw [q] at h;walk_at "rk";cases q2 : QH b with
    | false =>
     rw [q2] at h;walk_at "rk";exact h
    | true =>
     rw [q2] at h;obtain ⟨x, y, rfl, _⟩ := Uz q;obtain ⟨x', y', rfl, _⟩ := Uz q2;walk_at "rk";exact h
  ·rw [decide_eq_false h1];rw [(UC h1).2.2] at h;walk_at "rk";exact h
 | _ =>
  walk_at "rk";exact h
theorem Zc4 (T : Tx K mg) : ZD P w K mg base CX0 1 T.Tp T.SF ["one", "other", "way"] (lift K Rz) := by
 refine okD T.B9.F Zej (fun xs M Φ h => by obtain ⟨_, _, _, rfl, _⟩ := JF h; rfl) fun cdv A outer s H E hr => ⟨_, (Zh (Zp (Zk (S3 rfl) rfl T.Zab E5 (Za Zc (Za (Zj QP (Zl (Zl (Zb 1) Zc) (Zb 2)) (Zl (Zl (Zb 0) Zc) (Zb 2))) (Za (Zj QP (Zl (Zl (Zb 0) Zc) (Zb 2)) (Zl (Zl (Zb 1) Zc) (Zb 2))) Zd)))))), fun xs M Φ h => ?_⟩;replace h := JF h;obtain ⟨x1, x2, x3, rfl, h⟩ := h;replace h := UJ h;obtain ⟨a, rfl, h⟩ := h;replace h := UJ h;obtain ⟨b, rfl, h⟩ := h;replace h := ZS h;obtain ⟨i, rfl, hi, h⟩ := h
 rcases hi with rfl | rfl
 ·walk_at "rk";exact h
 ·walk_at "rk";exact h
theorem XE (T : Tx K mg) : ZD P w K mg base CX0 2 T.JB T.JJ ["one", "other"] (lift K Kx) := by
 have G_gap : ZD P w K mg base CX0 1 T.Tp T.SF ["one", "other", "way"] (lift K Rz) := Zc4 T;refine okD T.QI.F XG (fun xs M Φ h => by obtain ⟨_, _, rfl, _⟩ := ZO h; rfl) fun cdv A outer s H E hr => ⟨_, (Zh (Zp (Zk (Sq rfl) rfl T.Zab E5 (Za (Zg G_gap (hr.mono (by walk_at "w")) rfl T.B9.m T.B9.F.kp T.B9.b Zm (Za (Zb 0) (Za (Zb 1) (Za Zc Zd)))) (Za (Zg G_gap (hr.mono (by walk_at "w")) rfl T.B9.m T.B9.F.kp T.B9.b Zm (Za (Zb 0) (Za (Zb 1) (Za Zc Zd)))) Zd))))), fun xs M Φ h => ?_⟩;replace h := ZO h;obtain ⟨x1, x2, rfl, h⟩ := h;replace h := UJ h;obtain ⟨a, rfl, h⟩ := h;replace h := UJ h;obtain ⟨b, rfl, h⟩ := h;walk_at "rk";exact ⟨.inl trivial, .inr trivial, h⟩
theorem BR (T : Tx K mg) : ZD P w K mg base CX0 3 T.Xe T.Y7 ["boxes"] (lift K Cp) := by
 have G_steps_between : ZD P w K mg base CX0 2 T.JB T.JJ ["one", "other"] (lift K Kx) := XE T;refine okD T.VS.F G8 (fun xs M Φ h => by obtain ⟨_, rfl, _⟩ := Zw h; rfl) fun cdv A outer s H E hr => ⟨_, (Zh (Zp (Zk (Gf rfl) rfl T.H9 Gg (Za (Qc false (Zx (sc := Ze QY) (XN := ["boxes"]) (N := ["k", "boxes"]) (ix := [none, some 0]) rfl rfl (by walk_at "k")) (HG rfl T.QF (Za Zc (Za (Zk Qp rfl T.Jc Qh (Za (Zb 0) Zd)) Zd))) (fun C ex s H => (Zu 0 (show List.Nodup (["k", "boxes"] : List Str) by walk_at "k"))) (fun C ex s H => Z7) (fun C ex s H => (Jm Kd (Zg G_steps_between (hr.mono (by walk_at "w")) rfl T.QI.m T.QI.F.kp T.QI.b Zm (Za (Zl (Zb 1) (Zj QP (Zb 0) Zc)) (Za (Zl (Zb 1) (Zb 0)) Zd))) Zc)) rfl) Zd)))), fun xs M Φ h => ?_⟩;replace h := Zw h;obtain ⟨x1, rfl, h⟩ := h;replace h := TY h;obtain ⟨bs, rfl, hl, h⟩ := h;walk_at "rk";rw [List.length_map];refine ⟨⟨⟨by decide, by decide⟩, ⟨by omega, by omega⟩⟩, by rw [Z0]; omega, fun i acc M' => acc = ((List.range i).map (stB bs)).map PyData.bool /\ M' = M, ⟨rfl, rfl⟩, ?_, ?_⟩
 ·rintro i d acc M' hd ⟨rfl, rfl⟩;have hi : i < ((bs.length : Int) - 1).toNat := by have := (List.getElem?_eq_some_iff.mp hd).1; rw [Z0] at this; exact this
  rw [YF hi] at hd;cases hd;walk_at "rk";have hi' : i + 1 < bs.length := by omega
  have e1 : L2.atI (bs.map bD) (1 + (i : Int) - 1) = some (bD bs[i]) := by
   rw [show 1 + (i : Int) - 1 = (i : Int) by omega];exact Vj (by rw [List.getElem?_map, List.getElem?_eq_getElem (by omega)]; rfl)
  have e2 : L2.atI (bs.map bD) (1 + (i : Int)) = some (bD bs[i + 1]) := by
   rw [show 1 + (i : Int) = ((i + 1 : Nat) : Int) by omega];exact Vj (by rw [List.getElem?_map, List.getElem?_eq_getElem (by omega)]; rfl)
  refine VD e1 (VD e2 ?_);walk_at "rk";rw [List.range_succ, List.map_append, List.map_append];unfold stB;simp [List.getElem?_eq_getElem, hi', show i < bs.length by omega]
 ·rintro acc M' ⟨rfl, rfl⟩;refine ⟨_, rfl, ?_⟩;rw [Z0, List.all_map, show ((bs.length : Int) - 1).toNat = bs.length - 1 by omega];rw [ET] at h;exact h
theorem BH (T : Tx K mg) : ZD P w K mg base CX0 5 T.Xv T.Xb ["thing"] (lift K Cg) := by
 have G_is_chain : ZD P w K mg base CX0 3 T.Xe T.Y7 ["boxes"] (lift K Cp) := BR T;have G_is_box : ZD P w K mg base CX0 4 T.WB T.WW ["thing"] (lift K Zfr) := HZ T
 refine okD T.V4.F Bw (fun xs M Φ h => by obtain ⟨_, rfl, _⟩ := Zw h; rfl) fun cdv A outer s H E hr => ⟨_, (Zf (Qb (DW.dt (KQ (QS (QR (Zk (Ko (kit_tuple _)) rfl T.Qg Z8 (Za (Zb 0) (Za (Ca rfl T.Vf Jq) Zd))))) (Ya (QS (CV Kd Kd Zc (Zk Qp rfl T.Jc Qh (Za (Zb 0) Zd)) (YN rfl T.GN)))))) (Zh (Zp KP)) Zy)
 (Zh (Zp (QE (Zk (Gf rfl) rfl T.H9 Gg (Za (Qc false (Zx (sc := Ze QV) (XN := ["thing"]) (N := ["box"]) (ix := [none]) rfl rfl (by walk_at "k")) (Zep (Zb 0)) (fun C ex s H => (Zu 0 (show List.Nodup (["box"] : List Str) by walk_at "k"))) (fun C ex s H => Z7) (fun C ex s H => (Zg G_is_box (hr.mono (by walk_at "w")) rfl T.XJ.m T.XJ.F.kp T.XJ.b Zm (Za (Zb 0) Zd))) rfl) Zd)) (JO (Zg G_is_chain (hr.mono (by walk_at "w")) rfl T.VS.m T.VS.F.kp T.VS.b Zm (Za (Zb 0) Zd))))))), fun xs M Φ h => ?_⟩
 replace h := Zw h;obtain ⟨x1, rfl, h⟩ := h;replace h := ZX h;obtain ⟨d, rfl, h⟩ := h;cases d with
 | tuple ds =>
  walk_at "h";refine Zn (fun h1 => Gk (fun h2 => ?_) fun h2 => ?_) fun h1 => ?_
  ·rw [GY (.inr h2)] at h;exact h
  ·have e : Jn (.tuple ds) = (ds.all Vw && chB (ds.map toB)) := by
    show ((decide (1 <= ds.length) && decide (ds.length <= 6)) && _) = _;rw [decide_eq_true (show 1 <= ds.length by omega), decide_eq_true (show ds.length <= 6 by omega)];rfl
   rw [e] at h;subst_vars;walk_at "rk";refine ⟨by omega, fun i acc M' => acc = ((ds.take i).map Vw).map PyData.bool /\ M' = M, ⟨rfl, rfl⟩, ?_, ?_⟩
   ·rintro i d acc M' hd ⟨rfl, rfl⟩;walk_at "rk";rw [<- take_snoc _ hd, List.map_append];rfl
   ·rintro acc M' ⟨rfl, rfl⟩;refine ⟨_, rfl, ?_⟩;rw [List.take_length, List.all_map];show if ds.all Vw = true then _ else _
    cases q : ds.all Vw with
    | false =>
     rw [q] at h;walk_at "rk";exact h
    | true =>
     rw [q] at h;obtain ⟨bs, rfl⟩ := C3 q;rw [Kn] at h;walk_at "rk";rw [List.length_map] at h2;exact ⟨by omega, h⟩
  ·rw [GY (.inl h1)] at h;exact h
 | _ =>
  walk_at "rk";exact h
theorem EG (T : Tx K mg) : ZD P w K mg base CX0 2 T.XQ T.XT ["thing"] (lift K spT) := by
 have G_is_whole : ZD P w K mg base CX0 1 T.J0 T.J7 ["thing"] (lift K spW) := Ye T;refine okD T.YW.F Ef (fun xs M Φ h => by obtain ⟨_, rfl, _⟩ := Zw h; rfl) fun cdv A outer s H E hr => ⟨_, (Zh (Zp (QE (Zg G_is_whole (hr.mono (by walk_at "w")) rfl T.ZU.m T.ZU.F.kp T.ZU.b Zm (Za (Zb 0) Zd)) (JO (Uq Kd Kd Zc (Zb 0) (YN rfl T.BZ)))))), fun xs M Φ h => ?_⟩;replace h := Zw h;obtain ⟨x1, rfl, h⟩ := h;replace h := ZX h;obtain ⟨d, rfl, h⟩ := h;walk_at "rk";cases d with
 | int i =>
  walk_at "rk";simp only [ZY];walk_at "rk";refine Zn (fun h1 => ?_) fun h1 => ?_
  ·simpa [JW, h1] using h
  ·simpa [JW, h1] using h
 | _ => simpa [ZY, JW] using h
theorem Xd (T : Tx K mg) : ZD P w K mg base CX0 1 T.VA T.VL ["thing"] (lift K spN) := by
 refine okD T.Qr.F Em (fun xs M Φ h => by obtain ⟨_, rfl, _⟩ := Zw h; rfl) fun cdv A outer s H E hr => ⟨_, (Zf (Qb (DW.dt (KQ (QS (QR (Zk (Ko (Sa _)) rfl T.Qg Z8 (Za (Zb 0) (Za (Ca rfl T.Zbq PB) Zd))))) (Ya (QS (CV Kd Kd Zc (Zk Li rfl T.Jc Qh (Za (Zb 0) Zd)) (YN rfl T.KW)))))) (Zh (Zp KP)) Zy)
 (Zh (Zp (Zk (Gf rfl) rfl T.H9 Gg (Za (Qc false (Zx (sc := Ze JD) (XN := ["thing"]) (N := ["sign"]) (ix := [none]) rfl rfl (by walk_at "k")) (P1 (Zb 0)) (fun C ex s H => (Zu 0 (show List.Nodup (["sign"] : List Str) by walk_at "k"))) (fun C ex s H => Z7) (fun C ex s H => (Uq P4 P4 Zs (Zb 0) Zs)) rfl) Zd))))), fun xs M Φ h => ?_⟩
 replace h := Zw h;obtain ⟨x1, rfl, h⟩ := h;replace h := ZX h;obtain ⟨d, rfl, hk, h⟩ := h;cases d with
 | str s =>
  have hl : s.length <= 1000 := by simpa [KN] using hk
  walk_at "h";refine ⟨by omega, Zn (fun h1 => Gk (fun h2 => ?_) fun h2 => ?_) fun h1 => ?_⟩
  ·rw [U6 (.inr h2)] at h;exact h
  ·have e : Qd (.str s) = s.cps.toList.all ML := by
    show ((decide (1 <= s.length) && decide (s.length <= 8)) && s.cps.toList.all ML) = _;rw [decide_eq_true (show 1 <= s.length by omega), decide_eq_true (show s.length <= 8 by omega)];rfl
   rw [e] at h;subst_vars;walk_at "rk";refine ⟨by rw [List.length_map, str_len]; omega, fun i acc M' => acc = ((s.cps.toList.take i).map ML).map PyData.bool /\ M' = M, ⟨rfl, rfl⟩, ?_, ?_⟩
   ·rintro i d acc M' hd ⟨rfl, rfl⟩;obtain ⟨c, ec, rfl⟩ := Z4 hd;unfold Mj;walk_at "rk";rw [ZfU, Zfd];refine Zn (fun h3 => ?_) fun h3 => ?_
    ·rw [<- take_snoc _ ec, List.map_append];simp [ML, h3]
    ·rw [<- take_snoc _ ec, List.map_append];simp [ML, h3]
   ·rintro acc M' ⟨rfl, rfl⟩;refine ⟨_, rfl, ?_⟩;rw [List.length_map, List.take_length, List.all_map];exact h
  ·rw [U6 (.inl h1)] at h;exact h
 | _ =>
  walk_at "rk"
  simpa [Qd] using h
theorem Yw (T : Tx K mg) : ZD P w K mg base CX0 2 T.QN T.QL ["thing"] (lift K Zfu) := by
 have G_is_name : ZD P w K mg base CX0 1 T.VA T.VL ["thing"] (lift K spN) := Xd T;refine okD T.Qe.F YD (fun xs M Φ h => by obtain ⟨_, rfl, _⟩ := Zw h; rfl) fun cdv A outer s H E hr => ⟨_, (Zh (Zp (ZgS (Jm (Yb hr) (Zb 0) Zs) (JO (Zg G_is_name (hr.mono (by walk_at "w")) rfl T.Qr.m T.Qr.F.kp T.Qr.b Zm (Za (Zb 0) Zd)))))), fun xs M Φ h => ?_⟩;replace h := Zw h;obtain ⟨x1, rfl, h⟩ := h;replace h := ZX h;obtain ⟨d, rfl, hk, h⟩ := h;walk_at "rk";cases q : isS d (Str.ofString "") with
 | true =>
  rw [q] at h;walk_at "rk";exact h
 | false =>
  rw [q] at h;walk_at "rk";exact ⟨hk, h⟩
theorem Gq (T : Tx K mg) : ZD P w K mg base CX0 3 T.Ys T.YB ["thing"] (lift K TC) := by
 have G_is_short : ZD P w K mg base CX0 2 T.VR T.VY ["thing"] (lift K ZeU) := Ke T;refine okD T.Vu.F Gz (fun xs M Φ h => by obtain ⟨_, rfl, _⟩ := Zw h; rfl) fun cdv A outer s H E hr => ⟨_, (Zh (Zp (QE (Zg G_is_short (hr.mono (by walk_at "w")) rfl T.Qa.m T.Qa.F.kp T.Qa.b Zm (Za (Zb 0) Zd)) (JO (Jm ZcT (Zb 0) Zc))))), fun xs M Φ h => ?_⟩;replace h := Zw h;obtain ⟨x1, rfl, h⟩ := h;replace h := ZX h;obtain ⟨d, rfl, h⟩ := h;walk_at "rk";cases d with
 | int i =>
  replace h : Φ (.dat (.bool (decide (0 <= i) && decide (i <= 999999999999)))) M := h;walk_at "rk";show if (decide (-999999999999 <= i) && decide (i <= 999999999999)) = true then _ else _
  by_cases h1 : i <= 999999999999
  ·by_cases h2 : 0 <= i
   ·rw [decide_eq_true h1, decide_eq_true h2] at h;rw [decide_eq_true h1, decide_eq_true (show -999999999999 <= i by omega)];walk_at "rk";rw [decide_eq_true h2];exact h
   ·rw [decide_eq_false h2] at h;rw [decide_eq_true h1, Bool.and_true];refine Zn (fun h3 => ?_) fun h3 => ?_
    ·walk_at "rk";rw [decide_eq_false h2];exact h
    ·exact h
  ·rw [decide_eq_false h1, Bool.and_false] at h;rw [decide_eq_false h1, Bool.and_false];exact h
 | _ =>
  walk_at "rk";exact h
theorem WZ (T : Tx K mg) : ZD P w K mg base CX0 6 T.VG T.VP ["thing"] (lift K Hn) := by
 have G_is_time : ZD P w K mg base CX0 2 T.XQ T.XT ["thing"] (lift K spT) := EG T;have G_is_name : ZD P w K mg base CX0 1 T.VA T.VL ["thing"] (lift K spN) := Xd T;have G_is_name_or_empty : ZD P w K mg base CX0 2 T.QN T.QL ["thing"] (lift K Zfu) := Yw T;have G_is_shape : ZD P w K mg base CX0 5 T.Xv T.Xb ["thing"] (lift K Cg) := BH T;have G_is_wobble : ZD P w K mg base CX0 3 T.Ys T.YB ["thing"] (lift K TC) := Gq T;have G_is_spot : ZD P w K mg base CX0 3 T.YY T.Y2 ["thing"] (lift K ZeG) := Wr T
 refine okD T.JN.F WM (fun xs M Φ h => by obtain ⟨_, rfl, _⟩ := Zw h; rfl) fun cdv A outer s H E hr => ⟨_, (Zf (Qb (DW.dt (KQ (QS (QR (Zk (Ko (kit_tuple _)) rfl T.Qg Z8 (Za (Zb 0) (Za (Ca rfl T.Vf Jq) Zd))))) (Ya (ZG DF (Zk Qp rfl T.Jc Qh (Za (Zb 0) Zd)) Zc)))) (Zh (Zp KP)) Zy)
 (Zf (Qb (DW.dt (KQ (QS (QR (Zg G_is_time (hr.mono (by walk_at "w")) rfl T.YW.m T.YW.F.kp T.YW.b Zm (Za (Zl (Zb 0) Zc) Zd)))) (Ya (QS (QR (Zg G_is_name (hr.mono (by walk_at "w")) rfl T.Qr.m T.Qr.F.kp T.Qr.b Zm (Za (Zl (Zb 0) Zc) Zd))))))) (Zh (Zp KP)) Zy)
 (Zf (Qb (ZG (Yb hr) (Zl (Zb 0) Zc) Zs) (Zh (Zp (QE (Jm (Yg hr) (Zk Qp rfl T.Jc Qh (Za (Zb 0) Zd)) Zc) (QE (Zg G_is_name_or_empty (hr.mono (by walk_at "w")) rfl T.Qe.m T.Qe.F.kp T.Qe.b Zm (Za (Zl (Zb 0) Zc) Zd)) (QE (Zg G_is_shape (hr.mono (by walk_at "w")) rfl T.V4.m T.V4.F.kp T.V4.b Zm (Za (Zl (Zb 0) Zc) Zd)) (JO (Zg G_is_wobble (hr.mono (by walk_at "w")) rfl T.Vu.m T.Vu.F.kp T.Vu.b Zm (Za (Zl (Zb 0) Zc) Zd)))))))) Zy)
 (Zf (Qb (ZG (Yb hr) (Zl (Zb 0) Zc) Zs) (Zh (Zp (QE (Jm (Yg hr) (Zk Qp rfl T.Jc Qh (Za (Zb 0) Zd)) Zc) (JO (Zg G_is_spot (hr.mono (by walk_at "w")) rfl T.Qq.m T.Qq.F.kp T.Qq.b Zm (Za (Zl (Zb 0) Zc) Zd)))))) Zy)
 (Zh (Zp (QE (Jm (Yg hr) (Zk Qp rfl T.Jc Qh (Za (Zb 0) Zd)) Zc) (JO (Jm (Wg hr) (Zl (Zb 0) Zc) (ZZ (Za Zs (Za Zs Zd)))))))))))), fun xs M Φ h => ?_⟩
 replace h := Zw h;obtain ⟨x1, rfl, h⟩ := h;replace h := ZX h;obtain ⟨d, rfl, hk, h⟩ := h;cases d with
 | tuple ds =>
  walk_at "h";refine Zn (fun h1 => ?_) fun h1 => ?_
  ·rw [Ht (by omega)] at h;exact h
  ·obtain ⟨k, t, n, l, rfl⟩ := ON (ds := ds) (by omega);replace hk : (KN k && (KN t && (KN n && l.all KN))) = true := hk;simp only [Bool.and_eq_true] at hk;obtain ⟨_, _, hn, hl⟩ := hk;replace h : Φ (.dat (.bool (JW t && (Qd n && Yj k l)))) M := h;walk_at "h";cases q1 : JW t with
   | false =>
    rw [q1] at h;walk_at "rk";exact h
   | true =>
    rw [q1] at h;walk_at "rk";refine ⟨hn, ?_⟩;cases q2 : Qd n with
    | false =>
     rw [q2] at h;walk_at "rk";exact h
    | true =>
     rw [q2] at h;unfold Yj at h;walk_at "rk";walk_at "h";cases q3 : isS k (Str.ofString "land") with
     | true =>
      rw [q3] at h;walk_at "rk";refine Zn (fun h2 => ?_) fun h2 => ?_
      ·obtain ⟨o, v, z, rfl⟩ := OQ (ds := l) (by omega);replace h : Φ (.dat (.bool ((isS o (Str.ofString "") || Qd o) && (Jn v && Dv z)))) M := h;replace hl : (KN o && _) = true := hl;walk_at "rk";refine ⟨(Bool.and_eq_true_iff.mp hl).1, ?_⟩;cases q4 : (isS o (Str.ofString "") || Qd o) with
       | false =>
        rw [q4] at h;exact h
       | true =>
        rw [q4] at h;walk_at "rk";cases q5 : Jn v with
        | false =>
         rw [q5] at h;exact h
        | true =>
         rw [q5] at h;exact h
      ·rw [if_pos rfl, RH (show l.length ≠ 3 by omega)] at h;exact h
     | false =>
      rw [q3, if_neg Bool.false_ne_true] at h;walk_at "rk";walk_at "h";cases q4 : isS k (Str.ofString "spot") with
      | true =>
       rw [q4] at h;walk_at "rk";refine Zn (fun h2 => ?_) fun h2 => ?_
       ·obtain ⟨v, rfl⟩ := Zb2 (ds := l) (by omega);exact h
       ·rw [if_pos rfl, Rx (show l.length ≠ 1 by omega)] at h;exact h
      | false =>
       rw [q4, if_neg Bool.false_ne_true] at h;subst_vars;walk_at "rk";refine Zn (fun h2 => ?_) fun h2 => ?_
       ·obtain rfl : l = [] := List.length_eq_zero_iff.mp (by omega);refine ⟨[Str.ofString "drop", Str.ofString "free"], rfl, ?_⟩;simp only [List.any_cons, List.any_nil, Bool.or_false];exact h
       ·have e : l.isEmpty = false := by
         cases l with
         | nil => exact absurd rfl h2
         | cons _ _ => rfl
        rw [e] at h;exact h
 | _ =>
  walk_at "rk";exact h
theorem JC (T : Tx K mg) : ZD P w K mg base CX0 1 T.J9 T.J4 ["_law_pen", "_law_many"] (lift K J8) := by
 refine okD T.Zi.F Yq (fun xs M Φ h => by obtain ⟨_, _, rfl, _⟩ := ZO h; rfl) fun cdv A outer s H E hr => ⟨_, (Zf (Qb (ZG Zbw (Zl (Zb 0) Zc) Zc) (Zf (Zt 6 Yq.nd (Zj J1 (Zl (Zb 0) Zc) (Zb 1)))
 (Zf (XB (Zj Ds (Zl (Zb 0) Zc) (Zb 1)) (Wj (Zb 0) Zc))
 (Zh (Zp (Zb 6))))) Zy)
 (Zf (Zt 2 Yq.nd (Zl (Zb 0) Zc))
 (Zf (XB (Zj ZC (Zb 2) Zc) (Wj (Zb 0) Zc))
 (Zf (Zt 3 Yq.nd Zc)
 (Zf (Qb (ZG Zbw (Zk Qp rfl T.Jc Qh (Za (Zl (Zb 0) Zc) Zd)) Zc) (Zh (Zt 3 Yq.nd (Zl (Zl (Zb 0) Zc) (Zj J1 (Zb 2) (Zk Qp rfl T.Jc Qh (Za (Zl (Zb 0) Zc) Zd)))))) Zy)
 (Zf (Qb (DW.dt (XW (ZG DF (Zb 2) (Zk Qp rfl T.Jc Qh (Za (Zl (Zb 0) Zc) Zd))) (Y6 (ZG ZcT (Zk Hk rfl T.RP Lr (Za (Zb 3) Zd)) (Zj VJ Zc Zc))))) (Zf (XB (Zj Ds (Zk Hk rfl T.RP Lr (Za (Zb 3) Zd)) (Zb 1)) (Wj (Zb 0) Zc))
 (Zh (Zp (Zj J1 (Zk Hk rfl T.RP Lr (Za (Zb 3) Zd)) (Zb 1))))) Zy)
 (Zf (Zt 4 Yq.nd (Zj J1 (Zj Jj (Zj ZC (Zj ZC (Zj J1 (Zb 3) Zc) (Zj Jj Zc (Zb 2))) Zc) Zc) Zc))
 (Zf (Zt 5 Yq.nd (Zj J1 (Zj ZC (Zj ZC (Zj Jj (Zb 4) (Zb 4)) (Zj Jj Zc (Zb 4))) (Zj Jj Zc (Zb 2))) Zc))
 (Zh (Zp (Zj J1 (Zj BY (Zj J1 (Zj Jj (Zb 5) (Zj ZC (Zj J1 (Zb 5) Zc) Zc)) Zc) Zc) (Zb 1)))))))))))), fun xs M Φ h => ?_⟩
 replace h := ZO h;obtain ⟨x1, x2, rfl, h⟩ := h;replace h := Z9 h;obtain ⟨p, rfl, h⟩ := h;replace h := ZS h;obtain ⟨m, rfl, ⟨h0, h1⟩, hp, h⟩ := h;obtain ⟨ns, i, b, hi, hp⟩ := hp.get;have lg : m.natAbs.log2 < 9000 := Nat.lt_of_lt_of_le (Us (k := 200) (by omega) (by decide)) (by decide);have fin : ∀ (x j c : Int), 0 <= j -> Φ (.dat (.int (x % m))) (ZM M p (.lst [.list (ns.map PyData.int), .int j, .int c])) := fun x j c hj => h _ _ (Uo x h0).1 (Uo x h0).2 (Fr.ZM ⟨ns, j, c, hj, rfl⟩);walk_at "h";simp only [hp];walk_at "rk";refine Zn (fun h2 => ?_) fun h2 => ?_
 ·exact ⟨h0, ⟨h0, lg⟩, fin _ _ _ hi⟩
 ·walk_at "h";simp only [hp];walk_at "rk";walk_at "h";simp only [hp];walk_at "rk";walk_at "h";walk_at "h";rw [List.length_map];refine Zn (fun hl => ?_) fun hl => ?_
  ·have hm := Uo i hl;obtain ⟨c, hc⟩ := Tr (ns := ns) hm.1 hm.2;refine ⟨hl, VD hc ?_⟩;walk_at "h";rw [List.length_map];refine Zn (fun h2 => ⟨FC _ (by decide), Zn (fun h3 => ⟨⟨h0, lg⟩, h0, fin _ _ _ (by omega)⟩) fun h3 => ?_⟩) fun h2 => ?_
   ·walk_at "h";refine ⟨.inl (by decide), .inr (by decide), ?_⟩;walk_at "h";refine ⟨.inl (by omega), .inl (by decide), .inl (by decide), ?_⟩;subst_vars;walk_at "rk";refine ⟨.inl (by omega), ⟨by decide, by decide⟩, by assumption, ?_⟩;exact fin _ _ _ (by omega)
   ·walk_at "h";refine ⟨.inl (by decide), .inr (by decide), ?_⟩;walk_at "h";refine ⟨.inl (by omega), .inl (by decide), .inl (by decide), ?_⟩;subst_vars;walk_at "rk";refine ⟨.inl (by omega), ⟨by decide, by decide⟩, by assumption, ?_⟩;exact fin _ _ _ (by omega)
  ·walk_at "h";rw [List.length_map];refine Zn (fun h2 => absurd h2 (by omega)) fun h2 => ?_;walk_at "h";refine ⟨.inl (by decide), .inr (by decide), ?_⟩;walk_at "h";refine ⟨.inl (by omega), .inl (by decide), .inl (by decide), ?_⟩;subst_vars;walk_at "rk";refine ⟨.inl (by omega), ⟨by decide, by decide⟩, by assumption, ?_⟩;exact fin _ _ _ (by omega)
theorem Uy (T : Tx K mg) : ZD P w K mg base CX0 2 T.Wb T.Wu ["_law_pen", "_law_many"] (lift K Wh) := by
 have G_take : ZD P w K mg base CX0 1 T.J9 T.J4 ["_law_pen", "_law_many"] (lift K J8) := JC T
 refine okD T.Ji.F Ux (fun xs M Φ h => by obtain ⟨_, _, rfl, _⟩ := ZO h; rfl) fun cdv A outer s H E hr => ⟨_, (Zf (Qb (ZG DF (Zb 1) (Zj VJ Zc Zc)) (Zh (Zp (Zg G_take (hr.mono (by walk_at "w")) rfl T.Zi.m T.Zi.F.kp T.Zi.b Zm (Za (Zb 0) (Za (Zb 1) Zd))))) Zy)
 (Zf (Zt 2 Ux.nd Zc)
 (Zf (VQ rfl T.QF (Za (Zj ZC (Zj BY (Zk Li rfl T.Jc Qh (Za (Q8 SQ rfl T.Zbq PB (Za (Zb 1) Zd)) Zd)) Zc) Zc) Zd) (Zu 3 Ux.nd) (Zh (Zt 2 Ux.nd (Zj ZC (Zj Jj (Zb 2) (Zj VJ Zc Zc)) (Zg G_take (hr.mono (by walk_at "w")) rfl T.Zi.m T.Zi.F.kp T.Zi.b Zm (Za (Zb 0) (Za (Zj VJ Zc Zc) Zd)))))) PassesOwn.never rfl)
 (Zh (Zp (Zj J1 (Zb 2) (Zb 1))))))), fun xs M Φ h => ?_⟩
 replace h := ZO h;obtain ⟨x1, x2, rfl, h⟩ := h;replace h := Z9 h;obtain ⟨p, rfl, h⟩ := h;replace h := ZS h;obtain ⟨m, rfl, ⟨h0, h1⟩, hp, h⟩ := h;have lg : m.natAbs.log2 < 1920 := Nat.lt_of_lt_of_le (Us (k := 200) (by omega) (by decide)) (by decide);walk_at "h";refine ⟨FC _ (by decide), Zn (fun h2 => ⟨⟨h0, h1⟩, hp, h⟩) fun h2 => ?_⟩;have hz := int_text_len_1921 lg;walk_at "h";walk_at "h";refine ⟨lg, by omega, ⟨by decide, by decide⟩, ⟨by omega, by omega⟩, fun i Z M' => ∃ (v : Int) (kk : Option DV), Z = [some (.own p), some (.dat (.int m)), some (.dat (.int v)), kk] /\ Fr p M M', ⟨0, none, rfl, Fr.refl hp⟩, ?_, ?_⟩
 ·rintro i Z M' hi ⟨v, kk, rfl, hf⟩;walk_at "rk";refine ⟨FC _ (by decide), .inr (by decide), FC _ (by decide), hf.1, fun r M2 h3 h4 f2 => ?_⟩;exact ⟨_, _, rfl, hf.trans f2⟩
 ·rintro Z M' ⟨v, kk, rfl, hf⟩;subst_vars;walk_at "rk";exact ⟨h0, h _ _ (Uo v h0).1 (Uo v h0).2 hf⟩
theorem Di (T : Tx K mg) : ZD P w K mg base CX0 2 T.Uu T.WR ["_law_pen", "_law_many"] (lift K Ug) := by
 have G_take : ZD P w K mg base CX0 1 T.J9 T.J4 ["_law_pen", "_law_many"] (lift K J8) := JC T
 refine okD T.JU.F Jr (fun xs M Φ h => by obtain ⟨_, _, rfl, _⟩ := ZO h; rfl) fun cdv A outer s H E hr => ⟨_, (Zf (Zt 2 Jr.nd Zs)
 (Zf (Zt 3 Jr.nd (Ja (Za Zs (Za Zs (Za Zs (Za Zs (Za Zs (Za Zs (Za Zs (Za Zs (Za Zs (Za Zs (Za Zs (Za Zs (Za Zs Zd)))))))))))))))
 (Zf (Zt 4 Jr.nd (SK Zs (Qc false (Zx (sc := Ze JH) (XN := ["_law_pen", "_law_many", "_law_letters", "_law_words", "_law_base", "_law_start", "_law_manner", "_law_long", "_law_at", "_law_signs"]) (N := ["_law_k", "_law_letters", "_law_pen"]) (ix := [none, some 2, some 0]) rfl rfl (by walk_at "k")) (Jz rfl T.QF (Za Zc Zd)) (fun C ex s H => (Zu 0 (show List.Nodup (["_law_k", "_law_letters", "_law_pen"] : List Str) by walk_at "k"))) (fun C ex s H => Z7) (fun C ex s H => (Pc (Zb 1) (Zg G_take (hr.mono (by walk_at "w")) rfl T.Zi.m T.Zi.F.kp T.Zi.b Zm (Za (Zb 2) (Za Zc Zd))))) rfl)))
 (Zf (Zt 5 Jr.nd (Zg G_take (hr.mono (by walk_at "w")) rfl T.Zi.m T.Zi.F.kp T.Zi.b Zm (Za (Zb 0) (Za Zc Zd))))
 (Zf (Zt 6 Jr.nd (Zg G_take (hr.mono (by walk_at "w")) rfl T.Zi.m T.Zi.F.kp T.Zi.b Zm (Za (Zb 0) (Za Zc Zd))))
 (Zf (Qb (ZG (Yg hr) (Zb 6) Zc) (Zh (Zp (Qc false (Zx (sc := Ze JH) (XN := ["_law_pen", "_law_many", "_law_letters", "_law_words", "_law_base", "_law_start", "_law_manner", "_law_long", "_law_at", "_law_signs"]) (N := ["_law_k", "_law_base", "_law_start"]) (ix := [none, some 4, some 5]) rfl rfl (by walk_at "k")) (Jz rfl T.QF (Za (Zb 1) Zd)) (fun C ex s H => (Zu 0 (show List.Nodup (["_law_k", "_law_base", "_law_start"] : List Str) by walk_at "k"))) (fun C ex s H => Z7) (fun C ex s H => (Kh (Zb 1) Q1 (Qw (Zj ZC (Zj J1 (Zj ZC (Zb 2) (Zj Jj Zc (Zb 0))) Zc) Zc)))) rfl))) Zy)
 (Zf (Qb (ZG (Yg hr) (Zb 6) Zc) (Zh (Zp (Qc false (Zx (sc := Ze JH) (XN := ["_law_pen", "_law_many", "_law_letters", "_law_words", "_law_base", "_law_start", "_law_manner", "_law_long", "_law_at", "_law_signs"]) (N := ["_law_k", "_law_words", "_law_start"]) (ix := [none, some 3, some 5]) rfl rfl (by walk_at "k")) (Jz rfl T.QF (Za (Zb 1) Zd)) (fun C ex s H => (Zu 0 (show List.Nodup (["_law_k", "_law_words", "_law_start"] : List Str) by walk_at "k"))) (fun C ex s H => Z7) (fun C ex s H => (Zl (Zb 1) (Zj J1 (Zj ZC (Zb 2) (Zb 0)) Zc))) rfl))) Zy)
 (Zf (Zt 7 Jr.nd (Zj ZC Zc (Zg G_take (hr.mono (by walk_at "w")) rfl T.Zi.m T.Zi.F.kp T.Zi.b Zm (Za (Zb 0) (Za Zc Zd)))))
 (Zf (Zt 8 Jr.nd (Zg G_take (hr.mono (by walk_at "w")) rfl T.Zi.m T.Zi.F.kp T.Zi.b Zm (Za (Zb 0) (Za (Zb 7) Zd))))
 (Zf (WK 9 false Jr.nd (Zx (sc := Ze JH) (XN := ["_law_pen", "_law_many", "_law_letters", "_law_words", "_law_base", "_law_start", "_law_manner", "_law_long", "_law_at", "_law_signs"]) (N := ["_law_k", "_law_letters", "_law_start"]) (ix := [none, some 2, some 5]) rfl rfl (by walk_at "k")) (Jz rfl T.QF (Za (Zb 1) Zd)) (fun C ex s H => (Zu 0 (show List.Nodup (["_law_k", "_law_letters", "_law_start"] : List Str) by walk_at "k"))) (fun C ex s H => Z7) (fun C ex s H => (Pc (Zb 1) (Zj J1 (Zj ZC (Zb 2) (Zj Jj Zc (Zb 0))) Zc))) rfl)
 (Zh (Zp (Qc false (Zx (sc := Ze JH) (XN := ["_law_pen", "_law_many", "_law_letters", "_law_words", "_law_base", "_law_start", "_law_manner", "_law_long", "_law_at", "_law_signs"]) (N := ["_law_sign", "_law_base", "_law_long", "_law_at"]) (ix := [none, some 4, some 7, some 8]) rfl rfl (by walk_at "k")) (QZ (Zb 9)) (fun C ex s H => (Zu 0 (show List.Nodup (["_law_sign", "_law_base", "_law_long", "_law_at"] : List Str) by walk_at "k"))) (fun C ex s H => Z7) (fun C ex s H => (Zj Ue (Zj Ue (Kh (Zb 1) Q1 (Qw (Zb 3))) (Zb 0)) (Kh (Zb 1) (Qw (Zj ZC (Zb 3) Zc)) (Qw (Zb 2))))) rfl))))))))))))), fun xs M Φ h => ?_⟩
 replace h := ZO h;obtain ⟨x1, x2, rfl, h⟩ := h;replace h := Z9 h;obtain ⟨p, rfl, h⟩ := h;replace h := ZS h;obtain ⟨m, rfl, ⟨hm0, hm8⟩, hp, h⟩ := h;walk_at "h";walk_at "h";walk_at "h";refine ⟨⟨by decide, by decide⟩, by rw [Z0]; decide, fun i acc M' => ∃ ss : List Str, acc = ss.map PyData.str /\ ss.length = i /\ (∀ s ∈ ss, Zfp s) /\ Fr p M M', ⟨[], rfl, rfl, fun s hs => (nomatch hs), Fr.refl hp⟩, ?_, ?_⟩
 ·rintro i d acc M' hd ⟨ss, rfl, hl, ha, hf⟩;refine ⟨hf.1, fun r M2 h0 h1 f2 => ⟨by rw [LH]; decide, ?_⟩⟩;have hc := Pr h0 h1;have c1 : 97 <= 97 + r.toNat /\ 97 + r.toNat <= 122 := by omega
  generalize 97 + r.toNat = c at hc c1;refine ⟨c, hc, ss ++ [⟨#[c]⟩], by rw [List.map_append]; rfl, by rw [List.length_append, hl]; rfl, fun s hs => ?_, hf.trans f2⟩
  rcases List.mem_append.mp hs with hs | hs
  ·exact ha s hs
  ·rw [List.mem_singleton.mp hs];exact ⟨c, rfl, c1⟩
 ·rintro acc M1 ⟨ss, rfl, hl, ha, hf⟩;rw [Z0] at hl;refine ⟨ss, rfl, Ta (B := 1) (fun y hy => by obtain ⟨c, rfl, _⟩ := ha y hy; exact Nat.le_refl 1) (by rw [hl]; decide), ?_⟩;obtain ⟨bl, bc⟩ := LF hl ha;generalize Txt.join (Str.ofString "") ss = b at *;walk_at "h";refine ⟨hf.1, fun st M2 s0 s1 f2 => ?_⟩;walk_at "h";refine ⟨f2.1, fun mn M3 m0 m1 f3 => ?_⟩;have fin : ∀ (f : Str -> Int) (g : Nat -> Int) (ds : List PyData) (M' : Mp), (∀ i j, i < 8 -> j < 8 -> i ≠ j -> g i ≠ g j) -> Nmz f g m.toNat ds -> Fr p M3 M' -> Φ (.dat (.list ds)) M' := fun f g ds M' hd hn hm => by
   obtain ⟨ss, rfl, h8, ha, hg⟩ := hn;exact h ss M' h8 ha (Np f g hg fun i j hi hj hij => hd i j (by omega) (by omega) hij) (((hf.trans f2).trans f3).trans hm)
  walk_at "h";refine Zn (fun z => ?_) fun z => ?_
  ·refine ⟨⟨by omega, by omega⟩, by rw [Z0]; omega, fun i acc M' => Nmz (fun s => (s.length : Int)) (fun j => (st + 3 * (j : Int)) % 8 + 1) i acc /\ M' = M3, ⟨Nmz.nil, rfl⟩, ?_, ?_⟩
   ·rintro i d acc M' hd ⟨hn, rfl⟩;have hi : i < m.toNat := by have := (List.getElem?_eq_some_iff.mp hd).1; rw [Z0] at this; exact this
    rw [YF hi] at hd;cases hd;walk_at "rk";have hm := Uo (st + 3 * (i : Int)) (show (0 : Int) < 8 by decide);have k1 : (G3 b none (some ((st + 3 * (i : Int)) % 8 + 1))).length = ((st + 3 * (i : Int)) % 8 + 1).toNat := by
     rw [Bg, KH (by omega), bl];show _ - 0 = _;omega
    refine ⟨.inl (by decide), by omega, hn.snoc ⟨by omega, fun c hc => bc c (B8 hc)⟩ ?_⟩;show ((G3 b none (some ((st + 3 * (i : Int)) % 8 + 1))).length : Int) = _;omega
   ·rintro acc M' ⟨hn, rfl⟩;rw [Z0] at hn;exact fin _ _ _ _ (fun i j hi hj hij => by omega) hn (Fr.refl f3.1)
  ·walk_at "h";refine Zn (fun z => ?_) fun z => ?_
   ·refine ⟨⟨by omega, by omega⟩, by rw [Z0]; omega, fun i acc M' => Nmz (fun s => (Df.idxOf s : Int)) (fun j => (st + (j : Int)) % 13) i acc /\ M' = M3, ⟨Nmz.nil, rfl⟩, ?_, ?_⟩
    ·rintro i d acc M' hd ⟨hn, rfl⟩;have hi : i < m.toNat := by have := (List.getElem?_eq_some_iff.mp hd).1; rw [Z0] at this; exact this
     rw [YF hi] at hd;cases hd;walk_at "rk";have hm := Uo (st + (i : Int)) (show (0 : Int) < 13 by decide);refine Zi2 (l := Df) hm.1 hm.2 fun hk => hn.snoc (Ll _ (List.getElem_mem hk)) ?_;have e := NG ⟨((st + (i : Int)) % 13).toNat, by omega⟩;refine (congrArg (fun n : Nat => (n : Int)) e).trans ?_;show ((((st + (i : Int)) % 13).toNat : Nat) : Int) = (st + (i : Int)) % 13;omega
    ·rintro acc M' ⟨hn, rfl⟩;rw [Z0] at hn;exact fin _ _ _ _ (fun i j hi hj hij => by omega) hn (Fr.refl f3.1)
   ·walk_at "h";refine ⟨f3.1, fun lg M4 l0 l1 f4 => ?_⟩;walk_at "h";refine ⟨⟨by omega, by omega⟩, f4.1, fun at' M5 t0 t1 f5 => ?_⟩;walk_at "h";refine ⟨⟨by omega, by omega⟩, by rw [Z0]; omega, fun i acc M' => acc = (List.range i).map (fun k : Nat => PyData.str ⟨#[97 + ((st + 5 * (k : Int)) % 26).toNat]⟩) /\ M' = M5, ⟨rfl, rfl⟩, ?_, ?_⟩
    ·rintro i d acc M' hd ⟨rfl, rfl⟩;have hi : i < m.toNat := by have := (List.getElem?_eq_some_iff.mp hd).1; rw [Z0] at this; exact this
     rw [YF hi] at hd;cases hd;walk_at "rk";have hm := Uo (st + 5 * (i : Int)) (show (0 : Int) < 26 by decide);refine ⟨.inl (by decide), by rw [LH]; decide, _, Pr hm.1 hm.2, ?_⟩
     first | exact ⟨(by rw [List.range_succ, List.map_append]; rfl), rfl⟩ | (rw [List.range_succ, List.map_append]; rfl)
    ·rintro acc M' ⟨rfl, rfl⟩;rw [Z0];subst_vars;walk_at "rk";refine ⟨by rw [List.length_map, List.length_range]; omega, fun i acc M2 => Nmz (fun s => ((s.cps.toList[at'.toNat]?).getD 0 : Nat)) (fun j => 97 + (st + 5 * (j : Int)) % 26) i acc /\ M2 = M', ⟨Nmz.nil, rfl⟩, ?_, ?_⟩
     ·rintro i d acc M' hd ⟨hn, rfl⟩;obtain ⟨k, ek, rfl⟩ := Z4 hd;have hk : i < m.toNat := by have := (List.getElem?_eq_some_iff.mp ek).1; rwa [List.length_range] at this
      rw [List.getElem?_range hk] at ek;cases ek;have hm := Uo (st + 5 * (i : Int)) (show (0 : Int) < 26 by decide);generalize hc : 97 + ((st + 5 * (i : Int)) % 26).toNat = c;walk_at "rk";have k1 : (G3 b none (some at')).length = at'.toNat := by
       rw [Bg, KH t0, bl];show _ - 0 = _;omega
      have k2 : (G3 b (some (at' + 1)) (some (1 + lg))).length = (lg - at').toNat := by
       rw [Bg, KH (by omega), KH (by omega), bl];omega
      refine ⟨by omega, by rw [k1, Kv]; omega, by omega, by rw [BE, k1, k2, Kv]; omega, hn.snoc ⟨?_, fun d hd => ?_⟩ ?_⟩
      ·rw [BE, BE, k1, k2, Kv];omega
      ·rw [add_list, add_list, YL] at hd
       rcases List.mem_append.mp hd with hd | hd
       ·rcases List.mem_append.mp hd with hd | hd
        ·exact bc d (B8 hd)
        ·rw [List.mem_singleton.mp hd];omega
       ·exact bc d (B8 hd)
      ·have e1 : (G3 b none (some at')).cps.toList.length = at'.toNat := by rw [str_len]; exact k1
       show ((((G3 b none (some at') ++ ⟨#[c]⟩ ++ G3 b (some (at' + 1)) (some (1 + lg))).cps.toList[at'.toNat]?).getD 0 : Nat) : Int) = _;rw [add_list, add_list, YL, List.append_assoc, List.getElem?_append_right (by omega), e1, Nat.sub_self];show ((c : Nat) : Int) = _;omega
     ·rintro acc M' ⟨hn, rfl⟩;rw [List.length_map, List.length_range] at hn;exact fin _ _ _ _ (fun i j hi hj hij => by omega) hn (f4.trans f5)
theorem OS (T : Tx K mg) : ZD P w K mg base CX0 2 T.BK T.Cb ["_law_pen", "_law_most"] (lift K Bd) := by
 have G_take : ZD P w K mg base CX0 1 T.J9 T.J4 ["_law_pen", "_law_many"] (lift K J8) := JC T
 refine okD T.W2.F JP (fun xs M Φ h => by obtain ⟨_, _, rfl, _⟩ := ZO h; rfl) fun cdv A outer s H E hr => ⟨_, (Zf (Zt 2 JP.nd (Ja (Za (Zg G_take (hr.mono (by walk_at "w")) rfl T.Zi.m T.Zi.F.kp T.Zi.b Zm (Za (Zb 0) (Za Zc Zd))) (Za (Zg G_take (hr.mono (by walk_at "w")) rfl T.Zi.m T.Zi.F.kp T.Zi.b Zm (Za (Zb 0) (Za Zc Zd))) Zd))))
 (Zf (Zt 3 JP.nd (Yt (Za (ZZ (Za (Q8 JY rfl T.Vf Jq (Za (Zb 2) Zd)) (Za (ZZ (Za (Zj ZC (Zl (Zb 2) Zc) (Zg G_take (hr.mono (by walk_at "w")) rfl T.Zi.m T.Zi.F.kp T.Zi.b Zm (Za (Zb 0) (Za Zc Zd)))) (Za (Zj ZC (Zl (Zb 2) Zc) (Zg G_take (hr.mono (by walk_at "w")) rfl T.Zi.m T.Zi.F.kp T.Zi.b Zm (Za (Zb 0) (Za Zc Zd)))) Zd))) Zd))) Zd)))
 (Zf (VQ rfl T.QF (Za (Zg G_take (hr.mono (by walk_at "w")) rfl T.Zi.m T.Zi.F.kp T.Zi.b Zm (Za (Zb 0) (Za (Zb 1) Zd))) Zd) (Zu 4 JP.nd) (Zf (XB (Zl (Zb 3) (Pz Zc)) (CN (n := 2) rfl (JQ (Zu 6 JP.nd) (JQ (Zu 7 JP.nd) W0))))
 (Zf (Zt 5 JP.nd (Ja (Za (Zg G_take (hr.mono (by walk_at "w")) rfl T.Zi.m T.Zi.F.kp T.Zi.b Zm (Za (Zb 0) (Za Zc Zd))) (Za (Zg G_take (hr.mono (by walk_at "w")) rfl T.Zi.m T.Zi.F.kp T.Zi.b Zm (Za (Zb 0) (Za Zc Zd))) Zd))))
 (Zf (W9 2 false JP.nd (Zx (sc := Ze Yr) (XN := ["_law_pen", "_law_most", "_law_low", "_law_found", "_law_k", "_law_wide_here", "_law_first", "_law_last"]) (N := ["_law_w", "_law_pen", "_law_first", "_law_wide_here", "_law_last"]) (ix := [none, some 0, some 6, some 5, some 7]) rfl rfl (by walk_at "k")) (Jz rfl T.QF (Za Zc Zd)) (fun C ex s H => (Zu 0 (show List.Nodup (["_law_w", "_law_pen", "_law_first", "_law_wide_here", "_law_last"] : List Str) by walk_at "k"))) (fun C ex s H => Z7) (fun C ex s H => (Zj ZC (Zj QP (Zj QP (Zl (Zb 2) (Zb 0)) (Zl (Zb 3) (Zb 0))) Zc) (Zg G_take (hr.mono (by walk_at "w")) rfl T.Zi.m T.Zi.F.kp T.Zi.b Zm (Za (Zb 1) (Za (Zj ZC (Zj ZC (Zj QP (Zl (Zb 4) (Zb 0)) (Zl (Zb 2) (Zb 0))) (Zl (Zb 3) (Zb 0))) Zc) Zd))))) rfl)
 (Zh (JT (Qm (Zb 3) (ZZ (Za (Q8 JY rfl T.Vf Jq (Za (Zb 2) Zd)) (Za (ZZ (Za (Zj ZC (Zl (Zb 2) Zc) (Zl (Zb 5) Zc)) (Za (Zj ZC (Zl (Zb 2) Zc) (Zl (Zb 5) Zc)) Zd))) Zd))))))))) PassesOwn.never rfl)
 (Zh (Zp (CJ (Zb 3))))))), fun xs M Φ h => ?_⟩
 replace h := ZO h;obtain ⟨x1, x2, rfl, h⟩ := h;replace h := Z9 h;obtain ⟨p, rfl, h⟩ := h;replace h := ZS h;obtain ⟨m, rfl, hm, hp, h⟩ := h;walk_at "h";refine ⟨hp, fun x1 M1 a1 b1 f1 => ⟨f1.1, fun y1 M2 a2 b2 f2 => ?_⟩⟩;walk_at "h";refine ⟨f2.1, fun x2 M3 a3 b3 f3 => ⟨f3.1, fun y2 M4 a4 b4 f4 q hq => ?_⟩⟩;have F0 := ((f1.trans f2).trans f3).trans f4;have n1 : q ≠ p := Ne.symm (f4.1.ne hq);have q0 : M q = none := F0.fresh hq;walk_at "h";refine ⟨⟨by omega, by omega⟩, f4.1.put (Ne.symm n1), fun r M5 a5 b5 f5 => ⟨⟨by omega, by omega⟩, ?_⟩⟩
 refine ⟨fun i Z M' => ∃ (cs : List B4) (b : B4) (k2 k4 k5 k6 k7 : Option DV), Z = [some (.own p), some (.dat (.int m)), k2, some (.own q), k4, k5, k6, k7] /\ cs.length = i /\ chB (cs ++ [b]) = true /\ (∀ c ∈ cs ++ [b], Grb i c) /\ M' q = some (.lst (cs.map bD ++ [bD b])) /\ Fr p M M',
  ⟨[], ⟨x1, y1, x1 + x2, y1 + y2⟩, _, _, _, _, _, rfl, rfl, rfl, ?_, f5.own Zv n1, (F0.new q0 n1).trans f5⟩, ?_, ?_⟩
 ·intro c hc;rw [List.mem_singleton.mp hc];unfold Grb;dsimp only;omega
 ·rintro i Z M' hi ⟨cs, b, k2, k4, k5, k6, k7, rfl, hl, hch, hcs, hq', hF⟩;have hb := hcs b (List.mem_append_right _ (List.mem_singleton.mpr rfl));unfold Grb at hb;rw [V5];walk_at "h";simp only [hq'];walk_at "rk";walk_at "h";refine ⟨hF.1, fun w1 M6 a6 b6 f6 => ⟨f6.1, fun w2 M7 a7 b7 f7 => ?_⟩⟩;walk_at "h";refine ⟨⟨by decide, by decide⟩, ⟨by omega, by omega⟩, f7.1, fun u1 M8 a8 b8 f8 => ⟨⟨by omega, by omega⟩, f8.1, fun u2 M9 a9 b9 f9 => ?_⟩⟩;have F1 := ((f6.trans f7).trans f8).trans f9;subst_vars;walk_at "rk";simp only [F1.own hq' n1];walk_at "rk";refine ⟨by rw [List.length_append, List.length_map, List.length_singleton]; omega, cs ++ [b], ⟨b.x - w1 - 1 + u1, b.y - w2 - 1 + u2, b.x - w1 - 1 + u1 + w1, b.y - w2 - 1 + u2 + w2⟩, _, _, _, _, _, rfl, by rw [List.length_append]; rfl, ?_, fun c hc => ?_, ?_, (hF.trans F1).new q0 n1⟩
  ·rw [List.append_assoc];show chB (cs ++ [b, _]) = true;rw [C5, hch, decide_eq_true (Mq (by dsimp only; omega) (by dsimp only; omega) (by dsimp only; omega) (by dsimp only; omega))];rfl
  ·rcases List.mem_append.mp hc with hc | hc
   ·have := hcs c hc;unfold Grb at this ⊢;omega
   ·rw [List.mem_singleton.mp hc];unfold Grb;dsimp only;omega
  ·rw [List.map_append];rfl
 ·rintro Z M' ⟨cs, b, k2, k4, k5, k6, k7, rfl, hl, hch, hcs, hq', hF⟩;subst_vars;walk_at "rk";simp only [hq'];walk_at "rk";rw [show cs.map bD ++ [bD b] = (cs ++ [b]).map bD by rw [List.map_append]; rfl];refine h _ _ ⟨by rw [List.length_append, List.length_singleton]; omega, hch, fun c hc => ?_⟩ (hF.gone q0 n1);have := hcs c hc;unfold Grb at this ⊢;omega
theorem GF (T : Tx K mg) : ZD P w K mg base CX0 1 T.Yc T.Yd ["_law_boxes_here", "_law_by", "_law_off"] (lift K Yz) := by
 refine okG T.Vr.F Q9 (fun xs M Φ h => by obtain ⟨_, _, _, rfl, _⟩ := JF h; rfl) fun cdv A outer s H E hr => ⟨_, (Zf (Zt 3 Q9.nd (Yt Zd))
 (Zf (Xi (Zb 0) (CN (n := 2) rfl (JQ (Zu 4 Q9.nd) (JQ (Zu 5 Q9.nd) W0))) (Zf (Zt 6 Q9.nd (ZZ (Za (Zj ZC (Zj Jj (Zl (Zb 4) Zc) (Zb 1)) (Zl (Zb 2) Zc)) (Za (Zj ZC (Zj Jj (Zl (Zb 4) Zc) (Zb 1)) (Zl (Zb 2) Zc)) Zd))))
 (Zh (JT (Qm (Zb 3) (ZZ (Za (Zb 6) (Za (ZZ (Za (Zj ZC (Zj QP (Zj ZC (Zj Jj (Zl (Zb 5) Zc) (Zb 1)) (Zb 1)) Zc) (Zl (Zb 2) Zc)) (Za (Zj ZC (Zj QP (Zj ZC (Zj Jj (Zl (Zb 5) Zc) (Zb 1)) (Zb 1)) Zc) (Zl (Zb 2) Zc)) Zd))) Zd))))))) PassesOwn.never rfl)
 (Zh (Zp (Q8 JY rfl T.Vf Jq (Za (Zb 3) Zd)))))), fun xs M Φ h => ?_⟩
 replace h := JF h;obtain ⟨x1, x2, x3, rfl, h⟩ := h;replace h := R0 h;obtain ⟨bs, rfl, h⟩ := h;replace h := ZS h;obtain ⟨f, rfl, h⟩ := h;replace h := Zcg h;obtain ⟨ox, oy, rfl, hs, h⟩ := h;walk_at "h";intro q hq;walk_at "h";refine ⟨fun i Z M' => ∃ k4 k5 k6, Z = [some (.dat (.list (bs.map bD))), some (.dat (.int f)), some (.dat (.tuple [.int ox, .int oy])), some (.own q), k4, k5, k6] /\ M' = ZM M q (.lst (((bs.take i).map (Bl f ox oy)).map bD)), ⟨none, none, none, rfl, rfl⟩, ?_, ?_⟩
 ·rintro i d Z M' hd ⟨k4, k5, k6, rfl, rfl⟩;obtain ⟨b, eb, rfl⟩ := Z4 hd;have hb := hs.2.2 _ (List.mem_of_getElem? eb);unfold Grb at hb;walk_at "rk";refine ⟨.inl (by omega), .inl (by omega), .inl (by omega), .inl (by omega), by rw [List.length_map, List.length_map, List.length_take]; have := hs.1.2; omega, _, _, _, rfl, ?_⟩;rw [<- take_snoc (Bl f ox oy) eb, List.map_append];rfl
 ·rintro Z M' ⟨k4, k5, k6, rfl, rfl⟩;rw [List.length_map, List.take_length];subst_vars;walk_at "rk";exact Po hq h
theorem Ec (T : Tx K mg) : ZD P w K mg base CX0 3 T.Kj T.XR ["_law_pen"] (lift K Kb) := by
 have G_take : ZD P w K mg base CX0 1 T.J9 T.J4 ["_law_pen", "_law_many"] (lift K J8) := JC T;have G_wide : ZD P w K mg base CX0 2 T.Wb T.Wu ["_law_pen", "_law_many"] (lift K Wh) := Uy T
 refine okD T.YR.F V3 (fun xs M Φ h => by obtain ⟨_, rfl, _⟩ := Zw h; rfl) fun cdv A outer s H E hr => ⟨_, (Zf (Zt 1 V3.nd (Zl (Ja (Za Zc (Za Zc (Za Zc (Za Zc (Za Zc (Za (Zj VJ Zc Zc) Zd))))))) (Zg G_take (hr.mono (by walk_at "w")) rfl T.Zi.m T.Zi.F.kp T.Zi.b Zm (Za (Zb 0) (Za Zc Zd)))))
 (Zf (Zt 2 V3.nd (Zl (Ja (Za (ZZ (Za Zc (Za Zc Zd))) (Za (ZZ (Za (Zj QP (Zg G_take (hr.mono (by walk_at "w")) rfl T.Zi.m T.Zi.F.kp T.Zi.b Zm (Za (Zb 0) (Za Zc Zd))) Zc) (Za (Zj QP (Zg G_take (hr.mono (by walk_at "w")) rfl T.Zi.m T.Zi.F.kp T.Zi.b Zm (Za (Zb 0) (Za Zc Zd))) Zc) Zd))) Zd))) (Zg G_take (hr.mono (by walk_at "w")) rfl T.Zi.m T.Zi.F.kp T.Zi.b Zm (Za (Zb 0) (Za Zc Zd)))))
 (Zf (Qb (ZG (Yg hr) (Zb 1) (Zj VJ Zc Zc)) (Zh (Zt 2 V3.nd (ZZ (Za (Zg G_wide (hr.mono (by walk_at "w")) rfl T.Ji.m T.Ji.F.kp T.Ji.b Zm (Za (Zb 0) (Za (Zj VJ Zc Zc) Zd))) (Za (Zj QP Zc (Zg G_wide (hr.mono (by walk_at "w")) rfl T.Ji.m T.Ji.F.kp T.Ji.b Zm (Za (Zb 0) (Za (Zj VJ Zc Zc) Zd)))) Zd))))) Zy)
 (Zh (Zp (ZZ (Za (Zb 1) (Za (Zb 2) Zd)))))))), fun xs M Φ h => ?_⟩
 replace h := Zw h;obtain ⟨x1, rfl, h⟩ := h;replace h := Z9 h;obtain ⟨p, rfl, hp, h⟩ := h;walk_at "h";refine ⟨FC _ (by decide), hp, fun r1 M1 a1 b1 f1 => tab (l := [1, 1, 1, 2, 1000, 10000000000]) (fun t => 1 <= t /\ t <= 10000000000) a1 (by simp only [List.length_cons, List.length_nil]; omega) (by decide) fun f hf => ?_⟩;walk_at "h";refine ⟨f1.1, fun x M2 a2 b2 f2 => ⟨f2.1, fun y M3 a3 b3 f3 => ⟨f3.1, fun r4 M4 a4 b4 f4 => ?_⟩⟩⟩;have F := ((f1.trans f2).trans f3).trans f4;have two : ∃ ox oy : Int, (-20 <= ox /\ ox <= 20) /\ (-20 <= oy /\ oy <= 20) /\ ∀ P : PyData -> Prop, KR [.tuple [.int 0, .int 0], .tuple [.int (x - 20), .int (y - 20)]] r4 P = P (.tuple [.int ox, .int oy]) := by
  have : r4 = 0 \/ r4 = 1 := by omega
  rcases this with rfl | rfl
  ·exact ⟨0, 0, by omega, by omega, fun P => rfl⟩
  ·exact ⟨x - 20, y - 20, by omega, by omega, fun P => rfl⟩
 obtain ⟨ox, oy, hx, hy, e⟩ := two;rw [e];clear e;walk_at "h";refine ⟨FC _ (by decide), Zn (fun z => ?_) fun z => ?_⟩
 ·walk_at "rk";refine ⟨FC _ (by decide), f4.1, fun u M5 a5 b5 f5 => ⟨FC _ (by decide), f5.1, fun v M6 a6 b6 f6 => ?_⟩⟩;subst_vars;walk_at "rk";exact h _ _ _ _ ⟨by omega, by omega, by omega⟩ ((F.trans f5).trans f6)
 ·subst_vars;walk_at "rk";exact h _ _ _ _ ⟨hf, by omega, by omega⟩ F
theorem N2 (T : Tx K mg) : ZD P w K mg base CX0 4 T.Br T.BN ["_law_pen"] (lift K Ck) := by
 have G_stretch : ZD P w K mg base CX0 3 T.Kj T.XR ["_law_pen"] (lift K Kb) := Ec T;have G_names : ZD P w K mg base CX0 2 T.Uu T.WR ["_law_pen", "_law_many"] (lift K Ug) := Di T;have G_take : ZD P w K mg base CX0 1 T.J9 T.J4 ["_law_pen", "_law_many"] (lift K J8) := JC T;have G_wide : ZD P w K mg base CX0 2 T.Wb T.Wu ["_law_pen", "_law_many"] (lift K Wh) := Uy T
 refine okD T.W5.F JM (fun xs M Φ h => by obtain ⟨_, rfl, _⟩ := Zw h; rfl) fun cdv A outer s H E hr => ⟨_, (Zf (XB (Zg G_stretch (hr.mono (by walk_at "w")) rfl T.YR.m T.YR.F.kp T.YR.b Zm (Za (Zb 0) Zd)) (CN (n := 2) rfl (JQ (Zu 6 JM.nd) (JQ (Zu 7 JM.nd) W0))))
 (Zf (Zt 1 JM.nd (Zj VJ Zc Zc))
 (Zf (Zt 2 JM.nd (Zl (Ja (Za Zc (Za Zc (Za (Zj QP (Zb 1) Zc) (Za (Zg G_wide (hr.mono (by walk_at "w")) rfl T.Ji.m T.Ji.F.kp T.Ji.b Zm (Za (Zb 0) (Za (Zj QP (Zb 1) Zc) Zd))) Zd))))) (Zg G_take (hr.mono (by walk_at "w")) rfl T.Zi.m T.Zi.F.kp T.Zi.b Zm (Za (Zb 0) (Za Zc Zd)))))
 (Zf (Zt 3 JM.nd (Zj ZC Zc (Zg G_take (hr.mono (by walk_at "w")) rfl T.Zi.m T.Zi.F.kp T.Zi.b Zm (Za (Zb 0) (Za Zc Zd)))))
 (Zf (Zt 4 JM.nd (Zg G_names (hr.mono (by walk_at "w")) rfl T.JU.m T.JU.F.kp T.JU.b Zm (Za (Zb 0) (Za (Zj ZC Zc (Zg G_take (hr.mono (by walk_at "w")) rfl T.Zi.m T.Zi.F.kp T.Zi.b Zm (Za (Zb 0) (Za Zc Zd)))) Zd))))
 (Zf (Zt 5 JM.nd (Zg G_names (hr.mono (by walk_at "w")) rfl T.JU.m T.JU.F.kp T.JU.b Zm (Za (Zb 0) (Za (Zj ZC Zc (Zg G_take (hr.mono (by walk_at "w")) rfl T.Zi.m T.Zi.F.kp T.Zi.b Zm (Za (Zb 0) (Za Zc Zd)))) Zd))))
 (Zh (Zp (MW Wm (Wo 6) Wm (Wo 7) Wm (Wo 2) Wm (Wo 3) Wm (Wo 4) Wm (Wo 5)))))))))), fun xs M Φ h => ?_⟩
 replace h := Zw h;obtain ⟨x1, rfl, h⟩ := h;replace h := Z9 h;obtain ⟨p, rfl, hp, h⟩ := h;walk_at "h";refine ⟨hp, fun f ox oy M1 hf f1 => ?_⟩;walk_at "h";refine ⟨FC _ (by decide), ?_⟩;walk_at "h";refine ⟨f1.1, fun r2 M2 a2 b2 f2 => ⟨f2.1, fun r3 M3 a3 b3 f3 => tab (l := [0, 3, 999999999992, r2]) (fun t => 0 <= t /\ t <= 999999999992) a3 (by simp only [List.length_cons, List.length_nil]; omega) (fun w hw => ?_) fun bg hb => ?_⟩⟩
 ·simp only [List.mem_cons, List.not_mem_nil, or_false] at hw;omega
 walk_at "h";refine ⟨f3.1, fun r4 M4 a4 b4 f4 => ?_⟩;walk_at "h";refine ⟨f4.1, fun r5 M5 a5 b5 f5 => ⟨⟨by omega, by omega⟩, f5.1, fun ts M6 tl th _ f6 => ?_⟩⟩;walk_at "h";refine ⟨f6.1, fun r7 M7 a7 b7 f7 => ⟨⟨by omega, by omega⟩, f7.1, fun ls M8 ll lh _ f8 => ?_⟩⟩;have F := ((((((f1.trans f2).trans f3).trans f4).trans f5).trans f6).trans f7).trans f8;subst_vars;walk_at "rk";refine ⟨by walk_at "k", fun q hq => ?_⟩;have n1 : q ≠ p := Ne.symm (f8.1.ne hq);exact h q _ ⟨f, ox, oy, bg, 1 + r4, ts, ls, Zv, hf, hb, by omega, ⟨by omega, th⟩, ⟨by omega, lh⟩⟩ n1 (F.new (F.fresh hq) n1)
theorem Td (T : Tx K mg) : ZD P w K mg base CX0 3 T.E6 T.FL ["_law_pen", "_law_world_here"] (lift K LQ) := by
 have G_wide : ZD P w K mg base CX0 2 T.Wb T.Wu ["_law_pen", "_law_many"] (lift K Wh) := Uy T;have G_take : ZD P w K mg base CX0 1 T.J9 T.J4 ["_law_pen", "_law_many"] (lift K J8) := JC T
 refine okD T.CO.F HI (fun xs M Φ h => by obtain ⟨_, _, rfl, _⟩ := ZO h; rfl) fun cdv A outer s H E hr => ⟨_, (Zf (Zt 2 HI.nd ((Jf hr) (Zb 1) Zs))
 (Zh (Zp (Q8 JY rfl T.Vf Jq (Za (Pb false (Zx (sc := Ze Kg) (XN := ["_law_pen", "_law_world_here", "_law_by"]) (N := ["_law_w", "_law_by", "_law_pen", "_law_world_here"]) (ix := [none, some 2, some 0, some 1]) rfl rfl (by walk_at "k")) (Jz rfl T.QF (Za Zc Zd)) (fun C ex s H => (Zu 0 (show List.Nodup (["_law_w", "_law_by", "_law_pen", "_law_world_here"] : List Str) by walk_at "k"))) (fun C ex s H => Z7) (fun C ex s H => (Zj ZC (Zj ZC (Zj Jj (Zj QP (Zg G_take (hr.mono (by walk_at "w")) rfl T.Zi.m T.Zi.F.kp T.Zi.b Zm (Za (Zb 2) (Za Zc Zd))) Zc) (Zb 1)) (Zg G_wide (hr.mono (by walk_at "w")) rfl T.Ji.m T.Ji.F.kp T.Ji.b Zm (Za (Zb 2) (Za (Zb 1) Zd)))) (Zl ((Jf hr) (Zb 3) Zs) (Zb 0)))) rfl) Zd))))), fun xs M Φ h => ?_⟩
 replace h := ZO h;obtain ⟨x1, x2, rfl, h⟩ := h;replace h := Z9 h;obtain ⟨p, rfl, h⟩ := h;replace h := Z9 h;obtain ⟨q, rfl, hw, n1, hp, h⟩ := h;obtain ⟨f, ox, oy, bg, sp, ts, ls, hq, ⟨hf, hx, hy⟩, hw⟩ := hw;walk_at "h";simp only [hq, Zh7];subst_vars;walk_at "rk";refine ⟨⟨by decide, by decide⟩, hp, fun r1 M1 a1 b1 f1 => ⟨.inl (by omega), ⟨by omega, by omega⟩, f1.1, fun r2 M2 a2 b2 f2 => ?_⟩⟩;simp only [(f1.trans f2).own hq n1, Zat];walk_at "rk";refine ⟨f2.1, fun r3 M3 a3 b3 f3 => ⟨.inl (by omega), ⟨by omega, by omega⟩, f3.1, fun r4 M4 a4 b4 f4 => ?_⟩⟩;have F := ((f1.trans f2).trans f3).trans f4;simp only [F.own hq n1, Zat];walk_at "rk";have e1 := BP (a := r1 - 2) (lo := -2) (hi := 14) (by omega) (by omega) hf.1;have e2 := BP (a := r3 - 2) (lo := -2) (hi := 14) (by omega) (by omega) hf.1;exact h _ _ _ ⟨by omega, by omega⟩ ⟨by omega, by omega⟩ F
theorem RT (T : Tx K mg) : ZD P w K mg base CX0 3 T.Ls T.Hr ["_law_pen", "_law_world_here", "_law_time"] (lift K Ho) := by
 have G_boxes : ZD P w K mg base CX0 2 T.BK T.Cb ["_law_pen", "_law_most"] (lift K Bd) := OS T;have G_take : ZD P w K mg base CX0 1 T.J9 T.J4 ["_law_pen", "_law_many"] (lift K J8) := JC T;have G_stretched : ZD P w K mg base CX0 1 T.Yc T.Yd ["_law_boxes_here", "_law_by", "_law_off"] (lift K Yz) := GF T
 refine okD T.Dq.F Yi (fun xs M Φ h => by obtain ⟨_, _, _, rfl, _⟩ := JF h; rfl) fun cdv A outer s H E hr => ⟨_, (Zf (Zt 3 Yi.nd ((Jf hr) (Zb 1) Zs))
 (Zf (Zt 4 Yi.nd ((Jf hr) (Zb 1) Zs))
 (Zf (Zt 5 Yi.nd (Zl (Zj Ym (Zj ZbK (Yt (Za Zs Zd)) (Zk Qp rfl T.Jc Qh (Za (Zb 3) Zd))) (Zb 3)) (Zg G_take (hr.mono (by walk_at "w")) rfl T.Zi.m T.Zi.F.kp T.Zi.b Zm (Za (Zb 0) (Za (Zj Jj Zc (Zk Qp rfl T.Jc Qh (Za (Zb 3) Zd))) Zd)))))
 (Zf (Zt 6 Yi.nd (Zg G_boxes (hr.mono (by walk_at "w")) rfl T.W2.m T.W2.F.kp T.W2.b Zm (Za (Zb 0) (Za (Zl (Ja (Za Zc (Za Zc (Za Zc (Za Zc Zd))))) (Zg G_take (hr.mono (by walk_at "w")) rfl T.Zi.m T.Zi.F.kp T.Zi.b Zm (Za (Zb 0) (Za Zc Zd)))) Zd))))
 (Zf (Zt 7 Yi.nd (Zj BY (Zj Jj (Zl (Ja (Za Zc (Za Zc (Za Zc (Za Zc (Za Zc Zd)))))) (Zg G_take (hr.mono (by walk_at "w")) rfl T.Zi.m T.Zi.F.kp T.Zi.b Zm (Za (Zb 0) (Za Zc Zd)))) (Zb 4)) (Zl (Ja (Za Zc (Za Zc Zd))) (Zg G_take (hr.mono (by walk_at "w")) rfl T.Zi.m T.Zi.F.kp T.Zi.b Zm (Za (Zb 0) (Za Zc Zd))))))
 (Zf (Zt 8 Yi.nd (Zl (Zb 3) (Zg G_take (hr.mono (by walk_at "w")) rfl T.Zi.m T.Zi.F.kp T.Zi.b Zm (Za (Zb 0) (Za (Zk Qp rfl T.Jc Qh (Za (Zb 3) Zd)) Zd)))))
 (Zh (Zp (ZZ (Za Zs (Za (Zb 2) (Za (Zb 8) (Za (Zb 5) (Za (Zg G_stretched (hr.mono (by walk_at "w")) rfl T.Vr.m T.Vr.F.kp T.Vr.b Zm (Za (Zb 6) (Za (Zb 4) (Za ((Jf hr) (Zb 1) Zs) Zd)))) (Za (Zb 7) Zd))))))))))))))), fun xs M Φ h => ?_⟩
 replace h := JF h;obtain ⟨x1, x2, x3, rfl, h⟩ := h;replace h := Z9 h;obtain ⟨p, rfl, h⟩ := h;replace h := Z9 h;obtain ⟨q, rfl, h⟩ := h;replace h := ZS h;obtain ⟨t, rfl, hw, n1, hp, h⟩ := h;obtain ⟨f, ox, oy, bg, sp, ts, ls, hq, hf, hw⟩ := hw;obtain ⟨_, _, _, hl, hn⟩ := hw;walk_at "h";simp only [hq, Hd];walk_at "h";simp only [hq, Zh7];walk_at "h";intro g hg;have ng : g ≠ p := Ne.symm (hp.ne hg);rw [Pu, <- List.length_append, Pu, List.length_map, List.length_map, List.length_append, List.length_replicate];refine ⟨by omega, by omega, .inl (by decide), ⟨by omega, by omega⟩, hp.put (Ne.symm ng), fun r1 M1 a1 b1 f1 => ?_⟩;replace f1 := (Fr.new (Fr.refl hp) hg ng).trans f1;refine tabS (fun s => s = Str.ofString "" \/ s ∈ ls) a1 (by rw [List.length_append, List.length_replicate]; omega) (fun s hs => ?_) fun ou hou => ?_
 ·rcases List.mem_append.mp hs with hs | hs
  ·exact .inl (List.eq_of_mem_replicate hs)
  ·exact .inr hs
 have ho : ou = Str.ofString "" \/ ZA ou := hou.imp id (hn ou);walk_at "h";refine ⟨f1.1, fun r2 M2 a2 b2 f2 => tab (l := [3, 3, 3, 6]) (fun t => 1 <= t /\ t <= 6) a2 (by simp only [List.length_cons, List.length_nil]; omega) (by decide) fun m hm => ?_⟩;walk_at "rk";refine ⟨hm, f2.1, fun bs M3 hb f3 => ?_⟩;walk_at "h";refine ⟨f3.1, fun r4 M4 a4 b4 f4 => tab (l := [0, 0, 1, 2, 3]) (fun t => 0 <= t /\ t <= 3) a4 (by simp only [List.length_cons, List.length_nil]; omega) (by decide) fun wb hwb => ?_⟩;walk_at "rk";refine ⟨.inl (by omega), f4.1, fun r5 M5 a5 b5 f5 => tab (l := [1, 2]) (fun t => t = 1 \/ t = 2) a5 (by simp only [List.length_cons, List.length_nil]; omega) (by decide) fun dv hdv => ?_⟩;walk_at "rk";replace hdv : dv = 1 \/ dv = 2 := hdv;refine ⟨⟨by omega, by omega⟩, ?_⟩;walk_at "h";rw [List.length_map];refine ⟨⟨by omega, by omega⟩, f5.1, fun r6 M6 a6 b6 f6 => ?_⟩;have F := ((((f1.trans f2).trans f3).trans f4).trans f5).trans f6;refine tabS (fun s => s ∈ ls) a6 b6 (fun s hs => hs) fun nm mnm => ?_;have hnm := hn nm mnm;subst_vars;walk_at "rk";simp only [F.own hq n1, Zat];walk_at "rk";exact ⟨hb, h nm ou bs f ox oy _ _ hnm ho (LsW.of hq ⟨mnm, hou⟩) hb hf (ZbB hwb.1 hwb.2 hf.1 hdv) F⟩
theorem Ez (T : Tx K mg) : ZD P w K mg base CX0 4 T.KI T.XX ["_law_pen", "_law_world_here"] (lift K Kz) := by
 have G_take : ZD P w K mg base CX0 1 T.J9 T.J4 ["_law_pen", "_law_many"] (lift K J8) := JC T;have G_land : ZD P w K mg base CX0 3 T.Ls T.Hr ["_law_pen", "_law_world_here", "_law_time"] (lift K Ho) := RT T;have G_spot : ZD P w K mg base CX0 3 T.E6 T.FL ["_law_pen", "_law_world_here"] (lift K LQ) := Td T
 refine okD T.YQ.F VW (fun xs M Φ h => by obtain ⟨_, _, rfl, _⟩ := ZO h; rfl) fun cdv A outer s H E hr => ⟨_, (Zf (Zt 2 VW.nd (Zg G_take (hr.mono (by walk_at "w")) rfl T.Zi.m T.Zi.F.kp T.Zi.b Zm (Za (Zb 0) (Za Zc Zd))))
 (Zf (Zt 3 VW.nd (Zj ZC ((Jf hr) (Zb 1) Zs) (Zg G_take (hr.mono (by walk_at "w")) rfl T.Zi.m T.Zi.F.kp T.Zi.b Zm (Za (Zb 0) (Za ((Jf hr) (Zb 1) Zs) Zd)))))
 (Zf (Zt 4 VW.nd (Zl ((Jf hr) (Zb 1) Zs) (Zg G_take (hr.mono (by walk_at "w")) rfl T.Zi.m T.Zi.F.kp T.Zi.b Zm (Za (Zb 0) (Za (Zk Qp rfl T.Jc Qh (Za ((Jf hr) (Zb 1) Zs) Zd)) Zd)))))
 (Zf (Qb (ZG DF (Zb 2) Zc) (Zh (Zp (Zg G_land (hr.mono (by walk_at "w")) rfl T.Dq.m T.Dq.F.kp T.Dq.b Zm (Za (Zb 0) (Za (Zb 1) (Za (Zb 3) Zd)))))) Zy)
 (Zf (Qb (ZG (Yg hr) (Zb 2) Zc) (Zh (Zp (ZZ (Za Zs (Za (Zb 3) (Za (Zl ((Jf hr) (Zb 1) Zs) (Zg G_take (hr.mono (by walk_at "w")) rfl T.Zi.m T.Zi.F.kp T.Zi.b Zm (Za (Zb 0) (Za (Zk Qp rfl T.Jc Qh (Za ((Jf hr) (Zb 1) Zs) Zd)) Zd)))) Zd)))))) Zy)
 (Zf (Qb (ZG (Yg hr) (Zb 2) Zc) (Zh (Zp (ZZ (Za Zs (Za (Zb 3) (Za (Zb 4) Zd)))))) Zy)
 (Zh (Zp (ZZ (Za Zs (Za (Zb 3) (Za (Zb 4) (Za (Zg G_spot (hr.mono (by walk_at "w")) rfl T.CO.m T.CO.F.kp T.CO.b Zm (Za (Zb 0) (Za (Zb 1) Zd))) Zd))))))))))))), fun xs M Φ h => ?_⟩
 replace h := ZO h;obtain ⟨x1, x2, rfl, h⟩ := h;replace h := Z9 h;obtain ⟨p, rfl, h⟩ := h;replace h := Z9 h;obtain ⟨q, rfl, hw, n1, hp, h⟩ := h;obtain ⟨f, ox, oy, bg, sp, ts, ls, hq, hf, hbg, hsp, hts, hls⟩ := id hw;walk_at "h";refine ⟨hp, fun r M1 a1 b1 f1 => ?_⟩;have hq1 := f1.own hq n1;walk_at "h";simp only [hq1, Lx, ZdN];walk_at "rk";refine ⟨⟨by omega, by omega⟩, f1.1, fun r2 M2 a2 b2 f2 => ?_⟩;have hq2 := f2.own hq1 n1;have hl1 := hts.1;have hl2 := hls.1;walk_at "h";simp only [hq2, MN];walk_at "rk";rw [List.length_map];refine ⟨⟨by omega, by omega⟩, f2.1, fun r3 M3 a3 b3 f3 => tabS (l := ts) (fun s => s ∈ ts) a3 b3 (fun s hs => hs) fun nm mnm => ?_⟩;have hnm := hts.2 nm mnm;have hq3 := f3.own hq2 n1;have F3 := (f1.trans f2).trans f3;have hw3 := hw.fr F3 n1;have ht : 0 <= bg + r2 /\ bg + r2 <= 1000000000000 := by omega
 walk_at "h";refine Zn (fun z => ?_) fun z => ?_
 ·refine ⟨hw3, n1, f3.1, fun ln ou bs f' ox' oy' wb M4 hln hou hlw hbs hf' hwb f4 => ?_⟩;exact h (.land (bg + r2) ln ou (bs.map (Bl f' ox' oy')) wb) M4 ⟨⟨ht, hln⟩, hou, Su hbs hf', hwb⟩ ((hlw.fr F3 n1).imp fun _ _ => RD) (F3.trans f4)
 ·walk_at "h";refine Zn (fun z1 => ?_) fun z1 => ?_
  ·simp only [hq3, Hd];walk_at "rk";rw [List.length_map];refine ⟨⟨by omega, by omega⟩, f3.1, fun r4 M4 a4 b4 f4 => tabS (l := ls) (fun s => s ∈ ls) a4 b4 (fun s hs => hs) fun ln mln => ?_⟩;exact h (.off (Str.ofString "drop") (bg + r2) ln) M4 ⟨⟨ht, hls.2 ln mln⟩, .inl rfl⟩ (LsW.of hq (R1 mln)) (F3.trans f4)
  ·walk_at "h";refine Zn (fun z2 => ?_) fun z2 => ?_
   ·exact h (.off (Str.ofString "free") (bg + r2) nm) M3 ⟨⟨ht, hnm⟩, .inr rfl⟩ (LsW.of hq (Rw mnm)) F3
   ·subst_vars;walk_at "rk";refine ⟨hw3, n1, f3.1, fun u v M4 hu hv f4 => ?_⟩;exact h (.spot (bg + r2) nm u v) M4 ⟨⟨ht, hnm⟩, hu, hv⟩ (LsW.of hq (T9 mnm)) (F3.trans f4)
theorem Ma (T : Tx K mg) : ZD P w K mg base CX0 1 T.Cv T.Dy ["_law_found", "_law_due"] (lift K C0) := by
 refine okD T.Jl.F Zan (fun xs M Φ h => by obtain ⟨_, _, rfl, _⟩ := ZO h; rfl) fun cdv A outer s H E hr => ⟨_, (Zh (Zp (QE (Jm (P5 hr) (Zb 0) (Zb 1)) (JO (Jm (Yb hr) (Zk (NB hr) rfl T.Wt Xa (Za (Zb 0) Zd)) (Zk (BC hr) rfl T.Wt Xa (Za (Zb 1) Zd))))))), fun xs M Φ h => ?_⟩;replace h := ZO h;obtain ⟨x1, x2, rfl, h⟩ := h;obtain ⟨d, hx, rfl, ⟨h1, h2, h3⟩, h⟩ := h
 rcases hx with rfl | ⟨q, ds, rfl, hq, rfl⟩
 ·walk_at "rk";rw [h2, if_pos rfl];refine ⟨h1, h3, h3, ?_⟩;rw [show isS (PyData.str d.shown) d.shown = true from decide_eq_true rfl];exact h
 ·have h2 : PyData.eqvAll ds ds = true := h2;walk_at "rk";rw [hq];walk_at "rk";rw [h2, if_pos rfl];refine ⟨h1, h3, h3, ?_⟩;rw [show isS (PyData.str (PyData.list ds).shown) (PyData.list ds).shown = true from decide_eq_true rfl];exact h
theorem SH (T : Tx K mg) : ZD P w K mg base CX0 5 T.E1 T.FQ ["_law_pen", "_law_world_here", "_law_most"] (lift K Lh) := by
 have G_telling : ZD P w K mg base CX0 4 T.KI T.XX ["_law_pen", "_law_world_here"] (lift K Kz) := Ez T;have G_take : ZD P w K mg base CX0 1 T.J9 T.J4 ["_law_pen", "_law_many"] (lift K J8) := JC T;refine okD T.CF.F Zao (fun xs M Φ h => by obtain ⟨_, _, _, rfl, _⟩ := JF h; rfl) fun cdv A outer s H E hr => ⟨_, (Zh (Zp (Qc true (Zx (sc := Ze X9) (XN := ["_law_pen", "_law_world_here", "_law_most"]) (N := ["_law_k", "_law_pen", "_law_world_here"]) (ix := [none, some 0, some 1]) rfl rfl (by walk_at "k")) (Jz rfl T.QF (Za (Zg G_take (hr.mono (by walk_at "w")) rfl T.Zi.m T.Zi.F.kp T.Zi.b Zm (Za (Zb 0) (Za (Zj ZC (Zb 2) Zc) Zd))) Zd)) (fun C ex s H => (Zu 0 (show List.Nodup (["_law_k", "_law_pen", "_law_world_here"] : List Str) by walk_at "k"))) (fun C ex s H => Z7) (fun C ex s H => (Zg G_telling (hr.mono (by walk_at "w")) rfl T.YQ.m T.YQ.F.kp T.YQ.b Zm (Za (Zb 1) (Za (Zb 2) Zd)))) rfl))), fun xs M Φ h => ?_⟩;replace h := JF h;obtain ⟨x1, x2, x3, rfl, h⟩ := h;replace h := Z9 h;obtain ⟨p, rfl, h⟩ := h;replace h := Z9 h;obtain ⟨q, rfl, h⟩ := h;replace h := ZS h;obtain ⟨m, rfl, rfl, hw, hne, hp, h⟩ := h;walk_at "rk";refine ⟨hp, fun r M1 r0 r1 f1 => ⟨⟨by omega, by omega⟩, by rw [Z0]; omega, fun i acc M' => ∃ ts : List Tl, acc = ts.map tlD /\ ts.length = i /\ (∀ t ∈ ts, KZ t) /\ LsW M q (fun tn ln => ∀ t ∈ ts, InW tn ln t) /\ Fr p M M', ⟨[], rfl, rfl, fun t ht => (nomatch ht), fun _ _ _ _ _ _ _ _ t ht => (nomatch ht), f1⟩, ?_, ?_⟩⟩
 ·rintro i d acc M' hd ⟨ts, rfl, hl, ht, hw2, hF⟩;refine ⟨hw.fr hF hne, hne, hF.1, fun x M2 hx hwx f2 => ?_⟩;have hwx := hwx.fr hF hne;refine ⟨ts ++ [x], by rw [List.map_append]; rfl, by rw [List.length_append, hl]; rfl, fun t m => ?_, fun f ox oy bg sp tn ln e t m => ?_, hF.trans f2⟩
  ·rcases List.mem_append.mp m with m | m
   ·exact ht t m
   ·rw [List.mem_singleton.mp m];exact hx
  ·rcases List.mem_append.mp m with m | m
   ·exact hw2 f ox oy bg sp tn ln e t m
   ·rw [List.mem_singleton.mp m];exact hwx f ox oy bg sp tn ln e
 ·rintro acc M' ⟨ts, rfl, hl, ht, hw2, hF⟩ s hs;rw [Z0] at hl;have sp : s ≠ p := Ne.symm (hF.1.ne hs)
  exact h ts _ s (by omega) ht hw2 Zv (hF.fresh hs) (fun a ha hn => by
   have e := hF.2 a ha hn
   rw [Z5 (fun z => hn (by rw [<- e, z]; exact hs)), e]) (hF.1.put (Ne.symm sp)) sp
theorem EB (T : Tx K mg) : ZD P w K mg base CX0 7 T.Kr T.XS ["tellings"] (lift K KA) := by
 have G_is_telling : ZD P w K mg base CX0 6 T.VG T.VP ["thing"] (lift K Hn) := WZ T
 refine okD T.YO.F DN (fun xs M Φ h => by obtain ⟨_, rfl, _⟩ := Zw h; rfl) fun cdv A outer s H E hr => ⟨_, (Zf (Qb (QS (QR (B5 [0] (Zk (Gf rfl) rfl T.H9 Gg (Za (Qc false (Zx (sc := Ze JG) (XN := ["tellings"]) (N := ["telling"]) (ix := [none]) rfl rfl (by walk_at "k")) (QZ (Zb 0)) (fun C ex s H => (Zu 0 (show List.Nodup (["telling"] : List Str) by walk_at "k"))) (fun C ex s H => Z7) (fun C ex s H => (Zg G_is_telling (hr.mono (by walk_at "w")) rfl T.JN.m T.JN.F.kp T.JN.b Zm (Za (Zb 0) Zd))) rfl) Zd))))) (Zh WY) Zy)
 (Zh (Zp (Zb 0)))), fun xs M Φ h => ?_⟩
 replace h := Zw h;obtain ⟨x1, rfl, h⟩ := h;obtain ⟨q, ts, rfl, hq, hts, h⟩ := h;walk_at "h";refine ⟨.list (ts.map tlD), .lst hq, ?_⟩;walk_at "rk";have len := List.length_map (as := ts) tlD;have l20 := hts.1;refine ⟨by omega, fun i acc M' => acc = (List.replicate i true).map PyData.bool /\ M' = (fun _ => none), ⟨rfl, rfl⟩, ?_, ?_⟩
 ·rintro i d acc M' hd ⟨rfl, rfl⟩;obtain ⟨x, ex, rfl⟩ := Z4 hd;obtain ⟨D, e, hD⟩ := P9 (hts.2 x (List.mem_of_getElem? ex));rw [e];obtain ⟨a, b⟩ := ZaN hD;refine ⟨b, ?_, rfl⟩;rw [a, List.replicate_succ', List.map_append];rfl
 ·rintro acc M' ⟨rfl, rfl⟩;refine ⟨List.replicate _ true, rfl, ?_⟩;rw [GS];walk_at "rk";refine ⟨rfl, ?_⟩;subst_vars;walk_at "rk";exact h
theorem K5 (T : Tx K mg) : ZD P w K mg base CX0 8 T.Y1 T.YT ["tellings", "by"] (lift K XH) := by
 have G_checked : ZD P w K mg base CX0 7 T.Kr T.XS ["tellings"] (lift K KA) := EB T;refine okD T.Qn.F Ek (fun xs M Φ h => by obtain ⟨_, _, rfl, _⟩ := ZO h; rfl) fun cdv A outer s H E hr => ⟨_, (Zh (Zp (Zg G_checked (hr.mono (by walk_at "w")) rfl T.YO.m T.YO.F.kp T.YO.b Zm (Za (Qc true (Zx (sc := Ze JK) (XN := ["tellings", "by"]) (N := ["telling", "by"]) (ix := [none, some 1]) rfl rfl (by walk_at "k")) (QZ (Zb 0)) (fun C ex s H => (Zu 0 (show List.Nodup (["telling", "by"] : List Str) by walk_at "k"))) (fun C ex s H => Z7) (fun C ex s H => (Zj JR (Zj JR (Qy (Zb 0) Q1 (Qw Zc)) (ZZ (Za (Zj ZC (Zl (Zb 0) Zc) (Zb 1)) Zd))) (Qy (Zb 0) (Qw Zc) Q1))) rfl) Zd)))), fun xs M Φ h => ?_⟩;replace h := ZO h;obtain ⟨x1, x2, rfl, h⟩ := h;obtain ⟨ts, rfl, h⟩ := h;replace h := ZS h;obtain ⟨b, rfl, ⟨hts, hto⟩, h⟩ := h;have len := List.length_map (as := ts) tlD;have l20 := hts.1;walk_at "rk";refine ⟨by omega, fun i acc M' => acc = ((ts.take i).map (shT b)).map tlD /\ M' = M, ⟨rfl, rfl⟩, ?_, ?_⟩
 ·rintro i d acc M' hd ⟨rfl, rfl⟩;obtain ⟨x, ex, rfl⟩ := Z4 hd;have fin : ∀ ds, PyData.tuple ds = tlD (shT b x) -> ((ts.take i).map (shT b)).map tlD ++ [PyData.tuple ds] = ((ts.take (i + 1)).map (shT b)).map tlD := fun ds e => by
   rw [e, List.map_map, List.map_map];exact take_snoc (tlD ∘ shT b) ex
  cases x with
  | land t nm ou bs wb =>
   unfold tlD;walk_at "rk";rw [Mg, DJ];exact ⟨by simp, by simp, fin _ rfl⟩
  | spot t nm u v =>
   unfold tlD;walk_at "rk";rw [Mg, DJ];exact ⟨by simp, by simp, fin _ rfl⟩
  | off w t nm =>
   unfold tlD;walk_at "rk";rw [Mg, DJ];exact ⟨by simp, by simp, fin _ rfl⟩
 ·rintro acc M' ⟨rfl, rfl⟩;rw [len, List.take_length];intro q hq;exact ⟨q, _, rfl, Zv, hto, h q hq⟩
theorem Gx (T : Tx K mg) : ZD P w K mg base CX0 2 T.Yx T.Yu ["names"] (lift K Xo) := by
 have G_is_name : ZD P w K mg base CX0 1 T.VA T.VL ["thing"] (lift K spN) := Xd T;refine okD T.Qv.F UY (fun xs M Φ h => by obtain ⟨_, rfl, _⟩ := Zw h; rfl) fun cdv A outer s H E hr => ⟨_, (Zh (Zp (Zk (Gf rfl) rfl T.H9 Gg (Za (Qc false (Zx (sc := Ze Qx) (XN := ["names"]) (N := ["name"]) (ix := [none]) rfl rfl (by walk_at "k")) (QZ (Zj Ym (UE rfl T.Lz (Zb 0)) (U4 rfl T.Lz (Zb 0)))) (fun C ex s H => (Zu 0 (show List.Nodup (["name"] : List Str) by walk_at "k"))) (fun C ex s H => Z7) (fun C ex s H => (Zg G_is_name (hr.mono (by walk_at "w")) rfl T.Qr.m T.Qr.F.kp T.Qr.b Zm (Za (Zb 0) Zd))) rfl) Zd)))), fun xs M Φ h => ?_⟩;replace h := Zw h;obtain ⟨x1, rfl, h⟩ := h;obtain ⟨ps, rfl, ⟨hn, hl⟩, h⟩ := h;walk_at "rk";rw [UL, List.length_map, List.length_map, List.length_map, List.length_map, <- List.map_append];refine ⟨by omega, by omega, by omega, by rw [List.length_map, List.length_append, List.length_map, List.length_map]; omega, fun i acc M' => acc = (List.replicate i true).map PyData.bool /\ M' = M, ⟨rfl, rfl⟩, ?_, ?_⟩
 ·rintro i d acc M' hd ⟨rfl, rfl⟩;obtain ⟨s, es, rfl⟩ := Z4 hd;have hs : ZA s := by
   rcases List.mem_append.mp (List.mem_of_getElem? es) with m | m
   ·obtain ⟨q, hq, rfl⟩ := List.mem_map.mp m;exact (hn q hq).1
   ·obtain ⟨q, hq, rfl⟩ := List.mem_map.mp m;exact (hn q hq).2
  walk_at "rk";refine ⟨Sg hs, ?_⟩;rw [hs.is];exact Oj i
 ·rintro acc M' ⟨rfl, rfl⟩;refine ⟨List.replicate _ true, rfl, ?_⟩;rw [GS];exact h
theorem D8 (T : Tx K mg) : ZD P w K mg base CX0 1 T.X0 T.Kc ["names", "others"] (lift K XZ) := by
 refine okD T.JA.F Ep (fun xs M Φ h => by obtain ⟨_, _, rfl, _⟩ := ZO h; rfl) fun cdv A outer s H E hr => ⟨_, (Zh (Zp (Jm DF (Wk rfl T.Jc rfl T.RB (Za (Qc false (Zx (sc := Ze Jy) (XN := ["names", "others"]) (N := ["name", "others"]) (ix := [none, some 1]) rfl rfl (by walk_at "k")) (QZ (Zb 0)) (fun C ex s H => (Zu 0 (show List.Nodup (["name", "others"] : List Str) by walk_at "k"))) (fun C ex s H => Z7) (fun C ex s H => (Vg hr (Zb 1) (Zb 0) (Zb 0))) rfl) Zd)) (Wk rfl T.Jc rfl T.RB (Za (Zb 0) Zd))))), fun xs M Φ h => ?_⟩;replace h := ZO h;obtain ⟨x1, x2, rfl, h⟩ := h;obtain ⟨ns, rfl, ps, rfl, ⟨hl, hi⟩, h⟩ := h;have len := List.length_map (as := ns) PyData.str;walk_at "rk";refine ⟨by omega, fun i acc M' => acc = ((ns.take i).map (ndV ps)).map PyData.str /\ M' = M, ⟨rfl, rfl⟩, ?_, ?_⟩
 ·rintro i d acc M' hd ⟨rfl, rfl⟩;obtain ⟨s, es, rfl⟩ := Z4 hd;walk_at "rk";rw [List.map_map, List.map_map];exact take_snoc (PyData.str ∘ ndV ps) es
 ·rintro acc M' ⟨rfl, rfl⟩;rw [len, List.take_length];refine ⟨ns.map (ndV ps), rfl, by rw [List.length_map]; exact hl, fun k1 n1 m1 => ⟨ns, rfl, hl, fun k2 n2 m2 => ?_⟩⟩;have e : k2.length <= k1.length := by
   have := VB (l := k2.map (ndV ps)) (l' := k1) (VH n2 fun a ha b hb => hi a ((m2 a).mp ha) b ((m2 b).mp hb)) fun x hx => by
    obtain ⟨y, hy, rfl⟩ := List.mem_map.mp hx;exact (m1 _).mpr (List.mem_map.mpr ⟨y, (m2 y).mp hy, rfl⟩)
   rwa [List.length_map] at this
  rw [decide_eq_false (by omega)];exact h
theorem YI (T : Tx K mg) : ZD P w K mg base CX0 1 T.QW T.Q3 ["tellings"] (lift K WV) := by
 refine okD T.Qi.F YZ (fun xs M Φ h => by obtain ⟨_, rfl, _⟩ := Zw h; rfl) fun cdv A outer s H E hr => ⟨_, (Zh (Zp (Qc false (Zx (sc := Ze ZL) (XN := ["tellings"]) (N := ["telling"]) (ix := [none]) rfl rfl (by walk_at "k")) (QZ (Zb 0)) (fun C ex s H => (Zu 0 (show List.Nodup (["telling"] : List Str) by walk_at "k"))) (fun C ex s H => (Ub (ZG (Wg hr) (Zl (Zb 0) Zc) (ZZ (Za Zs (Za Zs Zd)))))) (fun C ex s H => (Zl (Zb 0) Zc)) rfl))), fun xs M Φ h => ?_⟩;replace h := Zw h;obtain ⟨x1, rfl, h⟩ := h;obtain ⟨ts, rfl, hts, h⟩ := h;have len := List.length_map (as := ts) tlD;have l20 := hts.1;walk_at "rk";refine ⟨by omega, fun i acc M' => acc = ((ts.take i).flatMap KL).map PyData.str /\ M' = M, ⟨rfl, rfl⟩, ?_, ?_⟩
 ·rintro i d acc M' hd ⟨rfl, rfl⟩;obtain ⟨x, ex, rfl⟩ := Z4 hd;have fin := Y3 KL ex
  rcases VT (hts.2 x (List.mem_of_getElem? ex)) with ⟨t, nm, ou, bs, wb, rfl⟩ | ⟨t, nm, u, v, rfl⟩ | ⟨t, nm, rfl⟩ | ⟨t, nm, rfl⟩
  ·unfold tlD;walk_at "rk";refine ⟨[Str.ofString "free", Str.ofString "spot"], rfl, ?_⟩;rw [kw1.1.1, fin];walk_at "rk";simp [KL]
  ·unfold tlD;walk_at "rk";refine ⟨[Str.ofString "free", Str.ofString "spot"], rfl, ?_⟩;rw [kw1.1.2, fin];walk_at "rk";simp [KL]
  ·unfold tlD;walk_at "rk";refine ⟨[Str.ofString "free", Str.ofString "spot"], rfl, ?_⟩;rw [kw1.2.1, fin];walk_at "rk";simp [KL, Ew]
  ·unfold tlD;walk_at "rk";refine ⟨[Str.ofString "free", Str.ofString "spot"], rfl, ?_⟩;rw [kw1.2.2, fin];walk_at "rk";simp [KL]
 ·rintro acc M' ⟨rfl, rfl⟩;rw [len, List.take_length];exact h
theorem Xj (T : Tx K mg) : ZD P w K mg base CX0 1 T.Je T.Jg ["tellings"] (lift K B7) := by
 refine okD T.Qs.F Vb (fun xs M Φ h => by obtain ⟨_, rfl, _⟩ := Zw h; rfl) fun cdv A outer s H E hr => ⟨_, (Zf (WK 1 false Vb.nd (Zx (sc := Ze ZF) (XN := ["tellings", "names"]) (N := ["telling"]) (ix := [none]) rfl rfl (by walk_at "k")) (QZ (Zb 0)) (fun C ex s H => (Zu 0 (show List.Nodup (["telling"] : List Str) by walk_at "k"))) (fun C ex s H => (Ub (ZG (Wg hr) (Zl (Zb 0) Zc) (ZZ (Za Zs (Za Zs Zd)))))) (fun C ex s H => (Zl (Zb 0) Zc)) rfl)
 (Zh (Zp (Zj Ym (Zb 1) (Qc false (Zx (sc := Ze ZF) (XN := ["tellings", "names"]) (N := ["telling"]) (ix := [none]) rfl rfl (by walk_at "k")) (QZ (Zb 0)) (fun C ex s H => (Zu 0 (show List.Nodup (["telling"] : List Str) by walk_at "k"))) (fun C ex s H => (Ub (DW.dt (XW (ZG (Yb hr) (Zl (Zb 0) Zc) Zs) (Y6 (ZG FZ (Zl (Zb 0) Zc) Zs)))))) (fun C ex s H => (Zl (Zb 0) Zc)) rfl))))), fun xs M Φ h => ?_⟩
 replace h := Zw h;obtain ⟨x1, rfl, h⟩ := h;obtain ⟨ts, rfl, hts, h⟩ := h;have len := List.length_map (as := ts) tlD;have l20 := hts.1;have lf := P8 ts;walk_at "h";refine ⟨by omega, fun i acc M' => acc = ((ts.take i).flatMap XF).map PyData.str /\ M' = M, ⟨rfl, rfl⟩, ?_, ?_⟩
 ·rintro i d acc M' hd ⟨rfl, rfl⟩;obtain ⟨x, ex, rfl⟩ := Z4 hd;have fin := Y3 XF ex
  rcases VT (hts.2 x (List.mem_of_getElem? ex)) with ⟨t, nm, ou, bs, wb, rfl⟩ | ⟨t, nm, u, v, rfl⟩ | ⟨t, nm, rfl⟩ | ⟨t, nm, rfl⟩
  ·unfold tlD;walk_at "rk";refine ⟨[Str.ofString "land", Str.ofString "drop"], rfl, ?_⟩;rw [kw2.1.1, fin];walk_at "rk";simp [XF]
  ·unfold tlD;walk_at "rk";refine ⟨[Str.ofString "land", Str.ofString "drop"], rfl, ?_⟩;rw [kw2.1.2, fin];walk_at "rk";simp [XF]
  ·unfold tlD;walk_at "rk";refine ⟨[Str.ofString "land", Str.ofString "drop"], rfl, ?_⟩;rw [kw2.2.1, fin];walk_at "rk";simp [XF, Ew]
  ·unfold tlD;walk_at "rk";refine ⟨[Str.ofString "land", Str.ofString "drop"], rfl, ?_⟩;rw [kw2.2.2, fin];walk_at "rk";simp [XF]
 ·rintro acc M1 ⟨rfl, rfl⟩;rw [len, List.take_length];subst_vars;walk_at "rk";refine ⟨by omega, fun i acc M' => acc = ((ts.take i).flatMap Yh).map PyData.str /\ M' = M1, ⟨rfl, rfl⟩, ?_, ?_⟩
  ·rintro i d acc M' hd ⟨rfl, rfl⟩;obtain ⟨x, ex, rfl⟩ := Z4 hd;have fin := Y3 Yh ex
   rcases VT (hts.2 x (List.mem_of_getElem? ex)) with ⟨t, nm, ou, bs, wb, rfl⟩ | ⟨t, nm, u, v, rfl⟩ | ⟨t, nm, rfl⟩ | ⟨t, nm, rfl⟩
   ·unfold tlD;walk_at "rk";rw [Zew, fin];walk_at "rk"
    by_cases e : ou = Str.ofString ""
    ·simp [Yh, e]
    ·simp [Yh, e]
   ·unfold tlD;walk_at "rk";rw [ZeF, fin];walk_at "rk";simp [Yh]
   ·unfold tlD;walk_at "rk";rw [Zd2.1, fin];walk_at "rk";simp [Yh]
   ·unfold tlD;walk_at "rk";rw [Zeg.1, fin];walk_at "rk";simp [Yh]
  ·rintro acc M' ⟨rfl, rfl⟩;rw [len, List.take_length];unfold laN at h lf;rw [List.length_append] at lf;rw [List.length_map, List.length_map, <- List.map_append];exact ⟨by omega, h⟩
theorem Yk (T : Tx K mg) : ZD P w K mg base CX0 1 T.QM T.QG ["telling", "things", "lands"] (lift K Bb) := by
 refine okD T.Qf.F Qu (fun xs M Φ h => by obtain ⟨_, _, _, rfl, _⟩ := JF h; rfl) fun cdv A outer s H E hr => ⟨_, (Zf (Zt 3 Qu.nd (Zl (Zb 0) Zc))
 (Zf (Qb (ZG (Wg hr) (Zl (Zb 0) Zc) (ZZ (Za Zs (Za Zs Zd)))) (Zh (Zp (Zj JR (Zj JR (Qy (Zb 0) Q1 (Qw Zc)) (ZZ (Za (Vg hr (Zb 1) (Zb 3) (Zb 3)) Zd))) (Qy (Zb 0) (Qw Zc) Q1)))) Zy)
 (Zf (Qb (ZG (Yb hr) (Zl (Zb 0) Zc) Zs) (Zh (Zp (Zj JR (Qy (Zb 0) Q1 (Qw Zc)) (ZZ (Za (Vg hr (Zb 2) (Zb 3) (Zb 3)) Zd))))) Zy)
 (Zf (Zt 4 Qu.nd (Zl (Zb 0) Zc))
 (Zh (Zp (Zj JR (Zj JR (Qy (Zb 0) Q1 (Qw Zc)) (ZZ (Za (Vg hr (Zb 2) (Zb 3) (Zb 3)) (Za (Vg hr (Zb 2) (Zb 4) (Zb 4)) Zd)))) (Qy (Zb 0) (Qw Zc) Q1)))))))), fun xs M Φ h => ?_⟩
 replace h := JF h;obtain ⟨x1, x2, x3, rfl, h⟩ := h;obtain ⟨x, rfl, ps, rfl, rs, rfl, hx, h⟩ := h
 rcases VT hx with ⟨t, nm, ou, bs, wb, rfl⟩ | ⟨t, nm, u, v, rfl⟩ | ⟨t, nm, rfl⟩ | ⟨t, nm, rfl⟩
 ·unfold tlD;walk_at "h";walk_at "h";refine ⟨[Str.ofString "free", Str.ofString "spot"], rfl, ?_⟩;rw [kw1.1.1, if_neg Bool.false_ne_true];walk_at "h";rw [kw3.2, if_neg Bool.false_ne_true];walk_at "h";subst_vars;walk_at "rk";rw [CL, Zfi];exact ⟨by simp, by simp, h⟩
 ·unfold tlD;walk_at "h";walk_at "h";refine ⟨[Str.ofString "free", Str.ofString "spot"], rfl, ?_⟩;rw [kw1.1.2];walk_at "rk";rw [CL, Zcv];exact ⟨by simp, by simp, h⟩
 ·unfold tlD;walk_at "h";walk_at "h";refine ⟨[Str.ofString "free", Str.ofString "spot"], rfl, ?_⟩;rw [kw1.2.1, if_neg Bool.false_ne_true];walk_at "h";rw [kw3.1];walk_at "rk";rw [CL];refine ⟨by simp, ?_⟩;simp only [reT, if_neg Ew] at h;exact h
 ·unfold tlD;walk_at "h";walk_at "h";refine ⟨[Str.ofString "free", Str.ofString "spot"], rfl, ?_⟩;rw [kw1.2.2];walk_at "rk";rw [CL, Zcv];refine ⟨by simp, by simp, ?_⟩;simp only [reT, if_pos] at h;exact h
theorem EX (T : Tx K mg) : ZD P w K mg base CX0 3 T.WJ T.Ud ["tellings", "things", "lands"] (lift K WC) := by
 have G_clashes : ZD P w K mg base CX0 1 T.X0 T.Kc ["names", "others"] (lift K XZ) := D8 T;have G_called_otherwise : ZD P w K mg base CX0 1 T.QM T.QG ["telling", "things", "lands"] (lift K Bb) := Yk T;have G_are_names : ZD P w K mg base CX0 2 T.Yx T.Yu ["names"] (lift K Xo) := Gx T;have G_names_of_things : ZD P w K mg base CX0 1 T.QW T.Q3 ["tellings"] (lift K WV) := YI T;have G_names_of_lands : ZD P w K mg base CX0 1 T.Je T.Jg ["tellings"] (lift K B7) := Xj T
 refine okD T.Qk.F HN (fun xs M Φ h => by obtain ⟨_, _, _, rfl, _⟩ := JF h; rfl) fun cdv A outer s H E hr => ⟨_, (Zf (Qb (DW.dt (KQ (QS (QR (Zg G_are_names (hr.mono (by walk_at "w")) rfl T.Qv.m T.Qv.F.kp T.Qv.b Zm (Za (Zb 1) Zd)))) (Ya (QS (QR (Zg G_are_names (hr.mono (by walk_at "w")) rfl T.Qv.m T.Qv.F.kp T.Qv.b Zm (Za (Zb 2) Zd))))))) (Zh WY) Zy)
 (Zf (Qb (DW.dt (KQ (QR (Zg G_clashes (hr.mono (by walk_at "w")) rfl T.JA.m T.JA.F.kp T.JA.b Zm (Za (Zg G_names_of_things (hr.mono (by walk_at "w")) rfl T.Qi.m T.Qi.F.kp T.Qi.b Zm (Za (Zb 0) Zd)) (Za (Zb 1) Zd)))) (Ya (QR (Zg G_clashes (hr.mono (by walk_at "w")) rfl T.JA.m T.JA.F.kp T.JA.b Zm (Za (Zg G_names_of_lands (hr.mono (by walk_at "w")) rfl T.Qs.m T.Qs.F.kp T.Qs.b Zm (Za (Zb 0) Zd)) (Za (Zb 2) Zd))))))) (Zh WY) Zy)
 (Zh (Zp (Qc true (Zx (sc := Ze Vc) (XN := ["tellings", "things", "lands"]) (N := ["telling", "things", "lands"]) (ix := [none, some 1, some 2]) rfl rfl (by walk_at "k")) (QZ (Zb 0)) (fun C ex s H => (Zu 0 (show List.Nodup (["telling", "things", "lands"] : List Str) by walk_at "k"))) (fun C ex s H => Z7) (fun C ex s H => (Zg G_called_otherwise (hr.mono (by walk_at "w")) rfl T.Qf.m T.Qf.F.kp T.Qf.b Zm (Za (Zb 0) (Za (Zb 1) (Za (Zb 2) Zd))))) rfl))))), fun xs M Φ h => ?_⟩
 replace h := JF h;obtain ⟨x1, x2, x3, rfl, h⟩ := h;obtain ⟨ts, rfl, ps, rfl, rs, rfl, ⟨hts, hp, hr'⟩, h⟩ := h;have len := List.length_map (as := ts) tlD;have l20 := hts.1;have l1 := ZdY ts;have l2 := P8 ts;walk_at "h";refine ⟨ps, rfl, ⟨hp.nm, hp.len⟩, ?_⟩;walk_at "rk";refine ⟨rs, rfl, ⟨hr'.nm, hr'.len⟩, ?_⟩;walk_at "rk";walk_at "h";refine ⟨ts, rfl, hts, _, rfl, ps, rfl, ⟨by omega, hp.inj⟩, ?_⟩;walk_at "rk";refine ⟨ts, rfl, hts, _, rfl, rs, rfl, ⟨by omega, hr'.inj⟩, ?_⟩;subst_vars;walk_at "rk";refine ⟨by omega, fun i acc M' => acc = ((ts.take i).map (reT (ndV ps) (ndV rs))).map tlD /\ M' = M, ⟨rfl, rfl⟩, ?_, ?_⟩
 ·rintro i d acc M' hd ⟨rfl, rfl⟩;obtain ⟨x, ex, rfl⟩ := Z4 hd;walk_at "rk";refine ⟨x, rfl, ps, rfl, rs, rfl, hts.2 x (List.mem_of_getElem? ex), ?_⟩;rw [List.map_map, List.map_map];exact take_snoc (tlD ∘ reT (ndV ps) (ndV rs)) ex
 ·rintro acc M' ⟨rfl, rfl⟩;rw [len, List.take_length];exact h
theorem Cf (T : Tx K mg) : ZD P w K mg base CX0 1 T.Xu T.Xc ["_law_tellings", "_law_kinds"] (lift K Xr) := by
 refine okG T.Q2.F Yo (fun xs M Φ h => by obtain ⟨_, _, rfl, _⟩ := ZO h; rfl) fun cdv A outer s H E hr => ⟨_, (Zf (Zt 2 Yo.nd (Yt Zd))
 (Zf (Xi (Zb 0) (Zu 3 Yo.nd) (Zh (Qb (ZG (Wg hr) (Zl (Zb 3) Zc) (Zb 1)) (Zf (JT (Qm (Zb 2) (Zl (Zb 3) Zc)))
 (Zh (Qb (DW.dt (XW (ZG (Yb hr) (Zl (Zb 3) Zc) Zs) (Y6 (ZG FZ (Zl (Zb 3) Zc) Zs)))) (Zh (JT (Qm (Zb 2) (Zl (Zb 3) Zc)))) Zy))) Zy)) PassesOwn.never rfl)
 (Zh (Zp (WS rfl T.OE rfl T.RB (Za (Zb 2) Zd)))))), fun xs M Φ h => ?_⟩
 replace h := ZO h;obtain ⟨x1, x2, rfl, h⟩ := h;obtain ⟨ts, rfl, b, rfl, hts, h⟩ := h;have len := List.length_map (as := ts) tlD;have l20 := hts.1;walk_at "h";intro q hq;walk_at "h";refine ⟨fun i Z M' => ∃ k3, Z = [some (.dat (.list (ts.map tlD))), some (.dat (.tuple (VI b))), some (.own q), k3] /\ M' = ZM M q (.lst (((ts.take i).flatMap (UQ b)).map PyData.str)), ⟨_, rfl, rfl⟩, ?_, ?_⟩
 ·rintro i d Z M' hd ⟨k3, rfl, rfl⟩;obtain ⟨x, ex, rfl⟩ := Z4 hd;have fin := Y3 (UQ b) ex;have sz : ((ts.take i).flatMap (UQ b)).length <= 40 := by
   have := Ri b (ts.take i);rw [List.length_take] at this;omega
  generalize (ts.take i).flatMap (UQ b) = acc at *
  rcases VT (hts.2 x (List.mem_of_getElem? ex)) with ⟨t, nm, ou, bs, wb, rfl⟩ | ⟨t, nm, u, v, rfl⟩ | ⟨t, nm, rfl⟩ | ⟨t, nm, rfl⟩ <;> cases b
  ·unfold tlD VI;walk_at "rk";refine ⟨[Str.ofString "land", Str.ofString "drop"], rfl, ?_⟩;rw [kw2.1.1];walk_at "rk";rw [Zew];walk_at "rk";rw [List.length_map];refine ⟨by omega, ?_⟩
   by_cases e : ou = Str.ofString ""
   ·rw [fin];simp [UQ, XF, Yh, e]
   ·rw [fin];simp [UQ, XF, Yh, e];omega
  ·unfold tlD VI;walk_at "rk";refine ⟨[Str.ofString "free", Str.ofString "spot"], rfl, ?_⟩;rw [kw1.1.1, fin];walk_at "rk";simp [UQ, KL]
  ·unfold tlD VI;walk_at "rk";refine ⟨[Str.ofString "land", Str.ofString "drop"], rfl, ?_⟩;rw [kw2.1.2, fin];walk_at "rk";simp [UQ, XF, Yh]
  ·unfold tlD VI;walk_at "rk";refine ⟨[Str.ofString "free", Str.ofString "spot"], rfl, ?_⟩;rw [kw1.1.2, fin];walk_at "rk";rw [ZeF];walk_at "rk";rw [List.length_map];refine ⟨by omega, ?_⟩;simp [UQ, KL]
  ·unfold tlD VI;walk_at "rk";refine ⟨[Str.ofString "land", Str.ofString "drop"], rfl, ?_⟩;rw [kw2.2.1, fin];walk_at "rk";rw [Zd2.1];walk_at "rk";rw [List.length_map];refine ⟨by omega, ?_⟩;simp [UQ, XF, Yh, Ew]
  ·unfold tlD VI;walk_at "rk";refine ⟨[Str.ofString "free", Str.ofString "spot"], rfl, ?_⟩;rw [kw1.2.1, fin];walk_at "rk";simp [UQ, KL, Ew]
  ·unfold tlD VI;walk_at "rk";refine ⟨[Str.ofString "land", Str.ofString "drop"], rfl, ?_⟩;rw [kw2.2.2, fin];walk_at "rk";simp [UQ, XF, Yh]
  ·unfold tlD VI;walk_at "rk";refine ⟨[Str.ofString "free", Str.ofString "spot"], rfl, ?_⟩;rw [kw1.2.2, fin];walk_at "rk";rw [Zeg.1];walk_at "rk";rw [List.length_map];refine ⟨by omega, ?_⟩;simp [UQ, KL]
 ·rintro Z M' ⟨k3, rfl, rfl⟩;rw [len, List.take_length];subst_vars;walk_at "rk";refine ⟨ts.flatMap (UQ b), rfl, by have := Ri b ts; omega, fun ks _ nd hk => ?_⟩;exact Po hq (h ks nd fun z => (hk z).trans (Zel b ts z))
theorem HK (T : Tx K mg) : ZD P w K mg base CX0 3 T.Wy T.Uw ["_law_pen", "_law_some_here"] (lift K Wz) := by
 have G_names : ZD P w K mg base CX0 2 T.Uu T.WR ["_law_pen", "_law_many"] (lift K Ug) := Di T
 refine okD T.XI.F Kq (fun xs M Φ h => by obtain ⟨_, _, rfl, _⟩ := ZO h; rfl) fun cdv A outer s H E hr => ⟨_, (Zf (WK 2 true Kq.nd (Zx (sc := Ze Vn) (XN := ["_law_pen", "_law_some_here", "_law_found", "_law_sign"]) (N := ["_law_name", "_law_some_here"]) (ix := [none, some 1]) rfl rfl (by walk_at "k")) (QZ (Zg G_names (hr.mono (by walk_at "w")) rfl T.JU.m T.JU.F.kp T.JU.b Zm (Za (Zb 0) (Za Zc Zd)))) (fun C ex s H => (Zu 0 (show List.Nodup (["_law_name", "_law_some_here"] : List Str) by walk_at "k"))) (fun C ex s H => (Ub (ZG (C7 hr) (Zb 0) (Zb 1)))) (fun C ex s H => (Zb 0)) rfl)
 (Zf (SD (P1 Zs) (Zu 3 Kq.nd) (Zh (Qb (ZG (C7 hr) (Zj Ue Zs (Zb 3)) (Zj Ym (Zb 2) (Zb 1))) (Zh (JT (Qm (Zb 2) (Zj Ue Zs (Zb 3))))) Zy)) PassesOwn.never rfl)
 (Zh (Zp (CJ (Zb 2)))))), fun xs M Φ h => ?_⟩
 replace h := ZO h;obtain ⟨x1, x2, rfl, h⟩ := h;replace h := Z9 h;obtain ⟨p, rfl, ss, rfl, ⟨hs1, hs2, hs3⟩, hp, h⟩ := h;walk_at "h";refine ⟨hp, fun ns M1 nl nn nd f1 => ⟨by rw [List.length_map]; omega, fun i acc M' => (∃ os : List Str, acc = os.map PyData.str /\ os.Sublist (ns.take i) /\ ∀ s ∈ os, s ∉ ss) /\ M' = M1, ⟨⟨[], rfl, List.Sublist.refl _, fun s hs => (nomatch hs)⟩, rfl⟩, ?_, ?_⟩⟩
 ·rintro i d acc M' hd ⟨⟨os, rfl, hsub, hos⟩, rfl⟩;obtain ⟨s, es, rfl⟩ := Z4 hd;walk_at "rk";refine ⟨ZcZ (nn s (List.mem_of_getElem? es)) hs3, ?_⟩;rw [Ld];have e : ns.take (i + 1) = ns.take i ++ [s] := by rw [List.take_add_one, es]; rfl
  by_cases m : s ∈ ss
  ·rw [decide_eq_true m];walk_at "rk";exact ⟨os, rfl, by rw [e]; exact hsub.trans (List.sublist_append_left _ _), hos⟩
  ·rw [decide_eq_false m];walk_at "rk";refine ⟨os ++ [s], by rw [List.map_append]; rfl, by rw [e]; exact hsub.append (List.Sublist.refl _), fun t ht => ?_⟩
   rcases List.mem_append.mp ht with ht | ht
   ·exact hos t ht
   ·rw [List.mem_singleton.mp ht];exact m
 ·rintro acc M' ⟨⟨os, rfl, hsub, hos⟩, rfl⟩;rw [List.length_map, List.take_length] at hsub;intro q hq;have qp : q ≠ p := Ne.symm (f1.1.ne hq);have q0 : M q = none := f1.fresh hq;walk_at "h";refine ⟨fun i Z M2 => ∃ k3 os, Z = [some (.own p), some (.dat (.list (ss.map PyData.str))), some (.own q), k3] /\ M2 = ZM M' q (.lst (os.map PyData.str)) /\ os.Nodup /\ (∀ s ∈ os, s ∉ ss) /\ (∀ s ∈ os, ZA s) /\ os.length <= 8 + i /\ ∀ k, k < i -> qS (97 + k) ∈ os \/ qS (97 + k) ∈ ss, ⟨_, os, rfl, rfl, hsub.nodup nd, hos, fun s hs => nn s (hsub.subset hs), by have := hsub.length_le; omega, fun k hk => absurd hk (Nat.not_lt_zero _)⟩, ?_, ?_⟩
  ·rintro i d Z M2 hd ⟨k3, os, rfl, rfl, o1, o2, o3, o4, o5⟩;rw [abc, List.map_map] at hd;obtain ⟨k, ek, rfl⟩ := Z4 hd;have hk : i < 26 := by have := (List.getElem?_eq_some_iff.mp ek).1; rwa [List.length_range] at this
   rw [List.getElem?_range hk] at ek;cases ek;have nq : ZA (qS (97 + i)) := Za7 (by omega);show _;unfold Mj;dsimp only [Function.comp];walk_at "rk";rw [List.length_map, List.length_map, <- List.map_append];have e2 : Str.ofString "q" ++ (⟨#[97 + i]⟩ : Str) = qS (97 + i) := rfl;rw [e2, Ld];refine ⟨by rw [lq, Kv]; decide, by omega, ZcZ nq (fun t ht => ?_), ?_⟩
   ·rcases List.mem_append.mp ht with ht | ht
    ·exact o3 t ht
    ·exact hs3 t ht
   by_cases m : qS (97 + i) ∈ os ++ ss
   ·rw [decide_eq_true m];walk_at "rk";refine ⟨_, os, rfl, rfl, o1, o2, o3, by omega, fun k hk => ?_⟩
    by_cases e : k = i
    ·rw [e];exact List.mem_append.mp m
    ·exact o5 k (by omega)
   ·rw [decide_eq_false m];rw [List.mem_append, not_or] at m;walk_at "rk";refine ⟨by rw [lq, Kv]; decide, by omega, _, os ++ [qS (97 + i)], rfl, by rw [List.map_append]; rfl, ?_, ?_, ?_, by rw [List.length_append, List.length_singleton]; omega, fun k hk => ?_⟩
    ·rw [List.nodup_append];refine ⟨o1, by simp, fun a ha b hb e => ?_⟩;rw [List.mem_singleton.mp hb] at e;rw [e] at ha;exact m.1 ha
    ·intro t ht
     rcases List.mem_append.mp ht with ht | ht
     ·exact o2 t ht
     ·rw [List.mem_singleton.mp ht];exact m.2
    ·intro t ht
     rcases List.mem_append.mp ht with ht | ht
     ·exact o3 t ht
     ·rw [List.mem_singleton.mp ht];exact nq
    ·by_cases e : k = i
     ·rw [e];exact .inl (List.mem_append_right _ (.head _))
     ·rcases o5 k (by omega) with z | z
      ·exact .inl (List.mem_append_left _ z)
      ·exact .inr z
  ·rintro Z M2 ⟨k3, os, rfl, rfl, o1, o2, o3, o4, o5⟩;rw [List.length_map, abc, List.length_map, List.length_range] at o4 o5;subst_vars;walk_at "rk";rw [J5 hq];refine h os _ ⟨o1, o2, o3, ?_, by omega⟩ f1;have := VB OP (l' := os ++ ss) fun a ha => by
    obtain ⟨k, hk, rfl⟩ := List.mem_map.mp ha
    rcases o5 k (List.mem_range.mp hk) with z | z
    ·exact List.mem_append_left _ z
    ·exact List.mem_append_right _ z
   rw [List.length_map, List.length_range, List.length_append] at this;omega
theorem Te (T : Tx K mg) : ZD P w K mg base CX0 4 T.LK T.HQ ["_law_pen", "_law_some_here"] (lift K HF) := by
 have G_others : ZD P w K mg base CX0 3 T.Wy T.Uw ["_law_pen", "_law_some_here"] (lift K Wz) := HK T;have G_take : ZD P w K mg base CX0 1 T.J9 T.J4 ["_law_pen", "_law_many"] (lift K J8) := JC T
 refine okD T.CH.F YC (fun xs M Φ h => by obtain ⟨_, _, rfl, _⟩ := ZO h; rfl) fun cdv A outer s H E hr => ⟨_, (Zf (Zt 2 YC.nd (Zg G_others (hr.mono (by walk_at "w")) rfl T.XI.m T.XI.F.kp T.XI.b Zm (Za (Zb 0) (Za (Zb 1) Zd))))
 (Zf (Zt 3 YC.nd Fp)
 (Zf (Zt 4 YC.nd (Zg G_take (hr.mono (by walk_at "w")) rfl T.Zi.m T.Zi.F.kp T.Zi.b Zm (Za (Zb 0) (Za Zc Zd))))
 (Zf (Zt 5 YC.nd (Zg G_take (hr.mono (by walk_at "w")) rfl T.Zi.m T.Zi.F.kp T.Zi.b Zm (Za (Zb 0) (Za (Zj ZC (Zk Qp rfl T.Jc Qh (Za (Zb 1) Zd)) Zc) Zd))))
 (Zf (VQ rfl T.QF (Za (Zk Qp rfl T.Jc Qh (Za (Zb 1) Zd)) Zd) (Zu 6 YC.nd) (Zf (Qb (ZG (Yg hr) (Zb 4) Zc) (Zh (WE hr (Zb 3) (Zl (Zb 1) (Zb 6)) (Zl (Zj Ym (XU (Zb 1) (Qw (Zb 5)) Q1) (XU (Zb 1) Q1 (Qw (Zb 5)))) (Zb 6)))) Zy)
 (Zf (Qb (DW.dt (XW (ZG (Yg hr) (Zb 4) Zc) (XW (ZG DF (Zb 6) Zc) (Y6 (ZG (Yg hr) (Zg G_take (hr.mono (by walk_at "w")) rfl T.Zi.m T.Zi.F.kp T.Zi.b Zm (Za (Zb 0) (Za Zc Zd))) Zc))))) (Zh (WE hr (Zb 3) (Zl (Zb 1) (Zb 6)) (Zl (Zb 2) (Zb 6)))) Zy)
 (Zh (Qb (ZG (Yg hr) (Zb 4) Zc) (Zh (WE hr (Zb 3) (Zl (Zb 1) (Zb 6)) (Zl (Zb 1) (Zb 6)))) Zy)))) PassesOwn.never rfl)
 (Zf (Xi (XU (Zb 2) (Qw Zc) Q1) (Zu 7 YC.nd) (Zh (Qb (ZG (Yg hr) (Zg G_take (hr.mono (by walk_at "w")) rfl T.Zi.m T.Zi.F.kp T.Zi.b Zm (Za (Zb 0) (Za Zc Zd))) Zc) (Zh (WE hr (Zb 3) (Zb 7) (Zl (Zj Ym (Zb 1) (Zb 2)) (Zg G_take (hr.mono (by walk_at "w")) rfl T.Zi.m T.Zi.F.kp T.Zi.b Zm (Za (Zb 0) (Za (Zj ZC (Zk Qp rfl T.Jc Qh (Za (Zb 1) Zd)) (Zk Qp rfl T.Jc Qh (Za (Zb 2) Zd))) Zd)))))) Zy)) PassesOwn.never rfl)
 (Zh (Zp (FI (Zb 3)))))))))), fun xs M Φ h => ?_⟩
 replace h := ZO h;obtain ⟨x1, x2, rfl, h⟩ := h;replace h := Z9 h;obtain ⟨p, rfl, ss, rfl, ⟨hs1, hs2, hs3⟩, hp, h⟩ := h;have len := List.length_map (as := ss) PyData.str;walk_at "h";refine ⟨ss, rfl, ⟨hs1, hs2, hs3⟩, hp, fun os M1 ho f1 => ?_⟩;have lo := List.length_map (as := os) PyData.str;have l7 := ho.lo;have l34 := ho.hi;walk_at "h";intro q hq;have qp : q ≠ p := Ne.symm (f1.1.ne hq);have q0 : M q = none := f1.fresh hq;replace f1 := f1.set (o := .dkv []) q0 qp;walk_at "h";refine ⟨f1.1, fun kd M2 k0 k1 f2 => ?_⟩;have hq2 : M2 q = some (.dkv []) := f2.own Zv qp;replace f2 := f1.trans f2;walk_at "h";rw [len];refine ⟨⟨by omega, by omega⟩, f2.1, fun sh M3 s0 s1 f3 => ?_⟩;have hq3 := f3.own hq2 qp;replace f3 := f2.trans f3;obtain ⟨A, hA⟩ := ZfF kd hs2 ho (HC hs2 sh.toNat);walk_at "hd";rename_i R hR;walk_at "rk";rw [len];refine ⟨⟨by omega, by omega⟩, fun i Z M' => ∃ k6 ps, Z = [some (.own p), some (.dat (.list (ss.map PyData.str))), some (.dat (.list (os.map PyData.str))), some (.own q), some (.dat (.int kd)), some (.dat (.int sh)), k6, none] /\ Fr p M M' /\ M' q = some (.dkv (ndK ps)) /\ Dt1 ss A i ps, ⟨_, [], rfl, f3, hq3, ⟨fun q hq => (nomatch hq), Nat.le_refl _, fun j a hj => absurd hj (Nat.not_lt_zero _), fun j a _ _ => rfl⟩⟩, ?_, ?_⟩
 ·rintro i Z M' hi ⟨k6, ps, rfl, fr, hq', hd⟩;have hi' : i < ss.length := by omega
  obtain ⟨a, ea⟩ : ∃ a, ss[i]? = some a := ⟨_, List.getElem?_eq_getElem hi'⟩
  have na := hs3 a (List.mem_of_getElem? ea);have lp := hd.len;rw [V5]
  rcases (by omega : kd = 0 \/ kd = 1 \/ kd = 2 \/ kd = 3) with rfl | rfl | rfl | rfl
  ·walk_at "h";refine ⟨by rw [<- List.length_append, HL ss sh s0, List.length_map, List.length_append, List.length_drop, List.length_take]; omega, ?_⟩;rw [HL ss sh s0];obtain ⟨b, eb⟩ : ∃ b, (ss.drop sh.toNat ++ ss.take sh.toNat)[i]? = some b := ⟨_, List.getElem?_eq_getElem (by rw [List.length_append, List.length_drop, List.length_take]; omega)⟩
   have nb : ZA b := by
    rcases List.mem_append.mp (List.mem_of_getElem? eb) with m | m
    ·exact hs3 b (List.mem_of_mem_drop m)
    ·exact hs3 b (List.mem_of_mem_take m)
   refine Xn eb (Xn ea ?_);rw [hq'];walk_at "rk";rw [UL, Gy];refine ⟨by omega, ?_⟩;walk_at "h";subst_vars;walk_at "rk";exact ⟨_, _, rfl, fr.set q0 qp, rfl, hd.put hs2 ea na nb (hA.r rfl i b eb)⟩
  ·walk_at "h";walk_at "h";refine Zn (fun z => ⟨fr.1, fun r M2 r0 r1 f2 => ?_⟩) fun z => ?_
   ·have hq2 := f2.own hq' qp;refine Zn (fun z2 => ?_) fun z2 => ?_
    ·obtain ⟨b, eb⟩ : ∃ b, os[i]? = some b := ⟨_, List.getElem?_eq_getElem (by omega)⟩
     refine Xn eb (Xn ea ?_);rw [hq2];walk_at "rk";rw [UL, Gy];refine ⟨by omega, ?_⟩;subst_vars;walk_at "rk";exact ⟨_, _, rfl, (fr.trans f2).set q0 qp, rfl, hd.put hs2 ea na (ho.nm b (List.mem_of_getElem? eb)) (hA.o rfl i b eb)⟩
    ·subst_vars;walk_at "rk";exact ⟨_, _, rfl, fr.trans f2, hq2, hd.no fun a ha => hA.s (by decide) i a ha⟩
   ·subst_vars;walk_at "rk";exact ⟨_, _, rfl, fr, hq', hd.no fun a ha => hA.s (by decide) i a ha⟩
  ·walk_at "h";walk_at "h";subst_vars;walk_at "rk";refine Xn ea (Xn ea ?_);rw [hq'];walk_at "rk";rw [UL, Gy];exact ⟨by omega, _, _, rfl, fr.set q0 qp, rfl, hd.put hs2 ea na na (hA.s (by decide) i a ea)⟩
  ·walk_at "h";walk_at "h";subst_vars;walk_at "rk";exact ⟨_, _, rfl, fr, hq', hd.no fun a ha => hA.s (by decide) i a ha⟩
 ·rintro Z M' ⟨k6, ps, rfl, fr, hq', hd⟩;have inj : ∀ a ∈ ss, ∀ b ∈ ss, ndV ps a = ndV ps b -> a = b := fun a ha b hb e => by
   obtain ⟨j, hj, ej⟩ := List.mem_iff_getElem.mp ha;obtain ⟨k, hk, ek⟩ := List.mem_iff_getElem.mp hb;have e1 : ss[j]? = some a := by rw [List.getElem?_eq_getElem hj, ej]
   have e2 : ss[k]? = some b := by rw [List.getElem?_eq_getElem hk, ek]
   have a1 := hd.lo j a hj e1;have a2 := hd.lo k b hk e2;rw [e] at a1;have jk := hA.un j k _ a1 a2;rw [jk, e2] at e1;exact (Option.some.inj e1).symm
  subst_vars;walk_at "h";rw [show DL.cutD (os.map PyData.str) (some 7) none = (os.drop 7).map PyData.str by rw [show (7 : Int) = ((7 : Nat) : Int) from rfl, Mc, List.map_drop]];refine ⟨fun i Z M' => ∃ k7 ps', Z = [some (.own p), some (.dat (.list (ss.map PyData.str))), some (.dat (.list (os.map PyData.str))), some (.own q), some (.dat (.int kd)), some (.dat (.int sh)), k6, k7] /\ Fr p M M' /\ M' q = some (.dkv (ndK ps')) /\ (∀ q ∈ ps', ZA q.1 /\ ZA q.2) /\ ps'.length <= ss.length + i /\ ∀ a ∈ ss, ndV ps' a = ndV ps a, ⟨_, ps, rfl, fr, hq', hd.nm, hd.len, fun a _ => rfl⟩, ?_, ?_⟩
  ·rintro i d Z M2 hdd ⟨k7, ps', rfl, fr2, hq2, n2, l2, v2⟩;obtain ⟨s, es, rfl⟩ := Z4 hdd;have hs : s ∈ os := List.mem_of_mem_drop (List.mem_of_getElem? es);have hi : i < 34 := by have := (List.getElem?_eq_some_iff.mp es).1; rw [List.length_drop] at this; omega
   walk_at "rk";refine ⟨fr2.1, fun r M3 r0 r1 f3 => Zn (fun z => ?_) fun z => ?_⟩
   ·rw [len, lo, <- List.map_append];refine ⟨by omega, ⟨by omega, by omega⟩, f3.1, fun r2 M4 t0 t1 f4 => ?_⟩;have hq4 := f4.own (f3.own hq2 qp) qp;refine tabS (l := ss ++ os) ZA t0 (by rw [List.length_append]; omega) (fun t ht => ?_) fun b nb => ?_
    ·rcases List.mem_append.mp ht with ht | ht
     ·exact hs3 t ht
     ·exact ho.nm t ht
    rw [hq4];walk_at "rk";rw [UL, Gy];refine ⟨by omega, _, _, rfl, ((fr2.trans f3).trans f4).set q0 qp, rfl, GI n2 ⟨ho.nm s hs, nb⟩, by have := UK ps' s b; omega, fun a ha => ?_⟩;rw [B0, if_neg fun z : a = s => ho.ap s hs (by rw [<- z]; exact ha)];exact v2 a ha
   ·exact ⟨_, ps', rfl, fr2.trans f3, f3.own hq2 qp, n2, by omega, v2⟩
  ·rintro Z M2 ⟨k7, ps', rfl, fr2, hq2, n2, l2, v2⟩;rw [List.length_map, List.length_drop] at l2;subst_vars;walk_at "rk";rw [hq2];walk_at "rk";refine h ps' _ ⟨n2, by omega, fun a ha b hb e => inj a ha b hb ?_⟩ (fr2.del q0 qp);rw [<- v2 a ha, <- v2 b hb];exact e
theorem Bt (T : Tx K mg) : ZD P w K mg base CX0 1 T.Xw T.Y5 ["_law_tellings", "_law_things", "_law_lands"] (lift K Ki) := by
 refine okD T.VU.F Vt (fun xs M Φ h => by obtain ⟨_, _, _, rfl, _⟩ := JF h; rfl) fun cdv A outer s H E hr => ⟨_, (Zf (Zt 3 Vt.nd (Yt Zd))
 (Zf (Xi (Zb 0) (Zu 4 Vt.nd) (Zf (Zt 5 Vt.nd (Q8 LJ rfl T.Lz RN (Za (Zb 4) Zd)))
 (Zf (Qb (ZG (Wg hr) (Zl (Zb 4) Zc) (ZZ (Za Zs (Za Zs Zd)))) (Zh (XB (Vg hr (Zb 1) (Zl (Zb 4) Zc) (Zl (Zb 4) Zc)) (Wj (Zb 5) Zc))) (Zh (XB (Vg hr (Zb 2) (Zl (Zb 4) Zc) (Zl (Zb 4) Zc)) (Wj (Zb 5) Zc))))
 (Zf (Qb (DW.dt (XW (ZG (Yb hr) (Zl (Zb 4) Zc) Zs) (Y6 (ZG FZ (Zl (Zb 4) Zc) Zs)))) (Zh (XB (Vg hr (Zb 2) (Zl (Zb 4) Zc) (Zl (Zb 4) Zc)) (Wj (Zb 5) Zc))) Zy)
 (Zh (JT (Qm (Zb 3) (Q8 JY rfl T.Vf Jq (Za (CJ (Zb 5)) Zd)))))))) PassesOwn.never rfl)
 (Zh (Zp (CJ (Zb 3)))))), fun xs M Φ h => ?_⟩
 replace h := JF h;obtain ⟨x1, x2, x3, rfl, h⟩ := h;obtain ⟨ts, rfl, ps, rfl, rs, rfl, ⟨hts, hp, hr'⟩, h⟩ := h;have len := List.length_map (as := ts) tlD;have l20 := hts.1;walk_at "h";intro q hq;walk_at "h";refine ⟨fun i Z M' => ∃ k4 k5, Z = [some (.dat (.list (ts.map tlD))), some (.dat (ndD ps)), some (.dat (ndD rs)), some (.own q), k4, k5] /\ M' = ZM M q (.lst (((ts.take i).map (reT (ndV ps) (ndV rs))).map tlD)), ⟨_, _, rfl, rfl⟩, ?_, ?_⟩
 ·rintro i d Z M' hd ⟨k4, k5, rfl, rfl⟩;obtain ⟨x, ex, rfl⟩ := Z4 hd;have fin := take_snoc (tlD ∘ reT (ndV ps) (ndV rs)) ex;have sz : (((ts.take i).map (reT (ndV ps) (ndV rs))).map tlD).length < 16777216 := by
   rw [List.length_map, List.length_map, List.length_take];omega
  rw [<- List.map_map, <- List.map_map] at fin;generalize ((ts.take i).map (reT (ndV ps) (ndV rs))).map tlD = acc at *;have end' : ∀ (r : Addr) (o2 : OO) (d : PyData), ZM M q (.lst acc) r = none -> d = tlD (reT (ndV ps) (ndV rs) x) -> ZM (Yy (ZM (ZM M q (.lst acc)) r o2) r) q (.lst (acc ++ [d])) = ZM M q (.lst (((ts.take (i + 1)).map (reT (ndV ps) (ndV rs))).map tlD)) := fun r o2 d hr e => by
   rw [TV hr, e, <- fin];rfl
  rw [V5]
  rcases VT (hts.2 x (List.mem_of_getElem? ex)) with ⟨t, nm, ou, bs, wb, rfl⟩ | ⟨t, nm, u, v, rfl⟩ | ⟨t, nm, rfl⟩ | ⟨t, nm, rfl⟩
  ·rw [show tlD (.land t nm ou bs wb) = .tuple [.str (Str.ofString "land"), .int t, .str nm, .str ou, .tuple (bs.map bD), .int wb] from rfl];walk_at "h";intro r hr;have nb := fresh_ne hr;walk_at "h";refine ⟨[Str.ofString "free", Str.ofString "spot"], rfl, ?_⟩;rw [kw1.1.1, if_neg Bool.false_ne_true];walk_at "rk";refine ⟨2, rfl, ?_⟩;walk_at "h";rw [Zew];walk_at "rk"
   by_cases e : ou = Str.ofString ""
   ·rw [decide_eq_true e];subst_vars;walk_at "rk";rw [Z5 (Ne.symm nb), Zv, QJ, JE (Ne.symm nb), Z5 (Ne.symm nb), Zv, QJ];refine ⟨sz, _, _, rfl, end' r _ _ hr ?_⟩;show _ = tlD (.land t (ndV rs nm) (ndV rs (Str.ofString "")) bs wb);rw [VC hr'.1];rfl
   ·rw [decide_eq_false e];walk_at "rk";refine ⟨3, rfl, ?_⟩;subst_vars;walk_at "rk";rw [Z5 (Ne.symm nb), Zv, QJ, JE (Ne.symm nb), Z5 (Ne.symm nb), Zv, QJ];exact ⟨sz, _, _, rfl, end' r _ _ hr rfl⟩
  ·rw [show tlD (.spot t nm u v) = .tuple [.str (Str.ofString "spot"), .int t, .str nm, .tuple [.int u, .int v]] from rfl];walk_at "h";intro r hr;have nb := fresh_ne hr;walk_at "h";refine ⟨[Str.ofString "free", Str.ofString "spot"], rfl, ?_⟩;rw [kw1.1.2];walk_at "rk";refine ⟨2, rfl, ?_⟩;walk_at "h";rw [ZeF];subst_vars;walk_at "rk";rw [Z5 (Ne.symm nb), Zv, QJ, JE (Ne.symm nb), Z5 (Ne.symm nb), Zv, QJ];exact ⟨sz, _, _, rfl, end' r _ _ hr rfl⟩
  ·rw [show tlD (.off (Str.ofString "drop") t nm) = .tuple [.str (Str.ofString "drop"), .int t, .str nm] from rfl];walk_at "h";intro r hr;have nb := fresh_ne hr;walk_at "h";refine ⟨[Str.ofString "free", Str.ofString "spot"], rfl, ?_⟩;rw [kw1.2.1];walk_at "rk";walk_at "h";rw [Zd2.1];subst_vars;walk_at "rk";rw [Z5 (Ne.symm nb), Zv, QJ, JE (Ne.symm nb), Z5 (Ne.symm nb), Zv, QJ];exact ⟨sz, _, _, rfl, end' r _ _ hr (by simp only [reT, if_neg Ew]; rfl)⟩
  ·rw [show tlD (.off (Str.ofString "free") t nm) = .tuple [.str (Str.ofString "free"), .int t, .str nm] from rfl];walk_at "h";intro r hr;have nb := fresh_ne hr;walk_at "h";refine ⟨[Str.ofString "free", Str.ofString "spot"], rfl, ?_⟩;rw [kw1.2.2];walk_at "rk";walk_at "h";rw [Zeg.1];subst_vars;walk_at "rk";rw [Z5 (Ne.symm nb), Zv, QJ, JE (Ne.symm nb), Z5 (Ne.symm nb), Zv, QJ];exact ⟨sz, _, _, rfl, end' r _ _ hr (by simp only [reT, if_pos]; rfl)⟩
 ·rintro Z M' ⟨k4, k5, rfl, rfl⟩;rw [len, List.take_length];subst_vars;walk_at "rk";rw [J5 hq];exact h
theorem Zay (T : Tx K mg) : ZD P w K mg base CX0 1 T.FU T.E4 ["_law_some_here", "_law_names_here"] (lift K Mf) := by
 refine okD T.Cz.F S8 (fun xs M Φ h => by obtain ⟨_, _, rfl, _⟩ := ZO h; rfl) fun cdv A outer s H E hr => ⟨_, (Zh (Zp (FI (Q8 (N3 rfl) rfl T.Zcl Se (Za (Qc false (Zx (sc := Ze X4) (XN := ["_law_some_here", "_law_names_here"]) (N := ["_law_name", "_law_names_here"]) (ix := [none, some 1]) rfl rfl (by walk_at "k")) (QZ (Zb 0)) (fun C ex s H => (Zu 0 (show List.Nodup (["_law_name", "_law_names_here"] : List Str) by walk_at "k"))) (fun C ex s H => Z7) (fun C ex s H => (ZZ (Za (Vg hr (Zb 1) (Zb 0) (Zb 0)) (Za (Zb 0) Zd)))) rfl) Zd))))), fun xs M Φ h => ?_⟩;replace h := ZO h;obtain ⟨x1, x2, rfl, h⟩ := h;obtain ⟨ss, rfl, ps, rfl, ⟨hl, hn⟩, h⟩ := h;have len := List.length_map (as := ss) PyData.str;walk_at "rk";refine ⟨by omega, fun i acc M' => acc = (ss.take i).map (fun n => pairD (ndV ps n, .str n)) /\ M' = M, ⟨rfl, rfl⟩, ?_, ?_⟩
 ·rintro i d acc M' hd ⟨rfl, rfl⟩;obtain ⟨s, es, rfl⟩ := Z4 hd;walk_at "rk";exact take_snoc (fun n => pairD (ndV ps n, .str n)) es
 ·rintro acc M' ⟨rfl, rfl⟩;rw [len, List.take_length];refine ⟨ss.map fun n => (ndV ps n, PyData.str n), by rw [List.map_map]; rfl, fun q hq => ?_⟩;rw [EH ss ps hn];walk_at "rk";rw [J5 hq];exact h
theorem G1 (T : Tx K mg) : ZD P w K mg base CX0 9 T.Yn T.YA ["_law_tellings", "_law_by"] (lift K Xq) := by
 have G_put_off : ZD P w K mg base CX0 8 T.Y1 T.YT ["tellings", "by"] (lift K XH) := K5 T;have G_same : ZD P w K mg base CX0 1 T.Cv T.Dy ["_law_found", "_law_due"] (lift K C0) := Ma T
 refine okD T.Vh.F Qz (fun xs M Φ h => by obtain ⟨_, _, rfl, _⟩ := ZO h; rfl) fun cdv A outer s H E hr => ⟨_, (Zf (Zt 2 Qz.nd (Yt Zd))
 (Zf (Xi (Zb 0) (Zu 3 Qz.nd) (Zh (JT (Qm (Zb 2) (Zj JR (ZZ (Za (Zl (Zb 3) Zc) (Za (Zj ZC (Zl (Zb 3) Zc) (Zb 1)) Zd))) (Qy (Zb 3) (Qw Zc) Q1))))) PassesOwn.never rfl)
 (Zf (Lg 2 (Zt 4 Qz.nd (Zk (BC hr) rfl T.Wt Xa (Za (Zb 0) Zd))))
 (Zf (VQ rfl T.QF (Za Zc Zd) (Zu 5 Qz.nd) (Zf (Zt 6 Qz.nd (Zg G_put_off (hr.mono (by walk_at "w")) rfl T.Qn.m T.Qn.F.kp T.Qn.b Zm (Za (Zb 0) (Za (Zb 1) Zd))))
 (Zf (Qb (DW.dt (KQ (QS (QR (Zg G_same (hr.mono (by walk_at "w")) rfl T.Jl.m T.Jl.F.kp T.Jl.b Zm (Za (Zb 6) (Za (Zb 2) Zd))))) (Ya (QS (QR (B5 [6, 1, 0] (Zg G_same (hr.mono (by walk_at "w")) rfl T.Jl.m T.Jl.F.kp T.Jl.b Zm (Za (Zg G_put_off (hr.mono (by walk_at "w")) rfl T.Qn.m T.Qn.F.kp T.Qn.b Zm (Za (Zb 6) (Za (Zj QP Zc (Zb 1)) Zd))) (Za (Zb 0) Zd))))))))) (Zh (Zp KP)) Zy)
 (Zh (JT (Qm (Zb 6) P0))))) PassesOwn.never rfl)
 (Zh (Zp (Jm (Yb hr) (Zk (BC hr) rfl T.Wt Xa (Za (Zb 0) Zd)) (Zb 4)))))))), fun xs M Φ h => ?_⟩
 replace h := ZO h;obtain ⟨x1, x2, rfl, h⟩ := h;obtain ⟨ts, rfl, h⟩ := h;replace h := ZS h;obtain ⟨b, rfl, ⟨hts, hb⟩, h⟩ := h;have len := List.length_map (as := ts) tlD;have l20 := hts.1;have hto := ZaS hts hb;obtain ⟨q1, q2⟩ := G0 hts.2;have q3 := XO hts;obtain ⟨o1, o2⟩ := G0 hto.2;have o3 := XO hto;walk_at "h";intro q hq;walk_at "h";refine ⟨fun i Z M' => ∃ k3, Z = [some (.dat (.list (ts.map tlD))), some (.dat (.int b)), some (.own q), k3, none, none, none] /\ M' = ZM M q (.lst (((ts.take i).map (shT b)).map tlD)), ⟨_, rfl, rfl⟩, ?_, ?_⟩
 ·rintro i d Z M' hd ⟨k3, rfl, rfl⟩;obtain ⟨x, ex, rfl⟩ := Z4 hd;have fin := take_snoc (tlD ∘ shT b) ex;have sz : (((ts.take i).map (shT b)).map tlD).length < 16777216 := by
   rw [List.length_map, List.length_map, List.length_take];omega
  rw [<- List.map_map, <- List.map_map] at fin;generalize ((ts.take i).map (shT b)).map tlD = acc at *;cases x with
  | land t nm ou bs wb =>
   rw [show tlD (.land t nm ou bs wb) = .tuple [.str (Str.ofString "land"), .int t, .str nm, .str ou, .tuple (bs.map bD), .int wb] from rfl];walk_at "rk";rw [DJ, <- fin];exact ⟨by simp, sz, _, rfl, rfl⟩
  | spot t nm u v =>
   rw [show tlD (.spot t nm u v) = .tuple [.str (Str.ofString "spot"), .int t, .str nm, .tuple [.int u, .int v]] from rfl];walk_at "rk";rw [DJ, <- fin];exact ⟨by simp, sz, _, rfl, rfl⟩
  | off w t nm =>
   rw [show tlD (.off w t nm) = .tuple [.str w, .int t, .str nm] from rfl];walk_at "rk";rw [DJ, <- fin];exact ⟨by simp, sz, _, rfl, rfl⟩
 ·rintro Z M' ⟨k3, rfl, rfl⟩;rw [len, List.take_length];walk_at "h";rw [J5 hq];refine ⟨q3, ?_⟩;walk_at "h";refine ⟨⟨by decide, by decide⟩, fun i Z M' => ∃ k5 k6, Z = [some (.dat (.list (ts.map tlD))), some (.dat (.int b)), some (.dat (.list ((ts.map (shT b)).map tlD))), k3, some (.dat (.str (PyData.list (ts.map tlD)).shown)), k5, k6] /\ Gw M M', ⟨_, _, rfl, Gw.refl⟩, ?_, ?_⟩
  ·rintro i Z M' hi ⟨k5, k6, rfl, gw⟩;rw [V5];walk_at "h";refine ⟨ts, rfl, ⟨hts, hto⟩, fun r hr => ?_⟩;walk_at "h";refine ⟨_, .inr ⟨r, _, rfl, Zv, rfl⟩, rfl, ⟨o1, o2, o3⟩, ?_⟩;walk_at "rk";refine ⟨_, .lst Zv, _, .dat _, _, .dat _, ?_⟩;rw [Zcm];refine ⟨ts.map (shT b), rfl, ⟨hto, by rw [Mi]; exact hts⟩, fun s _ => ?_⟩;rw [Mi];refine ⟨_, .inr ⟨s, _, rfl, Zv, rfl⟩, rfl, ⟨q1, q2, q3⟩, rfl, ?_⟩;subst_vars;walk_at "rk";exact ⟨by rw [List.length_map, List.length_map]; omega, _, _, rfl, gw.new hr⟩
  ·rintro Z M' ⟨k5, k6, rfl, gw⟩;subst_vars;walk_at "rk";refine ⟨q3, ?_⟩;rw [show isS (PyData.str (PyData.list (ts.map tlD)).shown) (PyData.list (ts.map tlD)).shown = true from decide_eq_true rfl];exact h _ gw
theorem Kk (T : Tx K mg) : ZD P w K mg base CX0 5 T.JV T.JS ["_law_pen", "_law_tellings"] (lift K Ve) := by
 have G_l_called : ZD P w K mg base CX0 1 T.Xw T.Y5 ["_law_tellings", "_law_things", "_law_lands"] (lift K Ki) := Bt T;have G_standing : ZD P w K mg base CX0 1 T.Xu T.Xc ["_law_tellings", "_law_kinds"] (lift K Xr) := Cf T;have G_dict : ZD P w K mg base CX0 4 T.LK T.HQ ["_law_pen", "_law_some_here"] (lift K HF) := Te T;have G_back : ZD P w K mg base CX0 1 T.FU T.E4 ["_law_some_here", "_law_names_here"] (lift K Mf) := Zay T;have G_called : ZD P w K mg base CX0 3 T.WJ T.Ud ["tellings", "things", "lands"] (lift K WC) := EX T;have G_same : ZD P w K mg base CX0 1 T.Cv T.Dy ["_law_found", "_law_due"] (lift K C0) := Ma T
 refine okD T.Q7.F ZN (fun xs M Φ h => by obtain ⟨_, _, rfl, _⟩ := ZO h; rfl) fun cdv A outer s H E hr => ⟨_, (Zf (Zt 2 ZN.nd (Ja (Za (Zg G_standing (hr.mono (by walk_at "w")) rfl T.Q2.m T.Q2.F.kp T.Q2.b Zm (Za (Zb 1) (Za (ZZ (Za Zs (Za Zs Zd))) Zd))) (Za (Zg G_standing (hr.mono (by walk_at "w")) rfl T.Q2.m T.Q2.F.kp T.Q2.b Zm (Za (Zb 1) (Za (ZZ (Za Zs (Za Zs Zd))) Zd))) Zd))))
 (Zf (W9 3 false ZN.nd (Zx (sc := Ze ZT) (XN := ["_law_pen", "_law_tellings", "_law_some_here", "_law_dicts", "_law_kept", "_law_due", "_law_back_here", "_law_again", "_law_found"]) (N := ["_law_names_here", "_law_pen"]) (ix := [none, some 0]) rfl rfl (by walk_at "k")) (QZ (Zb 2)) (fun C ex s H => (Zu 0 (show List.Nodup (["_law_names_here", "_law_pen"] : List Str) by walk_at "k"))) (fun C ex s H => Z7) (fun C ex s H => (Zg G_dict (hr.mono (by walk_at "w")) rfl T.CH.m T.CH.F.kp T.CH.b Zm (Za (Zb 1) (Za (Zb 0) Zd)))) rfl)
 (Zf (Zt 4 ZN.nd (Zk (UD hr) rfl T.Wt Xa (Za (ZZ (Za (Zb 1) (Za (Zb 3) Zd))) Zd)))
 (Zf (Zt 5 ZN.nd (Zg G_l_called (hr.mono (by walk_at "w")) rfl T.VU.m T.VU.F.kp T.VU.b Zm (Za (Zb 1) (Za (Zl (Zb 3) Zc) (Za (Zl (Zb 3) Zc) Zd)))))
 (Zf (W9 6 false ZN.nd (Zx (sc := Ze ZT) (XN := ["_law_pen", "_law_tellings", "_law_some_here", "_law_dicts", "_law_kept", "_law_due", "_law_back_here", "_law_again", "_law_found"]) (N := ["_law_names_here", "_law_one"]) (ix := [none, none]) rfl rfl (by walk_at "k")) (Zdn rfl T.Zgm (Za (Zb 2) (Za (Zb 3) Zd))) (fun C ex s H => (CN (n := 2) rfl (JQ (Zu 0 (show List.Nodup (["_law_names_here", "_law_one"] : List Str) by walk_at "k")) (JQ (Zu 1 (show List.Nodup (["_law_names_here", "_law_one"] : List Str) by walk_at "k")) W0)))) (fun C ex s H => Z7) (fun C ex s H => (Zg G_back (hr.mono (by walk_at "w")) rfl T.Cz.m T.Cz.F.kp T.Cz.b Zm (Za (Zb 0) (Za (Zb 1) Zd)))) rfl)
 (Zf (VQ rfl T.QF (Za Zc Zd) (Zu 7 ZN.nd) (Zf (Zt 8 ZN.nd (Zg G_called (hr.mono (by walk_at "w")) rfl T.Qk.m T.Qk.F.kp T.Qk.b Zm (Za (Zb 1) (Za (Zl (Zb 3) Zc) (Za (Zl (Zb 3) Zc) Zd)))))
 (Zf (Qb (DW.dt (KQ (QS (QR (Zg G_same (hr.mono (by walk_at "w")) rfl T.Jl.m T.Jl.F.kp T.Jl.b Zm (Za (Zb 8) (Za (Zb 5) Zd))))) (Ya (QS (QR (B5 [8, 6, 1] (Zg G_same (hr.mono (by walk_at "w")) rfl T.Jl.m T.Jl.F.kp T.Jl.b Zm (Za (Zg G_called (hr.mono (by walk_at "w")) rfl T.Qk.m T.Qk.F.kp T.Qk.b Zm (Za (Zb 8) (Za (Zl (Zb 6) Zc) (Za (Zl (Zb 6) Zc) Zd)))) (Za (Zb 1) Zd))))))))) (Zh (Zp KP)) Zy)
 (Zh (JT (Qm (Zb 8) P0))))) PassesOwn.never rfl)
 (Zf (Qb (DW.dt (KQ (QS (QR (Zg G_same (hr.mono (by walk_at "w")) rfl T.Jl.m T.Jl.F.kp T.Jl.b Zm (Za (Zg G_called (hr.mono (by walk_at "w")) rfl T.Qk.m T.Qk.F.kp T.Qk.b Zm (Za (Zb 1) (Za CC (Za CC Zd)))) (Za (Zb 1) Zd))))) (Ya (ZG (CB hr) (Zg G_called (hr.mono (by walk_at "w")) rfl T.Qk.m T.Qk.F.kp T.Qk.b Zm (Za (Ja Zd) (Za (Zl (Zb 3) Zc) (Za (Zl (Zb 3) Zc) Zd)))) (Ja Zd))))) (Zh (Zp KP)) Zy)
 (Zh (Zp (Jm (Yb hr) (Zk (UD hr) rfl T.Wt Xa (Za (ZZ (Za (Zb 1) (Za (Zb 3) Zd))) Zd)) (Zb 4))))))))))), fun xs M Φ h => ?_⟩
 replace h := ZO h;obtain ⟨x1, x2, rfl, h⟩ := h;replace h := Z9 h;obtain ⟨p, rfl, ts, rfl, hts, ⟨tn, ln, ltn, lln, hin⟩, hp, h⟩ := h;have len := List.length_map (as := ts) tlD;have l20 := hts.1;obtain ⟨q1, q2⟩ := G0 hts.2;have q3 := XO hts;walk_at "h";refine ⟨ts, rfl, true, rfl, hts, fun n0 nd0 m0 => ⟨ts, rfl, false, rfl, hts, fun n1 nd1 m1 => ?_⟩⟩;replace m0 : ∀ z, z ∈ n0 ↔ z ∈ thN ts := m0;replace m1 : ∀ z, z ∈ n1 ↔ z ∈ laN ts := m1
 have s0 : ZaI n0 := ⟨Nat.le_trans (VB nd0 fun a ha => by
  obtain ⟨x, hx, hs⟩ := List.mem_flatMap.mp ((m0 a).mp ha)
  exact (hin x hx).1 a hs) ltn, nd0, fun s hs => RL hts s ((m0 s).mp hs)⟩
 have s1 : ZaI n1 := ⟨Nat.le_trans (VB nd1 fun a ha => by
  rcases List.mem_append.mp ((m1 a).mp ha) with ha | ha
  ·obtain ⟨x, hx, hs⟩ := List.mem_flatMap.mp ha;exact (hin x hx).2 a (List.mem_append_left _ hs)
  ·obtain ⟨x, hx, hs⟩ := List.mem_flatMap.mp ha
   exact (hin x hx).2 a (List.mem_append_right _ hs)) lln, nd1, fun s hs => Fv hts s ((m1 s).mp hs)⟩
 walk_at "h";refine ⟨n0, rfl, s0, hp, fun ps M1 d0 f1 => ⟨n1, rfl, s1, f1.1, fun rs M2 d1 f2 => ?_⟩⟩;have F2 := f1.trans f2;have c0 : DOk (thN ts) ps := d0.of fun z hz => (m0 z).mpr hz;have c1 : DOk (laN ts) rs := d1.of fun z hz => (m1 z).mpr hz;have hto := ZdX d0.nm d1.nm hts;obtain ⟨o1, o2⟩ := G0 hto.2;have o3 := XO hto;have ro := Zdj hts ⟨d0.nm, d0.len⟩ ⟨d1.nm, d1.len⟩;walk_at "h";refine ⟨ro, ?_⟩;walk_at "h";refine ⟨ts, rfl, ps, rfl, rs, rfl, ⟨hts, ⟨d0.nm, d0.len⟩, ⟨d1.nm, d1.len⟩⟩, ?_⟩;walk_at "h";have l0 := s0.1;have l1 := s1.1;rw [show O5 [PyData.list (n0.map PyData.str), PyData.list (n1.map PyData.str)] [ndD ps, ndD rs] = [.tuple [.list (n0.map PyData.str), ndD ps], .tuple [.list (n1.map PyData.str), ndD rs]] from rfl];walk_at "rk";refine ⟨n0, rfl, ps, rfl, ⟨by omega, VH nd0 d0.inj⟩, n1, rfl, rs, rfl, ⟨by omega, VH nd1 d1.inj⟩, ?_⟩;have ne : ∀ x ∈ ts, ∀ s ∈ Yh x, ndV rs s ≠ Str.ofString "" := fun x hx s hs => L7 (Vd d1.nm (Fv hts s (List.mem_append_right _ (List.mem_flatMap.mpr ⟨x, hx, hs⟩))));have e0 : DOk (thN (ts.map (reT (ndV ps) (ndV rs)))) (bkP ps n0) := Zdo d0 (by omega) s0.2.2 fun z hz => by
  rw [Zga] at hz;obtain ⟨y, hy, rfl⟩ := List.mem_map.mp hz;exact List.mem_map.mpr ⟨y, (m0 y).mpr hy, rfl⟩
 have e1 : DOk (laN (ts.map (reT (ndV ps) (ndV rs)))) (bkP rs n1) := Zdo d1 (by omega) s1.2.2 fun z hz => by
  rw [Zf6 ne (VC d1.nm)] at hz;obtain ⟨y, hy, rfl⟩ := List.mem_map.mp hz;exact List.mem_map.mpr ⟨y, (m1 y).mpr hy, rfl⟩
 have bk : (ts.map (reT (ndV ps) (ndV rs))).map (reT (ndV (bkP ps n0)) (ndV (bkP rs n1))) = ts := S2 (fun s hs => Kt d0.inj s ((m0 s).mpr hs)) (fun s hs => Kt d1.inj s ((m1 s).mpr hs)) (by rw [VC d1.nm, VC e1.nm]);walk_at "h";refine ⟨⟨by decide, by decide⟩, fun i Z M' => ∃ k7 k8, Z = [some (.own p), some (.dat (.list (ts.map tlD))), some (.dat (.list [.list (n0.map PyData.str), .list (n1.map PyData.str)])), some (.dat (.list [ndD ps, ndD rs])), some (.dat (.str (PyData.tuple [.list (ts.map tlD), .list [ndD ps, ndD rs]]).shown)), some (.dat (.list ((ts.map (reT (ndV ps) (ndV rs))).map tlD))), some (.dat (.list [ndD (bkP ps n0), ndD (bkP rs n1)])), k7, k8] /\ Fr p M M', ⟨_, _, rfl, F2⟩, ?_, ?_⟩
 ·rintro i Z M' hi ⟨k7, k8, rfl, fr⟩;rw [V5];walk_at "h";refine ⟨ts, rfl, ps, rfl, rs, rfl, ⟨hts, c0, c1⟩, fun r hr => ?_⟩;have rp : r ≠ p := Ne.symm (fr.1.ne hr);walk_at "h";refine ⟨_, .inr ⟨r, _, rfl, Zv, rfl⟩, rfl, ⟨o1, o2, o3⟩, ?_⟩;walk_at "rk";refine ⟨_, .lst Zv, _, .dat _, _, .dat _, ?_⟩;walk_at "rk";refine ⟨_, rfl, _, rfl, _, rfl, ⟨hto, e0, e1⟩, fun s _ => ?_⟩;rw [bk];refine ⟨_, .inr ⟨s, _, rfl, Zv, rfl⟩, rfl, ⟨q1, q2, q3⟩, rfl, ?_⟩;subst_vars;walk_at "rk";exact ⟨by rw [List.length_map, List.length_map]; omega, _, _, rfl, fr.set (fr.fresh hr) rp⟩
 ·rintro Z M' ⟨k7, k8, rfl, fr⟩;walk_at "h";refine ⟨ts, rfl, [], rfl, [], rfl, ⟨hts, DOk.nil _, DOk.nil _⟩, fun r hr => ?_⟩;have rp : r ≠ p := Ne.symm (fr.1.ne hr);rw [ZdF];refine ⟨_, .inr ⟨r, _, rfl, Zv, rfl⟩, rfl, ⟨q1, q2, q3⟩, ?_⟩;walk_at "rk";refine ⟨[], rfl, ps, rfl, rs, rfl, ⟨⟨by decide, fun t ht => (nomatch ht)⟩, c0.of fun z hz => (nomatch hz), c1.of fun z hz => (nomatch hz)⟩, fun r2 hr2 => ?_⟩;have fr3 := fr.set (o := .lst (ts.map tlD)) (fr.fresh hr) rp;have rp2 : r2 ≠ p := Ne.symm (fr3.1.ne hr2);have fr4 := fr3.set (o := .lst ((([] : List Tl).map (reT (ndV ps) (ndV rs))).map tlD)) (fr3.fresh hr2) rp2;subst_vars;walk_at "rk";refine ⟨ro, ?_⟩;rw [show isS (PyData.str (PyData.tuple [.list (ts.map tlD), .list [ndD ps, ndD rs]]).shown) (PyData.tuple [.list (ts.map tlD), .list [ndD ps, ndD rs]]).shown = true from decide_eq_true rfl];exact h _ fr4
theorem Zb8 (T : Tx K mg) : ZD P w K mg base CX0 10 T.Zcz T.Zbk ["_law_script"] (lift K Mb) := by
 have G_world : ZD P w K mg base CX0 4 T.Br T.BN ["_law_pen"] (lift K Ck) := N2 T;have G_some : ZD P w K mg base CX0 5 T.E1 T.FQ ["_law_pen", "_law_world_here", "_law_most"] (lift K Lh) := SH T;have G_put_off : ZD P w K mg base CX0 8 T.Y1 T.YT ["tellings", "by"] (lift K XH) := K5 T;have G_take : ZD P w K mg base CX0 1 T.J9 T.J4 ["_law_pen", "_law_many"] (lift K J8) := JC T;have G_wide : ZD P w K mg base CX0 2 T.Wb T.Wu ["_law_pen", "_law_many"] (lift K Wh) := Uy T;have G_put_right : ZD P w K mg base CX0 9 T.Yn T.YA ["_law_tellings", "_law_by"] (lift K Xq) := G1 T;have G_called_right : ZD P w K mg base CX0 5 T.JV T.JS ["_law_pen", "_law_tellings"] (lift K Ve) := Kk T
 refine okD T.o_law.F YS (fun xs M Φ ⟨ns, e, _⟩ => by rw [e]; rfl) fun cdv A outer s H E hr => ⟨_, (Zf (Zt 1 YS.nd (Yt (Za (Zb 0) (Za Zc (Za Zc Zd)))))
 (Zf (Zt 2 YS.nd (Zg G_world (hr.mono (by walk_at "w")) rfl T.W5.m T.W5.F.kp T.W5.b Zm (Za (Zb 1) Zd)))
 (Zf (Zt 3 YS.nd (Zg G_some (hr.mono (by walk_at "w")) rfl T.CF.m T.CF.F.kp T.CF.b Zm (Za (Zb 1) (Za (Zb 2) (Za Zc Zd)))))
 (Zf (Qb (DW.dt (XW (ZG (CB hr) (Zb 3) (Ja Zd)) (Y6 (ZG (Yg hr) (Zg G_take (hr.mono (by walk_at "w")) rfl T.Zi.m T.Zi.F.kp T.Zi.b Zm (Za (Zb 1) (Za Zc Zd))) Zc)))) (Zh (JT (Qm (Zb 3) (Zl (Zb 3) (Zg G_take (hr.mono (by walk_at "w")) rfl T.Zi.m T.Zi.F.kp T.Zi.b Zm (Za (Zb 1) (Za (Zk Qp rfl T.Jc Qh (Za (Zb 3) Zd)) Zd))))))) Zy)
 (Zf (Lg 3 (Zt 4 YS.nd (Zj Ym (Qc false (Zx (sc := Ze Bq) (XN := ["_law_script", "_law_pen", "_law_world_here", "_law_tellings", "_law_times", "_law_low", "_law_high", "_law_by", "_law_k"]) (N := ["_law_one"]) (ix := [none]) rfl rfl (by walk_at "k")) (QZ (Zb 3)) (fun C ex s H => (Zu 0 (show List.Nodup (["_law_one"] : List Str) by walk_at "k"))) (fun C ex s H => Z7) (fun C ex s H => (Zl (Zb 0) Zc)) rfl) (Ja (Za ((Jf hr) (Zb 2) Zs) Zd)))))
 (Zf (Zt 5 YS.nd (Zj QP Zc (Zk (Tf rfl) rfl T.ZfL ZdK (Za (Zb 4) Zd))))
 (Zf (Zt 6 YS.nd (Zj QP (Zj VJ Zc Zc) (Zk (TB rfl) rfl T.Zab E5 (Za (Zb 4) Zd))))
 (Zf (Xi (Ja (Za Zc (Za (Zb 5) (Za (Zb 6) (Za (Zj ZC (Zb 5) (Zg G_wide (hr.mono (by walk_at "w")) rfl T.Ji.m T.Ji.F.kp T.Ji.b Zm (Za (Zb 1) (Za (Zj ZC (Zj QP (Zb 6) (Zb 5)) Zc) Zd)))) Zd))))) (Zu 7 YS.nd) (Zh (Qb (QS (QR (Zg G_put_right (hr.mono (by walk_at "w")) rfl T.Vh.m T.Vh.F.kp T.Vh.b Zm (Za (Zb 3) (Za (Zb 7) Zd))))) (Zh (Zp KP)) Zy)) PassesOwn.never rfl)
 (Zf (VQ rfl T.QF (Za Zc Zd) (Zu 8 YS.nd) (Zh (Qb (QS (QR (Zg G_called_right (hr.mono (by walk_at "w")) rfl T.Q7.m T.Q7.F.kp T.Q7.b Zm (Za (Zb 1) (Za (Zb 3) Zd))))) (Zh (Zp KP)) Zy)) PassesOwn.never rfl)
 (Zh (Zp (Jm (P5 hr) (Zg G_put_off (hr.mono (by walk_at "w")) rfl T.Qn.m T.Qn.F.kp T.Qn.b Zm (Za (Ja Zd) (Za (Zj VJ Zc Zc) Zd))) (Ja Zd))))))))))))), fun xs M Φ ⟨ns, e, hn, h⟩ => ?_⟩
 subst e;walk_at "h";intro p hp;walk_at "h";refine ⟨Pen.ZM ⟨ns, 0, 0, Int.le_refl 0, rfl⟩, fun q M2 hw hne f2 => ?_⟩;walk_at "h";refine ⟨hw, hne, f2.1, fun ts M3 r hl ht hin hr3 hr2 hF3 hP3 hrp => ?_⟩;obtain ⟨f, ox, oy, bg, sp, tn, ln, hq, hf, hbg, hsp, htn, hln⟩ := id hw;have hin := hin f ox oy bg sp tn ln hq;have hqr : q ≠ r := fun z => by
  rw [z, hr2] at hq;cases hq
 have hq3 : M3 q = some (EL f ox oy bg sp tn ln) := by
  rw [hF3 q hne (by rw [hq]; exact Option.some_ne_none _)];exact hq
 walk_at "hd";rename_i R hR;walk_at "rk";rw [hr3];walk_at "rk";refine T4 (F := fun M' => R _ _ M') hr3 hP3 hrp hl ht fun ts4 M4 hts hsub hF4 hr4 hP4 => ?_;have hin4 : ∀ t ∈ ts4, InW tn ln t := fun t m => hin t (hsub t m);have hq4 : M4 q = some (EL f ox oy bg sp tn ln) := by
  rw [hF4 q hne hqr (by rw [hq3]; exact Option.some_ne_none _)];exact hq3
 have len := List.length_map (as := ts4) tlD;have l20 := hts.1;have pd : Pen (Yy M4 r) p := hP4.del (Ne.symm hrp);walk_at "h";rw [hr4];walk_at "rk";refine ⟨by omega, fun i acc M' => acc = (ts4.take i).map (fun x => PyData.int (tmT x)) /\ M' = Yy M4 r, ⟨rfl, rfl⟩, ?_, ?_⟩
 ·rintro i d acc M' hd ⟨rfl, rfl⟩;obtain ⟨x, ex, rfl⟩ := Z4 hd;have fin := take_snoc (fun x => PyData.int (tmT x)) ex;cases x with
  | land t nm ou bs wb => exact ⟨fin, rfl⟩
  | spot t nm u v => exact ⟨fin, rfl⟩
  | off w t nm => exact ⟨fin, rfl⟩
 rintro acc M' ⟨rfl, rfl⟩;rw [len, List.take_length, JE hqr, hq4, Lx];have et : ts4.map (fun x => PyData.int (tmT x)) ++ [PyData.int bg] = (ts4.map tmT ++ [bg]).map PyData.int := by
  rw [List.map_append, List.map_map];rfl
 rw [et];refine ⟨by rw [List.length_map]; omega, ?_⟩;have rng : ∀ a ∈ ts4.map tmT ++ [bg], 0 <= a /\ a <= 1000000000000 := fun a ha => by
  rcases List.mem_append.mp ha with ha | ha
  ·obtain ⟨x, hx, rfl⟩ := List.mem_map.mp ha;exact Zf1 (hts.2 x hx)
  ·rw [List.mem_singleton.mp ha];omega
 have inT : ∀ x ∈ ts4, tmT x ∈ ts4.map tmT ++ [bg] := fun x hx => List.mem_append_left _ (List.mem_map.mpr ⟨x, hx, rfl⟩);walk_at "h";refine ⟨ts4.map tmT ++ [bg], .inl rfl, by rw [List.length_append, List.length_singleton]; omega, fun lo mlo hlo => ?_⟩;walk_at "h";refine ⟨FC _ (by decide), ts4.map tmT ++ [bg], .inl rfl, by rw [List.length_append, List.length_singleton]; omega, fun hi mhi hhi => ?_⟩;have r1 := rng lo mlo;have r2 := rng hi mhi;have lh := hlo hi mhi;walk_at "h";refine ⟨⟨by omega, by omega⟩, pd, fun w M5 w0 w1 f5 => ?_⟩;refine ⟨fun i Z M' => ∃ k7, Z = [some (.dat (.list (ns.map PyData.int))), some (.own p), some (.own q), some (.dat (.list (ts4.map tlD))), some (.dat (.list ((ts4.map tmT ++ [bg]).map PyData.int))), some (.dat (.int (0 - lo))), some (.dat (.int (1000000000000 - hi))), k7, none] /\ Pen M' p, ⟨_, rfl, f5.1⟩, ?_, ?_⟩
 ·rintro i d Z M' hd ⟨k7, rfl, hP⟩;obtain ⟨b, eb, rfl⟩ := Z4 (f := PyData.int) (l := [0, 0 - lo, 1000000000000 - hi, 0 - lo + w]) hd;have hb : 0 - lo <= b /\ b <= 1000000000000 - hi := by
   have := List.mem_of_getElem? eb;simp only [List.mem_cons, List.not_mem_nil, or_false] at this;omega
  walk_at "rk";refine ⟨ts4, rfl, ⟨hts, fun t ht => ?_⟩, fun M6 gw => ?_⟩
  ·have a1 := hlo _ (inT t ht);have a2 := hhi _ (inT t ht);omega
  ·walk_at "rk";exact ⟨_, rfl, gw.pen hP⟩
 ·rintro Z M' ⟨k7, rfl, hP⟩;walk_at "h";refine ⟨⟨by decide, by decide⟩, fun i Z M' => ∃ k8, Z = [some (.dat (.list (ns.map PyData.int))), some (.own p), some (.own q), some (.dat (.list (ts4.map tlD))), some (.dat (.list ((ts4.map tmT ++ [bg]).map PyData.int))), some (.dat (.int (0 - lo))), some (.dat (.int (1000000000000 - hi))), k7, k8] /\ Pen M' p, ⟨_, rfl, hP⟩, ?_, ?_⟩
  ·rintro i Z M6 hi' ⟨k8, rfl, hP6⟩;walk_at "rk";refine ⟨ts4, rfl, hts, ⟨tn, ln, by have := htn.1; omega, by have := hln.1; omega, hin4⟩, hP6, fun M7 f7 => ?_⟩;walk_at "rk";exact ⟨_, rfl, f7.1⟩
  ·rintro Z M6 ⟨k8, rfl, hP6⟩;subst_vars;walk_at "rk";have h0 : QD [] := ⟨by decide, fun t ht => (nomatch ht)⟩
   obtain ⟨q1, q2⟩ := G0 h0.2;refine ⟨FC _ (by decide), [], rfl, ⟨h0, h0⟩, fun s hs => ?_⟩;have q3 : PyData.eqvAll (List.map tlD (List.map (shT 10000000000000000000000000000000000000000) [])) [] = true := q2;rw [q3];exact ⟨q1, h _⟩
end
theorem JZ {α : Type} {l : List α} (h : l.length = 1) : ∃ a0, l = [a0] := by
 match l, h with
 | [a0], _ => exact ⟨a0, rfl⟩
theorem V8 {α : Type} {l : List α} (h : l.length = 2) : ∃ a0 a1, l = [a0, a1] := by
 match l, h with
 | [a0, a1], _ => exact ⟨a0, a1, rfl⟩
theorem Be {α : Type} {l : List α} (h : l.length = 3) : ∃ a0 a1 a2, l = [a0, a1, a2] := by
 match l, h with
 | [a0, a1, a2], _ => exact ⟨a0, a1, a2, rfl⟩
theorem all_mk {l : PySem.W.OpenLaw} {w : World} {fa : Addr} (X : K.In h) (G : h.Ns mainGlobals mg) (hfa : mg "law" = some (.ref fa))
  {f0 : Addr} {od0 an0 : Option Addr} {sl0 : Array (Option Value)} {oc0 kV0 dc0 pm0 cd0 ct0 : Value} {f1 : Addr} {od1 an1 : Option Addr} {sl1 : Array (Option Value)} {oc1 kV1 dc1 pm1 cd1 ct1 : Value} {f2 : Addr} {od2 an2 : Option Addr} {sl2 : Array (Option Value)} {oc2 kV2 dc2 pm2 cd2 ct2 : Value} {f3 : Addr} {od3 an3 : Option Addr} {sl3 : Array (Option Value)} {oc3 kV3 dc3 pm3 cd3 ct3 : Value} {f4 : Addr} {od4 an4 : Option Addr} {sl4 : Array (Option Value)} {oc4 kV4 dc4 pm4 cd4 ct4 : Value} {f5 : Addr} {od5 an5 : Option Addr} {sl5 : Array (Option Value)} {oc5 kV5 dc5 pm5 cd5 ct5 : Value} {f6 : Addr} {od6 an6 : Option Addr} {sl6 : Array (Option Value)} {oc6 kV6 dc6 pm6 cd6 ct6 : Value} {f7 : Addr} {od7 an7 : Option Addr} {sl7 : Array (Option Value)} {oc7 kV7 dc7 pm7 cd7 ct7 : Value} {f8 : Addr} {od8 an8 : Option Addr} {sl8 : Array (Option Value)} {oc8 kV8 dc8 pm8 cd8 ct8 : Value} {f9 : Addr} {od9 an9 : Option Addr} {sl9 : Array (Option Value)} {oc9 kV9 dc9 pm9 cd9 ct9 : Value} {f10 : Addr} {od10 an10 : Option Addr} {sl10 : Array (Option Value)} {oc10 kV10 dc10 pm10 cd10 ct10 : Value} {f11 : Addr} {od11 an11 : Option Addr} {sl11 : Array (Option Value)} {oc11 kV11 dc11 pm11 cd11 ct11 : Value} {f12 : Addr} {od12 an12 : Option Addr} {sl12 : Array (Option Value)} {oc12 kV12 dc12 pm12 cd12 ct12 : Value} {f13 : Addr} {od13 an13 : Option Addr} {sl13 : Array (Option Value)} {oc13 kV13 dc13 pm13 cd13 ct13 : Value} {f14 : Addr} {od14 an14 : Option Addr} {sl14 : Array (Option Value)} {oc14 kV14 dc14 pm14 cd14 ct14 : Value} {f15 : Addr} {od15 an15 : Option Addr} {sl15 : Array (Option Value)} {oc15 kV15 dc15 pm15 cd15 ct15 : Value} {f16 : Addr} {od16 an16 : Option Addr} {sl16 : Array (Option Value)} {oc16 kV16 dc16 pm16 cd16 ct16 : Value} {f17 : Addr} {od17 an17 : Option Addr} {sl17 : Array (Option Value)} {oc17 kV17 dc17 pm17 cd17 ct17 : Value} {f18 : Addr} {od18 an18 : Option Addr} {sl18 : Array (Option Value)} {oc18 kV18 dc18 pm18 cd18 ct18 : Value} {f19 : Addr} {od19 an19 : Option Addr} {sl19 : Array (Option Value)} {oc19 kV19 dc19 pm19 cd19 ct19 : Value} {f20 : Addr} {od20 an20 : Option Addr} {sl20 : Array (Option Value)} {oc20 kV20 dc20 pm20 cd20 ct20 : Value} {f21 : Addr} {od21 an21 : Option Addr} {sl21 : Array (Option Value)} {oc21 kV21 dc21 pm21 cd21 ct21 : Value} {f22 : Addr} {od22 an22 : Option Addr} {sl22 : Array (Option Value)} {oc22 kV22 dc22 pm22 cd22 ct22 : Value} {f23 : Addr} {od23 an23 : Option Addr} {sl23 : Array (Option Value)} {oc23 kV23 dc23 pm23 cd23 ct23 : Value} {f24 : Addr} {od24 an24 : Option Addr} {sl24 : Array (Option Value)} {oc24 kV24 dc24 pm24 cd24 ct24 : Value} {f25 : Addr} {od25 an25 : Option Addr} {sl25 : Array (Option Value)} {oc25 kV25 dc25 pm25 cd25 ct25 : Value} {f26 : Addr} {od26 an26 : Option Addr} {sl26 : Array (Option Value)} {oc26 kV26 dc26 pm26 cd26 ct26 : Value} {f27 : Addr} {od27 an27 : Option Addr} {sl27 : Array (Option Value)} {oc27 kV27 dc27 pm27 cd27 ct27 : Value} {f28 : Addr} {od28 an28 : Option Addr} {sl28 : Array (Option Value)} {oc28 kV28 dc28 pm28 cd28 ct28 : Value} {f29 : Addr} {od29 an29 : Option Addr} {sl29 : Array (Option Value)} {oc29 kV29 dc29 pm29 cd29 ct29 : Value} {f30 : Addr} {od30 an30 : Option Addr} {sl30 : Array (Option Value)} {oc30 kV30 dc30 pm30 cd30 ct30 : Value} {f31 : Addr} {od31 an31 : Option Addr} {sl31 : Array (Option Value)} {oc31 kV31 dc31 pm31 cd31 ct31 : Value} {f32 : Addr} {od32 an32 : Option Addr} {sl32 : Array (Option Value)} {oc32 kV32 dc32 pm32 cd32 ct32 : Value} {f33 : Addr} {od33 an33 : Option Addr} {sl33 : Array (Option Value)} {oc33 kV33 dc33 pm33 cd33 ct33 : Value} {f34 : Addr} {od34 an34 : Option Addr} {sl34 : Array (Option Value)} {oc34 kV34 dc34 pm34 cd34 ct34 : Value} {f35 : Addr} {od35 an35 : Option Addr} {sl35 : Array (Option Value)} {oc35 kV35 dc35 pm35 cd35 ct35 : Value} {f36 : Addr} {od36 an36 : Option Addr} {sl36 : Array (Option Value)} {oc36 kV36 dc36 pm36 cd36 ct36 : Value} {f37 : Addr} {od37 an37 : Option Addr} {sl37 : Array (Option Value)} {oc37 kV37 dc37 pm37 cd37 ct37 : Value} {f38 : Addr} {od38 an38 : Option Addr} {sl38 : Array (Option Value)} {oc38 kV38 dc38 pm38 cd38 ct38 : Value} {f39 : Addr} {od39 an39 : Option Addr} {sl39 : Array (Option Value)} {oc39 kV39 dc39 pm39 cd39 ct39 : Value} {f40 : Addr} {od40 an40 : Option Addr} {sl40 : Array (Option Value)} {oc40 kV40 dc40 pm40 cd40 ct40 : Value} {f41 : Addr} {od41 an41 : Option Addr} {sl41 : Array (Option Value)} {oc41 kV41 dc41 pm41 cd41 ct41 : Value} {f42 : Addr} {od42 an42 : Option Addr} {sl42 : Array (Option Value)} {oc42 kV42 dc42 pm42 cd42 ct42 : Value} {tk0 : Tok} {tk1 : Tok} {tk2 : Tok} {tk3 : Tok}
  (a0 : PySem.W.nsIn K mainGlobals "is_whole" = some (some (.ref f0))) (l0 : K.lookup f0 = some ⟨oc0, od0, .func (PySem.W.fnOf "is_whole" "is_whole" (Zr Jt) (Zo Jt) (Ze Jt) .none kV0 dc0 pm0 an0 cd0 ct0), sl0⟩) (c0 : PySem.W.codeIn K cd0 "is_whole" = true) (k0 : PySem.W.keepIn K (.ref f0) = true)
  (a1 : PySem.W.nsIn K mainGlobals "is_short" = some (some (.ref f1))) (l1 : K.lookup f1 = some ⟨oc1, od1, .func (PySem.W.fnOf "is_short" "is_short" (Zr Ju) (Zo Ju) (Ze Ju) .none kV1 dc1 pm1 an1 cd1 ct1), sl1⟩) (c1 : PySem.W.codeIn K cd1 "is_short" = true) (k1 : PySem.W.keepIn K (.ref f1) = true)
  (a2 : PySem.W.nsIn K mainGlobals "is_any_spot" = some (some (.ref f2))) (l2 : K.lookup f2 = some ⟨oc2, od2, .func (PySem.W.fnOf "is_any_spot" "is_any_spot" (Zr Qj) (Zo Qj) (Ze Qj) .none kV2 dc2 pm2 an2 cd2 ct2), sl2⟩) (c2 : PySem.W.codeIn K cd2 "is_any_spot" = true) (k2 : PySem.W.keepIn K (.ref f2) = true)
  (a3 : PySem.W.nsIn K mainGlobals "is_spot" = some (some (.ref f3))) (l3 : K.lookup f3 = some ⟨oc3, od3, .func (PySem.W.fnOf "is_spot" "is_spot" (Zr JX) (Zo JX) (Ze JX) .none kV3 dc3 pm3 an3 cd3 ct3), sl3⟩) (c3 : PySem.W.codeIn K cd3 "is_spot" = true) (k3 : PySem.W.keepIn K (.ref f3) = true)
  (a4 : PySem.W.nsIn K mainGlobals "is_box" = some (some (.ref f4))) (l4 : K.lookup f4 = some ⟨oc4, od4, .func (PySem.W.fnOf "is_box" "is_box" (Zr VZ) (Zo VZ) (Ze VZ) .none kV4 dc4 pm4 an4 cd4 ct4), sl4⟩) (c4 : PySem.W.codeIn K cd4 "is_box" = true) (k4 : PySem.W.keepIn K (.ref f4) = true)
  (a5 : PySem.W.nsIn K mainGlobals "has_spots" = some (some (.ref f5))) (l5 : K.lookup f5 = some ⟨oc5, od5, .func (PySem.W.fnOf "has_spots" "has_spots" (Zr QX) (Zo QX) (Ze QX) .none kV5 dc5 pm5 an5 cd5 ct5), sl5⟩) (c5 : PySem.W.codeIn K cd5 "has_spots" = true) (k5 : PySem.W.keepIn K (.ref f5) = true)
  (a6 : PySem.W.nsIn K mainGlobals "steps_between" = some (some (.ref f6))) (l6 : K.lookup f6 = some ⟨oc6, od6, .func (PySem.W.fnOf "steps_between" "steps_between" (Zr Z6) (Zo Z6) (Ze Z6) .none kV6 dc6 pm6 an6 cd6 ct6), sl6⟩) (c6 : PySem.W.codeIn K cd6 "steps_between" = true) (k6 : PySem.W.keepIn K (.ref f6) = true)
  (a7 : PySem.W.nsIn K mainGlobals "gap" = some (some (.ref f7))) (l7 : K.lookup f7 = some ⟨oc7, od7, .func (PySem.W.fnOf "gap" "gap" (Zr Eu) (Zo Eu) (Ze Eu) .none kV7 dc7 pm7 an7 cd7 ct7), sl7⟩) (c7 : PySem.W.codeIn K cd7 "gap" = true) (k7 : PySem.W.keepIn K (.ref f7) = true)
  (a8 : PySem.W.nsIn K mainGlobals "is_shape" = some (some (.ref f8))) (l8 : K.lookup f8 = some ⟨oc8, od8, .func (PySem.W.fnOf "is_shape" "is_shape" (Zr QV) (Zo QV) (Ze QV) .none kV8 dc8 pm8 an8 cd8 ct8), sl8⟩) (c8 : PySem.W.codeIn K cd8 "is_shape" = true) (k8 : PySem.W.keepIn K (.ref f8) = true)
  (a9 : PySem.W.nsIn K mainGlobals "is_chain" = some (some (.ref f9))) (l9 : K.lookup f9 = some ⟨oc9, od9, .func (PySem.W.fnOf "is_chain" "is_chain" (Zr QY) (Zo QY) (Ze QY) .none kV9 dc9 pm9 an9 cd9 ct9), sl9⟩) (c9 : PySem.W.codeIn K cd9 "is_chain" = true) (k9 : PySem.W.keepIn K (.ref f9) = true)
  (a10 : PySem.W.nsIn K mainGlobals "is_name" = some (some (.ref f10))) (l10 : K.lookup f10 = some ⟨oc10, od10, .func (PySem.W.fnOf "is_name" "is_name" (Zr JD) (Zo JD) (Ze JD) .none kV10 dc10 pm10 an10 cd10 ct10), sl10⟩) (c10 : PySem.W.codeIn K cd10 "is_name" = true) (k10 : PySem.W.keepIn K (.ref f10) = true)
  (a11 : PySem.W.nsIn K mainGlobals "is_time" = some (some (.ref f11))) (l11 : K.lookup f11 = some ⟨oc11, od11, .func (PySem.W.fnOf "is_time" "is_time" (Zr J3) (Zo J3) (Ze J3) .none kV11 dc11 pm11 an11 cd11 ct11), sl11⟩) (c11 : PySem.W.codeIn K cd11 "is_time" = true) (k11 : PySem.W.keepIn K (.ref f11) = true)
  (a12 : PySem.W.nsIn K mainGlobals "is_telling" = some (some (.ref f12))) (l12 : K.lookup f12 = some ⟨oc12, od12, .func (PySem.W.fnOf "is_telling" "is_telling" (Zr QA) (Zo QA) (Ze QA) .none kV12 dc12 pm12 an12 cd12 ct12), sl12⟩) (c12 : PySem.W.codeIn K cd12 "is_telling" = true) (k12 : PySem.W.keepIn K (.ref f12) = true)
  (a13 : PySem.W.nsIn K mainGlobals "is_name_or_empty" = some (some (.ref f13))) (l13 : K.lookup f13 = some ⟨oc13, od13, .func (PySem.W.fnOf "is_name_or_empty" "is_name_or_empty" (Zr ZP) (Zo ZP) (Ze ZP) .none kV13 dc13 pm13 an13 cd13 ct13), sl13⟩) (c13 : PySem.W.codeIn K cd13 "is_name_or_empty" = true) (k13 : PySem.W.keepIn K (.ref f13) = true)
  (a14 : PySem.W.nsIn K mainGlobals "is_wobble" = some (some (.ref f14))) (l14 : K.lookup f14 = some ⟨oc14, od14, .func (PySem.W.fnOf "is_wobble" "is_wobble" (Zr QT) (Zo QT) (Ze QT) .none kV14 dc14 pm14 an14 cd14 ct14), sl14⟩) (c14 : PySem.W.codeIn K cd14 "is_wobble" = true) (k14 : PySem.W.keepIn K (.ref f14) = true)
  (a15 : PySem.W.nsIn K mainGlobals "put_off" = some (some (.ref f15))) (l15 : K.lookup f15 = some ⟨oc15, od15, .func (PySem.W.fnOf "put_off" "put_off" (Zr JK) (Zo JK) (Ze JK) .none kV15 dc15 pm15 an15 cd15 ct15), sl15⟩) (c15 : PySem.W.codeIn K cd15 "put_off" = true) (k15 : PySem.W.keepIn K (.ref f15) = true)
  (a16 : PySem.W.nsIn K mainGlobals "called" = some (some (.ref f16))) (l16 : K.lookup f16 = some ⟨oc16, od16, .func (PySem.W.fnOf "called" "called" (Zr Vc) (Zo Vc) (Ze Vc) .none kV16 dc16 pm16 an16 cd16 ct16), sl16⟩) (c16 : PySem.W.codeIn K cd16 "called" = true) (k16 : PySem.W.keepIn K (.ref f16) = true)
  (a17 : PySem.W.nsIn K mainGlobals "checked" = some (some (.ref f17))) (l17 : K.lookup f17 = some ⟨oc17, od17, .func (PySem.W.fnOf "checked" "checked" (Zr JG) (Zo JG) (Ze JG) .none kV17 dc17 pm17 an17 cd17 ct17), sl17⟩) (c17 : PySem.W.codeIn K cd17 "checked" = true) (k17 : PySem.W.keepIn K (.ref f17) = true)
  (a18 : PySem.W.nsIn K mainGlobals "are_names" = some (some (.ref f18))) (l18 : K.lookup f18 = some ⟨oc18, od18, .func (PySem.W.fnOf "are_names" "are_names" (Zr Qx) (Zo Qx) (Ze Qx) .none kV18 dc18 pm18 an18 cd18 ct18), sl18⟩) (c18 : PySem.W.codeIn K cd18 "are_names" = true) (k18 : PySem.W.keepIn K (.ref f18) = true)
  (a19 : PySem.W.nsIn K mainGlobals "clashes" = some (some (.ref f19))) (l19 : K.lookup f19 = some ⟨oc19, od19, .func (PySem.W.fnOf "clashes" "clashes" (Zr Jy) (Zo Jy) (Ze Jy) .none kV19 dc19 pm19 an19 cd19 ct19), sl19⟩) (c19 : PySem.W.codeIn K cd19 "clashes" = true) (k19 : PySem.W.keepIn K (.ref f19) = true)
  (a20 : PySem.W.nsIn K mainGlobals "names_of_things" = some (some (.ref f20))) (l20 : K.lookup f20 = some ⟨oc20, od20, .func (PySem.W.fnOf "names_of_things" "names_of_things" (Zr ZL) (Zo ZL) (Ze ZL) .none kV20 dc20 pm20 an20 cd20 ct20), sl20⟩) (c20 : PySem.W.codeIn K cd20 "names_of_things" = true) (k20 : PySem.W.keepIn K (.ref f20) = true)
  (a21 : PySem.W.nsIn K mainGlobals "names_of_lands" = some (some (.ref f21))) (l21 : K.lookup f21 = some ⟨oc21, od21, .func (PySem.W.fnOf "names_of_lands" "names_of_lands" (Zr ZF) (Zo ZF) (Ze ZF) .none kV21 dc21 pm21 an21 cd21 ct21), sl21⟩) (c21 : PySem.W.codeIn K cd21 "names_of_lands" = true) (k21 : PySem.W.keepIn K (.ref f21) = true)
  (a22 : PySem.W.nsIn K mainGlobals "called_otherwise" = some (some (.ref f22))) (l22 : K.lookup f22 = some ⟨oc22, od22, .func (PySem.W.fnOf "called_otherwise" "called_otherwise" (Zr ZQ) (Zo ZQ) (Ze ZQ) .none kV22 dc22 pm22 an22 cd22 ct22), sl22⟩) (c22 : PySem.W.codeIn K cd22 "called_otherwise" = true) (k22 : PySem.W.keepIn K (.ref f22) = true)
  (a23 : PySem.W.nsIn K mainGlobals "_law_take" = some (some (.ref f23))) (l23 : K.lookup f23 = some ⟨oc23, od23, .func (PySem.W.fnOf "_law_take" "_law_take" (Zr Wv) (Zo Wv) (Ze Wv) .none kV23 dc23 pm23 an23 cd23 ct23), sl23⟩) (c23 : PySem.W.codeIn K cd23 "_law_take" = true) (k23 : PySem.W.keepIn K (.ref f23) = true)
  (a24 : PySem.W.nsIn K mainGlobals "_law_wide" = some (some (.ref f24))) (l24 : K.lookup f24 = some ⟨oc24, od24, .func (PySem.W.fnOf "_law_wide" "_law_wide" (Zr Ww) (Zo Ww) (Ze Ww) .none kV24 dc24 pm24 an24 cd24 ct24), sl24⟩) (c24 : PySem.W.codeIn K cd24 "_law_wide" = true) (k24 : PySem.W.keepIn K (.ref f24) = true)
  (a25 : PySem.W.nsIn K mainGlobals "_law_same" = some (some (.ref f25))) (l25 : K.lookup f25 = some ⟨oc25, od25, .func (PySem.W.fnOf "_law_same" "_law_same" (Zr s_same) (Zo s_same) (Ze s_same) .none kV25 dc25 pm25 an25 cd25 ct25), sl25⟩) (c25 : PySem.W.codeIn K cd25 "_law_same" = true) (k25 : PySem.W.keepIn K (.ref f25) = true)
  (a26 : PySem.W.nsIn K mainGlobals "_law_boxes" = some (some (.ref f26))) (l26 : K.lookup f26 = some ⟨oc26, od26, .func (PySem.W.fnOf "_law_boxes" "_law_boxes" (Zr Yr) (Zo Yr) (Ze Yr) .none kV26 dc26 pm26 an26 cd26 ct26), sl26⟩) (c26 : PySem.W.codeIn K cd26 "_law_boxes" = true) (k26 : PySem.W.keepIn K (.ref f26) = true)
  (a27 : PySem.W.nsIn K mainGlobals "_law_stretched" = some (some (.ref f27))) (l27 : K.lookup f27 = some ⟨oc27, od27, .func (PySem.W.fnOf "_law_stretched" "_law_stretched" (Zr Q0) (Zo Q0) (Ze Q0) .none kV27 dc27 pm27 an27 cd27 ct27), sl27⟩) (c27 : PySem.W.codeIn K cd27 "_law_stretched" = true) (k27 : PySem.W.keepIn K (.ref f27) = true)
  (a28 : PySem.W.nsIn K mainGlobals "_law_stretch" = some (some (.ref f28))) (l28 : K.lookup f28 = some ⟨oc28, od28, .func (PySem.W.fnOf "_law_stretch" "_law_stretch" (Zr J6) (Zo J6) (Ze J6) .none kV28 dc28 pm28 an28 cd28 ct28), sl28⟩) (c28 : PySem.W.codeIn K cd28 "_law_stretch" = true) (k28 : PySem.W.keepIn K (.ref f28) = true)
  (a29 : PySem.W.nsIn K mainGlobals "_law_names" = some (some (.ref f29))) (l29 : K.lookup f29 = some ⟨oc29, od29, .func (PySem.W.fnOf "_law_names" "_law_names" (Zr JH) (Zo JH) (Ze JH) .none kV29 dc29 pm29 an29 cd29 ct29), sl29⟩) (c29 : PySem.W.codeIn K cd29 "_law_names" = true) (k29 : PySem.W.keepIn K (.ref f29) = true)
  (a30 : PySem.W.nsIn K mainGlobals "_law_world" = some (some (.ref f30))) (l30 : K.lookup f30 = some ⟨oc30, od30, .func (PySem.W.fnOf "_law_world" "_law_world" (Zr Xs) (Zo Xs) (Ze Xs) .none kV30 dc30 pm30 an30 cd30 ct30), sl30⟩) (c30 : PySem.W.codeIn K cd30 "_law_world" = true) (k30 : PySem.W.keepIn K (.ref f30) = true)
  (a31 : PySem.W.nsIn K mainGlobals "_law_spot" = some (some (.ref f31))) (l31 : K.lookup f31 = some ⟨oc31, od31, .func (PySem.W.fnOf "_law_spot" "_law_spot" (Zr Kg) (Zo Kg) (Ze Kg) .none kV31 dc31 pm31 an31 cd31 ct31), sl31⟩) (c31 : PySem.W.codeIn K cd31 "_law_spot" = true) (k31 : PySem.W.keepIn K (.ref f31) = true)
  (a32 : PySem.W.nsIn K mainGlobals "_law_land" = some (some (.ref f32))) (l32 : K.lookup f32 = some ⟨oc32, od32, .func (PySem.W.fnOf "_law_land" "_law_land" (Zr Wc) (Zo Wc) (Ze Wc) .none kV32 dc32 pm32 an32 cd32 ct32), sl32⟩) (c32 : PySem.W.codeIn K cd32 "_law_land" = true) (k32 : PySem.W.keepIn K (.ref f32) = true)
  (a33 : PySem.W.nsIn K mainGlobals "_law_telling" = some (some (.ref f33))) (l33 : K.lookup f33 = some ⟨oc33, od33, .func (PySem.W.fnOf "_law_telling" "_law_telling" (Zr J2) (Zo J2) (Ze J2) .none kV33 dc33 pm33 an33 cd33 ct33), sl33⟩) (c33 : PySem.W.codeIn K cd33 "_law_telling" = true) (k33 : PySem.W.keepIn K (.ref f33) = true)
  (a34 : PySem.W.nsIn K mainGlobals "_law_some" = some (some (.ref f34))) (l34 : K.lookup f34 = some ⟨oc34, od34, .func (PySem.W.fnOf "_law_some" "_law_some" (Zr X9) (Zo X9) (Ze X9) .none kV34 dc34 pm34 an34 cd34 ct34), sl34⟩) (c34 : PySem.W.codeIn K cd34 "_law_some" = true) (k34 : PySem.W.keepIn K (.ref f34) = true)
  (a35 : PySem.W.nsIn K mainGlobals "_law_standing" = some (some (.ref f35))) (l35 : K.lookup f35 = some ⟨oc35, od35, .func (PySem.W.fnOf "_law_standing" "_law_standing" (Zr Jx) (Zo Jx) (Ze Jx) .none kV35 dc35 pm35 an35 cd35 ct35), sl35⟩) (c35 : PySem.W.codeIn K cd35 "_law_standing" = true) (k35 : PySem.W.keepIn K (.ref f35) = true)
  (a36 : PySem.W.nsIn K mainGlobals "_law_others" = some (some (.ref f36))) (l36 : K.lookup f36 = some ⟨oc36, od36, .func (PySem.W.fnOf "_law_others" "_law_others" (Zr Vn) (Zo Vn) (Ze Vn) .none kV36 dc36 pm36 an36 cd36 ct36), sl36⟩) (c36 : PySem.W.codeIn K cd36 "_law_others" = true) (k36 : PySem.W.keepIn K (.ref f36) = true)
  (a37 : PySem.W.nsIn K mainGlobals "_law_dict" = some (some (.ref f37))) (l37 : K.lookup f37 = some ⟨oc37, od37, .func (PySem.W.fnOf "_law_dict" "_law_dict" (Zr Wf) (Zo Wf) (Ze Wf) .none kV37 dc37 pm37 an37 cd37 ct37), sl37⟩) (c37 : PySem.W.codeIn K cd37 "_law_dict" = true) (k37 : PySem.W.keepIn K (.ref f37) = true)
  (a38 : PySem.W.nsIn K mainGlobals "_law_called" = some (some (.ref f38))) (l38 : K.lookup f38 = some ⟨oc38, od38, .func (PySem.W.fnOf "_law_called" "_law_called" (Zr Jw) (Zo Jw) (Ze Jw) .none kV38 dc38 pm38 an38 cd38 ct38), sl38⟩) (c38 : PySem.W.codeIn K cd38 "_law_called" = true) (k38 : PySem.W.keepIn K (.ref f38) = true)
  (a39 : PySem.W.nsIn K mainGlobals "_law_back" = some (some (.ref f39))) (l39 : K.lookup f39 = some ⟨oc39, od39, .func (PySem.W.fnOf "_law_back" "_law_back" (Zr X4) (Zo X4) (Ze X4) .none kV39 dc39 pm39 an39 cd39 ct39), sl39⟩) (c39 : PySem.W.codeIn K cd39 "_law_back" = true) (k39 : PySem.W.keepIn K (.ref f39) = true)
  (a40 : PySem.W.nsIn K mainGlobals "_law_called_right" = some (some (.ref f40))) (l40 : K.lookup f40 = some ⟨oc40, od40, .func (PySem.W.fnOf "_law_called_right" "_law_called_right" (Zr ZT) (Zo ZT) (Ze ZT) .none kV40 dc40 pm40 an40 cd40 ct40), sl40⟩) (c40 : PySem.W.codeIn K cd40 "_law_called_right" = true) (k40 : PySem.W.keepIn K (.ref f40) = true)
  (a41 : PySem.W.nsIn K mainGlobals "_law_put_right" = some (some (.ref f41))) (l41 : K.lookup f41 = some ⟨oc41, od41, .func (PySem.W.fnOf "_law_put_right" "_law_put_right" (Zr Q5) (Zo Q5) (Ze Q5) .none kV41 dc41 pm41 an41 cd41 ct41), sl41⟩) (c41 : PySem.W.codeIn K cd41 "_law_put_right" = true) (k41 : PySem.W.keepIn K (.ref f41) = true)
  (a42 : PySem.W.nsIn K mainGlobals "law" = some (some (.ref f42))) (l42 : K.lookup f42 = some ⟨oc42, od42, .func (PySem.W.fnOf "law" "law" (Zr Bq) (Zo Bq) (Ze Bq) .none kV42 dc42 pm42 an42 cd42 ct42), sl42⟩) (c42 : PySem.W.codeIn K cd42 "law" = true) (k42 : PySem.W.keepIn K (.ref f42) = true)
  (z0 : PySem.W.nsIn K mainGlobals "abs" = some none)
  (z1 : PySem.W.nsIn K mainGlobals "all" = some none)
  (z2 : PySem.W.nsIn K mainGlobals "bool" = some none)
  (z3 : PySem.W.nsIn K mainGlobals "dict" = some none)
  (z4 : PySem.W.nsIn K mainGlobals "int" = some none)
  (z5 : PySem.W.nsIn K mainGlobals "isinstance" = some none)
  (z6 : PySem.W.nsIn K mainGlobals "len" = some none)
  (z7 : PySem.W.nsIn K mainGlobals "list" = some none)
  (z8 : PySem.W.nsIn K mainGlobals "max" = some none)
  (z9 : PySem.W.nsIn K mainGlobals "min" = some none)
  (z10 : PySem.W.nsIn K mainGlobals "range" = some none)
  (z11 : PySem.W.nsIn K mainGlobals "repr" = some none)
  (z12 : PySem.W.nsIn K mainGlobals "set" = some none)
  (z13 : PySem.W.nsIn K mainGlobals "sorted" = some none)
  (z14 : PySem.W.nsIn K mainGlobals "str" = some none)
  (z15 : PySem.W.nsIn K mainGlobals "tuple" = some none)
  (z16 : PySem.W.nsIn K mainGlobals "zip" = some none)
  (u0 : PySem.W.nsIn K mainGlobals "MOST" = some (some (.int 999999999999 tk0)))
  (u1 : PySem.W.nsIn K mainGlobals "MOST_BOXES" = some (some (.int 6 tk1)))
  (u2 : PySem.W.nsIn K mainGlobals "MOST_LETTERS" = some (some (.int 8 tk2)))
  (u3 : PySem.W.nsIn K mainGlobals "LAST_TIME" = some (some (.int 1000000000000 tk3))) :
  ∃ fd : FuncData, (∀ (s : Shared) (v : Value), BindsTo s fd ⟨[v], []⟩ [("_law_script", v)]) /\ ∀ base : Heap, K.In base -> base.Ns mainGlobals mg -> ZD l.prog w K mg base CX0 10 fa fd ["_law_script"] (lift K Mb) := by
 have e := hfa.symm.trans (PySem.W.mg_of X G a42);cases e;have F0 := Zz (st := Jt) l0 c0 k0;have b0 := F0.binds (ps := ["thing"]) fun _ _ _ _ _ _ us hl => by obtain ⟨_, rfl⟩ := JZ hl; rfl
 have F1 := Zz (st := Ju) l1 c1 k1;have b1 := F1.binds (ps := ["thing"]) fun _ _ _ _ _ _ us hl => by obtain ⟨_, rfl⟩ := JZ hl; rfl
 have F2 := Zz (st := Qj) l2 c2 k2;have b2 := F2.binds (ps := ["thing"]) fun _ _ _ _ _ _ us hl => by obtain ⟨_, rfl⟩ := JZ hl; rfl
 have F3 := Zz (st := JX) l3 c3 k3;have b3 := F3.binds (ps := ["thing"]) fun _ _ _ _ _ _ us hl => by obtain ⟨_, rfl⟩ := JZ hl; rfl
 have F4 := Zz (st := VZ) l4 c4 k4;have b4 := F4.binds (ps := ["thing"]) fun _ _ _ _ _ _ us hl => by obtain ⟨_, rfl⟩ := JZ hl; rfl
 have F5 := Zz (st := QX) l5 c5 k5;have b5 := F5.binds (ps := ["box"]) fun _ _ _ _ _ _ us hl => by obtain ⟨_, rfl⟩ := JZ hl; rfl
 have F6 := Zz (st := Z6) l6 c6 k6;have b6 := F6.binds (ps := ["one", "other"]) fun _ _ _ _ _ _ us hl => by obtain ⟨_, _, rfl⟩ := V8 hl; rfl
 have F7 := Zz (st := Eu) l7 c7 k7;have b7 := F7.binds (ps := ["one", "other", "way"]) fun _ _ _ _ _ _ us hl => by obtain ⟨_, _, _, rfl⟩ := Be hl; rfl
 have F8 := Zz (st := QV) l8 c8 k8;have b8 := F8.binds (ps := ["thing"]) fun _ _ _ _ _ _ us hl => by obtain ⟨_, rfl⟩ := JZ hl; rfl
 have F9 := Zz (st := QY) l9 c9 k9;have b9 := F9.binds (ps := ["boxes"]) fun _ _ _ _ _ _ us hl => by obtain ⟨_, rfl⟩ := JZ hl; rfl
 have F10 := Zz (st := JD) l10 c10 k10;have b10 := F10.binds (ps := ["thing"]) fun _ _ _ _ _ _ us hl => by obtain ⟨_, rfl⟩ := JZ hl; rfl
 have F11 := Zz (st := J3) l11 c11 k11;have b11 := F11.binds (ps := ["thing"]) fun _ _ _ _ _ _ us hl => by obtain ⟨_, rfl⟩ := JZ hl; rfl
 have F12 := Zz (st := QA) l12 c12 k12;have b12 := F12.binds (ps := ["thing"]) fun _ _ _ _ _ _ us hl => by obtain ⟨_, rfl⟩ := JZ hl; rfl
 have F13 := Zz (st := ZP) l13 c13 k13;have b13 := F13.binds (ps := ["thing"]) fun _ _ _ _ _ _ us hl => by obtain ⟨_, rfl⟩ := JZ hl; rfl
 have F14 := Zz (st := QT) l14 c14 k14;have b14 := F14.binds (ps := ["thing"]) fun _ _ _ _ _ _ us hl => by obtain ⟨_, rfl⟩ := JZ hl; rfl
 have F15 := Zz (st := JK) l15 c15 k15;have b15 := F15.binds (ps := ["tellings", "by"]) fun _ _ _ _ _ _ us hl => by obtain ⟨_, _, rfl⟩ := V8 hl; rfl
 have F16 := Zz (st := Vc) l16 c16 k16;have b16 := F16.binds (ps := ["tellings", "things", "lands"]) fun _ _ _ _ _ _ us hl => by obtain ⟨_, _, _, rfl⟩ := Be hl; rfl
 have F17 := Zz (st := JG) l17 c17 k17;have b17 := F17.binds (ps := ["tellings"]) fun _ _ _ _ _ _ us hl => by obtain ⟨_, rfl⟩ := JZ hl; rfl
 have F18 := Zz (st := Qx) l18 c18 k18;have b18 := F18.binds (ps := ["names"]) fun _ _ _ _ _ _ us hl => by obtain ⟨_, rfl⟩ := JZ hl; rfl
 have F19 := Zz (st := Jy) l19 c19 k19;have b19 := F19.binds (ps := ["names", "others"]) fun _ _ _ _ _ _ us hl => by obtain ⟨_, _, rfl⟩ := V8 hl; rfl
 have F20 := Zz (st := ZL) l20 c20 k20;have b20 := F20.binds (ps := ["tellings"]) fun _ _ _ _ _ _ us hl => by obtain ⟨_, rfl⟩ := JZ hl; rfl
 have F21 := Zz (st := ZF) l21 c21 k21;have b21 := F21.binds (ps := ["tellings"]) fun _ _ _ _ _ _ us hl => by obtain ⟨_, rfl⟩ := JZ hl; rfl
 have F22 := Zz (st := ZQ) l22 c22 k22;have b22 := F22.binds (ps := ["telling", "things", "lands"]) fun _ _ _ _ _ _ us hl => by obtain ⟨_, _, _, rfl⟩ := Be hl; rfl
 have F23 := Zz (st := Wv) l23 c23 k23;have b23 := F23.binds (ps := ["_law_pen", "_law_many"]) fun _ _ _ _ _ _ us hl => by obtain ⟨_, _, rfl⟩ := V8 hl; rfl
 have F24 := Zz (st := Ww) l24 c24 k24;have b24 := F24.binds (ps := ["_law_pen", "_law_many"]) fun _ _ _ _ _ _ us hl => by obtain ⟨_, _, rfl⟩ := V8 hl; rfl
 have F25 := Zz (st := s_same) l25 c25 k25;have b25 := F25.binds (ps := ["_law_found", "_law_due"]) fun _ _ _ _ _ _ us hl => by obtain ⟨_, _, rfl⟩ := V8 hl; rfl
 have F26 := Zz (st := Yr) l26 c26 k26;have b26 := F26.binds (ps := ["_law_pen", "_law_most"]) fun _ _ _ _ _ _ us hl => by obtain ⟨_, _, rfl⟩ := V8 hl; rfl
 have F27 := Zz (st := Q0) l27 c27 k27;have b27 := F27.binds (ps := ["_law_boxes_here", "_law_by", "_law_off"]) fun _ _ _ _ _ _ us hl => by obtain ⟨_, _, _, rfl⟩ := Be hl; rfl
 have F28 := Zz (st := J6) l28 c28 k28;have b28 := F28.binds (ps := ["_law_pen"]) fun _ _ _ _ _ _ us hl => by obtain ⟨_, rfl⟩ := JZ hl; rfl
 have F29 := Zz (st := JH) l29 c29 k29;have b29 := F29.binds (ps := ["_law_pen", "_law_many"]) fun _ _ _ _ _ _ us hl => by obtain ⟨_, _, rfl⟩ := V8 hl; rfl
 have F30 := Zz (st := Xs) l30 c30 k30;have b30 := F30.binds (ps := ["_law_pen"]) fun _ _ _ _ _ _ us hl => by obtain ⟨_, rfl⟩ := JZ hl; rfl
 have F31 := Zz (st := Kg) l31 c31 k31;have b31 := F31.binds (ps := ["_law_pen", "_law_world_here"]) fun _ _ _ _ _ _ us hl => by obtain ⟨_, _, rfl⟩ := V8 hl; rfl
 have F32 := Zz (st := Wc) l32 c32 k32;have b32 := F32.binds (ps := ["_law_pen", "_law_world_here", "_law_time"]) fun _ _ _ _ _ _ us hl => by obtain ⟨_, _, _, rfl⟩ := Be hl; rfl
 have F33 := Zz (st := J2) l33 c33 k33;have b33 := F33.binds (ps := ["_law_pen", "_law_world_here"]) fun _ _ _ _ _ _ us hl => by obtain ⟨_, _, rfl⟩ := V8 hl; rfl
 have F34 := Zz (st := X9) l34 c34 k34;have b34 := F34.binds (ps := ["_law_pen", "_law_world_here", "_law_most"]) fun _ _ _ _ _ _ us hl => by obtain ⟨_, _, _, rfl⟩ := Be hl; rfl
 have F35 := Zz (st := Jx) l35 c35 k35;have b35 := F35.binds (ps := ["_law_tellings", "_law_kinds"]) fun _ _ _ _ _ _ us hl => by obtain ⟨_, _, rfl⟩ := V8 hl; rfl
 have F36 := Zz (st := Vn) l36 c36 k36;have b36 := F36.binds (ps := ["_law_pen", "_law_some_here"]) fun _ _ _ _ _ _ us hl => by obtain ⟨_, _, rfl⟩ := V8 hl; rfl
 have F37 := Zz (st := Wf) l37 c37 k37;have b37 := F37.binds (ps := ["_law_pen", "_law_some_here"]) fun _ _ _ _ _ _ us hl => by obtain ⟨_, _, rfl⟩ := V8 hl; rfl
 have F38 := Zz (st := Jw) l38 c38 k38;have b38 := F38.binds (ps := ["_law_tellings", "_law_things", "_law_lands"]) fun _ _ _ _ _ _ us hl => by obtain ⟨_, _, _, rfl⟩ := Be hl; rfl
 have F39 := Zz (st := X4) l39 c39 k39;have b39 := F39.binds (ps := ["_law_some_here", "_law_names_here"]) fun _ _ _ _ _ _ us hl => by obtain ⟨_, _, rfl⟩ := V8 hl; rfl
 have F40 := Zz (st := ZT) l40 c40 k40;have b40 := F40.binds (ps := ["_law_pen", "_law_tellings"]) fun _ _ _ _ _ _ us hl => by obtain ⟨_, _, rfl⟩ := V8 hl; rfl
 have F41 := Zz (st := Q5) l41 c41 k41;have b41 := F41.binds (ps := ["_law_tellings", "_law_by"]) fun _ _ _ _ _ _ us hl => by obtain ⟨_, _, rfl⟩ := V8 hl; rfl
 have F42 := Zz (st := Bq) l42 c42 k42;have b42 := F42.binds (ps := ["_law_script"]) fun _ _ _ _ _ _ us hl => by obtain ⟨_, rfl⟩ := JZ hl; rfl
 let T : Tx K mg := ⟨_, _, ⟨F0, PySem.W.mg_of X G a0, b0⟩, _, _, ⟨F1, PySem.W.mg_of X G a1, b1⟩, _, _, ⟨F2, PySem.W.mg_of X G a2, b2⟩, _, _, ⟨F3, PySem.W.mg_of X G a3, b3⟩, _, _, ⟨F4, PySem.W.mg_of X G a4, b4⟩, _, _, ⟨F5, PySem.W.mg_of X G a5, b5⟩, _, _, ⟨F6, PySem.W.mg_of X G a6, b6⟩, _, _, ⟨F7, PySem.W.mg_of X G a7, b7⟩, _, _, ⟨F8, PySem.W.mg_of X G a8, b8⟩, _, _, ⟨F9, PySem.W.mg_of X G a9, b9⟩, _, _, ⟨F10, PySem.W.mg_of X G a10, b10⟩, _, _, ⟨F11, PySem.W.mg_of X G a11, b11⟩, _, _, ⟨F12, PySem.W.mg_of X G a12, b12⟩, _, _, ⟨F13, PySem.W.mg_of X G a13, b13⟩, _, _, ⟨F14, PySem.W.mg_of X G a14, b14⟩, _, _, ⟨F15, PySem.W.mg_of X G a15, b15⟩, _, _, ⟨F16, PySem.W.mg_of X G a16, b16⟩, _, _, ⟨F17, PySem.W.mg_of X G a17, b17⟩, _, _, ⟨F18, PySem.W.mg_of X G a18, b18⟩, _, _, ⟨F19, PySem.W.mg_of X G a19, b19⟩, _, _, ⟨F20, PySem.W.mg_of X G a20, b20⟩, _, _, ⟨F21, PySem.W.mg_of X G a21, b21⟩, _, _, ⟨F22, PySem.W.mg_of X G a22, b22⟩, _, _, ⟨F23, PySem.W.mg_of X G a23, b23⟩, _, _, ⟨F24, PySem.W.mg_of X G a24, b24⟩, _, _, ⟨F25, PySem.W.mg_of X G a25, b25⟩, _, _, ⟨F26, PySem.W.mg_of X G a26, b26⟩, _, _, ⟨F27, PySem.W.mg_of X G a27, b27⟩, _, _, ⟨F28, PySem.W.mg_of X G a28, b28⟩, _, _, ⟨F29, PySem.W.mg_of X G a29, b29⟩, _, _, ⟨F30, PySem.W.mg_of X G a30, b30⟩, _, _, ⟨F31, PySem.W.mg_of X G a31, b31⟩, _, _, ⟨F32, PySem.W.mg_of X G a32, b32⟩, _, _, ⟨F33, PySem.W.mg_of X G a33, b33⟩, _, _, ⟨F34, PySem.W.mg_of X G a34, b34⟩, _, _, ⟨F35, PySem.W.mg_of X G a35, b35⟩, _, _, ⟨F36, PySem.W.mg_of X G a36, b36⟩, _, _, ⟨F37, PySem.W.mg_of X G a37, b37⟩, _, _, ⟨F38, PySem.W.mg_of X G a38, b38⟩, _, _, ⟨F39, PySem.W.mg_of X G a39, b39⟩, _, _, ⟨F40, PySem.W.mg_of X G a40, b40⟩, _, _, ⟨F41, PySem.W.mg_of X G a41, b41⟩, _, _, ⟨F42, PySem.W.mg_of X G a42, b42⟩, PySem.W.mg_none_of X G z0, PySem.W.mg_none_of X G z1, PySem.W.mg_none_of X G z2, PySem.W.mg_none_of X G z3, PySem.W.mg_none_of X G z4, PySem.W.mg_none_of X G z5, PySem.W.mg_none_of X G z6, PySem.W.mg_none_of X G z7, PySem.W.mg_none_of X G z8, PySem.W.mg_none_of X G z9, PySem.W.mg_none_of X G z10, PySem.W.mg_none_of X G z11, PySem.W.mg_none_of X G z12, PySem.W.mg_none_of X G z13, PySem.W.mg_none_of X G z14, PySem.W.mg_none_of X G z15, PySem.W.mg_none_of X G z16, _, PySem.W.mg_of X G u0, _, PySem.W.mg_of X G u1, _, PySem.W.mg_of X G u2, _, PySem.W.mg_of X G u3⟩
 exact ⟨_, fun s v => .of_eq rfl, fun base _ _ => Zb8 T⟩
theorem walk {l : PySem.W.OpenLaw} {q : Program} {loose : List Str} {XP : (Str -> Option Value) -> Heap -> Prop} {YP : World -> Heap -> Prop} {d : DefRec} {K : Params -> Fk} (hn : l.most = some 63) (hdf : d.params.defaults = [])
  (hY : ∀ (w : World) (h : Heap), YP w h -> (K w.params).In h)
  (F : ∀ (w : World) (mg : Str -> Option Value) (fa : Addr) (h : Heap), (K w.params).In h -> h.Ns mainGlobals mg -> mg d.name = some (.ref fa) ->
   ∃ fd : FuncData, (∀ (s : Shared) (u : Value), BindsTo s fd ⟨[u], []⟩ [("_law_script", u)]) /\ ∀ base : Heap, (K w.params).In base -> base.Ns mainGlobals mg -> ZD l.prog w (K w.params) mg base CX0 10 fa fd ["_law_script"] (lift (K w.params) Mb)) :
  PySem.W.WalkO q loose XP YP l.row.toRowW d [] (fun f vs => PySem.call f vs) :=
 L2.T1 (n := 63) (k := 10) (x := "_law_script") (CX := fun _ => CX0) (sp := fun w => lift (K w.params) Mb) hn (by decide) hdf ⟨rfl, by decide, by decide, rfl⟩ hY F
  (fun w H a ns hl hO hS => EW hl hO hS) fun _ _ _ _ _ z => z
end My
set_option genInjectivity false in
structure PySem.W.Fast : Prop where
 (tw1492984559109768375 tw6933076934982199984 tw8183075973599443342 tw5847973421136966907 tw16134186698327368362 tw9911368417057185189 tw4245193369003711686 tw12261980423309739536 tw11455856532885590363 tw17837629523343270762 tw9601587046221330882 tw16719426764984082666 tw14100618866888891496 tw11679130824246639048 tw1495018488683222364 tw2816072105829873861 tw253194248192080660 tw12990045544189790255 tw1563817541954248807 tw3739119598103786161 tw14612055886665321651 tw18345710217087674312 tw10587139357339078404 tw11975101656874781536 tw4151515149469045400 tw8265313166374984985 tw3219320211720692366 tw10514869022842731221 tw3483752954745844566 tw1084455426594802877 tw5661903545434852908 tw17606256242523542374 tw7073929403923099642 tw3965969213436353096 tw13511190641979771365 tw15795891387208028604 tw428356346787400552 tw10521882966825345078 tw12296647141232353773 tw3726516598352177652 tw17787253753575445190 tw4760181780399624165 tw6294315391352468800 tw17238676989108522477 tw60878899714037215 tw9981206238719053013 tw14784474722225390284 tw13073960513547863269 tw9581192976399657281 tw12559737427478081543 tw3051174513744322492 tw15835916567758832755 tw7738306095027827454 tw16688420309340056665 tw1113931225299900541 tw5285249957899718105 tw15474212945262454245 tw8765414965743253088 tw16186020643659351621 tw86286144788851236 tw14248642939892623260 tw10219786573673567369 tw7033344996312818117 tw489145066001200178 tw10320166103061907603 tw17481422072583174299 tw13946362225553995419 tw12965920035444737810 tw9388025172759634165 tw466403209650814622 tw122617166435075877 tw1552055503586594828 tw10455005280873388476 tw9292355058996363791 tw14619052151879602029 tw3036721887009296043 tw12351609061656219756 tw14636120312719231452 tw4445412750210831298 tw2410313028809960409 tw11086345980369170637 tw2004359562578092324 tw10616970532141750315 tw6287972713603250926 tw3437417402308565176 tw7486135291525165875 tw9986207865720554556 tw6596879704820460473 tw8818612266960625213 tw11290767119232709293 tw14116826636940372160 tw2004434152085901340 tw13832434283637816558 tw16366395854044683302 tw12504888309710719189 tw2201635884188614128 tw17555266188966539666 tw11906515500062424256 tw7161586813843796470 tw10164675056570354868 tw15290696349262612440 tw10857328829545294988 tw4478638787587761706 tw3434356747348782500 tw17397555730580411502 tw4392849138612867206 tw9027709101521160905 tw12005528361002813561 tw336051114139146442 tw2754737443991066816 tw10761405912027848973 tw1886962925445793444 tw9080306644003407767 tw8763825989733653172 tw13754753492088295685 tw8426279322429367058 tw10964170205242048051 tw5721686018494345433 tw7145342051405277594 tw773306527018405765 tw16430038190769875482 tw1670181301986635887 tw2077527107411696240 tw4350695220088438802 tw9346685416825991153 tw15650209172686282365 tw790288195700667849 tw14434347618416408212 tw5175066589674582636 tw14622757968791003577 tw2597229828411507401 tw10298798129167893680 tw7670577622225135214 tw7639010419298080082 tw18054622879422429181 tw3245060451057211063 tw15129092743112134272 tw9916880626126718592 tw16569690971925061420 tw18090832891490339696 tw8026874809597785331 tw15105909828117330040 tw95092725349869604 tw7984300872824238275 tw7381028388501823355 tw13625076293116839339 tw6855548923236244004 tw3738043982751538791 tw13395467208205206591 tw8062720143454843012 tw9832784704302444214 tw11309849400205607575 tw7867945089310029504 tw12290659277455376227 tw8943686005626722074 tw3751032694154721245 tw777363803008798775 tw7672793005964601727 tw5858636868177276031 tw14421648275454891705 tw1247349102365556540 tw2102489091931625777 tw14744760026081312520 tw16166137395293156350 tw7460681922618624811 tw1472151442299062094 tw2182817064523522189 tw7610077205091992820 tw18186476055269642606 tw6236510618713307887 tw13210063164518961091 tw11661915596606907450 tw12005560592727562873 tw12258816740412230648 tw15587991761330110741 tw13269670840151847102 tw6249154143771722659 tw3710989654824579653 tw18263965201933969408 tw14601678717216222759 tw6187703999541879559 tw4851770098837674975 tw4390923533088450466 tw16993778094863475644 tw8813582206379881198 tw9816864984691371521 tw10470956800945498017 tw12666611730621670960 tw12640459121922491546 tw3080054989730444188 tw13088329024740148221 tw11178776119395048958 tw1604710320294690503 tw714792719715962198 tw15530854462207728051 tw2910855229389206148 tw13680686014570676895 tw8290396951485074879 tw5252234073696192151 tw12629642701317246509 tw1772764130619006131 tw8786315078700248420 tw13008639348073208443 tw3768290785886583892 tw11570526012539740249 tw18165966051083801294 tw13547610208787957003 tw8433769117416777883 tw7234487298971404761 tw4193392304463631498 tw15817508461590732403 tw9579219076340412837 tw11660102050991737624 tw11362399127434865061 tw14451820747635100962 tw2890121484415675440 tw12425538449610912063 tw1398356027078287566 tw5341975730017572452 tw3130911265106695695 tw6801097435458217005 tw15921824332527126133 tw14019003605031165872 tw9373782443358405983 tw7553194762176406541 tw10027241718257935001 tw17037561536750801234 tw15998031854051122035 tw5280250651285427653 tw16636122268836409488 tw14162097055602513924 tw5275517185372788403 tw12395553751690406439 tw7631383574043684725 tw12420362327943592504 tw13004478680248059244 tw11864239190124955353 tw17069808122094022048 tw7991344347047041573 tw15993742360882704219 tw9636766400856940637 tw11550534577666512875 tw2222398599382191934 tw13234850404752937802 tw9587421542964426803 tw13751706303204488764 tw8222294104792378118 tw16930706049695334828 tw7612247936092808400 tw2252001264550300861 tw12226313103748886050 tw10044560580296829203 tw8679741669061595514 tw2062612602005120805 tw2382401453670298391 tw2525088986424814516 tw9937208118626091734 tw5460528418758382646 tw9259259291914536305 tw3463545124487975338 tw10501888564256308359 tw9032827613819811611 tw3233328606111023382 tw14419387462344927139 tw3416352491279297838 tw2555354434871848036 tw367502179685968948 tw5540635406492897710 tw12011273330379211225 tw202750444882912311 tw14019104537959095838 tw4306771880422430608 tw10187460643897618473 tw14492972493805888541 tw16890043704278763495 tw10113748326117055862 tw11881147762065057217 tw13410825713329474819 tw2265720826977667820 tw5611412177829325334 tw12269874926424339374 tw16614963009532759354 tw18195984392805644212 tw11937563394885691077 tw4730760839649501063 tw12585224494526416151 tw3723503705265640938 : True)
open PySem.W
set_option maxRecDepth 100000 in
set_option maxHeartbeats 0 in
theorem PySem.Challenge.cw_landsentered_k42_put_off_and_called_holds : PySem.Challenge.rw_landsentered_k42_put_off_and_called.Holds := by
 w_on; o_law; k_head; (case hw => w_witness2)
 k_fill
 refine My.walk (l := PySem.Challenge.rw_landsentered_k42_put_off_and_called) rfl rfl (fun w h Y => PySem.W.kIn_of Y) ?F
 case F =>
  intro w mg fa h KX G hmg
  refine' My.all_mk KX G hmg ?a0 ?l0 ?c0 ?k0 ?a1 ?l1 ?c1 ?k1 ?a2 ?l2 ?c2 ?k2 ?a3 ?l3 ?c3 ?k3 ?a4 ?l4 ?c4 ?k4 ?a5 ?l5 ?c5 ?k5 ?a6 ?l6 ?c6 ?k6 ?a7 ?l7 ?c7 ?k7 ?a8 ?l8 ?c8 ?k8 ?a9 ?l9 ?c9 ?k9 ?a10 ?l10 ?c10 ?k10 ?a11 ?l11 ?c11 ?k11 ?a12 ?l12 ?c12 ?k12 ?a13 ?l13 ?c13 ?k13 ?a14 ?l14 ?c14 ?k14 ?a15 ?l15 ?c15 ?k15 ?a16 ?l16 ?c16 ?k16 ?a17 ?l17 ?c17 ?k17 ?a18 ?l18 ?c18 ?k18 ?a19 ?l19 ?c19 ?k19 ?a20 ?l20 ?c20 ?k20 ?a21 ?l21 ?c21 ?k21 ?a22 ?l22 ?c22 ?k22 ?a23 ?l23 ?c23 ?k23 ?a24 ?l24 ?c24 ?k24 ?a25 ?l25 ?c25 ?k25 ?a26 ?l26 ?c26 ?k26 ?a27 ?l27 ?c27 ?k27 ?a28 ?l28 ?c28 ?k28 ?a29 ?l29 ?c29 ?k29 ?a30 ?l30 ?c30 ?k30 ?a31 ?l31 ?c31 ?k31 ?a32 ?l32 ?c32 ?k32 ?a33 ?l33 ?c33 ?k33 ?a34 ?l34 ?c34 ?k34 ?a35 ?l35 ?c35 ?k35 ?a36 ?l36 ?c36 ?k36 ?a37 ?l37 ?c37 ?k37 ?a38 ?l38 ?c38 ?k38 ?a39 ?l39 ?c39 ?k39 ?a40 ?l40 ?c40 ?k40 ?a41 ?l41 ?c41 ?k41 ?a42 ?l42 ?c42 ?k42 ?z0 ?z1 ?z2 ?z3 ?z4 ?z5 ?z6 ?z7 ?z8 ?z9 ?z10 ?z11 ?z12 ?z13 ?z14 ?z15 ?z16 ?u0 ?u1 ?u2 ?u3
  (case a0 => k_is)
  (case l0 => k_is)
  (case c0 => k_is)
  (case k0 => k_is)
  (case a1 => k_is)
  (case l1 => k_is)
  (case c1 => k_is)
  (case k1 => k_is)
  (case a2 => k_is)
  (case l2 => k_is)
  (case c2 => k_is)
  (case k2 => k_is)
  (case a3 => k_is)
  (case l3 => k_is)
  (case c3 => k_is)
  (case k3 => k_is)
  (case a4 => k_is)
  (case l4 => k_is)
  (case c4 => k_is)
  (case k4 => k_is)
  (case a5 => k_is)
  (case l5 => k_is)
  (case c5 => k_is)
  (case k5 => k_is)
  (case a6 => k_is)
  (case l6 => k_is)
  (case c6 => k_is)
  (case k6 => k_is)
  (case a7 => k_is)
  (case l7 => k_is)
  (case c7 => k_is)
  (case k7 => k_is)
  (case a8 => k_is)
  (case l8 => k_is)
  (case c8 => k_is)
  (case k8 => k_is)
  (case a9 => k_is)
  (case l9 => k_is)
  (case c9 => k_is)
  (case k9 => k_is)
  (case a10 => k_is)
  (case l10 => k_is)
  (case c10 => k_is)
  (case k10 => k_is)
  (case a11 => k_is)
  (case l11 => k_is)
  (case c11 => k_is)
  (case k11 => k_is)
  (case a12 => k_is)
  (case l12 => k_is)
  (case c12 => k_is)
  (case k12 => k_is)
  (case a13 => k_is)
  (case l13 => k_is)
  (case c13 => k_is)
  (case k13 => k_is)
  (case a14 => k_is)
  (case l14 => k_is)
  (case c14 => k_is)
  (case k14 => k_is)
  (case a15 => k_is)
  (case l15 => k_is)
  (case c15 => k_is)
  (case k15 => k_is)
  (case a16 => k_is)
  (case l16 => k_is)
  (case c16 => k_is)
  (case k16 => k_is)
  (case a17 => k_is)
  (case l17 => k_is)
  (case c17 => k_is)
  (case k17 => k_is)
  (case a18 => k_is)
  (case l18 => k_is)
  (case c18 => k_is)
  (case k18 => k_is)
  (case a19 => k_is)
  (case l19 => k_is)
  (case c19 => k_is)
  (case k19 => k_is)
  (case a20 => k_is)
  (case l20 => k_is)
  (case c20 => k_is)
  (case k20 => k_is)
  (case a21 => k_is)
  (case l21 => k_is)
  (case c21 => k_is)
  (case k21 => k_is)
  (case a22 => k_is)
  (case l22 => k_is)
  (case c22 => k_is)
  (case k22 => k_is)
  (case a23 => k_is)
  (case l23 => k_is)
  (case c23 => k_is)
  (case k23 => k_is)
  (case a24 => k_is)
  (case l24 => k_is)
  (case c24 => k_is)
  (case k24 => k_is)
  (case a25 => k_is)
  (case l25 => k_is)
  (case c25 => k_is)
  (case k25 => k_is)
  (case a26 => k_is)
  (case l26 => k_is)
  (case c26 => k_is)
  (case k26 => k_is)
  (case a27 => k_is)
  (case l27 => k_is)
  (case c27 => k_is)
  (case k27 => k_is)
  (case a28 => k_is)
  (case l28 => k_is)
  (case c28 => k_is)
  (case k28 => k_is)
  (case a29 => k_is)
  (case l29 => k_is)
  (case c29 => k_is)
  (case k29 => k_is)
  (case a30 => k_is)
  (case l30 => k_is)
  (case c30 => k_is)
  (case k30 => k_is)
  (case a31 => k_is)
  (case l31 => k_is)
  (case c31 => k_is)
  (case k31 => k_is)
  (case a32 => k_is)
  (case l32 => k_is)
  (case c32 => k_is)
  (case k32 => k_is)
  (case a33 => k_is)
  (case l33 => k_is)
  (case c33 => k_is)
  (case k33 => k_is)
  (case a34 => k_is)
  (case l34 => k_is)
  (case c34 => k_is)
  (case k34 => k_is)
  (case a35 => k_is)
  (case l35 => k_is)
  (case c35 => k_is)
  (case k35 => k_is)
  (case a36 => k_is)
  (case l36 => k_is)
  (case c36 => k_is)
  (case k36 => k_is)
  (case a37 => k_is)
  (case l37 => k_is)
  (case c37 => k_is)
  (case k37 => k_is)
  (case a38 => k_is)
  (case l38 => k_is)
  (case c38 => k_is)
  (case k38 => k_is)
  (case a39 => k_is)
  (case l39 => k_is)
  (case c39 => k_is)
  (case k39 => k_is)
  (case a40 => k_is)
  (case l40 => k_is)
  (case c40 => k_is)
  (case k40 => k_is)
  (case a41 => k_is)
  (case l41 => k_is)
  (case c41 => k_is)
  (case k41 => k_is)
  (case a42 => k_is)
  (case l42 => k_is)
  (case c42 => k_is)
  (case k42 => k_is)
  (case z0 => k_is)
  (case z1 => k_is)
  (case z2 => k_is)
  (case z3 => k_is)
  (case z4 => k_is)
  (case z5 => k_is)
  (case z6 => k_is)
  (case z7 => k_is)
  (case z8 => k_is)
  (case z9 => k_is)
  (case z10 => k_is)
  (case z11 => k_is)
  (case z12 => k_is)
  (case z13 => k_is)
  (case z14 => k_is)
  (case z15 => k_is)
  (case z16 => k_is)
  (case u0 => k_is)
  (case u1 => k_is)
  (case u2 => k_is)
  (case u3 => k_is)
