import PyProof.Rows.All
import Wide.All
import OpenK.AllK
import Wide.FinOn
import Lean
import PyProof.EqAt
import PyProof.EqKinds
import PyProof.TupleCall
import PyProof.ReprRoads
import PyProof.EqLayable
import PyProof.NeData
import PyProof.Rows.TupDisplay
import PySem.Challenge.RW_landsentered_k19_which_count_in_order
set_option Elab.async false
set_option linter.all false
set_option maxRecDepth 100000
set_option compiler.extract_closed false
set_option bootstrap.genMatcherCode false
theorem qI {p:Prop}:p=p:=propext Iff.rfl
theorem zz0 (h:True:=by first | exact .inl rfl | exact .inr rfl | assumption):True:=h
theorem zz1 (h:True:=by decide):True:=h
theorem zz2 (h:True:=by intro _; rfl):True:=h
theorem zz3 (h:True:=by rfl):True:=h
theorem zz4 (h:True:=by first | exact Or.inl rfl | exact Or.inr (Or.inl rfl) | exact Or.inr (Or.inr rfl)):True:=h
theorem zz5 (h:True:=by first | exact LU _ | rfl):True:=h
theorem zz6 (h:True:=by intro _ _; rfl):True:=h
theorem zz7 (h:True:=by first | exact Or.inl rfl | exact Or.inr rfl):True:=h
theorem zz8 (h:True:=by intro _ _; with_unfolding_all rfl):True:=h
theorem zz9 (h:True:=by exact List.cons_ne_nil _ _):True:=h
theorem zz10 (h:True:=by first | decide | lia):True:=h
theorem zz11 (h:True:=by exact rfl):True:=h
theorem zz12 (h:True:=by exact ⟨rfl,rfl,rfl,rfl⟩):True:=h
local macro_rules | `(tactic| walk_at "k")=>`(tactic| decide +kernel)
local macro_rules | `(tactic| walk_at "s")=>`(tactic| exact ⟨rfl,rfl,rfl,by walk_at "k",rfl,by walk_at "k",by walk_at "k"⟩)
local macro_rules | `(tactic| walk_at "w")=>`(tactic| (first | decide | lia))
abbrev Fj:=PySem.W.Frag
namespace L2
open PySem PySem.Spec PyProof.Rows
abbrev Key:=Sum Int Str
noncomputable def Gg:Key->Value->Bool
 | .inl k,v=>Value.isInt k v
 | .inr x,v=>Value.isStrOf x v
noncomputable def Zdu (w:World):Key->Int
 | .inl k=>hashInt k
 | .inr x=>hashStr w x
theorem ZK:∀ {k:Key} {v:Value},Gg k v = true->(∃ i t,k = Sum.inl i /\ v = Value.int i t) \/ (∃ x t,k = Sum.inr x /\ v = Value.str x t)
 | .inl i,v,h=>by
  obtain ⟨t,e⟩:=Value.isInt_shape (k:=i) (v:=v) h;exact .inl ⟨i,t,rfl,e⟩
 | .inr x,v,h=>by
  obtain ⟨t,e⟩:=Value.isStrOf_shape (x:=x) (v:=v) h;exact .inr ⟨x,t,rfl,e⟩
theorem BH (i:Int) (t:Tok):Gg (.inl i) (.int i t) = true:=by simp [Gg,Value.isInt]
theorem Di (x:Str) (t:Tok):Gg (.inr x) (.str x t) = true:=by simp [Gg,Value.isStrOf]
theorem PV (a b:Int):decide ((Sum.inl a:Key) = Sum.inl b) = (a == b):=by
 by_cases e:a = b
 ·subst e; simp
 ·have h:¬ (Sum.inl a:Key) = Sum.inl b:=λ q=>e (Sum.inl.inj q);rw [decide_eq_false h];exact (beq_eq_false_iff_ne.mpr e).symm
theorem TB (a b:Str):decide ((Sum.inr a:Key) = Sum.inr b) = decide (a = b):=by
 by_cases e:a = b
 ·subst e; simp
 ·have h:¬ (Sum.inr a:Key) = Sum.inr b:=λ q=>e (Sum.inr.inj q);rw [decide_eq_false h,decide_eq_false e]
theorem S0 (a:Int) (b:Str):decide ((Sum.inl a:Key) = Sum.inr b) = false:=decide_eq_false (λ q=>nomatch q)
theorem Zal (a:Str) (b:Int):decide ((Sum.inr a:Key) = Sum.inl b) = false:=decide_eq_false (λ q=>nomatch q)
noncomputable def Zy (prog:Program) (w:World):PySem.KeyKind prog w Key where
 is:=Gg
 hash:=Zdu w
 inj:=λ v a b ha hb=>by
  rcases ZK ha with ⟨i,t,rfl,rfl⟩ | ⟨x,t,rfl,rfl⟩
  ·rcases ZK hb with ⟨j,u,rfl,e⟩ | ⟨y,u,rfl,e⟩
   ·injection e with e1 _; rw [e1]
   ·exact nomatch e
  ·rcases ZK hb with ⟨j,u,rfl,e⟩ | ⟨y,u,rfl,e⟩
   ·exact nomatch e
   ·injection e with e1 _; rw [e1]
 byValue:=λ k v h=>by
  rcases ZK h with ⟨i,t,rfl,rfl⟩ | ⟨x,t,rfl,rfl⟩ <;> rfl
 pyHash:=λ hv h=>by
  rcases ZK hv with ⟨i,t,rfl,rfl⟩ | ⟨x,t,rfl,rfl⟩
  ·exact wpAny_pyHash_int h
  ·exact wpAny_pyHash_str h
 eqBool:=λ hu hv h=>by
  rcases ZK hu with ⟨i,t,rfl,rfl⟩ | ⟨x,t,rfl,rfl⟩
  ·rcases ZK hv with ⟨j,u,rfl,rfl⟩ | ⟨y,u,rfl,rfl⟩
   ·rw [PV] at h; exact wpAny_eqBool_int h
   ·rw [S0] at h; exact SeqAt.EqAt.int_str i t y u _ _ _ _ h
  ·rcases ZK hv with ⟨j,u,rfl,rfl⟩ | ⟨y,u,rfl,rfl⟩
   ·rw [Zal] at h; exact SeqAt.EqAt.str_int x t j u _ _ _ _ h
   ·rw [TB] at h; exact wpAny_eqBool_str h
 «strs» := λ k x t v h=>by
  rcases ZK h with ⟨i,u,rfl,e⟩ | ⟨y,u,rfl,e⟩
  ·exact nomatch e
  ·injection e with e1 _
   subst e1;cases v <;> rfl
theorem KU (prog:Program) (w:World) (i:Int) (t:Tok):(Zy prog w).is (.inl i) (.int i t) = true:=BH i t
theorem QK (prog:Program) (w:World) (x:Str) (t:Tok):(Zy prog w).is (.inr x) (.str x t) = true:=Di x t
inductive V where
 | non | bl (b:Bool) | int (i:Int) | str (x:Str) | byt (b:Array UInt8) | flt (b:UInt64) | ref (a:Addr) | ty (n:String)
 deriving DecidableEq
def RelV:V->Value->Prop
 | .non,u=>u = Value.none
 | .bl b,u=>u = Value.bool b
 | .int i,u=>∃ t,u = Value.int i t
 | .str x,u=>∃ t,u = Value.str x t
 | .byt b,u=>∃ t,u = Value.bytes b t
 | .flt b,u=>∃ t,u = Value.float b t
 | .ref a,u=>u = Value.ref a
 | .ty n,u=>u = Value.type n
abbrev Vals:List V->List Value->Prop:=Paired RelV
theorem Vals.length {xs:List V} {us:List Value} (r:Vals xs us):xs.length = us.length:=Paired.length r
theorem Vals.get:∀ {xs:List V} {us:List Value} {i:Nat} {x:V},Vals xs us->xs[i]? = some x->∃ u,us[i]? = some u /\ RelV x u
 | _,_,_,_,.nil,e=>by simp at e
 | _,_,0,_,.cons r _,e=>by simp at e; subst e; exact ⟨_,rfl,r⟩
 | _,_,i + 1,x,.cons _ t,e=>by
  obtain ⟨u,h1,h2⟩:=Vals.get (i:=i) (x:=x) t (by simpa using e);exact ⟨u,by simpa using h1,h2⟩
theorem Vals.set {x:V} {u:Value} (r:RelV x u):∀ {xs:List V} {us:List Value} (i:Nat),Vals xs us->Vals (xs.set i x) (us.set i u)
 | _,_,_,.nil=>.nil
 | _,_,0,.cons _ t=>.cons r t
 | _,_,i + 1,.cons q t=>.cons q (Vals.set r i t)
theorem Vals.append:∀ {xs ys:List V} {us ws:List Value},Vals xs us->Vals ys ws->Vals (xs ++ ys) (us ++ ws)
 | _,_,_,_,.nil,s=>s
 | _,_,_,_,.cons r t,s=>.cons r (Vals.append t s)
theorem Vals.take:∀ {xs:List V} {us:List Value} (n:Nat),Vals xs us->Vals (xs.take n) (us.take n)
 | _,_,0,_=>.nil
 | _,_,_ + 1,.nil=>.nil
 | _,_,n + 1,.cons r t=>.cons r (Vals.take n t)
theorem Vals.drop:∀ {xs:List V} {us:List Value} (n:Nat),Vals xs us->Vals (xs.drop n) (us.drop n)
 | _,_,0,r=>r
 | _,_,_ + 1,.nil=>.nil
 | _,_,n + 1,.cons _ t=>Vals.drop n t
def BY:Option V->Option Value->Prop
 | some v,some u=>RelV v u
 | none,none=>True
 | _,_=>False
def KV {κ:Type}:List (κ × V)->List (κ × Value)->Prop:=Paired λ (p:κ × V) (q:κ × Value)=>p.1 = q.1 /\ RelV p.2 q.2
noncomputable def kV:Key->V
 | .inl i=>.int i
 | .inr x=>.str x
inductive HO where
  | lst (xs:List V)
  | tup (xs:List V)
  | dK (kvs:List (Key × V)) | dT (kvs:List (List Key × V))
  | set (S:Int->Bool) (n:Nat)
  | ins (C dx:Addr) (fs:List (Str × V))
  | own (x:Addr)
  | xd (fs:List (Str × V))
  | met (f x:Addr)
  | rng (lo hi:Int)
  | frz (o:Obj) (u:HO)
  | tbl (ps:Array Value)
  | ext (φ:Heap->Prop)
abbrev Hp:=Addr->Option HO
noncomputable def upd (H:Hp) (a:Addr) (o:HO):Hp:=λ b=>if b = a then some o else H b
theorem Z5 {H:Hp} {a:Addr} {o:HO}:upd H a o a = some o:=by unfold upd; rw [if_pos rfl]
theorem ZE {H:Hp} {a b:Addr} {o:HO} (h:b ≠ a):upd H a o b = H b:=by unfold upd; rw [if_neg h]
theorem MI {H:Hp} {a:Addr} {o u:HO}:upd (upd H a o) a u = upd H a u:=by
 funext b; unfold upd; split <;> rfl
theorem ZbA {H:Hp} {a b:Addr} {o u:HO} (h:H a = some o) (h':H b = some u) (d:o ≠ u):a ≠ b:=by
 intro e; subst e; rw [h] at h'; exact d (Option.some.inj h')
theorem Zp {H:Hp} {a b:Addr} {o:HO} (h:H a = some o) (h':H b = none):a ≠ b:=by
 intro e; subst e; rw [h] at h'; cases h'
section
variable (P:Program) (w:World)
def Qe (H:Hp) (h:Heap) (a:Addr):HO->Prop
 | .lst xs=>xs.length <= sizeLine /\ ∃ (its:List Value) (n:Nat),Vals xs its /\ h.get? a = some { cls:=.type "list",data:=.seq its.toArray n }
 | .tup xs=>xs.length <= sizeLine /\ ∃ its:List Value,Vals xs its /\ IsTup h a its.toArray
 | .dK kvs=>kvs.length <= sizeLine /\ (a == sysModules) = false /\ ∃ vs,KV kvs vs /\ h.DictOf (Zy P w) a vs
 | .dT kvs=>kvs.length <= sizeLine /\ (a == sysModules) = false /\ ∃ xs:List (List Key × Addr × Value),
   Paired (λ (p:List Key × V) (q:List Key × Addr × Value)=>p.1 = q.1 /\ H q.2.1 = some (.tup (p.1.map kV)) /\ RelV p.2 q.2.2) kvs xs /\
   ∃ o es ep,h.get? a = some o /\ o.ExactDict /\ o.data = .dict es ep /\ es.toList = xs.map (entryOfKey (tupleKind (Zy P w))) /\ (xs.map (·.1)).Nodup
 | .set S n=>h.SetOf (intKind P w) a S n
 | .ins C dx fs=>H dx = some (.own a) /\ fs.length <= 1000 /\ dx ≠ a /\ h.get? a = some (PySem.W.instObj C dx) /\
   ∃ mA,h.Ns1 dx mA /\ (∀ f,BY (fs.lookup f) (mA f)) /\ PySem.Within mA (fs.map (·.1))
 | .own _=>∃ o,h.get? a = some o
 | .xd fs=>∃ mA,h.Ns1 a mA /\ ∀ f,BY (fs.lookup f) (mA f)
 | .rng lo hi=>∃ t u v,h.get? a = some { cls:=.type "range",data:=.fields #[.int lo t,.int hi u,.int 1 v] }
 | .frz o u=>h.get? a = some o /\ Qe H h a u
 | .tbl ps=>h.get? a = some { cls:=.none,data:=.fields ps }
 | .met f x=>h.get? a = some (PySem.W.methodObj (.ref f) (.ref x))
 | .ext φ=>φ h /\ (∃ o,h.get? a = some o) /\ ∀ h1 h2:Heap,φ h1->(∀ o,h1.get? a = some o->h2.get? a = some o)->φ h2
def HOk (H:Hp) (h:Heap):Prop:=∀ a o,H a = some o->Qe P w H h a o
end
section
variable {P:Program} {w:World} {H H':Hp} {h h':Heap} {a:Addr} {o:HO}
theorem Qe.lt (x:Qe P w H h a o):a < h.objs.size:=by
 cases o with
 | lst xs=>obtain ⟨_,_,_,_,e⟩:=x; exact Heap.lt_size e
 | tup xs=>obtain ⟨_,_,_,p⟩:=x; exact p.lt
 | dK kvs=>obtain ⟨_,_,_,_,o,_,_,e,_⟩:=x; exact Heap.lt_size e
 | dT kvs=>obtain ⟨_,_,_,_,o,_,_,e,_⟩:=x; exact Heap.lt_size e
 | set S n=>obtain ⟨o,_,_,_,e,_⟩:=x; exact Heap.lt_size e
 | ins C dx fs=>obtain ⟨_,_,_,e,_⟩:=x; exact Heap.lt_size e
 | own y=>obtain ⟨_,e⟩:=x; exact Heap.lt_size e
 | xd fs=>obtain ⟨_,⟨_,_,_,e,_⟩,_⟩:=x; exact Heap.lt_size e
 | rng lo hi=>obtain ⟨_,_,_,e⟩:=x; exact Heap.lt_size e
 | frz ob u=>obtain ⟨e,_⟩:=x; exact Heap.lt_size e
 | tbl ps=>exact Heap.lt_size (show h.get? a = some _ from x)
 | met f y=>exact Heap.lt_size (show h.get? a = some _ from x)
 | ext φ=>obtain ⟨_,⟨_,e⟩,_⟩:=x; exact Heap.lt_size e
theorem Paired.Nn {α β:Type} {F G:α->β->Prop}:∀ {l₁:List α} {l₂:List β},Paired F l₁ l₂->(∀ a b,F a b->G a b)->Paired G l₁ l₂
 | _,_,.nil,_=>.nil
 | _,_,.cons r t,f=>.cons (f _ _ r) (Paired.Nn t f)
theorem Qe.Pu (x:Qe P w H h a o) (k:∀ b u,(b = a \/ H b = some (.own a))->h.get? b = some u->h'.get? b = some u)
  (ho:∀ b,H b = some (.own a)->H' b = some (.own a)) (ht:∀ b xs,H b = some (.tup xs)->H' b = some (.tup xs)):Qe P w H' h' a o:=by
 induction o with
 | lst xs=>obtain ⟨z,its,n,r,e⟩:=x; exact ⟨z,its,n,r,k _ _ (.inl rfl) e⟩
 | tup xs=>obtain ⟨z,its,r,ob,e,c⟩:=x; exact ⟨z,its,r,ob,k _ _ (.inl rfl) e,c⟩
 | dK kvs=>obtain ⟨z,y,vs,r,ob,es,ep,e,c⟩:=x; exact ⟨z,y,vs,r,ob,es,ep,k _ _ (.inl rfl) e,c⟩
 | dT kvs=>
  obtain ⟨z,y,xs,r,ob,es,ep,e,c⟩:=x;exact ⟨z,y,xs,Paired.Nn r λ p q z=>⟨z.1,ht _ _ z.2.1,z.2.2⟩,ob,es,ep,k _ _ (.inl rfl) e,c⟩
 | set S n=>obtain ⟨ob,es,ep,t,e,c⟩:=x; exact ⟨ob,es,ep,t,k _ _ (.inl rfl) e,c⟩
 | ins C dx fs=>
  obtain ⟨d,z,ne,e,mA,⟨od,es,ep,e2,c⟩,r⟩:=x;exact ⟨ho _ d,z,ne,k _ _ (.inl rfl) e,mA,⟨od,es,ep,k _ _ (.inr d) e2,c⟩,r⟩
 | own y=>obtain ⟨ob,e⟩:=x; exact ⟨ob,k _ _ (.inl rfl) e⟩
 | xd fs=>obtain ⟨mA,⟨od,es,ep,e,c⟩,r⟩:=x; exact ⟨mA,⟨od,es,ep,k _ _ (.inl rfl) e,c⟩,r⟩
 | rng lo hi=>obtain ⟨t,u,v,e⟩:=x; exact ⟨t,u,v,k _ _ (.inl rfl) e⟩
 | frz ob u ih=>obtain ⟨e,q⟩:=x; exact ⟨k _ _ (.inl rfl) e,ih q⟩
 | tbl ps=>
  have e:h.get? a = some { cls:=.none,data:=.fields ps }:=x;show h'.get? a = some { cls:=.none,data:=.fields ps };exact k a _ (.inl rfl) e
 | met f y=>
  have e:h.get? a = some (PySem.W.methodObj (.ref f) (.ref y)):=x;show h'.get? a = some (PySem.W.methodObj (.ref f) (.ref y));exact k a _ (.inl rfl) e
 | ext φ=>obtain ⟨p,⟨o,e⟩,st⟩:=x; exact ⟨st _ _ p λ o q=>k _ _ (.inl rfl) q,⟨o,k _ _ (.inl rfl) e⟩,st⟩
theorem HOk.lt (x:HOk P w H h) (e:H a = some o):a < h.objs.size:=(x a o e).lt
theorem HOk.fresh (x:HOk P w H h) (e:h.objs.size <= a):H a = none:=by
 cases q:H a with
 | none=>rfl
 | some u=>exact absurd (Nat.lt_of_lt_of_le (x.lt q) e) (Nat.lt_irrefl _)
theorem HOk.kept (x:HOk P w H h) (k:∀ b u,h.get? b = some u->h'.get? b = some u):HOk P w H h':=λ a o e=>
 (x a o e).Pu (λ b u _ q=>k b u q) (λ _ q=>q) λ _ _ q=>q
theorem HOk.laid (x:HOk P w H h) (k:∀ b u,h.get? b = some u->h'.get? b = some u) (hp:h.objs.size <= a) (new:Qe P w (upd H a o) h' a o):HOk P w (upd H a o) h':=λ b u e=>by
 have hn:=x.fresh hp
 by_cases hb:b = a
 ·subst hb; rw [Z5] at e; cases e; exact new
 ·rw [ZE hb] at e;exact (x b u e).Pu (λ c v _ q=>k c v q) (λ c q=>by rw [ZE (Zp q hn)]; exact q) λ c xs q=>by rw [ZE (Zp q hn)]; exact q
end
def Rd (H:Hp) (a:Addr) (u:HO):Prop:=H a = some u \/ ∃ o,H a = some (.frz o u)
theorem Rd.of {H:Hp} {a:Addr} {u:HO} (h:H a = some u):Rd H a u:=.inl h
theorem Rd.ok {P:Program} {w:World} {H:Hp} {h:Heap} {a:Addr} {u:HO} (r:Rd H a u) (x:HOk P w H h):Qe P w H h a u:=by
 rcases r with r | ⟨o,r⟩
 ·exact x a u r
 ·obtain ⟨_,q⟩:=x a _ r;exact q
def Mut:Option HO->Prop
 | some (.lst _)=>True
 | some (.dK _)=>True
 | some (.dT _)=>True
 | some (.set _ _)=>True
 | some (.ins _ _ _)=>True
 | some (.ext _)=>True
 | _=>False
section
variable {P:Program} {w:World} {H:Hp} {h h':Heap} {x e:Addr} {o':HO}
theorem HOk.write (ok:HOk P w H h) (mu:Mut (H x)) (he:e = x \/ H e = some (.own x)) (k:∀ b u,b ≠ e->h.get? b = some u->h'.get? b = some u) (heo:∃ u,h'.get? e = some u)
  (new:Qe P w (upd H x o') h' x o'):HOk P w (upd H x o') h':=λ b u q=>by
 have nown:∀ c y,H c = some (.own y)->c ≠ x:=λ c y r z=>by subst z; rw [r] at mu; exact mu
 have ntup:∀ c xs,H c = some (.tup xs)->c ≠ x:=λ c xs r z=>by subst z; rw [r] at mu; exact mu
 by_cases hb:b = x
 ·subst hb; rw [Z5] at q; cases q; exact new
 ·rw [ZE hb] at q
  by_cases hbe:b = e
  ·have q':H b = some (.own x):=by
    rcases he with z | z
    ·exact absurd (hbe.trans z) hb
    ·rw [hbe]; exact z
   rw [q] at q'; cases q';obtain ⟨v,hv⟩:=heo;exact ⟨v,by rw [hbe]; exact hv⟩
  ·refine (ok b u q).Pu (λ c v hc r=>k c v ?_ r) (λ c r=>by rw [ZE (nown c b r)]; exact r) λ c xs r=>by rw [ZE (ntup c xs r)]; exact r
   rcases hc with rfl | hc
   ·exact hbe
   ·rintro rfl
    rcases he with z | z
    ·exact nown c b hc z
    ·rw [hc] at z; cases z; exact hb rfl
end
structure Un (fs ex:List Addr) (H H':Hp) (h h':Heap):Prop where
 keep:∀ b o,h.get? b = some o->H b = none->b ∉ fs->b ∉ ex->h'.get? b = some o
 slot:∀ b o,h.get? b = some o->H b = none->b ∈ fs->b ∉ ex->∃ sl,h'.get? b = some { o with slots:=sl }
 free:∀ b o,h.get? b = some o->H b = none->b ∉ ex->H' b = none
 there:∀ b o,h.get? b = some o->b ∉ ex->∃ o',h'.get? b = some o'
 tups:∀ b xs,H b = some (.tup xs)->H' b = some (.tup xs)
 frzs:∀ b o u,H b = some (.frz o u)->H' b = some (.frz o u)
 tbls:∀ b ps,H b = some (.tbl ps)->∃ more,H' b = some (.tbl (ps ++ more))
section
variable {fs fs' ex ex':List Addr} {H H1 H2:Hp} {h h1 h2 h':Heap} {a x e:Addr} {o:HO}
theorem Un.any (u:Un fs ex H H1 h h1) {b:Addr} {ob:Obj} (q:h.get? b = some ob) (n:H b = none) (hx:b ∉ ex):∃ sl,h1.get? b = some { ob with slots:=sl }:=by
 by_cases hb:b ∈ fs
 ·exact u.slot b ob q n hb hx
 ·exact ⟨ob.slots,u.keep b ob q n hb hx⟩
theorem Un.trans (a:Un fs ex H H1 h h1) (b:Un fs ex H1 H2 h1 h2):Un fs ex H H2 h h2 where
 keep:=λ c ob q n hc hx=>b.keep c ob (a.keep c ob q n hc hx) (a.free c ob q n hx) hc hx
 slot:=λ c ob q n hc hx=>by
  obtain ⟨sl,e1⟩:=a.slot c ob q n hc hx;obtain ⟨sl',e2⟩:=b.slot c _ e1 (a.free c ob q n hx) hc hx;exact ⟨sl',e2⟩
 free:=λ c ob q n hx=>by
  obtain ⟨o',e1⟩:=a.there c ob q hx;exact b.free c o' e1 (a.free c ob q n hx) hx
 there:=λ c ob q hx=>by
  obtain ⟨o',e1⟩:=a.there c ob q hx;exact b.there c o' e1 hx
 tups:=λ c xs q=>b.tups c xs (a.tups c xs q)
 frzs:=λ c ob xs q=>b.frzs c ob xs (a.frzs c ob xs q)
 tbls:=λ c ps q=>by
  obtain ⟨m1,e1⟩:=a.tbls c ps q;obtain ⟨m2,e2⟩:=b.tbls c _ e1;exact ⟨m1 ++ m2,by rw [e2,Array.append_assoc]⟩
theorem Un.kept (k:∀ b u,h.get? b = some u->h'.get? b = some u):Un fs ex H H h h':=
 ⟨λ b ob q _ _ _=>k b ob q,λ b ob q _ _ _=>⟨ob.slots,k b ob q⟩,λ _ _ _ n _=>n,λ b ob q _=>⟨ob,k b ob q⟩,λ _ _ q=>q,λ _ _ _ q=>q,λ _ ps q=>⟨#[],by rw [q]; simp⟩⟩
theorem Un.refl:Un fs ex H H h h:=Un.kept λ _ _ q=>q
theorem Un.laid (k:∀ b u,h.get? b = some u->h'.get? b = some u) (hp:h.objs.size <= a) (hn:H a = none):Un fs ex H (upd H a o) h h' where
 keep:=λ b u q _ _ _=>k b u q
 slot:=λ b u q _ _ _=>⟨u.slots,k b u q⟩
 free:=λ b u q n _=>by rw [ZE (Nat.ne_of_lt (Nat.lt_of_lt_of_le (Heap.lt_size q) hp))]; exact n
 there:=λ b u q _=>⟨u,k b u q⟩
 tups:=λ b xs q=>by rw [ZE (Zp q hn)]; exact q
 frzs:=λ b u xs q=>by rw [ZE (Zp q hn)]; exact q
 tbls:=λ b ps q=>⟨#[],by rw [ZE (Zp q hn),q]; simp⟩
theorem Un.write (mu:Mut (H x)) (he:e = x \/ H e = some (.own x)) (k:∀ b u,b ≠ e->h.get? b = some u->h'.get? b = some u) (heo:∃ u,h'.get? e = some u):Un fs ex H (upd H x o) h h':=by
 have hx:∀ b,H b = none->b ≠ x:=λ b n z=>by subst z; rw [n] at mu; exact mu
 have hb:∀ b,H b = none->b ≠ e:=λ b n z=>by
  subst z
  rcases he with r | r
  ·exact hx b n r
  ·rw [n] at r; cases r
 have hm:∀ b u,H b = some u->¬ Mut (some u)->b ≠ x:=λ b u q nm z=>by subst z; rw [q] at mu; exact nm mu
 refine ⟨λ b u q n _ _=>k b u (hb b n) q,λ b u q n _ _=>⟨u.slots,k b u (hb b n) q⟩,λ b u q n _=>by rw [ZE (hx b n)]; exact n,λ b u q _=>?_,
  λ b xs q=>by rw [ZE (hm b _ q λ z=>z)]; exact q,λ b u xs q=>by rw [ZE (hm b _ q λ z=>z)]; exact q,λ b ps q=>⟨#[],by rw [ZE (hm b _ q λ z=>z),q]; simp⟩⟩
 by_cases hbe:b = e
 ·subst hbe; exact heo
 ·exact ⟨u,k b u hbe q⟩
end
noncomputable def trk (h:Heap) (H:Hp):List Addr:=(List.range h.objs.size).filter λ a=>(H a).isSome
noncomputable def Fq (h:Heap) (H:Hp):Heap:=PySem.W.hideAll h (trk h H)
theorem B6 (h:Heap) (H:Hp):(Fq h H).objs.size = h.objs.size:=PySem.W.hideAll_size _ _
theorem Fc {h:Heap} {H:Hp} {b:Addr} {o:Obj} (e:h.get? b = some o) (n:H b = none):(Fq h H).get? b = some o:=
 PySem.W.hideAll_get _ e λ hm=>by
  have q:(H b).isSome = true:=(List.mem_filter.mp hm).2;rw [n] at q; simp at q
theorem NZ {h:Heap} {H:Hp} {b:Addr} {o:Obj} (e:(Fq h H).get? b = some o):h.get? b = some o /\ H b = none:=by
 have e':h.get? b = some o:=PySem.W.of_hideAll (trk h H) e;refine ⟨e',?_⟩;cases q:H b with
 | none=>rfl
 | some x=>
  have hm:b ∈ trk h H:=List.mem_filter.mpr ⟨List.mem_range.mpr (Heap.lt_size e'),by simp [q]⟩;have z:(Fq h H).get? b = none:=PySem.W.hideAll_none (trk h H) hm;rw [z] at e; cases e
structure Mod (K:Fj) (mg:Str->Option Value) (base:Heap):Prop where
 kin:K.In base
 glob:base.Ns mainGlobals mg
 blt:∃ mb,base.Ns builtinsNs mb /\ ∀ x:Str,x ≠ "__name__" -> mb x = bootBuiltins x
 nolimit:base.NoLimit
structure Cx where
 prog:Program
 w:World
 K:Fj
 mg:Str->Option Value
 base:Heap
 A:Around
 N:List Str
 s₀:Shared
 H₀:Hp
 env:Env
 outer:List Env
 stack:List Env
 ex:List Addr
 fn:Str->Bool
 calm:Bool
 pn:List (Addr × Obj)
 xe:Value->Shared->Prop
noncomputable def frs (l:List Env):List Addr:=l.filterMap (·.frame)
noncomputable abbrev Cx.fs (X:Cx):List Addr:=frs X.outer
def Vis (sc:Scope) (x:Str):Prop:=sc.names.lookup x = some .local \/ sc.names.lookup x = some .cell \/ sc.names.lookup x = some .free
def Loc (sc:Scope) (x:Str):Prop:=sc.names.lookup x = some .local \/ sc.names.lookup x = some .cell
def Look (env:Env) (h:Heap) (m:Str->Option Value) (x:Str) (u:Value):Prop:=
 (env.kindOf x = some .local /\ m x = some u) \/ ((env.kindOf x = some .cell \/ env.kindOf x = some .free) /\ ∃ c,env.cells.lookup x = some c /\ h.IsCell c (some u))
structure Cx.Ok (X:Cx):Prop where
 mod:Mod X.K X.mg X.base
 kind:X.env.scope.kind = .function
 glob:X.env.globals = mainGlobals
 blt:X.env.builtins = builtinsNs
 above:X.s₀.heap.objs.size <= X.env.locals
 inj:∀ x y c,X.env.cells.lookup x = some c->X.env.cells.lookup y = some c->x = y
 has:∀ x,(X.env.kindOf x = some .cell \/ X.env.kindOf x = some .free)->∃ c,X.env.cells.lookup x = some c
 cab:∀ x c,X.fn x = true->X.env.cells.lookup x = some c->X.s₀.heap.objs.size <= c
 hd:X.calm = true->X.A.handled = none
 frames:X.A.frames = some X.stack
 stk:X.stack = X.outer \/ (X.stack = X.env :: X.outer /\ X.env.frame = some X.env.locals)
 exf:∀ b ∈ X.ex,b ≠ X.env.locals /\ ∀ x c,X.env.cells.lookup x = some c->c ≠ b
 bs:∀ b o,X.base.get? b = some o->X.s₀.heap.get? b = some o /\ X.H₀ b = none
 bsz:X.base.objs.size <= X.s₀.heap.objs.size
 noex:∀ b o,X.base.get? b = some o->b ∉ X.ex
 exfs:∀ b ∈ X.ex,b ∉ X.fs
 GQ:X.s₀.heap.FunFrames X.base X.outer
 frf:∀ b ∈ X.fs,X.H₀ b = none
structure Inv (X:Cx) (pins:List (Addr × Obj)) (Z:List (Option V)) (H:Hp) (s:Shared):Prop where
 ok:X.Ok
 os:s.os = X.s₀.os
 bare:AllBare s.gens
 base:Un X.fs X.ex X.H₀ H X.s₀.heap s.heap
 loc:∃ m,s.heap.Ns X.env.locals m /\ ∀ (i:Nat) (x:Str) (v:V),X.N[i]? = some x->Z[i]? = some (some v)->Vis X.env.scope x->∃ u,RelV v u /\ Look X.env s.heap m x u
 cell:∀ x c,X.env.cells.lookup x = some c->∃ v,s.heap.IsCell c v
 free:H X.env.locals = none
 freeC:∀ x c,X.env.cells.lookup x = some c->H c = none
 pin:∀ p ∈ X.pn ++ pins,s.heap.get? p.1 = some p.2 /\ H p.1 = none /\ p.1 ≠ X.env.locals /\ p.1 ∉ X.fs /\ ∀ v,p.2.data ≠ .cell v
 hok:HOk X.prog X.w H s.heap
 len:Z.length = X.N.length
section
variable {X:Cx} {pins:List (Addr × Obj)} {Z:List (Option V)} {H H':Hp} {s:Shared} {h':Heap}
theorem Cx.Ok.Zdv (ok:X.Ok) {b:Addr} {o:Obj} (e:X.base.get? b = some o):b ∉ X.fs:=λ hb=>by
 have:=(ok.GQ.mem hb).1;rw [e] at this; cases this
theorem Inv.bs (I:Inv X pins Z H s):∀ b o,X.base.get? b = some o->s.heap.get? b = some o /\ H b = none:=λ b o e=>
 ⟨I.base.keep b o (I.ok.bs b o e).1 (I.ok.bs b o e).2 (I.ok.Zdv e) (I.ok.noex b o e),I.base.free b o (I.ok.bs b o e).1 (I.ok.bs b o e).2 (I.ok.noex b o e)⟩
theorem Inv.bk (I:Inv X pins Z H s):∀ b o,X.base.get? b = some o->s.heap.get? b = some o:=λ b o e=>(I.bs b o e).1
theorem Inv.mod (I:Inv X pins Z H s):Mod X.K X.mg X.base:=I.ok.mod
theorem Inv.kIn (I:Inv X pins Z H s):X.K.In s.heap:=I.ok.mod.kin.keeps I.bk
theorem Inv.fr (I:Inv X pins Z H s):∃ m,Fr X.base X.env.locals s.heap m:=
 let ⟨m,hn,_⟩:=I.loc
 ⟨m,hn,I.bk,Nat.le_trans I.ok.bsz I.ok.above⟩
theorem Inv.lt (I:Inv X pins Z H s):X.env.locals < s.heap.objs.size:=let ⟨_,hn,_⟩:=I.loc; hn.lt
theorem Inv.sz (I:Inv X pins Z H s):X.s₀.heap.objs.size <= s.heap.objs.size:=Nat.le_trans I.ok.above (Nat.le_of_lt I.lt)
theorem Inv.ZdA (I:Inv X pins Z H s) {a:Addr} (h:s.heap.objs.size <= a):a ∉ X.fs:=λ hb=>by
 obtain ⟨_,o,ho,_⟩:=I.ok.GQ.mem hb;exact absurd (Nat.lt_of_lt_of_le (Heap.lt_size ho) (Nat.le_trans I.sz h)) (Nat.lt_irrefl _)
theorem Inv.cne (I:Inv X pins Z H s):∀ x c,X.env.cells.lookup x = some c->c ≠ X.env.locals:=λ x c e z=>by
 obtain ⟨v,o,ho,hd⟩:=I.cell x c e;obtain ⟨m,⟨o',es,ep,ho',hd',_⟩,_⟩:=I.loc;rw [z,ho'] at ho; cases ho; rw [hd'] at hd; cases hd
theorem Inv.GQ (I:Inv X pins Z H s):s.heap.FunFrames X.base X.outer:=by
 have all:∀ (l:List Env),(∀ b ∈ frs l,b ∈ X.fs)->X.s₀.heap.FunFrames X.base l->s.heap.FunFrames X.base l:=by
  intro l
  induction l with
  | nil=>intro _ _; trivial
  | cons env r ih=>
   intro hs hl;obtain ⟨hk,⟨L,o,hf,hn,ho,hd⟩,hr⟩:=hl;have hL:L ∈ X.fs:=hs L (by unfold frs; rw [List.filterMap_cons,hf]; exact List.mem_cons_self);obtain ⟨sl,e⟩:=I.base.slot L o ho (I.ok.frf L hL) hL λ z=>I.ok.exfs L z hL;exact ⟨hk,⟨L,_,hf,hn,e,hd⟩,ih (λ b hb=>hs b (by unfold frs; rw [List.filterMap_cons,hf]; exact List.mem_cons_of_mem _ hb)) hr⟩
 exact all X.outer (λ _ hb=>hb) I.ok.GQ
theorem Inv.stack (I:Inv X pins Z H s):s.heap.FunFrames X.base X.stack:=by
 rcases I.ok.stk with e | ⟨e,hf⟩
 ·rw [e]; exact I.GQ
 ·rw [e];obtain ⟨m,hn,_⟩:=I.loc;refine .cons (by rw [I.ok.kind]; decide) hf hn ?_ I.GQ;exact Heap.get?_none_of_le (Nat.le_trans I.ok.bsz I.ok.above)
theorem Inv.Gy (I:Inv X pins Z H s):∀ b ∈ frs X.stack,b ∈ X.env.locals :: X.fs:=λ b hb=>by
 rcases I.ok.stk with e | ⟨e,hf⟩
 ·rw [e] at hb; exact List.mem_cons_of_mem _ hb
 ·rw [e] at hb;unfold frs at hb;rw [List.filterMap_cons,hf] at hb;exact hb
theorem Inv.CK (I:Inv X pins Z H s):∀ b ∈ frs X.stack,H b = none:=λ b hb=>by
 rcases List.mem_cons.mp (I.Gy b hb) with e | hb
 ·rw [e]; exact I.free
 ·obtain ⟨_,o,ho,_⟩:=I.ok.GQ.mem hb;exact I.base.free b o ho (I.ok.frf b hb) λ z=>I.ok.exfs b z hb
theorem Inv.step {g':Array GenState} {t':Nat} {d':Drawn} {ch:List Addr} (I:Inv X pins Z H s)
  (hch:∀ b ∈ ch,(b ∈ X.ex \/ X.s₀.heap.objs.size <= b) /\ b ≠ X.env.locals /\ (∀ x c,X.env.cells.lookup x = some c->c ≠ b) /\ ∀ p ∈ X.pn ++ pins,p.1 ≠ b)
  (keep:∀ b o,b ≠ X.env.locals->b ∉ X.fs->b ∉ ch->s.heap.get? b = some o->H b = none->h'.get? b = some o)
  (slot:∀ b o,b ≠ X.env.locals->b ∈ X.fs->b ∉ ch->s.heap.get? b = some o->H b = none->∃ sl,h'.get? b = some { o with slots:=sl }) (free:∀ b o,b ∉ ch->s.heap.get? b = some o->H b = none->H' b = none)
  (there:∀ b o,b ∉ ch->s.heap.get? b = some o->∃ o',h'.get? b = some o')
  (tups:∀ b xs,H b = some (.tup xs)->H' b = some (.tup xs)) (frzs:∀ b o u,H b = some (.frz o u)->H' b = some (.frz o u)) (tbls:∀ b ps,H b = some (.tbl ps)->∃ more,H' b = some (.tbl (ps ++ more)))
  (ns:∀ m,s.heap.Ns X.env.locals m->h'.Ns X.env.locals m) (hok:HOk X.prog X.w H' h') (hg:AllBare g') :
  Inv X pins Z H' { s with heap:=h',gens:=g',drawn:=d',toks:=t' }:=by
 have neL:∀ b o,X.s₀.heap.get? b = some o->b ≠ X.env.locals:=λ b o e=>Nat.ne_of_lt (Nat.lt_of_lt_of_le (Heap.lt_size e) I.ok.above);have neC:∀ b o,X.s₀.heap.get? b = some o->b ∉ X.ex->b ∉ ch:=λ b o e hx hb=>by
  rcases (hch b hb).1 with z | z
  ·exact hx z
  ·exact absurd (Nat.lt_of_lt_of_le (Heap.lt_size e) z) (Nat.lt_irrefl _)
 have cellK:∀ x c,X.env.cells.lookup x = some c->∀ v,s.heap.IsCell c v->h'.IsCell c v:=λ x c e v ⟨o,ho,hd⟩=>by
  have nch:c ∉ ch:=λ z=>(hch c z).2.2.1 x c e rfl
  by_cases hc:c ∈ X.fs
  ·obtain ⟨sl,q⟩:=slot c o (I.cne x c e) hc nch ho (I.freeC x c e);exact ⟨_,q,hd⟩
  ·exact ⟨o,keep c o (I.cne x c e) hc nch ho (I.freeC x c e),hd⟩
 refine ⟨I.ok,I.os,hg,⟨λ b o e n hb hx=>?_,λ b o e n hb hx=>?_,λ b o e n hx=>?_,λ b o e hx=>?_,λ b xs e=>tups b xs (I.base.tups b xs e),λ b o xs e=>frzs b o xs (I.base.frzs b o xs e),λ b ps e=>?_⟩,?_,λ x c e=>?_,?_,λ x c e=>?_,λ p hp=>?_,hok,I.len⟩
 ·exact keep b o (neL b o e) hb (neC b o e hx) (I.base.keep b o e n hb hx) (I.base.free b o e n hx)
 ·obtain ⟨sl,e1⟩:=I.base.slot b o e n hb hx;obtain ⟨sl',e2⟩:=slot b _ (neL b o e) hb (neC b o e hx) e1 (I.base.free b o e n hx);exact ⟨sl',e2⟩
 ·obtain ⟨o',e1⟩:=I.base.there b o e hx;exact free b o' (neC b o e hx) e1 (I.base.free b o e n hx)
 ·obtain ⟨o',e1⟩:=I.base.there b o e hx;exact there b o' (neC b o e hx) e1
 ·obtain ⟨m1,e1⟩:=I.base.tbls b ps e;obtain ⟨m2,e2⟩:=tbls b _ e1;exact ⟨m1 ++ m2,by rw [e2,Array.append_assoc]⟩
 ·obtain ⟨m,hn,hl⟩:=I.loc;refine ⟨m,ns m hn,λ i x v e1 e2 e3=>?_⟩;obtain ⟨u,r,l⟩:=hl i x v e1 e2 e3;refine ⟨u,r,?_⟩
  rcases l with l | ⟨k,c,e,z⟩
  ·exact .inl l
  ·exact .inr ⟨k,c,e,cellK x c e _ z⟩
 ·obtain ⟨v,z⟩:=I.cell x c e;exact ⟨v,cellK x c e v z⟩
 ·obtain ⟨m,⟨o,_,_,ho,_⟩,_⟩:=I.loc;exact free _ o (λ z=>(hch _ z).2.1 rfl) ho I.free
 ·obtain ⟨v,o,ho,hd⟩:=I.cell x c e;exact free c o (λ z=>(hch c z).2.2.1 x c e rfl) ho (I.freeC x c e)
 ·obtain ⟨e,n,ne,nf,d⟩:=I.pin p hp;have nch:p.1 ∉ ch:=λ z=>(hch p.1 z).2.2.2 p hp rfl;exact ⟨keep p.1 p.2 ne nf nch e n,free p.1 p.2 nch e n,ne,nf,d⟩
theorem Inv.un {t':Nat} (I:Inv X pins Z H s) (u:Un X.fs [] H H' s.heap h') (hok:HOk X.prog X.w H' h'):Inv X pins Z H' { s with heap:=h',toks:=t' }:=by
 obtain ⟨m,⟨o,es,ep,ho,r⟩,_⟩:=id I.loc;obtain ⟨sl,hL⟩:=u.any ho I.free (by simp)
 exact I.step (g':=s.gens) (d':=s.drawn) (ch:=[]) (λ _ z=>nomatch z) (λ b o _ hb _ e n=>u.keep b o e n hb (by simp)) (λ b o _ hb _ e n=>u.slot b o e n hb (by simp)) (λ b o _ e n=>u.free b o e n (by simp)) (λ b o _ e=>u.there b o e (by simp)) u.tups u.frzs u.tbls (λ m' hm=>by
  obtain ⟨o',es',ep',ho',r'⟩:=hm;rw [ho] at ho'; cases ho'
  exact ⟨_,es',ep',hL,r'⟩) hok I.bare
theorem Inv.call {g':Array GenState} {t':Nat} {d':Drawn} {ch:List Addr} (I:Inv X pins Z H s) (u:Un (frs X.stack) ch H H' s.heap h') (hok:HOk X.prog X.w H' h') (hg:AllBare g')
  (hch:∀ b ∈ ch,(b ∈ X.ex \/ X.s₀.heap.objs.size <= b) /\ b ≠ X.env.locals /\ (∀ x c,X.env.cells.lookup x = some c->c ≠ b) /\ ∀ p ∈ X.pn ++ pins,p.1 ≠ b) :
  Inv X pins Z H' { s with heap:=h',gens:=g',drawn:=d',toks:=t' }:=by
 obtain ⟨m,⟨o,es,ep,ho,r⟩,_⟩:=id I.loc;obtain ⟨sl,hL⟩:=u.any ho I.free λ z=>(hch _ z).2.1 rfl
 exact I.step (ch:=ch) hch (λ b o hL hb hc e n=>u.keep b o e n (λ z=>(List.mem_cons.mp (I.Gy b z)).elim hL hb) hc) (λ b o _ _ hc e n=>u.any e n hc) (λ b o hc e n=>u.free b o e n hc) (λ b o hc e=>u.there b o e hc) u.tups u.frzs u.tbls (λ m' hm=>by
  obtain ⟨o',es',ep',ho',r'⟩:=hm;rw [ho] at ho'; cases ho'
  exact ⟨_,es',ep',hL,r'⟩) hok hg
theorem Inv.turned {t':Nat} {it:Addr} (I:Inv X pins Z H s) (k:∀ b o,b ≠ it->s.heap.get? b = some o->h'.get? b = some o) (hn:H it = none) (hL:it ≠ X.env.locals)
  (h1:it ∈ X.ex \/ X.s₀.heap.objs.size <= it) (h2:∀ x c,X.env.cells.lookup x = some c->c ≠ it) (h3:∀ p ∈ X.pn ++ pins,p.1 ≠ it):Inv X pins Z H { s with heap:=h',toks:=t' }:=by
 have nit:∀ b u,H b = some u->b ≠ it:=λ b u e z=>by rw [z,hn] at e; cases e
 refine I.step (g':=s.gens) (d':=s.drawn) (ch:=[it]) (λ b hb=>?_) (λ b o _ _ hc e _=>k b o (λ z=>hc (by simp [z])) e) (λ b o _ _ hc e _=>⟨o.slots,k b o (λ z=>hc (by simp [z])) e⟩) (λ _ _ _ _ n=>n)
  (λ b o hc e=>⟨o,k b o (λ z=>hc (by simp [z])) e⟩) (λ _ _ e=>e) (λ _ _ _ e=>e) (λ b ps e=>⟨#[],by rw [e]; simp⟩) (λ m hm=>?_) (λ b u e=>?_) I.bare
 ·have e:b = it:=by simpa using hb
  subst e;exact ⟨h1,hL,h2,h3⟩
 ·obtain ⟨o,es,ep,ho,r⟩:=hm;exact ⟨o,es,ep,k _ o (Ne.symm hL) ho,r⟩
 ·refine (I.hok b u e).Pu (λ c v hc q=>k c v ?_ q) (λ _ q=>q) λ _ _ q=>q
  rcases hc with z | z
  ·rw [z]; exact nit b u e
  ·exact nit c _ z
theorem Inv.tok (I:Inv X pins Z H s) (t:Nat):Inv X pins Z H { s with toks:=t }:=I.un (h':=s.heap) (t':=t) Un.refl I.hok
theorem Inv.kept {t':Nat} (I:Inv X pins Z H s) (k:∀ b u,s.heap.get? b = some u->h'.get? b = some u):Inv X pins Z H { s with heap:=h',toks:=t' }:=I.un (Un.kept k) (I.hok.kept k)
theorem Inv.laid {a:Addr} {o:HO} {t':Nat} (I:Inv X pins Z H s) (k:∀ b u,s.heap.get? b = some u->h'.get? b = some u) (hp:s.heap.objs.size <= a) (new:Qe X.prog X.w (upd H a o) h' a o) :
  Inv X pins Z (upd H a o) { s with heap:=h',toks:=t' }:=I.un (Un.laid k hp (I.hok.fresh hp)) (I.hok.laid k hp new)
theorem Inv.write {x e:Addr} {o:HO} {t':Nat} (I:Inv X pins Z H s) (mu:Mut (H x)) (he:e = x \/ H e = some (.own x)) (k:∀ b u,b ≠ e->s.heap.get? b = some u->h'.get? b = some u) (heo:∃ u,h'.get? e = some u)
  (new:Qe X.prog X.w (upd H x o) h' x o):Inv X pins Z (upd H x o) { s with heap:=h',toks:=t' }:=I.un (Un.write mu he k heo) (I.hok.write mu he k heo new)
theorem Inv.Vk {pins':List (Addr × Obj)} (I:Inv X pins Z H s) (h:∀ p ∈ pins',s.heap.get? p.1 = some p.2 /\ H p.1 = none /\ p.1 ≠ X.env.locals /\ p.1 ∉ X.fs /\ ∀ v,p.2.data ≠ .cell v):Inv X pins' Z H s:=
 ⟨I.ok,I.os,I.bare,I.base,I.loc,I.cell,I.free,I.freeC,λ p hp=>(List.mem_append.mp hp).elim (λ z=>I.pin p (List.mem_append_left _ z)) (h p),I.hok,I.len⟩
theorem WS {N:List Str} (hN:N.Nodup) {i j:Nat} {x:Str} (a:N[i]? = some x) (b:N[j]? = some x):i = j:=by
 obtain ⟨h1,e1⟩:=List.getElem?_eq_some_iff.mp a;obtain ⟨h2,e2⟩:=List.getElem?_eq_some_iff.mp b;exact (List.getElem_inj hN).mp (e1.trans e2.symm)
theorem Bv {M:Model} {A:Around} {E:Value->Shared->Prop} {i:Nat} {x:Str} {v:V} {u:Value} {Q:Unit->Shared->Prop} (I:Inv X pins Z H s) (hN:X.N.Nodup) (hi:X.N[i]? = some x) (hx:Loc X.env.scope x) (r:RelV v u)
  (h:∀ s',Inv X pins (Z.set i (some v)) H s'->(∃ a,Heap.SameBut a s.heap s'.heap /\ (a = X.env.locals \/ X.env.cells.lookup x = some a))->Q () s') (hf:autoParam (X.fn x = true \/ X.env.scope.names.lookup x = some .local) zz0._auto_1):wpAny M A (storeName X.env x u) Q E s:=by
 obtain ⟨m,hn,hl⟩:=id I.loc;have hcls:(X.env.scope.kind == .class || (X.env.scope.kind == .module && X.env.locals != X.env.globals)) = false:=by rw [I.ok.kind]; rfl
 have hiσ:i < Z.length:=by rw [I.len]; exact (List.getElem?_eq_some_iff.mp hi).1
 have cne:=I.cne;have tracked:∀ {a:Addr} {h':Heap},(∃ o,s.heap.get? a = some o /\ H a = none)->Heap.SameBut a s.heap h'->HOk X.prog X.w H h':=λ {a h'} ha hs b ob e=>by
  obtain ⟨_,_,hfree⟩:=ha;refine (I.hok b ob e).Pu (λ c w' hc q=>(hs.2 c ?_).trans q) (λ _ q=>q) λ _ _ q=>q;rintro rfl
  rcases hc with rfl | hc
  ·rw [hfree] at e; cases e
  ·rw [hfree] at hc; cases hc
 rcases hx with hk | hk
 ·refine wpAny_storeName_local hk hn (λ h' hn' hs=>?_) hcls;obtain ⟨oL,_,_,hoL,_⟩:=id hn;refine h _ ⟨I.ok,I.os,I.bare,⟨λ b o e n hb hx=>?_,λ b o e n hb hx=>?_,I.base.free,λ b o e hx=>?_,I.base.tups,I.base.frzs,I.base.tbls⟩,⟨_,hn',λ j y v' e1 e2 e3=>?_⟩,λ y c e=>?_,I.free,I.freeC,λ p hp=>?_,tracked ⟨oL,hoL,I.free⟩ hs,by simpa using I.len⟩ ⟨_,hs,.inl rfl⟩
  ·exact (hs.2 b (Nat.ne_of_lt (Nat.lt_of_lt_of_le (Heap.lt_size e) I.ok.above))).trans (I.base.keep b o e n hb hx)
  ·obtain ⟨sl,e1⟩:=I.base.slot b o e n hb hx;exact ⟨sl,(hs.2 b (Nat.ne_of_lt (Nat.lt_of_lt_of_le (Heap.lt_size e) I.ok.above))).trans e1⟩
  ·obtain ⟨o',e1⟩:=I.base.there b o e hx;exact ⟨o',(hs.2 b (Nat.ne_of_lt (Nat.lt_of_lt_of_le (Heap.lt_size e) I.ok.above))).trans e1⟩
  ·by_cases hj:j = i
   ·subst hj;rw [hi] at e1; cases e1;rw [List.getElem?_set_self hiσ] at e2;cases e2;exact ⟨u,r,.inl ⟨hk,by simp⟩⟩
   ·rw [List.getElem?_set_ne (Ne.symm hj)] at e2;obtain ⟨u',r',q⟩:=hl j y v' e1 e2 e3;refine ⟨u',r',?_⟩
    rcases q with ⟨k,e⟩ | ⟨k,c,e,z⟩
    ·refine .inl ⟨k,?_⟩;have:y ≠ x:=λ e=>hj (WS hN e1 (e ▸ hi));simp [this,e]
    ·exact .inr ⟨k,c,e,z.sameBut hs (cne y c e)⟩
  ·obtain ⟨w',z⟩:=I.cell y c e;exact ⟨w',z.sameBut hs (cne y c e)⟩
  ·obtain ⟨e,n,ne,nf,d⟩:=I.pin p hp;exact ⟨(hs.2 p.1 ne).trans e,n,ne,nf,d⟩
 ·have hfn:X.fn x = true:=by
   rcases hf with z | z
   ·exact z
   ·rw [z] at hk; cases hk
  obtain ⟨c,hc⟩:=I.ok.has x (.inl hk);obtain ⟨w',z⟩:=I.cell x c hc;refine wpAny_storeName_cell I.ok.kind hk hc z (λ h' hc' hs=>?_);obtain ⟨oc,hoc,hocd⟩:=id z;refine h { s with heap:=h' } ⟨I.ok,I.os,I.bare,⟨λ b o e n hb hx=>?_,λ b o e n hb hx=>?_,I.base.free,λ b o e hx=>?_,I.base.tups,I.base.frzs,I.base.tbls⟩,⟨m,hn.sameBut hs (Ne.symm (cne x c hc)),λ j y v' e1 e2 e3=>?_⟩,λ y c' e=>?_,I.free,I.freeC,λ p hp=>?_,tracked ⟨oc,hoc,I.freeC x c hc⟩ hs,by simpa using I.len⟩ ⟨c,hs,.inr hc⟩
  ·exact (hs.2 b (Nat.ne_of_lt (Nat.lt_of_lt_of_le (Heap.lt_size e) (I.ok.cab x c hfn hc)))).trans (I.base.keep b o e n hb hx)
  ·obtain ⟨sl,e1⟩:=I.base.slot b o e n hb hx;exact ⟨sl,(hs.2 b (Nat.ne_of_lt (Nat.lt_of_lt_of_le (Heap.lt_size e) (I.ok.cab x c hfn hc)))).trans e1⟩
  ·obtain ⟨o',e1⟩:=I.base.there b o e hx;exact ⟨o',(hs.2 b (Nat.ne_of_lt (Nat.lt_of_lt_of_le (Heap.lt_size e) (I.ok.cab x c hfn hc)))).trans e1⟩
  ·by_cases hj:j = i
   ·subst hj;rw [hi] at e1; cases e1;rw [List.getElem?_set_self hiσ] at e2;cases e2;exact ⟨u,r,.inr ⟨.inl hk,c,hc,hc'⟩⟩
   ·rw [List.getElem?_set_ne (Ne.symm hj)] at e2;obtain ⟨u',r',q⟩:=hl j y v' e1 e2 e3;refine ⟨u',r',?_⟩
    rcases q with q | ⟨k,c',e,z'⟩
    ·exact .inl q
    ·refine .inr ⟨k,c',e,z'.sameBut hs ?_⟩;rintro rfl;exact hj (WS hN e1 (I.ok.inj _ _ _ e hc ▸ hi))
  ·by_cases hcc:c' = c
   ·subst hcc; exact ⟨_,hc'⟩
   ·obtain ⟨w2,z2⟩:=I.cell y c' e;exact ⟨w2,z2.sameBut hs hcc⟩
  ·obtain ⟨e,n,ne,nf,d⟩:=I.pin p hp;refine ⟨(hs.2 p.1 ?_).trans e,n,ne,nf,d⟩;intro q;rw [q,hoc] at e;have q':oc = p.2:=Option.some.inj e;exact d w' (by rw [<- q']; exact hocd)
theorem UC {M:Model} {A:Around} {E:Value->Shared->Prop} {i:Nat} {x:Str} {v:V} {u:Value} {Q:Unit->Shared->Prop} (I:Inv X pins Z H s) (hN:X.N.Nodup) (hi:X.N[i]? = some x) (hx:Loc X.env.scope x) (r:RelV v u)
  (h:∀ s',Inv X pins (Z.set i (some v)) H s'->Q () s') (hf:autoParam (X.fn x = true \/ X.env.scope.names.lookup x = some .local) zz0._auto_1):wpAny M A (storeName X.env x u) Q E s:=
 Bv I hN hi hx r (λ s' I' _=>h s' I') hf
theorem Inv.Rq {s':Shared} {ch:List Addr} (I:Inv X pins Z H s) (ho:s'.os = s.os) (u:Un (frs X.stack) ch H H' s.heap s'.heap) (hok:HOk X.prog X.w H' s'.heap) (hg:AllBare s'.gens)
  (hch:∀ b ∈ ch,(b ∈ X.ex \/ X.s₀.heap.objs.size <= b) /\ b ≠ X.env.locals /\ (∀ x c,X.env.cells.lookup x = some c->c ≠ b) /\ ∀ p ∈ X.pn ++ pins,p.1 ≠ b):Inv X pins Z H' s':=by
 obtain ⟨h',g',d',t',o'⟩:=s';have e:o' = s.os:=ho;subst e;exact I.call (g':=g') (t':=t') (d':=d') u hok hg hch
end
abbrev XK:=Value->Option Addr->Hp->Prop
abbrev St:=List (Option V)
abbrev VK:=V->Hp->Prop
abbrev TE:=St->Hp->VK->Prop
abbrev TT:=St->Hp->(Bool->Hp->Prop)->Prop
abbrev TA:=St->Hp->(List V->Hp->Prop)->Prop
structure Ends where
 nx:St->Hp->Prop
 rt:VK
 bk:St->Hp->Prop:=λ _ _=>False
 ct:St->Hp->Prop:=λ _ _=>False
abbrev TS:=Ends->St->Hp->Prop
def EP (X:Cx) (pins:List (Addr × Obj)) (Z:St) (Q:VK) (u:Value) (s':Shared):Prop:=∃ v H',Inv X pins Z H' s' /\ RelV v u /\ Q v H'
def TP (X:Cx) (pins:List (Addr × Obj)) (Z:St) (Q:Bool->Hp->Prop) (b:Bool) (s':Shared):Prop:=∃ H',Inv X pins Z H' s' /\ Q b H'
def AP (X:Cx) (pins:List (Addr × Obj)) (Z:St) (Q:List V->Hp->Prop) (us:List Value) (s':Shared):Prop:=∃ vs H',Inv X pins Z H' s' /\ Vals vs us /\ Q vs H'
def SP (X:Cx) (pins:List (Addr × Obj)) (D:Ends) (f:Flow) (s':Shared):Prop:=
 match f with
 | .next=>∃ σ' H',Inv X pins σ' H' s' /\ D.nx σ' H'
 | .brk=>∃ σ' H',Inv X pins σ' H' s' /\ D.bk σ' H'
 | .cont=>∃ σ' H',Inv X pins σ' H' s' /\ D.ct σ' H'
 | .ret u=>∃ v σ' H',Inv X pins σ' H' s' /\ RelV v u /\ D.rt v H'
def PE (X:Cx) (e:Expr) (t:TE):Prop:=
 ∀ (pins:List (Addr × Obj)) (s:Shared) (Z:St) (H:Hp) (Q:VK),Inv X pins Z H s->t Z H Q->wpAny (model X.prog X.w) X.A (eval e X.env) (EP X pins Z Q) X.xe s
def PT (X:Cx) (e:Expr) (t:TT):Prop:=
 ∀ (pins:List (Addr × Obj)) (s:Shared) (Z:St) (H:Hp) (Q:Bool->Hp->Prop),Inv X pins Z H s->t Z H Q->wpAny (model X.prog X.w) X.A (isTrue e X.env (eval e X.env)) (TP X pins Z Q) X.xe s
def PW (X:Cx) (e:Expr) (t:TT):Prop:=
 ∀ (whole:Sem Value) (pins:List (Addr × Obj)) (s:Shared) (Z:St) (H:Hp) (Q:Bool->Hp->Prop),Inv X pins Z H s->t Z H Q->wpAny (model X.prog X.w) X.A (isTrue e X.env whole) (TP X pins Z Q) X.xe s
theorem PW.pt {X:Cx} {e:Expr} {t:TT} (h:PW X e t):PT X e t:=h _
def PA (X:Cx) (es:List Expr) (t:TA):Prop:=
 ∀ (pos:Pos) (pins:List (Addr × Obj)) (s:Shared) (Z:St) (H:Hp) (Q:List V->Hp->Prop),Inv X pins Z H s->t Z H Q->wpAny (model X.prog X.w) X.A (spliced (backTo pos (starEach es X.env))) (AP X pins Z Q) X.xe s
def PS (X:Cx) (st:Stmt) (t:TS):Prop:=
 ∀ (pins:List (Addr × Obj)) (s:Shared) (Z:St) (H:Hp) (D:Ends),Inv X pins Z H s->t D Z H->wpAny (model X.prog X.w) X.A (exec st X.env) (SP X pins D) X.xe s
def PSs (X:Cx) (st:List Stmt) (t:TS):Prop:=
 ∀ (pins:List (Addr × Obj)) (s:Shared) (Z:St) (H:Hp) (D:Ends),Inv X pins Z H s->t D Z H->wpAny (model X.prog X.w) X.A (execs st X.env) (SP X pins D) X.xe s
theorem thn {α:Type} {t:Sem α} {Q Q':α->Shared->Prop} {M:Model} {A:Around} {E:Value->Shared->Prop} {s:Shared} (h:wpAny M A t Q E s) (hQ:∀ a s,Q a s->Q' a s):wpAny M A t Q' E s:=wpAny_mono h hQ λ _ _ x=>x
section
variable {X:Cx}
def ZdE (i:Nat):TE:=λ Z H Q=>∃ v,Z[i]? = some (some v) /\ Q v H
def tC (v:V):TE:=λ _ H Q=>Q v H
theorem Lk {i:Nat} {x:Str} {pos:Pos} (hN:X.N[i]? = some x) (hv:Vis X.env.scope x) (hd:autoParam ((x == ("__debug__" : Str)) = false) zz1._auto_1) (hcd:autoParam ((x == ("__classdict__" : Str)) = false) zz1._auto_1):PE X (.Name x pos) (ZdE i):=by
 intro pins s Z H Q I h;obtain ⟨v,e,h⟩:=h;obtain ⟨m,hn,hl⟩:=I.loc;obtain ⟨u,r,l⟩:=hl i x v hN e hv;have fin:EP X pins Z Q u s:=⟨v,H,I,r,h⟩
 rcases l with ⟨hk,hm⟩ | ⟨hk,c,hc,hcell⟩
 ·exact wpAny_Name (wpAny_loadName_local I.ok.kind hk hn hm fin) hd
 ·rcases hk with hk | hk
  ·exact wpAny_Name (wpAny_loadName_cell I.ok.kind hk hc hcell fin) hd
  ·exact wpAny_Name (wpAny_loadName_free I.ok.kind hk hc hcell fin hcd) hd
theorem S1 {i j pos}:PE X (.Constant (.int i) j pos) (tC (.int i)):=λ _ _ _ H _ I h=>wpAny_Constant_int ⟨.int i,H,I.tok _,⟨_,rfl⟩,h⟩
theorem Zb7 {b j pos}:PE X (.Constant (.bool b) j pos) (tC (.bl b)):=λ _ _ _ H _ I h=>Constant_bool ⟨.bl b,H,I,rfl,h⟩
theorem R6 {j pos}:PE X (.Constant .none j pos) (tC .non):=λ _ _ _ H _ I h=>Constant_none ⟨.non,H,I,rfl,h⟩
theorem Lf {x j pos}:PE X (.Constant (.str x) j pos) (tC (.str x)):=λ _ _ _ H _ I h=>Calls.Constant_str ⟨.str x,H,I.tok _,⟨_,rfl⟩,h⟩
def Gl (X:Cx) (x:Str):Prop:=X.env.kindOf x = some .globalImplicit
theorem Cf {E:Value->Shared->Prop} {pins:List (Addr × Obj)} {s:Shared} {Z:St} {H:Hp} {x:Str} {u:Value} {pos:Pos} {Q:Value->Shared->Prop} (I:Inv X pins Z H s) (hg:Gl X x) (hm:X.mg x = some u) (h:Q u s)
  (hd:autoParam ((x == ("__debug__" : Str)) = false) zz1._auto_1):wpAny (model X.prog X.w) X.A (eval (.Name x pos) X.env) Q E s:=
 Calls.Name_function_global I.ok.kind hg (Calls.loadGlobal_global (by rw [I.ok.glob]; exact I.mod.glob.keeps I.bk) hm h) hd
theorem Ci {E:Value->Shared->Prop} {pins:List (Addr × Obj)} {s:Shared} {Z:St} {H:Hp} {x:Str} {u:Value} {pos:Pos} {Q:Value->Shared->Prop} (I:Inv X pins Z H s) (hg:Gl X x) (hm:X.mg x = none) (hv:bootBuiltins x = some u) (h:Q u s)
  (hn:autoParam (x ≠ "__name__") zz1._auto_1) (hd:autoParam ((x == ("__debug__" : Str)) = false) zz1._auto_1):wpAny (model X.prog X.w) X.A (eval (.Name x pos) X.env) Q E s:=by
 obtain ⟨mb,h1,h2⟩:=I.mod.blt;exact Calls.Name_function_global I.ok.kind hg (Calls.loadGlobal_builtin (by rw [I.ok.glob]; exact I.mod.glob.keeps I.bk) hm (by rw [I.ok.blt]; exact h1.keeps I.bk) ((h2 x hn).trans hv) h) hd
theorem NB {x:Str} {v:V} {u:Value} {pos:Pos} (hg:Gl X x) (hm:X.mg x = some u) (r:RelV v u) (hd:autoParam ((x == ("__debug__" : Str)) = false) zz1._auto_1):PE X (.Name x pos) (tC v):=
 λ _ _ _ H _ I h=>Cf I hg hm ⟨v,H,I,r,h⟩ hd
variable {a b:Expr} {ta tb:TE} {pos:Pos}
def tB (t:TE):TT:=λ Z H Q=>t Z H λ x H1=>∃ c,x = .bl c /\ Q c H1
theorem P5 {e:Expr} {t:TE} (h:PE X e t) (he:autoParam (∀ whole,isTrue e X.env whole = (do let v <- whole; standAt e.pos; holding [v] (truthy v))) zz2._auto_1):PT X e (tB t):=by
 intro pins s Z H Q I hw;refine isTrue_plain (thn (h pins s Z H _ I hw) λ v s1 ⟨x,H1,I1,r1,q1⟩=>?_) (he _);obtain ⟨d,rfl,q⟩:=q1;cases r1;exact wpAny_truthy_bool ⟨H1,I1,q⟩
variable {tA tB':TT} {rest:List Expr}
def ZdH (t u:TT):TT:=λ Z H Q=>t Z H λ c H1=>if c = true then u Z H1 Q else Q false H1
def tOr (t u:TT):TT:=λ Z H Q=>t Z H λ c H1=>if c = true then Q true H1 else u Z H1 Q
def ZdI (t:TT):TT:=λ Z H Q=>t Z H λ c H1=>Q (!c) H1
theorem NJ (ha:PT X a tA):PW X (.BoolOp .And [a] pos) tA:=by
 intro wh pins s Z H Q I h;refine isTrue_and (thn (ha pins s Z H Q I h) λ c s1 e=>?_);cases c with
 | true=>exact isTrue_and_nil e
 | false=>exact e
theorem PC (ha:PT X a tA):PW X (.BoolOp .Or [a] pos) tA:=by
 intro wh pins s Z H Q I h;refine isTrue_or (thn (ha pins s Z H Q I h) λ c s1 e=>?_);cases c with
 | false=>exact isTrue_or_nil e
 | true=>exact e
theorem Tn (ha:PT X a tA) (hb:PW X (.BoolOp .And (b :: rest) pos) tB'):PW X (.BoolOp .And (a :: b :: rest) pos) (ZdH tA tB'):=by
 intro wh pins s Z H Q I h;refine isTrue_and (thn (ha pins s Z H _ I h) λ c s1 ⟨H1,I1,q1⟩=>?_);cases c with
 | true=>exact hb wh pins s1 Z H1 Q I1 q1
 | false=>exact ⟨H1,I1,q1⟩
theorem ZbX (ha:PT X a tA) (hb:PW X (.BoolOp .Or (b :: rest) pos) tB'):PW X (.BoolOp .Or (a :: b :: rest) pos) (tOr tA tB'):=by
 intro wh pins s Z H Q I h;refine isTrue_or (thn (ha pins s Z H _ I h) λ c s1 ⟨H1,I1,q1⟩=>?_);cases c with
 | true=>exact ⟨H1,I1,q1⟩
 | false=>exact hb wh pins s1 Z H1 Q I1 q1
theorem TM (ha:PT X a tA):PT X (.UnaryOp .Not a pos) (ZdI tA):=by
 intro pins s Z H Q I h;exact isTrue_not (ha pins s Z H (λ c H1=>Q (!c) H1) I h)
def ZaT (ta tb:TE):TE:=λ Z H Q=>ta Z H λ x H1=>∃ c,x = .bl c /\ if c = true then tb Z H1 Q else Q (.bl false) H1
theorem Tr {op} {t:TE} (h:PE X a t):PE X (.BoolOp op [a] pos) t:=λ pins s Z H Q I hw=>BoolOp_one (h pins s Z H Q I hw)
theorem Tf (ha:PE X a ta) (hb:PE X (.BoolOp .And (b :: rest) pos) tb):PE X (.BoolOp .And (a :: b :: rest) pos) (ZaT ta tb):=by
 intro pins s Z H Q I h;refine BoolOp_and (thn (ha pins s Z H _ I h) λ v s1 ⟨x,H1,I1,r1,q1⟩=>?_);obtain ⟨c,rfl,q1⟩:=q1;cases r1;refine wpAny_truthy_bool ?_;cases c with
 | true=>exact hb pins s1 Z H1 Q I1 q1
 | false=>exact ⟨.bl false,H1,I1,rfl,q1⟩
end
end L2
open PySem PySem.Spec PyProof.Rows L2
variable {H H':Hp} {K:Fj} {n i m j base:Nat} {a p b q f:Addr} {x qual:Str} {d:PyData} {s:Shared} {pos p2:Pos} {v y:V} {pins:List (Addr × Obj)} {w:World} {X:Cx} {h:Heap} {ds l:List PyData} {Z:L2.St} {e tg iter elt:Expr} {P:Program} {xs vs:List V} {N:List Str} {scope:Scope} {u:Value} {kvs:List (Key × V)} {ix:List (Option Nat)} {A:Around} {fd:FuncData} {Q:Value->Shared->Prop} {us:List Value} {env:Env} {st:Stmt} {ifs:List Expr} {mg:Str->Option Value}
namespace L2
def SqL (K:Fj) (H:Hp) (a:Addr) (xs:List V):Prop:=
 Rd H a (.lst xs) \/
  ∃ (o:Obj) (its:Array Value) (n:Nat),K.lookup a = some o /\ o.cls = .type "list" /\ o.dict = none /\ o.data = .seq its n /\ its.size <= sizeLine /\ Vals xs its.toList
def SqT (K:Fj) (H:Hp) (a:Addr) (xs:List V):Prop:=
 Rd H a (.tup xs) \/
  ∃ (o:Obj) (its:Array Value) (n:Nat),K.lookup a = some o /\ o.cls = .type "tuple" /\ o.data = .seq its n /\ its.size <= sizeLine /\ Vals xs its.toList
noncomputable def Zds:Value->Option V
 | .none=>some .non
 | .bool b=>some (.bl b)
 | .int i _=>some (.int i)
 | .str x _=>some (.str x)
 | .bytes b _=>some (.byt b)
 | .float b _=>some (.flt b)
 | .ref a=>some (.ref a)
 | .type n=>some (.ty n)
 | _=>none
theorem RelV.abs {x:V} (r:RelV x u):Zds u = some x:=by
 cases x with
 | non=>cases r; rfl
 | bl _=>cases r; rfl
 | int _=>obtain ⟨t,rfl⟩:=r; rfl
 | str _=>obtain ⟨t,rfl⟩:=r; rfl
 | byt _=>obtain ⟨t,rfl⟩:=r; rfl
 | flt _=>obtain ⟨t,rfl⟩:=r; rfl
 | ref _=>cases r; rfl
 | ty _=>cases r; rfl
theorem RelV.inj {x:V} (r:RelV x u) (q:RelV y u):x = y:=Option.some.inj (r.abs.symm.trans q.abs)
theorem Vals.inj:∀ {xs ys:List V} {us:List Value},Vals xs us->Vals ys us->xs = ys
 | _,_,_,.nil,.nil=>rfl
 | _,_,_,.cons r t,.cons r' t'=>by rw [r.inj r',Vals.inj t t']
section
variable {ys:List V}
theorem SqL.of (h:H a = some (.lst xs)):SqL K H a xs:=.inl (.inl h)
theorem SqT.of (h:H a = some (.tup xs)):SqT K H a xs:=.inl (.inl h)
theorem Inv.list (I:Inv X pins Z H s) (h:SqL X.K H a xs):∃ its:List Value,Vals xs its /\ PlainL s.heap a its.toArray /\ xs.length <= sizeLine:=by
 rcases h with h | ⟨o,its,n,hk,hc,hd,hs,hz,r⟩
 ·obtain ⟨z,its,n,r,e⟩:=h.ok I.hok;exact ⟨its,r,⟨_,n,e,rfl,rfl,rfl⟩,z⟩
 ·refine ⟨its.toList,r,⟨o,n,I.kIn a o hk,hc,hd,by simpa using hs⟩,?_⟩;have e:=r.length;simp only [Array.length_toList] at e;lia
theorem Inv.tuple (I:Inv X pins Z H s) (h:SqT X.K H a xs):∃ its:List Value,Vals xs its /\ IsTup s.heap a its.toArray /\ xs.length <= sizeLine:=by
 rcases h with h | ⟨o,its,n,hk,hc,hs,hz,r⟩
 ·obtain ⟨z,its,r,p⟩:=h.ok I.hok;exact ⟨its,r,p,z⟩
 ·refine ⟨its.toList,r,⟨o,I.kIn a o hk,hc,n,by simpa using hs⟩,?_⟩;have e:=r.length;simp only [Array.length_toList] at e;lia
theorem Inv.Ed (I:Inv X pins Z H s) (h:SqL X.K H a xs) (h':SqL X.K H a ys):xs = ys:=by
 obtain ⟨its,r,⟨o,n,e,_,_,d⟩,_⟩:=I.list h;obtain ⟨its',r',⟨o',n',e',_,_,d'⟩,_⟩:=I.list h';rw [e] at e'; cases e';rw [d] at d'
 injection d' with d1 _
 have:its = its':=by simpa using congrArg Array.toList d1
 subst this;exact r.inj r'
end
noncomputable abbrev Cx.DN (X:Cx) (E:Value->Shared->Prop):Cx:={ X with xe:=E }
noncomputable abbrev Cx.nox (X:Cx):Cx:=X.DN λ _ _=>False
theorem Cx.Ok.DN (ok:X.Ok) (E:Value->Shared->Prop):(X.DN E).Ok:=
 ⟨ok.mod,ok.kind,ok.glob,ok.blt,ok.above,ok.inj,ok.has,ok.cab,ok.hd,ok.frames,ok.stk,ok.exf,ok.bs,ok.bsz,ok.noex,ok.exfs,ok.GQ,ok.frf⟩
theorem Cx.Ok.JO {E:Value->Shared->Prop} (ok:(X.DN E).Ok):X.Ok:=
 ⟨ok.mod,ok.kind,ok.glob,ok.blt,ok.above,ok.inj,ok.has,ok.cab,ok.hd,ok.frames,ok.stk,ok.exf,ok.bs,ok.bsz,ok.noex,ok.exfs,ok.GQ,ok.frf⟩
section
variable {E:Value->Shared->Prop}
theorem Inv.DN (I:Inv X pins Z H s) (E:Value->Shared->Prop):Inv (X.DN E) pins Z H s:=⟨I.ok.DN E,I.os,I.bare,I.base,I.loc,I.cell,I.free,I.freeC,I.pin,I.hok,I.len⟩
theorem Inv.JO (I:Inv (X.DN E) pins Z H s):Inv X pins Z H s:=⟨I.ok.JO,I.os,I.bare,I.base,I.loc,I.cell,I.free,I.freeC,I.pin,I.hok,I.len⟩
theorem SP.JO {D:Ends} {f:Flow} {s':Shared} (h:SP (X.DN E) pins D f s'):SP X pins D f s':=by
 cases f with
 | next=>obtain ⟨σ',H',I,q⟩:=h; exact ⟨σ',H',I.JO,q⟩
 | brk=>obtain ⟨σ',H',I,q⟩:=h; exact ⟨σ',H',I.JO,q⟩
 | cont=>obtain ⟨σ',H',I,q⟩:=h; exact ⟨σ',H',I.JO,q⟩
 | ret u=>obtain ⟨v,σ',H',I,r,q⟩:=h; exact ⟨v,σ',H',I.JO,r,q⟩
theorem PSs.nox {st:List Stmt} {t:TS} (h:PSs X.nox st t):PSs X st t:=λ pins s Z H D I hw=>
 wpAny_mono (h pins s Z H D (I.DN _) hw) (λ _ _ q=>q.JO) λ _ _ z=>False.elim z
end
section
variable {rest:List Stmt} {t u:TS} {te:TE}
def Zbd:TS:=λ D Z H=>D.nx Z H
def Zdd (t u:TS):TS:=λ D Z H=>t { D with nx:=u D } Z H
theorem Ph:PSs X [] Zbd:=λ _ _ Z H _ I h=>wpAny_execs_nil ⟨Z,H,I,h⟩
theorem HR (h1:PS X st t) (h2:PSs X rest u):PSs X (st :: rest) (Zdd t u):=by
 intro pins s Z H D I h;refine wpAny_execs_cons (thn (h1 pins s Z H { D with nx:=u D } I h) λ f s1 q=>?_);cases f with
 | next=>
  obtain ⟨σ',H',I',q⟩:=q;exact h2 pins s1 σ' H' D I' q
 | ret v=>exact q
 | brk=>exact q
 | cont=>exact q
theorem Mm (h1:PS X st t):PSs X [st] t:=by
 intro pins s Z H D I h;refine wpAny_execs_cons (thn (h1 pins s Z H D I h) λ f s1 q=>?_);cases f with
 | next=>exact wpAny_execs_nil q
 | ret v=>exact q
 | brk=>exact q
 | cont=>exact q
theorem Inv.quiet (I:Inv X pins Z H s):interactive X.env = false:=by simp [interactive,I.ok.kind]
def ZbR (te:TE):TS:=λ D Z H=>te Z H λ _ H1=>D.nx Z H1
theorem MF (he:PE X e te) (hs:autoParam (swapsWith e none pos.line X.env = pure false) zz3._auto_1):PS X (.Expr e pos) (ZbR te):=by
 intro pins s Z H D I h;exact wpAny_Expr_any (thn (he pins s Z H _ I h) λ v s1 ⟨x,H1,I1,r1,q1⟩=>⟨Z,H1,I1,q1⟩) I.quiet hs
def ZdP (te:TE):TS:=λ D Z H=>te Z H D.rt
theorem Ss (he:PE X e te):PS X (.Return (some e) pos) (ZdP te):=by
 intro pins s Z H D I h;exact wpAny_Return_some (thn (he pins s Z H _ I h) λ v s1 ⟨x,H1,I1,r1,q1⟩=>⟨x,Z,H1,I1,r1,q1⟩)
def Zdf (c:TT) (t u:TS):TS:=λ D Z H=>c Z H λ b H1=>if b = true then t D Z H1 else u D Z H1
theorem Za9 {c:Expr} {a b:List Stmt} {tc:TT} (hc:PT X c tc) (ha:PSs X a t) (hb:PSs X b u):PS X (.If c a b pos) (Zdf tc t u):=by
 intro pins s Z H D I h;refine wpAny_If (thn (hc pins s Z H _ I h) λ d s1 ⟨H1,I1,q1⟩=>?_);cases d with
 | true=>exact ha pins s1 Z H1 D I1 q1
 | false=>exact hb pins s1 Z H1 D I1 q1
end
abbrev TG:=V->St->Hp->(St->Hp->Prop)->Prop
abbrev TGs:=List V->St->Hp->(St->Hp->Prop)->Prop
def PG (X:Cx) (target:Expr) (t:TG):Prop:=
 ∀ (pins:List (Addr × Obj)) (s:Shared) (Z:St) (H:Hp) (v:V) (u:Value) (Q:St->Hp->Prop),Inv X pins Z H s->RelV v u->t v Z H Q ->
  wpAny (model X.prog X.w) X.A (assign target X.env u) (λ _ s'=>∃ σ' H',Inv X pins σ' H' s' /\ Q σ' H') X.xe s
def PGs (X:Cx) (ts:List Expr) (t:TGs):Prop:=
 ∀ (pins:List (Addr × Obj)) (s:Shared) (Z:St) (H:Hp) (vs:List V) (us:List Value) (Q:St->Hp->Prop),Inv X pins Z H s->Vals vs us->t vs Z H Q ->
  wpAny (model X.prog X.w) X.A (assignInOrder ((assignEach ts X.env).map (·.2)) us) (λ _ s'=>∃ σ' H',Inv X pins σ' H' s' /\ Q σ' H') X.xe s
abbrev Zcp:=V->V->V->Hp->(Hp->Prop)->Prop
def Zc4 (X:Cx) (t:Zcp):Prop:=
 ∀ (pins:List (Addr × Obj)) (s:Shared) (Z:St) (H:Hp) (o i v:V) (ov iv u:Value) (Q:Hp->Prop),Inv X pins Z H s->RelV o ov->RelV i iv->RelV v u->t o i v H Q ->
  wpAny (model X.prog X.w) X.A (setItem ov iv u) (λ _ s'=>∃ H',Inv X pins Z H' s' /\ Q H') X.xe s
def RL (i:Nat):TG:=λ v Z H Q=>Q (Z.set i (some v)) H
theorem GA (hN:X.N.Nodup) (hi:X.N[i]? = some x) (hx:Loc X.env.scope x) (hf:autoParam (X.fn x = true \/ X.env.scope.names.lookup x = some .local) zz0._auto_1):PG X (.Name x pos) (RL i):=by
 intro pins s Z H v u Q I r h;exact wpAny_assign_Name (UC I hN hi hx r (λ s' I'=>⟨_,H,I',h⟩) hf)
def Zdy:TGs:=λ vs Z H Q=>vs = [] /\ Q Z H
def Zbq (t:TG) (u:TGs):TGs:=λ vs Z H Q=>∃ v r,vs = v :: r /\ t v Z H λ σ' H'=>u r σ' H' Q
theorem MA:PGs X [] Zdy:=by
 intro pins s Z H vs us Q I r h;obtain ⟨e,h⟩:=h;subst e;cases r;exact assignInOrder_nil ⟨Z,H,I,h⟩
theorem Fw {es:List Expr} {t:TG} {u:TGs} (h1:PG X e t) (h2:PGs X es u)
  (hs:autoParam ((assignEach (e :: es) X.env).map (·.2) = assign e X.env :: (assignEach es X.env).map (·.2)) zz3._auto_1):PGs X (e :: es) (Zbq t u):=by
 intro pins s Z H vs us Q I r h;obtain ⟨v,vr,e1,h⟩:=h;subst e1;cases r with
 | cons r rr=>
  rw [hs];refine assignInOrder_cons (thn (h1 pins s Z H _ _ _ I r h) λ _ s1 ⟨σ1,H1,I1,q1⟩=>?_);exact h2 pins s1 σ1 H1 _ _ Q I1 rr q1
def Zdh (K:Fj) (n:Nat) (t:TGs):TG:=λ v Z H Q=>∃ a xs,v = .ref a /\ SqT K H a xs /\ xs.length = n /\ t xs Z H Q
theorem SW {es:List Expr} {k:Nat} {t:TGs} {n:Nat} (hc:X.calm = true) (h:PGs X es t)
  (hn:autoParam ((assignEach es X.env).length = n) zz3._auto_1) (hst:autoParam ((assignEach es X.env).findIdx? (·.1) = none) zz3._auto_1):PG X (.Tuple es k pos) (Zdh X.K n t):=by
 intro pins s Z H v u Q I r hw;obtain ⟨a,xs,e1,hq,hl,hw⟩:=hw;subst e1;cases r;obtain ⟨its,rv,ht,hz⟩:=I.tuple hq;refine assign_Tuple_tuple (I.ok.hd hc) ht (by simp [hn,<- hl,rv.length]) hst λ h' hx=>?_;have I1:Inv X pins Z H { s with heap:=h' }:=I.kept (t':=s.toks) λ b o e=>hx b o (Nat.ne_of_lt (Heap.lt_size e)) e;exact h pins _ Z H xs _ Q I1 (by simpa using rv) hw
def Zdx (to ti:TE) (t:Zcp):TG:=λ v Z H Q=>to Z H λ o H1=>ti Z H1 λ i H2=>t o i v H2 λ H3=>Q Z H3
theorem Rn {o i:Expr} {to ti:TE} {t:Zcp} (ho:PE X o to) (hi:PE X i ti) (hs:Zc4 X t)
  (ha:∀ v,assign (.Subscript o i pos) X.env v = (do
   let ov <- holding [v] (eval o X.env)
   let iv <- holding [v,ov] (eval i X.env)
   standAt pos
   holding [v,ov,iv] (setItem ov iv v)
   release [v,ov,iv] []):=by intro _; rfl):PG X (.Subscript o i pos) (Zdx to ti t):=by
 intro pins s Z H v u Q I r h;rw [ha];refine wpAny_bind (wpAny_holding (thn (ho pins s Z H _ I h) λ ov s1 ⟨x,H1,I1,r1,q1⟩=>?_));refine wpAny_bind (wpAny_holding (thn (hi pins s1 Z H1 _ I1 q1) λ iv s2 ⟨y,H2,I2,r2,q2⟩=>?_));refine wpAny_bind (wpAny_standAt (wpAny_bind (wpAny_holding (thn (hs pins s2 Z H2 x y v ov iv u _ I2 r1 r2 r q2) λ _ s3 ⟨H3,I3,q3⟩=>?_))));exact wpAny_release ⟨Z,H3,I3,q3⟩
def Zc3 (te:TE) (g:TG):TS:=λ D Z H=>te Z H λ x H1=>g x Z H1 D.nx
theorem Pz {te:TE} {g:TG} (he:PE X e te) (hg:PG X tg g) (hs:autoParam (swapsWithSole [tg] e pos.line X.env = pure false) zz3._auto_1) (hw:autoParam (swappedStores [tg] e X.env = pure none) zz3._auto_1)
  (h1:autoParam ((assignEach [tg] X.env).map (·.2) = [assign tg X.env]) zz3._auto_1):PS X (.Assign [tg] e pos) (Zc3 te g):=by
 intro pins s Z H D I h;refine wpAny_Assign_stores (thn (he pins s Z H _ I h) λ v s1 ⟨x,H1,I1,r1,q1⟩=>?_) hs hw;rw [h1];exact thn (hg pins s1 Z H1 x v _ I1 r1 q1) λ _ s2 q=>q
theorem Sq {te:TE} {pos':Pos} (hN:X.N.Nodup) (hi:X.N[i]? = some x) (hx:Loc X.env.scope x) (he:PE X e te) (hs:autoParam (swapsWith e (some (.Name x pos')) pos.line X.env = pure false) zz3._auto_1) (hf:autoParam (X.fn x = true \/ X.env.scope.names.lookup x = some .local) zz0._auto_1) :
  PS X (.Assign [.Name x pos'] e pos) (Zc3 te (RL i)):=by
 intro pins s Z H D I h;refine wpAny_Assign_Name (thn (he pins s Z H _ I h) λ v s1 ⟨y,H1,I1,r1,q1⟩=>?_) hs;exact UC I1 hN hi hx r1 (λ s2 I2=>⟨_,H1,I2,q1⟩) hf
def Ta (c:TT) (tb:TS):TS:=λ D Z H=>∃ W:Nat->St->Hp->Prop,(∃ m,W m Z H) /\ ∀ m Z H,W m Z H ->
 c Z H λ b H1=>if b = true then ∃ N:St->Hp->Prop,(∀ σ' H',N σ' H'->∃ m',m' < m /\ W m' σ' H') /\ tb { D with nx:=N,ct:=N,bk:=D.nx } Z H1 else D.nx Z H1
theorem E2 {c:Expr} {body:List Stmt} {tc:TT} {tb:TS} (hp:PassesOwn (model X.prog X.w) X.A X.env X.xe) (hc:PT X c tc) (hb:PSs X body tb):PS X (.While c body [] pos) (Ta tc tb):=by
 intro pins s Z H D I h;obtain ⟨W,⟨m0,w0⟩,turn⟩:=h;refine wpAny_While (codeAny_whileLoop (λ n s'=>∃ σ' H',Inv X pins σ' H' s' /\ W n σ' H') ?_ m0 ⟨Z,H,I,w0⟩);rintro n s1 ⟨σ1,H1,I1,w1⟩;refine wpAny_passesOwn hp (thn (hc pins s1 σ1 H1 _ I1 (turn n σ1 H1 w1)) λ b s2 ⟨H2,I2,q2⟩=>?_);cases b with
 | true=>
  obtain ⟨N,hN,q2⟩:=q2;rw [if_pos rfl];refine wpAny_passesOwn hp (thn (hb pins s2 σ1 H2 _ I2 q2) λ f s3 q3=>?_);cases f with
  | next=>
   obtain ⟨σ3,H3,I3,n3⟩:=q3;obtain ⟨m',hm,w3⟩:=hN σ3 H3 n3;exact ⟨m',hm,σ3,H3,I3,w3⟩
  | cont=>
   obtain ⟨σ3,H3,I3,n3⟩:=q3;obtain ⟨m',hm,w3⟩:=hN σ3 H3 n3;exact ⟨m',hm,σ3,H3,I3,w3⟩
  | brk=>exact q3
  | ret v=>exact q3
 | false=>
  rw [if_neg Bool.false_ne_true];exact wpAny_execs_nil ⟨σ1,H2,I2,q2⟩
structure It where
 go:Nat->Hp->Prop
 yld:Nat->Hp->V->Hp->Prop
 stop:Nat->Hp->Prop
def BK (X:Cx) (pins:List (Addr × Obj)) (H:Hp) (b:Addr):Prop:=
 H b = none /\ b ≠ X.env.locals /\ b ∉ X.fs /\ (b ∈ X.ex \/ X.s₀.heap.objs.size <= b) /\ (∀ x c,X.env.cells.lookup x = some c->c ≠ b) /\ ∀ p ∈ X.pn ++ pins,p.1 ≠ b
theorem Inv.Zcc (I:Inv X pins Z H s) (hb:s.heap.objs.size <= b) (hn:H' b = none):BK X pins H' b:=by
 refine ⟨hn,Nat.ne_of_gt (Nat.lt_of_lt_of_le I.lt hb),I.ZdA hb,.inr (Nat.le_trans I.sz hb),λ x c e z=>?_,λ p hp z=>?_⟩
 ·obtain ⟨v,q⟩:=I.cell x c e;exact absurd (Nat.lt_of_lt_of_le q.lt (by rw [z]; exact hb)) (Nat.lt_irrefl _)
 ·exact absurd (Nat.lt_of_lt_of_le (Heap.lt_size (I.pin p hp).1) (by rw [z]; exact hb)) (Nat.lt_irrefl _)
structure Turn (P:Program) (w:World) (K:Fj) (tg:Expr) (J:It) (fp:List Addr) (it:Addr) (tn:Nat->Heap->Prop):Prop where
 mem:it ∈ fp
 obj:∀ i h,tn i h->∀ b ∈ fp,∃ o,h.get? b = some o /\ ∀ v,o.data ≠ .cell v
 keep:∀ i h h',tn i h->(∀ b ∈ fp,∀ o,h.get? b = some o->h'.get? b = some o)->tn i h'
 item:∀ (X:Cx),X.prog = P->X.w = w->X.K = K->X.calm = true->∀ (i:Nat) (pins:List (Addr × Obj)) (s:Shared) (Z:St) (H:Hp) (E:Value->Shared->Prop),Inv X pins Z H s->(∀ b ∈ fp,BK X pins H b)->tn i s.heap->J.go i H ->
  wpAny (model P w) X.A (pyNext (.ref it)) (λ r s1=>∃ u,r = some u /\
   wpAny (model P w) X.A (letOwnedTupleGo tg (.ref it) u) (λ _ s2=>∃ x H',Inv X pins Z H' s2 /\ RelV x u /\ J.yld i H x H' /\ tn (i + 1) s2.heap /\ ∀ b ∈ fp,H' b = none) E s1) E s
 done:∀ (X:Cx),X.prog = P->X.w = w->X.K = K->X.calm = true->∀ (i:Nat) (pins:List (Addr × Obj)) (s:Shared) (Z:St) (H:Hp) (E:Value->Shared->Prop),Inv X pins Z H s->(∀ b ∈ fp,BK X pins H b)->tn i s.heap->J.stop i H ->
  wpAny (model P w) X.A (pyNext (.ref it)) (λ r s1=>r = none /\ Inv X pins Z H s1) E s
 self:∀ (A:Around) (i:Nat) (s:Shared) (Q:Value->Shared->Prop) (E:Value->Shared->Prop),tn i s.heap->Q (.ref it) s->wpAny (model P w) A (pyIter (.ref it)) Q E s
abbrev TI:=St->Hp->(It->Hp->Prop)->Prop
def PIE (X:Cx) (pins:List (Addr × Obj)) (Z:St) (tg:Expr) (R:It->Hp->Prop) (itv:Value) (s2:Shared):Prop:=
 ∃ (it:Addr) (fp:List Addr) (tn:Nat->Heap->Prop) (J:It) (H':Hp),itv = .ref it /\ Inv X pins Z H' s2 /\ Turn X.prog X.w X.K tg J fp it tn /\ tn 0 s2.heap /\ (∀ b ∈ fp,BK X pins H' b) /\ R J H'
def PI (X:Cx) (tg iter:Expr) (wi:TI):Prop:=
 ∀ (pins:List (Addr × Obj)) (s:Shared) (Z:St) (H:Hp) (R:It->Hp->Prop),Inv X pins Z H s->wi Z H R ->
  wpAny (model X.prog X.w) X.A (eval iter X.env) (λ v s1=>wpAny (model X.prog X.w) X.A (pyIter v) (PIE X pins Z tg R) X.xe s1) X.xe s
theorem SQ {M:Model} {A:Around} {E:Value->Shared->Prop} {tg:Expr} {it:Addr} {u:Value} {o:Obj} {n:String} {vs:Array Value} {Q:Unit->Shared->Prop} (ho:s.heap.get? it = some o) (hc:o.cls = .type n) (hd:o.data = .fields vs)
    (hn:["enumerate", "zip", "dict_itemiterator", "dict_reverseitemiterator", "odict_iterator", "itertools.zip_longest", "itertools.pairwise"].contains n = false) (hQ:Q () s):wpAny M A (letOwnedTupleGo tg (.ref it) u) Q E s:=by
  unfold letOwnedTupleGo;cases tg <;> first
    | exact wpAny_pure hQ
    | (cases u <;> first
        | exact wpAny_pure hQ
        | (refine wpAny_bind (wpAny_load ho ?_)
           rw [hc,hd];show wpAny M A (if (["enumerate", "zip", "dict_itemiterator", "dict_reverseitemiterator", "odict_iterator", "itertools.zip_longest", "itertools.pairwise"].contains n && vs[0]? == some (rawInt _)) = true then _ else _) Q E s;rw [if_neg (by intro h; rw [hn,Bool.false_and] at h; cases h)]
           exact wpAny_pure hQ))
noncomputable def Itl (K:Fj) (a:Addr):It:=
 ⟨λ i H=>∃ xs x,SqL K H a xs /\ xs[i]? = some x,λ i H x H'=>H' = H /\ ∀ xs,SqL K H a xs->xs[i]? = some x,λ i H=>∃ xs,SqL K H a xs /\ xs.length <= i⟩
noncomputable def Itr (lo:Int) (n:Nat):It:=⟨λ i _=>i < n,λ i H x H'=>H' = H /\ x = .int (lo + i),λ i _=>n <= i⟩
theorem BR (a it:Addr):Turn P w K tg (Itl K a) [it] it (λ i h=>h.IsListIter it a i) where
 mem:=by simp
 obj:=λ i h st b hb=>by
  have e:b = it:=by simpa using hb
  subst e;obtain ⟨o,e,c,d⟩:=st;exact ⟨o,e,λ v z=>by rw [d] at z; cases z⟩
 keep:=λ i h h' st k=>st.at λ o e=>k it (by simp) o e
 item:=by
  intro X hP hw hK hc i pins s Z H E I hf st hg;subst hP hw hK;obtain ⟨xs,x,hq,hx⟩:=hg;obtain ⟨its,rv,p,hz⟩:=I.list hq;obtain ⟨u,hu,ru⟩:=rv.get hx;obtain ⟨f0,f1,f2,f3,f4,f5⟩:=hf it (by simp);refine wpAny_pyNext_list_item st p.isList (x:=u) (by simpa using hu) λ h' st' sb=>?_;have I1:Inv X pins Z H { s with heap:=h' }:=I.turned (t':=s.toks) (λ b o hb e=>(sb.2 b hb).trans e) f0 f1 f3 f4 f5;obtain ⟨o,e,c,d⟩:=id st';exact ⟨u,rfl,SQ (s:={ s with heap:=h' }) e c d (by decide) ⟨x,H,I1,ru,⟨rfl,λ ys hy=>by rw [I.Ed hy hq]; exact hx⟩,st',λ b hb=>(hf b hb).1⟩⟩
 done:=by
  intro X hP hw hK hc i pins s Z H E I hf st hg;subst hP hw hK;obtain ⟨xs,hq,hx⟩:=hg;obtain ⟨its,rv,p,hz⟩:=I.list hq;obtain ⟨f0,f1,f2,f3,f4,f5⟩:=hf it (by simp);have hl:=rv.length;exact wpAny_pyNext_list_end (I.ok.hd hc) st p.isList (by simp; lia) λ h' eb=>⟨rfl,I.turned (t':=s.toks) (λ b o hb e=>eb b o hb e) f0 f1 f3 f4 f5⟩
 self:=λ _ _ _ _ _ st h=>wpAny_pyIter_listiter st h
theorem UY (it:Addr) (lo:Int) (n:Nat):Turn P w K tg (Itr lo n) [it] it (λ i h=>IsRangeIter h it (lo + (i:Nat) * 1) ((n:Int) - (i:Nat)) 1) where
 mem:=by simp
 obj:=λ i h st b hb=>by
  have e:b = it:=by simpa using hb
  subst e
  exact ⟨_,st,λ v z=>by
   have z':Data.fields _ = Data.cell v:=z
   cases z'⟩
 keep:=λ i h h' st k=>k it (by simp) _ st
 item:=by
  intro X hP hw hK hc i pins s Z H E I hf st hg;subst hP hw hK;obtain ⟨f0,f1,f2,f3,f4,f5⟩:=hf it (by simp);have W:=Walks.range (prog:=X.prog) (w:=X.w) (I.ok.hd hc) it lo 1 n;refine W.item i s _ _ hg st λ v h' tk hv st' kk=>?_;obtain ⟨t,rfl⟩:=hv;have I1:Inv X pins Z H { s with heap:=h',toks:=tk }:=I.turned (λ b o hb e=>kk b o (by simpa using hb) e) f0 f1 f3 f4 f5;refine ⟨_,rfl,SQ (s:={ s with heap:=h',toks:=tk }) (n := "range_iterator") st' rfl rfl (by decide) ⟨.int (lo + i),H,I1,⟨t,?_⟩,⟨rfl,rfl⟩,st',λ b hb=>(hf b hb).1⟩⟩;rw [Int.mul_one]
 done:=by
  intro X hP hw hK hc i pins s Z H E I hf st hg;subst hP hw hK;obtain ⟨f0,f1,f2,f3,f4,f5⟩:=hf it (by simp);exact wpAny_pyNext_range_end (I.ok.hd hc) st (by have:n <= i:=hg; lia) λ h' eb=>⟨rfl,I.turned (t':=s.toks) (λ b o hb e=>eb b o hb e) f0 f1 f3 f4 f5⟩
 self:=λ _ _ _ _ _ st h=>wpAny_pyIter_rangeiter st h
def ZbV (K:Fj) (tl:TE):TI:=λ Z H R=>tl Z H λ x H1=>∃ a,x = .ref a /\ (∃ xs,SqL K H1 a xs) /\ R (Itl K a) H1
theorem CW {l:Expr} {tl:TE} (hl:PE X l tl):PI X tg l (ZbV X.K tl):=by
 intro pins s Z H R I h;refine thn (hl pins s Z H _ I h) λ v s1 ⟨x,H1,I1,r1,q1⟩=>?_;obtain ⟨a,e,⟨xs,hq⟩,q⟩:=q1;subst e;cases r1;obtain ⟨its,rv,p,hz⟩:=I1.list hq;refine wpAny_pyIter_list p.isList ?_;refine ⟨s1.heap.objs.size,[s1.heap.objs.size],_,_,H1,rfl,I1.kept (t':=s1.toks) λ b o e=>Heap.get?_push_of_some _ e,BR a _,⟨_,Heap.get?_push_size _ rfl,rfl,rfl⟩,λ b hb=>?_,q⟩;have e:b = s1.heap.objs.size:=by simpa using hb
 subst e;exact I1.Zcc (Nat.le_refl _) (I1.hok.fresh (Nat.le_refl _))
theorem Fx {R:It->Hp->Prop} {E:Value->Shared->Prop} {lo hi:Int} {t u v:Tok} {tk:Nat} (I:Inv X pins Z H s) (h1:-(2 ^ 62) <= lo) (h2:lo < 2 ^ 62) (h3:-(2 ^ 62) <= hi) (h4:hi < 2 ^ 62)
  (q:R (Itr lo (hi - lo).toNat) H):wpAny (model X.prog X.w) X.A (pyIter (.ref s.heap.objs.size)) (PIE X pins Z tg R) E { s with heap:=s.heap.push { cls:=.type "range",data:=.fields #[.int lo t,.int hi u,.int 1 v] },toks:=tk }:=by
 refine wpAny_pyIter_range (IsRange.new ..) (small_one h1 h2 h3 h4) ?_;have I1:Inv X pins Z H { s with heap:=s.heap.push { cls:=.type "range",data:=.fields #[.int lo t,.int hi u,.int 1 v] },toks:=tk }:=I.kept λ b o e=>Heap.get?_push_of_some _ e
 refine ⟨(s.heap.push { cls:=.type "range",data:=.fields #[.int lo t,.int hi u,.int 1 v] }).objs.size,[(s.heap.push { cls:=.type "range",data:=.fields #[.int lo t,.int hi u,.int 1 v] }).objs.size],_,_,H,rfl,
  I1.kept (t':=tk) λ b o e=>Heap.get?_push_of_some _ e,UY _ lo (hi - lo).toNat,?_,λ b hb=>?_,q⟩
 ·have e1:lo + ((0:Nat):Int) * 1 = lo:=by simp
  have e2:(((hi - lo).toNat:Nat):Int) - ((0:Nat):Int) = Builtin.Range.rangeSize lo hi 1:=by rw [rangeSize_one]; split <;> lia
  show IsRangeIter _ _ (lo + ((0:Nat):Int) * 1) ((((hi - lo).toNat:Nat):Int) - ((0:Nat):Int)) 1;rw [e1,e2];exact Heap.get?_push_size _ rfl
 ·have e:b = (s.heap.push { cls:=.type "range",data:=.fields #[.int lo t,.int hi u,.int 1 v] }).objs.size:=by simpa using hb
  subst e;exact I1.Zcc (Nat.le_refl _) (I1.hok.fresh (Nat.le_refl _))
def Zcl (ta:TA):TI:=λ Z H R=>ta Z H λ vs H1=>∃ j:Int,vs = [.int j] /\ -(2 ^ 62) <= j /\ j < 2 ^ 62 /\ R (Itr 0 j.toNat) H1
theorem Kh {a:Expr} {ta:TA} {p:Pos} (hg:Gl X "range") (hm:X.mg "range" = none) (ha:PA X [a] ta) (hs:autoParam (starEach [a] X.env = [(false,eval a X.env)]) zz3._auto_1):PI X tg (.Call (.Name "range" p) [a] [] pos) (Zcl ta):=by
 intro pins s Z H R I h;refine Call_ (Ci I hg hm boot_range (PyProof.Rows.callWith_type1 (thn (ha pos pins s Z H _ I h) λ us s1 ⟨vs,H1,I1,r1,q1⟩=>?_) hs rfl));obtain ⟨j,e,q1,q2,q⟩:=q1;subst e;cases r1 with
 | cons r rr=>
  cases rr;obtain ⟨t,rfl⟩:=r;exact call_range_1 (Fx I1 (by lia) (by lia) q1 q2 (by simpa using q))
def ZdB (wi:TI) (g:TG) (tb:TS):TS:=λ D Z H=>wi Z H λ J H1=>∃ W:Nat->Nat->St->Hp->Prop,(∃ m,W 0 m Z H1) /\ ∀ i m Z H,W i m Z H ->
 (J.stop i H /\ D.nx Z H) \/ (J.go i H /\ ∃ N:St->Hp->Prop,(∀ σ' H',N σ' H'->∃ m',m' < m /\ W (i + 1) m' σ' H') /\ ∀ x H',J.yld i H x H'->g x Z H' λ σ2 H2=>tb { D with nx:=N,ct:=N,bk:=D.nx } σ2 H2)
noncomputable def Xl (fp:List Addr) (h:Heap):List (Addr × Obj):=fp.filterMap λ b=>(h.get? b).map λ o=>(b,o)
theorem Q9 {fp:List Addr} {o:Obj} (hb:b ∈ fp) (e:h.get? b = some o):(b,o) ∈ Xl fp h:=List.mem_filterMap.mpr ⟨b,hb,by rw [e]; rfl⟩
theorem BA {fp:List Addr} {p:Addr × Obj} (hp:p ∈ Xl fp h):p.1 ∈ fp /\ h.get? p.1 = some p.2:=by
 obtain ⟨b,hb,e⟩:=List.mem_filterMap.mp hp;cases q:h.get? b with
 | none=>rw [q] at e; cases e
 | some o=>
  rw [q] at e;have e':(b,o) = p:=Option.some.inj e;subst e';exact ⟨hb,q⟩
theorem Inv.pinned {fp:List Addr} (I:Inv X pins Z H s) (hf:∀ b ∈ fp,BK X pins H b) (ho:∀ b ∈ fp,∃ o,s.heap.get? b = some o /\ ∀ v,o.data ≠ .cell v):Inv X (pins ++ Xl fp s.heap) Z H s:=
 I.Vk λ p hp=>(List.mem_append.mp hp).elim (λ z=>I.pin p (List.mem_append_right _ z)) λ z=>by
  obtain ⟨hb,e⟩:=BA z;obtain ⟨f0,f1,f2,_⟩:=hf p.1 hb;obtain ⟨o,e',d⟩:=ho p.1 hb;rw [e] at e'; cases e';exact ⟨e,f0,f1,f2,d⟩
theorem Inv.Y1 {pl:List (Addr × Obj)} (I:Inv X (pins ++ pl) Z H s):Inv X pins Z H s:=I.Vk λ p hp=>I.pin p (List.mem_append_right _ (List.mem_append_left _ hp))
theorem LX {body:List Stmt} {wi:TI} {g:TG} {tb:TS} {pos:Pos} (hp:PassesOwn (model X.prog X.w) X.A X.env X.xe) (hc:X.calm = true) (hi:PI X tg iter wi) (hg:PG X tg g) (hb:PSs X body tb)
  (hs:autoParam (∀ x,foldedSetIterable iter X.env x = pure x) zz2._auto_1):PS X (.For tg iter body [] pos) (ZdB wi g tb):=by
 intro pins s Z H D I h;refine wpAny_For (thn (hi pins s Z H _ I h) λ v s1 h1=>thn h1 λ itv s2 h2=>?_) hs;obtain ⟨it,fp,tn,J,H2,e,I2,T,st2,f2,W,⟨m0,w0⟩,turn⟩:=h2;subst e;have stat:∀ {H':Hp},(∀ b ∈ fp,H' b = none)->∀ b ∈ fp,BK X pins H' b:=λ hn b hb=>⟨hn b hb,(f2 b hb).2⟩;refine codeAny_forLoop_any (λ n s'=>∃ i σ' H',Inv X pins σ' H' s' /\ tn i s'.heap /\ (∀ b ∈ fp,H' b = none) /\ W i n σ' H') ?_ m0 ⟨0,Z,H2,I2,st2,λ b hb=>(f2 b hb).1,w0⟩;rintro n s3 ⟨i,σ3,H3,I3,st3,fr3,w3⟩
 rcases turn i n σ3 H3 w3 with ⟨stop,qn⟩ | ⟨go,N,hN,step⟩
 ·refine wpAny_passesOwn hp (thn (T.done X rfl rfl rfl hc i pins s3 σ3 H3 X.xe I3 (stat fr3) st3 stop) λ r s4 ⟨hr,I4⟩=>?_);subst hr;exact wpAny_execs_nil ⟨σ3,H3,I4,qn⟩
 ·refine wpAny_passesOwn hp (thn (T.item X rfl rfl rfl hc i pins s3 σ3 H3 X.xe I3 (stat fr3) st3 go) λ r s4 ⟨u,hr,h4⟩=>?_);subst hr;refine wpAny_passesOwn hp (thn h4 λ _ s5 ⟨x,H5,I5,r5,y5,st5,fr5⟩=>?_);have I5':=I5.pinned (stat fr5) (T.obj _ _ st5);refine wpAny_passesOwn hp (thn (hg _ s5 σ3 H5 x u _ I5' r5 (step x H5 y5)) λ _ s6 ⟨σ6,H6,I6,q6⟩=>?_);refine wpAny_passesOwn hp (thn (hb _ s6 σ6 H6 _ I6 q6) λ f s7 q7=>?_);have again:∀ {σ7:St} {H7:Hp},Inv X (pins ++ Xl fp s5.heap) σ7 H7 s7->N σ7 H7->∃ m,m < n /\ ∃ i σ' H',Inv X pins σ' H' s7 /\ tn i s7.heap /\ (∀ b ∈ fp,H' b = none) /\ W i m σ' H':=λ {σ7 H7} I7 n7=>by
   obtain ⟨m',hm,w7⟩:=hN σ7 H7 n7;refine ⟨m',hm,i + 1,σ7,H7,I7.Y1,T.keep _ _ _ st5 λ b hb o e=>(I7.pin (b,o) (List.mem_append_right _ (List.mem_append_right _ (Q9 hb e)))).1,λ b hb=>?_,w7⟩;obtain ⟨o,e,d⟩:=T.obj _ _ st5 b hb;exact (I7.pin (b,o) (List.mem_append_right _ (List.mem_append_right _ (Q9 hb e)))).2.1
  cases f with
  | next=>obtain ⟨σ7,H7,I7,n7⟩:=q7; exact again I7 n7
  | cont=>obtain ⟨σ7,H7,I7,n7⟩:=q7; exact again I7 n7
  | brk=>obtain ⟨σ7,H7,I7,q7⟩:=q7; exact ⟨σ7,H7,I7.Y1,q7⟩
  | ret v=>obtain ⟨x7,σ7,H7,I7,r7,q7⟩:=q7; exact ⟨x7,σ7,H7,I7.Y1,r7,q7⟩
theorem E7 {g:TG} {tb:TS} {D:Ends} (Pv:Nat->St->Hp->Prop) (h0:Pv 0 Z H) (hl:∀ i Z H,i <= xs.length->Pv i Z H->SqL K H a xs)
  (hs:∀ i x Z H,xs[i]? = some x->Pv i Z H->g x Z H λ σ2 H2=>tb { D with nx:=Pv (i + 1),ct:=Pv (i + 1),bk:=D.nx } σ2 H2) (hd:∀ Z H,Pv xs.length Z H->D.nx Z H) :
  ∃ W:Nat->Nat->St->Hp->Prop,(∃ m,W 0 m Z H) /\ ∀ i m Z H,W i m Z H ->
   ((Itl K a).stop i H /\ D.nx Z H) \/ ((Itl K a).go i H /\ ∃ N:St->Hp->Prop,(∀ σ' H',N σ' H'->∃ m',m' < m /\ W (i + 1) m' σ' H') /\ ∀ x H',(Itl K a).yld i H x H'->g x Z H' λ σ2 H2=>tb { D with nx:=N,ct:=N,bk:=D.nx } σ2 H2):=by
 refine ⟨λ i m Z H=>m = xs.length - i /\ i <= xs.length /\ Pv i Z H,⟨xs.length,by simp,Nat.zero_le _,h0⟩,?_⟩;rintro i m Z H ⟨rfl,hi,p⟩;have q:=hl i Z H hi p
 by_cases hlt:i < xs.length
 ·refine .inr ⟨⟨xs,xs[i],q,by simp [hlt]⟩,Pv (i + 1),λ σ' H' p'=>⟨xs.length - (i + 1),by lia,rfl,hlt,p'⟩,λ x H' y=>?_⟩;obtain ⟨e,y⟩:=y;subst e;exact hs i x Z _ (y xs q) p
 ·have e:i = xs.length:=by lia
  subst e;exact .inl ⟨⟨xs,q,Nat.le_refl _⟩,hd Z H p⟩
theorem GY {lo:Int} {n:Nat} {g:TG} {tb:TS} {D:Ends} (Pv:Nat->St->Hp->Prop) (h0:Pv 0 Z H)
  (hs:∀ i Z H,i < n->Pv i Z H->g (.int (lo + i)) Z H λ σ2 H2=>tb { D with nx:=Pv (i + 1),ct:=Pv (i + 1),bk:=D.nx } σ2 H2) (hd:∀ Z H,Pv n Z H->D.nx Z H) :
  ∃ W:Nat->Nat->St->Hp->Prop,(∃ m,W 0 m Z H) /\ ∀ i m Z H,W i m Z H ->
   ((Itr lo n).stop i H /\ D.nx Z H) \/ ((Itr lo n).go i H /\ ∃ N:St->Hp->Prop,(∀ σ' H',N σ' H'->∃ m',m' < m /\ W (i + 1) m' σ' H') /\ ∀ x H',(Itr lo n).yld i H x H'->g x Z H' λ σ2 H2=>tb { D with nx:=N,ct:=N,bk:=D.nx } σ2 H2):=by
 refine ⟨λ i m Z H=>m = n - i /\ i <= n /\ Pv i Z H,⟨n,by simp,Nat.zero_le _,h0⟩,?_⟩;rintro i m Z H ⟨rfl,hi,p⟩
 by_cases hlt:i < n
 ·refine .inr ⟨hlt,Pv (i + 1),λ σ' H' p'=>⟨n - (i + 1),by lia,rfl,hlt,p'⟩,λ x H' y=>?_⟩;obtain ⟨e,y⟩:=y;subst e y;exact hs i Z _ hlt p
 ·have e:i = n:=by lia
  subst e;exact .inl ⟨Nat.le_refl _,hd Z H p⟩
abbrev R2:=V->V->Hp->VK->Prop
def OpR (X:Cx) (f:Value->Value->Sem Value) (r:R2):Prop:=
 ∀ (pins:List (Addr × Obj)) (s:Shared) (Z:St) (H:Hp) (x y:V) (v u:Value) (Q:VK),Inv X pins Z H s->RelV x v->RelV y u->r x y H Q ->
  wpAny (model X.prog X.w) X.A (f v u) (EP X pins Z Q) X.xe s
def UnR (X:Cx) (f:Value->Sem Value) (r:V->Hp->VK->Prop):Prop:=
 ∀ (pins:List (Addr × Obj)) (s:Shared) (Z:St) (H:Hp) (x:V) (v:Value) (Q:VK),Inv X pins Z H s->RelV x v->r x H Q ->
  wpAny (model X.prog X.w) X.A (f v) (EP X pins Z Q) X.xe s
def VM (X:Cx) (f:Value) (r:List V->Hp->VK->Prop):Prop:=
 ∀ (pins:List (Addr × Obj)) (s:Shared) (Z:St) (H:Hp) (xs:List V) (us:List Value) (Q:VK),Inv X pins Z H s->Vals xs us->r xs H Q ->
  wpAny (model X.prog X.w) X.A (call f us) (EP X pins Z Q) X.xe s
def tOp (r:R2) (ta tb:TE):TE:=λ Z H Q=>ta Z H λ x H1=>tb Z H1 λ y H2=>r x y H2 Q
def tUn (r:V->Hp->VK->Prop) (ta:TE):TE:=λ Z H Q=>ta Z H λ x H1=>r x H1 Q
def rI (C:Int->Int->Prop) (g:Int->Int->V):R2:=λ x y H Q=>∃ i j,x = .int i /\ y = .int j /\ C i j /\ Q (g i j) H
def rI0 (g:Int->Int->V):R2:=λ x y H Q=>∃ i j,x = .int i /\ y = .int j /\ Q (g i j) H
def rU (g:Int->V):V->Hp->VK->Prop:=λ x H Q=>∃ i,x = .int i /\ Q (g i) H
section
variable {a b c:Expr} {ta tb tc:TE}
theorem Zcb (ha:PE X a ta) (hb:PE X b tb) {R:V->V->Hp->Prop} (I:Inv X pins Z H s)
  (h:ta Z H λ x H1=>tb Z H1 λ y H2=>R x y H2) {Q:Value->Shared->Prop} {f:Value->Value->Sem Value}
  (hf:∀ v u s2 x y H2,Inv X pins Z H2 s2->RelV x v->RelV y u->R x y H2->wpAny (model X.prog X.w) X.A (f v u) Q X.xe s2) :
  wpAny (model X.prog X.w) X.A (eval a X.env) (λ v s₁=>wpAny (model X.prog X.w) X.A (eval b X.env) (λ u s₂=>wpAny (model X.prog X.w) X.A (f v u) Q X.xe s₂) X.xe s₁) X.xe s:=by
 refine thn (ha pins s Z H _ I h) λ v s1 ⟨x,H1,I1,r1,q1⟩=>?_;refine thn (hb pins s1 Z H1 _ I1 q1) λ u s2 ⟨y,H2,I2,r2,q2⟩=>?_;exact hf v u s2 x y H2 I2 r1 r2 q2
theorem Zb5 {op:Operator} {r:R2} (ho:OpR X (binaryOp op) r) (ha:PE X a ta) (hb:PE X b tb):PE X (.BinOp a op b pos) (tOp r ta tb):=by
 intro pins s Z H Q I h;exact wpAny_BinOp (Zcb ha hb I h λ v u s2 x y H2 I2 rx ry q=>ho pins s2 Z H2 x y v u Q I2 rx ry q)
theorem Zb4 {op:UnaryOp} {r:V->Hp->VK->Prop} (ho:UnR X (unaryOp op) r) (ha:PE X a ta):PE X (.UnaryOp op a pos) (tUn r ta):=by
 intro pins s Z H Q I h;exact UnaryOp_ (thn (ha pins s Z H _ I h) λ v s1 ⟨x,H1,I1,r1,q1⟩=>ho pins s1 Z H1 x v Q I1 r1 q1)
theorem opI {f:Value->Value->Sem Value} {C:Int->Int->Prop} {g:Int->Int->Int}
  (rule:∀ (i j:Int) (t u:Tok) (s:Shared) (Q:Value->Shared->Prop) (E:Value->Shared->Prop),C i j->Q (.int (g i j) s.toks) { s with toks:=s.toks + 1 }->wpAny (model X.prog X.w) X.A (f (.int i t) (.int j u)) Q E s) :
  OpR X f (rI C λ i j=>.int (g i j)):=by
 intro pins s Z H x y v u Q I rx ry h;obtain ⟨i,j,rfl,rfl,hc,q⟩:=h;obtain ⟨t,rfl⟩:=rx;obtain ⟨t',rfl⟩:=ry;exact rule i j t t' s _ _ hc ⟨.int (g i j),H,I.tok _,⟨_,rfl⟩,q⟩
theorem ZcX {f:Value->Value->Sem Value} {g:Int->Int->Int}
  (rule:∀ (i j:Int) (t u:Tok) (s:Shared) (Q:Value->Shared->Prop) (E:Value->Shared->Prop),Q (.int (g i j) s.toks) { s with toks:=s.toks + 1 }->wpAny (model X.prog X.w) X.A (f (.int i t) (.int j u)) Q E s) :
  OpR X f (rI0 λ i j=>.int (g i j)):=by
 intro pins s Z H x y v u Q I rx ry h;obtain ⟨i,j,rfl,rfl,q⟩:=h;obtain ⟨t,rfl⟩:=rx;obtain ⟨t',rfl⟩:=ry;exact rule i j t t' s _ _ ⟨.int (g i j),H,I.tok _,⟨_,rfl⟩,q⟩
theorem Zb3 {f:Value->Value->Sem Value} {g:Int->Int->Bool}
  (rule:∀ (i j:Int) (t u:Tok) (s:Shared) (Q:Value->Shared->Prop) (E:Value->Shared->Prop),Q (.bool (g i j)) s->wpAny (model X.prog X.w) X.A (f (.int i t) (.int j u)) Q E s) :
  OpR X f (rI0 λ i j=>.bl (g i j)):=by
 intro pins s Z H x y v u Q I rx ry h;obtain ⟨i,j,rfl,rfl,q⟩:=h;obtain ⟨t,rfl⟩:=rx;obtain ⟨t',rfl⟩:=ry;exact rule i j t t' s _ _ ⟨.bl (g i j),H,I,rfl,q⟩
def ZcO (i j:Int):Prop:=0 < j /\ j < 1073741824
def ZaX (i j:Int):Prop:=0 <= j /\ j <= 1000000 /\ i.natAbs < 2 ^ 64
def ZaE (i j:Int):Prop:=(-(2 ^ 64) < i /\ i < 2 ^ 64) \/ (-(2 ^ 64) < j /\ j < 2 ^ 64)
theorem ZaE.ok {i j:Int} (h:ZaE i j):IntMulOk i j:=by
 rcases h with ⟨h1,h2⟩ | ⟨h1,h2⟩
 ·exact .of_left (intBits_le_64 h1 h2)
 ·exact .of_right (intBits_le_64 h1 h2)
theorem Rl:OpR X (binaryOp .Add) (rI0 λ i j=>.int (i + j)):=ZcX λ _ _ _ _ _ _ _ q=>add_int q
theorem RV:OpR X (binaryOp .Sub) (rI0 λ i j=>.int (i - j)):=ZcX λ _ _ _ _ _ _ _ q=>sub_int q
theorem R7:OpR X (binaryOp .Mult) (rI ZaE λ i j=>.int (i * j)):=opI λ _ _ _ _ _ _ _ hc q=>mul_int q hc.ok
theorem O9:OpR X (binaryOp .FloorDiv) (rI ZcO λ i j=>.int (i / j)):=opI λ i j _ _ _ _ _ hc q=>by
 have h1:(0:Int) < j:=hc.1;have h2:j < 1073741824:=hc.2;exact floordiv_int (by lia) (by rw [Int.fdiv_eq_ediv_of_nonneg i (by lia)]; exact q) (.inl (PyProof.noPylong_small (by lia)))
theorem S8:OpR X (binaryOp .Mod) (rI (λ _ j=>0 < j) λ i j=>.int (i % j)):=opI λ i j _ _ _ _ _ hc q=>by
 have h1:(0:Int) < j:=hc;exact mod_int' (by lia) (by rw [Int.fmod_eq_emod_of_nonneg i (by lia)]; exact q)
theorem SO:OpR X (binaryOp .Pow) (rI ZaX λ i j=>.int (i ^ j.toNat)):=opI λ _ _ _ _ _ _ _ hc q=>pow_int_small hc.1 hc.2.1 hc.2.2 q
theorem unI {f:Value->Sem Value} {g:Int->Int}
  (rule:∀ (i:Int) (t:Tok) (s:Shared) (Q:Value->Shared->Prop) (E:Value->Shared->Prop),Q (.int (g i) s.toks) { s with toks:=s.toks + 1 }->wpAny (model X.prog X.w) X.A (f (.int i t)) Q E s) :
  UnR X f (rU λ i=>.int (g i)):=by
 intro pins s Z H x v Q I rx h;obtain ⟨i,rfl,q⟩:=h;obtain ⟨t,rfl⟩:=rx;exact rule i t s _ _ ⟨.int (g i),H,I.tok _,⟨_,rfl⟩,q⟩
theorem S5:UnR X (unaryOp .USub) (rU λ i=>.int (-i)):=unI λ _ _ _ _ _ q=>neg_int q
end
noncomputable def ZcC:V->V->Bool
 | .non,.non=>true | .non,.int _=>true | .int _,.non=>true | .non,.bl _=>true | .bl _,.non=>true | .non,.str _=>true | .str _,.non=>true
 | .int _,.int _=>true | .bl _,.bl _=>true | .str _,.str _=>true | .byt _,.byt _=>true
 | .int _,.str _=>true | .str _,.int _=>true | .bl _,.str _=>true | .str _,.bl _=>true
 | _,_=>false
def rEq:R2:=λ x y H Q=>ZcC x y = true /\ Q (.bl (decide (x = y))) H
def rNe:R2:=λ x y H Q=>ZcC x y = true /\ Q (.bl (!decide (x = y))) H
theorem Bt {i j:Int}:decide (V.int i = V.int j) = (i == j):=by
 rw [Bool.eq_iff_iff];simp
theorem Mi {i j:Bool}:decide (V.bl i = V.bl j) = (i == j):=by
 rw [Bool.eq_iff_iff];simp
theorem Vq {i j:Str}:decide (V.str i = V.str j) = (i == j):=by
 rw [Bool.eq_iff_iff];simp
theorem C5 {i j:Array UInt8}:decide (V.byt i = V.byt j) = (i.toList == j.toList):=by
 rw [Bool.eq_iff_iff];cases i;cases j;simp
section
variable {a b c:Expr} {ta tb tc:TE}
theorem ZH {Q:VK} {k k':Bool} (I:Inv X pins Z H s) (q:Q (.bl k) H) (e:k = k'):EP X pins Z Q (.bool k') s:=by
 subst e;exact ⟨.bl k,H,I,rfl,q⟩
theorem Zbb:OpR X (compareOp .Eq) rEq:=by
 intro pins s Z H x y v u Q I rx ry h;obtain ⟨hs,q⟩:=h;cases x with
 | non=>
  cases rx;cases y with
  | non=>cases ry; exact PySem.EqNone.eq_none_none (ZH I q (by simp))
  | bl j=>cases ry; exact PySem.EqNone.eq_none_bool (ZH I q (by simp))
  | int j=>obtain ⟨t',rfl⟩:=ry; exact PySem.EqNone.eq_none_int (ZH I q (by simp))
  | str j=>obtain ⟨t',rfl⟩:=ry; exact PySem.EqNone.eq_none_str (ZH I q (by simp))
  | _=>exact absurd (show false = true from hs) Bool.false_ne_true
 | bl i=>
  cases rx;cases y with
  | non=>cases ry; exact PySem.EqNone.eq_bool_none (ZH I q (by simp))
  | bl j=>cases ry; exact eq_bool (ZH I q Mi)
  | str j=>obtain ⟨t',rfl⟩:=ry; exact PySem.EqMixed.eq_bool_str (ZH I q (by simp))
  | _=>exact absurd (show false = true from hs) Bool.false_ne_true
 | int i=>
  obtain ⟨t,rfl⟩:=rx;cases y with
  | non=>cases ry; exact PySem.EqNone.eq_int_none (ZH I q (by simp))
  | int j=>obtain ⟨t',rfl⟩:=ry; exact eq_int (ZH I q Bt)
  | str j=>obtain ⟨t',rfl⟩:=ry; exact PySem.EqMixed.eq_int_str (ZH I q (by simp))
  | _=>exact absurd (show false = true from hs) Bool.false_ne_true
 | str i=>
  obtain ⟨t,rfl⟩:=rx;cases y with
  | non=>cases ry; exact PySem.EqNone.eq_str_none (ZH I q (by simp))
  | bl j=>cases ry; exact PySem.EqMixed.eq_str_bool (ZH I q (by simp))
  | int j=>obtain ⟨t',rfl⟩:=ry; exact PySem.EqMixed.eq_str_int (ZH I q (by simp))
  | str j=>obtain ⟨t',rfl⟩:=ry; exact eq_str (ZH I q Vq)
  | _=>exact absurd (show false = true from hs) Bool.false_ne_true
 | byt i=>
  obtain ⟨t,rfl⟩:=rx;cases y with
  | byt j=>obtain ⟨t',rfl⟩:=ry; exact PySem.W.eq_bytes (ZH I q C5)
  | _=>exact absurd (show false = true from hs) Bool.false_ne_true
 | _=>cases y <;> exact absurd (show false = true from hs) Bool.false_ne_true
theorem Ti:OpR X (compareOp .NotEq) rNe:=by
 intro pins s Z H x y v u Q I rx ry h;obtain ⟨hs,q⟩:=h;cases x with
 | non=>
  cases rx;cases y with
  | non=>cases ry; exact PySem.EqNone.ne_none_none (ZH I q (by simp))
  | bl j=>cases ry; exact PySem.EqNone.ne_none_bool (ZH I q (by simp))
  | int j=>obtain ⟨t',rfl⟩:=ry; exact PySem.EqNone.ne_none_int (ZH I q (by simp))
  | str j=>obtain ⟨t',rfl⟩:=ry; exact PySem.EqNone.ne_none_str (ZH I q (by simp))
  | _=>exact absurd (show false = true from hs) Bool.false_ne_true
 | bl i=>
  cases rx;cases y with
  | non=>cases ry; exact PySem.EqNone.ne_bool_none (ZH I q (by simp))
  | bl j=>cases ry; exact ne_bool (ZH I q (congrArg not Mi))
  | str j=>obtain ⟨t',rfl⟩:=ry; exact PySem.EqMixed.ne_bool_str (ZH I q (by simp))
  | _=>exact absurd (show false = true from hs) Bool.false_ne_true
 | int i=>
  obtain ⟨t,rfl⟩:=rx;cases y with
  | non=>cases ry; exact PySem.EqNone.ne_int_none (ZH I q (by simp))
  | int j=>obtain ⟨t',rfl⟩:=ry; exact ne_int (ZH I q (congrArg not Bt))
  | str j=>obtain ⟨t',rfl⟩:=ry; exact PySem.EqMixed.ne_int_str (ZH I q (by simp))
  | _=>exact absurd (show false = true from hs) Bool.false_ne_true
 | str i=>
  obtain ⟨t,rfl⟩:=rx;cases y with
  | non=>cases ry; exact PySem.EqNone.ne_str_none (ZH I q (by simp))
  | bl j=>cases ry; exact PySem.EqMixed.ne_str_bool (ZH I q (by simp))
  | int j=>obtain ⟨t',rfl⟩:=ry; exact PySem.EqMixed.ne_str_int (ZH I q (by simp))
  | str j=>obtain ⟨t',rfl⟩:=ry; exact ne_str (ZH I q (congrArg not Vq))
  | _=>exact absurd (show false = true from hs) Bool.false_ne_true
 | byt i=>
  obtain ⟨t,rfl⟩:=rx;cases y with
  | byt j=>obtain ⟨t',rfl⟩:=ry; exact PySem.W.ne_bytes (ZH I q (congrArg not C5))
  | _=>exact absurd (show false = true from hs) Bool.false_ne_true
 | _=>cases y <;> exact absurd (show false = true from hs) Bool.false_ne_true
theorem Za0:OpR X (compareOp .Lt) (rI0 λ i j=>.bl (decide (i < j))):=Zb3 λ _ _ _ _ _ _ _ q=>lt_int q
theorem ZbS:OpR X (compareOp .Gt) (rI0 λ i j=>.bl (decide (j < i))):=Zb3 λ _ _ _ _ _ _ _ q=>gt_int q
theorem Zca:OpR X (compareOp .GtE) (rI0 λ i j=>.bl (decide (j <= i))):=Zb3 λ _ _ _ _ _ _ _ q=>ge_int q
theorem LU (b:Expr) {op:CmpOp} (h:autoParam (op ≠ .In) zz1._auto_1) (h2:autoParam (op ≠ .NotIn) zz1._auto_1):behindInMarks op b = false:=by
 have e1:(op == CmpOp.In) = false:=by cases op <;> first | rfl | exact absurd rfl h
 have e2:(op == CmpOp.NotIn) = false:=by cases op <;> first | rfl | exact absurd rfl h2
 cases b <;> simp [behindInMarks,e1,e2]
theorem Nv {op:CmpOp} {r:R2} (ho:OpR X (compareOp op) r) (ha:PE X a ta) (hb:PE X b tb) (hm:behindInMarks op b = false):PE X (.Compare a [op] [b] pos) (tOp r ta tb):=by
 intro pins s Z H Q I h;exact wpAny_Compare1 (Zcb ha hb I h λ v u s2 x y H2 I2 rx ry q=>ho pins s2 Z H2 x y v u Q I2 rx ry q) hm
def ZaW (t:TE):TT:=λ Z H Q=>t Z H λ x H'=>∃ k,x = .bl k /\ Q k H'
theorem O8 {op:CmpOp} {r:R2} (ho:OpR X (compareOp op) r) (ha:PE X a ta) (hb:PE X b tb) (hm:behindInMarks op b = false):PT X (.Compare a [op] [b] pos) (ZaW (tOp r ta tb)):=by
 intro pins s Z H Q I h
 refine wpAny_isTrue_Compare1 (thn (ha pins s Z H _ I h) λ v s1 ⟨x,H1,I1,r1,q1⟩=>thn (hb pins s1 Z H1 _ I1 q1) λ u s2 ⟨y,H2,I2,r2,q2⟩=>
  thn (ho pins s2 Z H2 x y v u _ I2 r1 r2 q2) λ c s3 ⟨z,H3,I3,r3,k,e,q3⟩=>?_) hm
 subst e;cases r3;exact wpAny_truthy_bool ⟨H3,I3,q3⟩
theorem Ya:(sizeLine:Nat) < 2 ^ 63:=by rw [sizeLine_eq]; decide
theorem Gi:OpR X (binaryOp .Add) (λ x y H Q=>∃ i j,x = .str i /\ y = .str j /\ i.length + j.length <= sizeLine /\ Q (.str (i ++ j)) H):=by
 intro pins s Z H x y v u Q I rx ry h;obtain ⟨i,j,rfl,rfl,hz,q⟩:=h;obtain ⟨t,rfl⟩:=rx;obtain ⟨t',rfl⟩:=ry;exact add_str (λ t' tk=>⟨.str (i ++ j),H,I.tok _,⟨_,rfl⟩,q⟩) hz
theorem vals1 {x:V} (r:Vals [x] us):∃ u,us = [u] /\ RelV x u:=by
 cases r with
 | cons r1 r2=>cases r2; exact ⟨_,rfl,r1⟩
theorem EL:VM X (.builtin "abs") (λ xs H Q=>∃ i,xs = [.int i] /\ Q (.int (if i < 0 then -i else i)) H):=by
 intro pins s Z H xs us Q I r h;obtain ⟨i,rfl,q⟩:=h;obtain ⟨u,rfl,t,rfl⟩:=vals1 r;exact call_abs_int λ u tk=>⟨.int (if i < 0 then -i else i),H,I.tok _,⟨_,rfl⟩,q⟩
theorem Xo:VM X (.type "str") (λ xs H Q=>∃ i,xs = [.int i] /\ i.natAbs.log2 < 1920 /\ Q (.str (toString i)) H):=by
 intro pins s Z H xs us Q I r h;obtain ⟨i,rfl,hz,q⟩:=h;obtain ⟨u,rfl,t,rfl⟩:=vals1 r;exact PySem.P.str_of_int hz ⟨.str _,H,I.tok _,⟨_,rfl⟩,q⟩
end
structure ZdQ (h:Heap) (x dx C:Addr) (mA:Str->Option Value):Prop where
 obj:h.get? x = some (PySem.W.instObj C dx)
 ns:h.Ns1 dx mA
 ne:dx ≠ x
section
variable {prog:Program} {E:Value->Shared->Prop} {x dx C:Addr} {mA:Str->Option Value} {name:Str} {v:Value}
end
theorem BY.some_of {o:Option Value} (r:BY (some v) o):∃ u,o = some u /\ RelV v u:=by
 cases o with
 | none=>exact (show False from r).elim
 | some u=>exact ⟨u,rfl,r⟩
section
variable {h':Heap} {C dx:Addr} {fs fs':List (Str × V)}
end
structure Cls (K:Fj) (C:Addr):Prop where
 pg:PySem.W.plainGet K C Str.empty = true
 hd:PySem.W.hasDictIn K C = true
 po:PySem.W.plainOver K C = true
 sa:PySem.W.findIn K (.ref C) "__setattr__" = some (some (.builtin "object.__setattr__"))
theorem Cls.get {C:Addr} (c:Cls K C) (f:Str):PySem.W.plainGet K C f = true:=c.pg
structure Con (K:Fj) (C:Addr) (f:Str) (v:V) (u:Value):Prop where
 at_:PySem.W.findIn K (.ref C) f = some (some u)
 rel:RelV v u
 get:PySem.W.specialIn K u "__get__" = some none
 cp:PySem.W.copiedNames.contains f = false
structure Meth (K:Fj) (C:Addr) (m:Str) (f:Addr):Prop where
 at_:PySem.W.findIn K (.ref C) m = some (some (.ref f))
 fn:PySem.W.isFn K (.ref f) = true
 kp:PySem.W.keepIn K (.ref f) = true
section
variable {C dx:Addr} {fs:List (Str × V)} {f:Str} {E:Value->Shared->Prop}
end
section
variable {o value:Expr} {f:Str} {pos' tpos:Pos} {ta tv:TE}
end
section
variable {E:Value->Shared->Prop} {c:Value} {b:Bool}
inductive BE (K:Fj) (H:Hp):V->Value->Prop where
 | non:BE K H .non (.type "NoneType")
 | bl (x:Bool):BE K H (.bl x) (.type "bool")
 | int (i:Int):BE K H (.int i) (.type "int")
 | str (x:Str):BE K H (.str x) (.type "str")
 | flt (x:UInt64):BE K H (.flt x) (.type "float")
 | lst {a:Addr} {xs:List V} (e:H a = some (.lst xs)):BE K H (.ref a) (.type "list")
 | frz {a:Addr} {o:Obj} {xs:List V} (e:H a = some (.frz o (.lst xs))):BE K H (.ref a) (.type "list")
 | tup {a:Addr} {xs:List V} (e:H a = some (.tup xs)):BE K H (.ref a) (.type "tuple")
 | dK {a:Addr} {kvs:List (Key × V)} (e:H a = some (.dK kvs)):BE K H (.ref a) (.type "dict")
 | dT {a:Addr} {kvs:List (List Key × V)} (e:H a = some (.dT kvs)):BE K H (.ref a) (.type "dict")
 | ins {a C dx:Addr} {fs:List (Str × V)} (e:H a = some (.ins C dx fs)) (cl:Cls K C) (ha:PySem.W.findIn K (.ref C) "__class__" = some (some (.builtin "object.__class__")))
   (hn:PySem.W.specialIn K (.builtin "object.__class__") "__get__" = some (some (.builtin "getset_descriptor.__get__"))) (htk:PySem.W.takesIn K (.builtin "object.__class__") = some true)
   (hm:PySem.W.mroIn K C (.type "object") = some true):BE K H (.ref a) (.ref C)
end
structure QS (k:Nat) (A:Around):Prop where
 hd:A.handled = none
 dp:A.depth + 3 * k + 5 < recursionLimit
 un:A.units + 16 * k + 200 < cLine
 gd:A.guards = some []
theorem QS.mono {k:Nat} (r:QS k A) (h:j <= k):QS j A:=⟨r.hd,by have:=r.dp; lia,by have:=r.un; lia,r.gd⟩
theorem QS.deeper {k:Nat} (r:QS (k + 1) A) (env:Env):QS k (A.deeper env):=
 ⟨r.hd,by have:=r.dp; show A.depth + 1 + 3 * k + 5 < _; lia,by have:=r.un; show A.units + 3 + 16 * k + 200 < _; lia,r.gd⟩
theorem QS.depth {k:Nat} (r:QS k A):A.depth < recursionLimit:=by have:=r.dp; lia
theorem QS.units {k:Nat} (r:QS k A):A.units + 64 < cLine:=by have:=r.un; lia
def Zdg:TA:=λ _ H Q=>Q [] H
def Zcr (ta:TE) (tr:TA):TA:=λ Z H Q=>ta Z H λ x H1=>tr Z H1 λ xs H2=>Q (x :: xs) H2
section
variable {es:List Expr} {te:TE} {t:TA}
theorem WE:PA X [] Zdg:=λ _ _ _ _ H Q I h=>Calls.spliced_nil ⟨[],H,I,.nil,h⟩
theorem VF (ha:PE X e te) (hr:PA X es t) (hs:autoParam (starEach (e :: es) X.env = (false,eval e X.env) :: starEach es X.env) zz3._auto_1):PA X (e :: es) (Zcr te t):=by
 intro pos pins s Z H Q I h;rw [hs];show wpAny _ _ (spliced ((false,eval e X.env) :: backTo pos (starEach es X.env))) _ _ s;refine Calls.spliced_cons (thn (ha pins s Z H _ I h) λ u s1 ⟨x,H1,I1,r1,q1⟩=>?_);exact thn (hr pos pins s1 Z H1 _ I1 q1) λ us s2 ⟨xs,H2,I2,r2,q2⟩=>⟨x :: xs,H2,I2,.cons r1 r2,q2⟩
def ZdN (t:TA):TE:=λ Z H Q=>t Z H λ xs H1=>xs.length <= sizeLine /\ ∀ p,H1 p = none->Q (.ref p) (upd H1 p (.tup xs))
def Zdw (t:TA):TE:=λ Z H Q=>t Z H λ xs H1=>xs.length <= sizeLine /\ ∀ p,H1 p = none->Q (.ref p) (upd H1 p (.lst xs))
theorem Lg {x1} (h:PA X es t):PE X (.Tuple es x1 pos) (ZdN t):=by
 intro pins s Z H Q I hq;refine wpAny_Tuple_spliced (thn (h pos pins s Z H _ I hq) λ us s1 ⟨xs,H1,I1,r,z,q⟩=>⟨by rw [<- r.length]; exact z,?_⟩);have hf:H1 s1.heap.objs.size = none:=I1.hok.fresh (Nat.le_refl _);refine ⟨.ref s1.heap.objs.size,upd H1 s1.heap.objs.size (.tup xs),I1.laid (t':=s1.toks) (λ b u e=>Heap.get?_push_of_some _ e) (Nat.le_refl _) ?_,rfl,q _ hf⟩;exact ⟨z,us,r,⟨_,Heap.get?_push_size _ rfl,rfl,_,rfl⟩⟩
theorem LO (h:PA X es t):PE X (.List es pos) (Zdw t):=by
 intro pins s Z H Q I hq;refine wpAny_List_spliced (thn (h pos pins s Z H _ I hq) λ us s1 ⟨xs,H1,I1,r,z,q⟩=>⟨by rw [<- r.length]; exact z,?_⟩);have hf:H1 s1.heap.objs.size = none:=I1.hok.fresh (Nat.le_refl _);refine ⟨.ref s1.heap.objs.size,upd H1 s1.heap.objs.size (.lst xs),I1.laid (t':=s1.toks) (λ b u e=>Heap.get?_push_of_some _ e) (Nat.le_refl _) ?_,rfl,q _ hf⟩;exact ⟨z,us,0,r,Heap.get?_push_size _ rfl⟩
end
abbrev Sp:=List V->Hp->VK->XK->Prop
abbrev CXT:=List Env->Hp->Shared->XK->Value->Shared->Prop
structure ZaB (P:Program) (w:World) (K:Fj) (mg:Str->Option Value) (base:Heap) (A:Around) (outer:List Env) (s:Shared) (H:Hp):Prop where
 frames:A.frames = some outer
 mod:Mod K mg base
 bs:∀ b o,base.get? b = some o->s.heap.get? b = some o /\ H b = none
 bsz:base.objs.size <= s.heap.objs.size
 GQ:s.heap.FunFrames base outer
 frf:∀ b ∈ frs outer,H b = none
 hok:HOk P w H s.heap
 bare:AllBare s.gens
def CE (outer:List Env) (P:Program) (w:World) (H:Hp) (s:Shared) (Q:VK) (u:Value) (s':Shared):Prop:=
 ∃ v H',s'.os = s.os /\ AllBare s'.gens /\ Un (frs outer) [] H H' s.heap s'.heap /\ HOk P w H' s'.heap /\ RelV v u /\ Q v H'
def CR (CX:CXT) (outer:List Env) (P:Program) (w:World) (H:Hp) (s:Shared) (Q:VK) (E:XK) (r:Result) (s':Shared):Prop:=
 match r with
 | .ok (.ret u)=>CE outer P w H s Q u s'
 | .ok _=>False
 | .error e=>CX outer H s E e s'
structure Q7 (P:Program) (w:World) (K:Fj) (mg:Str->Option Value) (base:Heap) (CX:CXT) (k:Nat) (f:Addr) (fd:FuncData) (ps:List Str) (sp:Sp):Prop where
 len:∀ vs H Q E,sp vs H Q E->vs.length = ps.length
 run:∀ (A:Around) (outer:List Env) (s:Shared) (H:Hp) (args:Args) (us:List Value) (vs:List V) (Q:VK) (E:XK),QS k A->ZaB P w K mg base A outer s H->BindsTo s fd args (ps.zip us)->Vals vs us->sp vs H Q E ->
  codeAny (model P w) A (.call (.ref f) args) (CR CX outer P w H s Q E) s
theorem Q7.imp {base:Heap} {CX:CXT} {k:Nat} {ps:List Str} {sp sp':Sp} (F:Q7 P w K mg base CX k f fd ps sp)
  (h:∀ vs H Q E,sp' vs H Q E->sp vs H Q E):Q7 P w K mg base CX k f fd ps sp':=
 ⟨λ vs H Q E q=>F.len vs H Q E (h _ _ _ _ q),λ A outer s H args us vs Q E hr he hb hv hs=>F.run A outer s H args us vs Q E hr he hb hv (h _ _ _ _ hs)⟩
section
variable {s':Shared}
theorem Inv.ZdJ (I:Inv X pins Z H s):ZaB X.prog X.w X.K X.mg X.base X.A X.stack s H:=
 ⟨I.ok.frames,I.ok.mod,I.bs,Nat.le_trans I.ok.bsz I.sz,I.stack,I.CK,I.hok,I.bare⟩
theorem Inv.after {Q:VK} (I:Inv X pins Z H s) (h:CE X.stack X.prog X.w H s Q u s'):EP X pins Z Q u s':=by
 obtain ⟨v,H',os,bare,un,hok,r,q⟩:=h;obtain ⟨hh,g,d,t,os'⟩:=s';obtain rfl:os' = s.os:=os;exact ⟨v,H',I.call (h':=hh) (g':=g) (d':=d) (t':=t) (ch:=[]) un hok bare (λ b z=>absurd z (by simp)),r,q⟩
end
def Zbt (sp:Sp) (dvs:List V) (E:XK) (t:TA):TE:=λ Z H Q=>t Z H λ vs H1=>sp (vs ++ dvs) H1 Q E
def Binds (K:Fj) (fd:FuncData) (ps:List Str) (ds:List Value):Prop:=
 ∀ (s:Shared) (us:List Value),K.In s.heap->(us ++ ds).length = ps.length->BindsTo s fd ⟨us,[]⟩ (ps.zip (us ++ ds))
theorem Binds.all {ps:List Str} (h:∀ us:List Value,us.length = ps.length->bindArgs fd ⟨us,[]⟩ = pure (ps.zip us)):Binds K fd ps []:=λ s us _ hl=>by
 rw [List.append_nil] at hl ⊢;exact .of_eq (h us hl)
def Passes (CX:CXT) (X:Cx) (E:XK):Prop:=∀ (pins:List (Addr × Obj)) (Z:St) (H:Hp) (s:Shared) (e:Value) (s':Shared),Inv X pins Z H s->CX X.stack H s E e s'->X.xe e s'
section
variable {CX:CXT} {k:Nat} {C:Addr} {ps:List Str} {sp:Sp} {dvs:List V} {ds:List Value} {E:XK} {m:Str} {p apos:Pos} {o:Expr} {es:List Expr} {ta:TE} {t:TA}
theorem Tc {pins:List (Addr × Obj)} {Z:St} {H:Hp} {s:Shared} {Q:VK} {us:List Value} {vs:List V} (F:Q7 X.prog X.w X.K X.mg X.base CX k f fd ps sp) (hr:QS k X.A) (hb:Binds X.K fd ps ds) (hd:Vals dvs ds) (hx:Passes CX X E)
  (I:Inv X pins Z H s) (r:Vals vs us) (h:sp (vs ++ dvs) H Q E):wpAny (model X.prog X.w) X.A (call (.ref f) us) (EP X pins Z Q) X.xe s:=by
 have r2:Vals (vs ++ dvs) (us ++ ds):=r.append hd;have hl:(us ++ ds).length = ps.length:=by rw [<- r2.length]; exact F.len _ _ _ _ h
 refine wpAny_call (codeAny_mono (F.run X.A X.stack s H ⟨us,[]⟩ (us ++ ds) (vs ++ dvs) Q E hr I.ZdJ (hb s us I.kIn hl) r2 h) λ r s' hq=>?_);cases r with
 | error e=>exact hx pins Z H s e s' I hq
 | ok fl=>
  cases fl with
  | ret u=>exact I.after hq
  | next=>exact False.elim hq
  | brk=>exact False.elim hq
  | cont=>exact False.elim hq
theorem Ot (F:Q7 X.prog X.w X.K X.mg X.base CX k f fd ps sp) (hr:QS k X.A) (hg:Gl X x) (hm:X.mg x = some (.ref f)) (hk:PySem.W.keepIn X.K (.ref f) = true) (hb:Binds X.K fd ps ds) (hd:Vals dvs ds) (hx:Passes CX X E)
  (ha:PA X (e :: es) t) (hdb:autoParam ((x == ("__debug__" : Str)) = false) zz1._auto_1) (he:autoParam (starEach (e :: es) X.env = (false,eval e X.env) :: starEach es X.env) zz3._auto_1) (hpl:autoParam ((backTo pos (starEach es X.env)).any (·.1) = false) zz3._auto_1) :
  PE X (.Call (.Name x p) (e :: es) [] pos) (Zbt sp dvs E t):=by
 intro pins s Z H Q I h;refine wpAny_Call_Name_kw (Cf I hg hm ?_ hdb);refine PySem.W.callWith_K (h₀:=X.base) I.ok.mod.kin hk (thn (ha pos pins s Z H _ I h) λ us s1 ⟨vs,H1,I1,r,q⟩=>⟨I1.kIn,?_⟩) he hpl;exact Tc F hr hb hd hx I1 r q
structure Mk (K:Fj) (C f:Addr):Prop where
 makes:PySem.W.makesIn K C = true
 init:PySem.W.findIn K (.ref C) "__init__" = some (some (.ref f))
 fn:PySem.W.isFn K (.ref f) = true
 kp:PySem.W.keepIn K (.ref C) = true
end
section
variable {CX:CXT} {k:Nat} {C:Addr} {ps ks:List Str} {sp:Sp} {E:XK} {m:Str} {p apos kpos:Pos} {o:Expr} {es:List Expr} {kws:List Keyword} {te ta:TE} {t tk:TA} {nm:Option Str}
structure ZcJ (K:Fj) (fd:FuncData) (ps ks:List Str) (g:List Value->List Value->List Value) (gV:List V->List V->List V):Prop where
 to:∀ (s:Shared) (us ws:List Value),K.In s.heap->(g us ws).length = ps.length->BindsTo s fd ⟨us,ks.zip ws⟩ (ps.zip (g us ws))
 rel:∀ {vs:List V} {us:List Value} {zs:List V} {ws:List Value},Vals vs us->Vals zs ws->Vals (gV vs zs) (g us ws)
variable {g:List Value->List Value->List Value} {gV:List V->List V->List V}
end
structure ZA (N P:List Str) (sc:Scope):Prop where
 kind:sc.kind = .function
 co:sc.isCoroutine = false
 gen:sc.isGenerator = false
 nd:N.Nodup
 pre:N.take P.length = P
 par:∀ x ∈ P,sc.names.lookup x = some .local \/ sc.names.lookup x = some .cell
 nofree:∀ y ∈ sc.names,y.2 ≠ .free
theorem Ki {kindOf:Str->Option NameKind}:∀ {binds:List (Str × Value)} {m:Str->Option Value},(∀ v,(x,v) ∉ binds)->bindL kindOf binds m x = m x
 | [],_,_=>rfl
 | (n,v) :: r,m,h=>by
  unfold bindL;rw [Ki λ w hw=>h w (List.mem_cons_of_mem _ hw)]
  split
  ·have:x ≠ n:=by rintro rfl; exact h v List.mem_cons_self
   simp [this]
  ·rfl
theorem X2 {kindOf:Str->Option NameKind}:∀ {binds:List (Str × Value)} {m:Str->Option Value},(∀ v,(x,v) ∉ binds)->bindC kindOf binds m x = m x
 | [],_,_=>rfl
 | (n,v) :: r,m,h=>by
  unfold bindC;rw [X2 λ w hw=>h w (List.mem_cons_of_mem _ hw)]
  split
  ·rfl
  ·have:x ≠ n:=by rintro rfl; exact h v List.mem_cons_self
   simp [this]
theorem Xv {kindOf:Str->Option NameKind} {v:Value}:∀ {P:List Str} {vs:List Value} {i:Nat} {m:Str->Option Value},P.Nodup->P[i]? = some x->vs[i]? = some v->kindOf x = some .local ->
  bindL kindOf (P.zip vs) m x = some v
 | [],_,_,_,_,h,_,_=>by simp at h
 | _ :: _,[],_,_,_,_,h,_=>by simp at h
 | p :: P,w :: vs,0,m,nd,h1,h2,hk=>by
  simp at h1 h2; subst h1; subst h2;show bindL kindOf ((p,w) :: P.zip vs) m p = _;unfold bindL;rw [Ki λ v hv=>(List.nodup_cons.mp nd).1 (List.of_mem_zip hv).1,if_pos hk];simp
 | p :: P,w :: vs,i + 1,m,nd,h1,h2,hk=>by
  show bindL kindOf ((p,w) :: P.zip vs) m x = _;unfold bindL;exact Xv (i:=i) (List.nodup_cons.mp nd).2 (by simpa using h1) (by simpa using h2) hk
theorem Xi {kindOf:Str->Option NameKind} {v:Value}:∀ {P:List Str} {vs:List Value} {i:Nat} {m:Str->Option Value},P.Nodup->P[i]? = some x->vs[i]? = some v->kindOf x ≠ some .local ->
  bindC kindOf (P.zip vs) m x = some v
 | [],_,_,_,_,h,_,_=>by simp at h
 | _ :: _,[],_,_,_,_,h,_=>by simp at h
 | p :: P,w :: vs,0,m,nd,h1,h2,hk=>by
  simp at h1 h2; subst h1; subst h2;show bindC kindOf ((p,w) :: P.zip vs) m p = _;unfold bindC;rw [X2 λ v hv=>(List.nodup_cons.mp nd).1 (List.of_mem_zip hv).1,if_neg hk];simp
 | p :: P,w :: vs,i + 1,m,nd,h1,h2,hk=>by
  show bindC kindOf ((p,w) :: P.zip vs) m x = _;unfold bindC;exact Xi (i:=i) (List.nodup_cons.mp nd).2 (by simpa using h1) (by simpa using h2) hk
noncomputable def start (N:List Str) (vs:List V):St:=vs.map some ++ List.replicate (N.length - vs.length) none
noncomputable def Ll (CX:CXT) (P:Program) (w:World) (K:Fj) (mg:Str->Option Value) (base:Heap) (N:List Str) (qual:Str) (scope:Scope) (f:Addr) (cd:Value) (A:Around) (outer:List Env) (s:Shared) (H:Hp) (E:XK):Cx where
 prog:=P
 w:=w
 K:=K
 mg:=mg
 base:=base
 A:=A.deeper (envOfC qual scope s.heap.objs.size f cd)
 N:=N
 s₀:=s
 H₀:=H
 env:=envOfC qual scope s.heap.objs.size f cd
 outer:=outer
 stack:=envOfC qual scope s.heap.objs.size f cd :: outer
 ex:=[]
 calm:=true
 fn:=λ _=>true
 pn:=[]
 xe:=λ e s'=>wpAny (model P w) (A.deeper (envOfC qual scope s.heap.objs.size f cd)) (leaving (envOfC qual scope s.heap.objs.size f cd) e) (λ _ s''=>CX outer H s E e s'') (λ e' s''=>CX outer H s E e' s'') s'
theorem Uc {sc:Scope} (h:sc.names.lookup x = some .cell):∃ c,(cellsFrom n sc.names []).lookup x = some c:=by
 have q:=PySem.W.cellsFrom_some sc.names n [] (.inl h);exact Option.isSome_iff_exists.mp q
theorem BD {CX:CXT} {P:Program} {w:World} {K:Fj} {mg:Str->Option Value} {base:Heap} {N ps:List Str} {qual:Str} {scope:Scope} {f:Addr} {cd:Value} {A:Around} {outer:List Env} {s s1:Shared} {H:Hp} {E:XK} {us:List Value} {vs:List V}
  (S:ZA N ps scope) (hd:A.handled = none) (e0:ZaB P w K mg base A outer s H) (hl:vs.length = ps.length) (r:Vals vs us)
  (x:InCallC s s.heap.objs.size (bindL (envOfC qual scope s.heap.objs.size f cd).kindOf (ps.zip us) λ _=>none) (cellsFrom (s.heap.objs.size + 1) scope.names []) (bindC (envOfC qual scope s.heap.objs.size f cd).kindOf (ps.zip us) λ _=>none) s1) :
  Inv (Ll CX P w K mg base N qual scope f cd A outer s H E) [] (start N vs) H s1:=by
 have hpl:ps.length <= N.length:=by have:=congrArg List.length S.pre; rw [List.length_take] at this; lia
 obtain ⟨h1,tk,rfl,hk⟩:=x.done;have noA:∀ b:Addr,b ∉ (Ll CX P w K mg base N qual scope f cd A outer s H E).ex:=λ b z=>absurd (show b ∈ ([]:List Addr) from z) (by simp)
 refine ⟨⟨e0.mod,S.kind,rfl,rfl,Nat.le_refl _,λ y z c h1 h2=>?_,λ y hy=>?_,λ y c _ h=>?_,λ _=>hd,Around.frames_deeper e0.frames,.inr ⟨rfl,rfl⟩,λ b z=>absurd z (noA b),e0.bs,e0.bsz,λ b _ _=>noA b,λ b z=>absurd z (noA b),e0.GQ,e0.frf⟩,
  rfl,e0.bare,Un.kept hk,⟨_,x.toInCall.ns,λ i y v h1 h2 h3=>?_⟩,λ y c h=>⟨_,x.cell y c h⟩,e0.hok.fresh (Nat.le_refl _),λ y c h=>?_,λ p hp=>absurd (show p ∈ ([]:List (Addr × Obj)) from hp) (by simp),e0.hok.kept hk,?_⟩
 ·exact name_of_addr x.apart (PySem.mem_of_lookup h1) (PySem.mem_of_lookup h2)
 ·have hy:scope.names.lookup y = some .cell \/ scope.names.lookup y = some .free:=hy
  rcases hy with hy | hy
  ·exact Uc hy
  ·exact absurd rfl (S.nofree _ (PySem.mem_of_lookup hy))
 ·exact Nat.le_of_lt (x.above y c (PySem.mem_of_lookup h))
 ·have hi:i < vs.length:=by
   unfold start at h2
   by_cases hi:i < vs.length
   ·exact hi
   ·rw [List.getElem?_append_right (by simpa using hi)] at h2;rw [List.getElem?_replicate] at h2
    split at h2 <;> cases h2
  have ha:vs[i]? = some v:=by
   unfold start at h2;rw [List.getElem?_append_left (by simpa using hi),List.getElem?_map] at h2;cases e:vs[i]? with
   | none=>rw [e] at h2; cases h2
   | some a=>rw [e] at h2; cases h2; rfl
  obtain ⟨u,hu,rv⟩:=r.get ha;have hp:ps[i]? = some y:=by
   rw [<- S.pre,List.getElem?_take_of_lt (by lia)]; exact h1
  have ndP:ps.Nodup:=by rw [<- S.pre]; exact S.nd.sublist (List.take_sublist _ _)
  refine ⟨u,rv,?_⟩
  rcases S.par y (List.mem_of_getElem? hp) with k | k
  ·exact .inl ⟨k,Xv ndP hp hu k⟩
  ·obtain ⟨c,e⟩:=Uc (n:=s.heap.objs.size + 1) k;refine .inr ⟨.inl k,c,e,?_⟩;have q:=x.cell y c e;rw [Xi ndP hp hu (by show scope.names.lookup y ≠ _; rw [k]; decide)] at q;exact q
 ·exact e0.hok.fresh (Nat.le_of_lt (x.above y c (PySem.mem_of_lookup h)))
 ·unfold start;show _ = N.length;rw [List.length_append,List.length_map,List.length_replicate];lia
theorem Zcj {CX:CXT} {P:Program} {w:World} {K:Fj} {mg:Str->Option Value} {base:Heap} {k:Nat} {f:Addr} {name qual:Str} {params:Arguments} {body:List Stmt} {scope:Scope} {dV kV doc pm cdv ct oc:Value} {an od:Option Addr}
  {osl:Array (Option Value)} {N ps:List Str} {sp:Sp} (lk:K.lookup f = some ⟨oc,od,.func (PySem.W.fnOf name qual params body scope dV kV doc pm an cdv ct),osl⟩) (hcd:PySem.W.codeIn K cdv qual = true) (S:ZA N ps scope)
  (len:∀ vs H Q E,sp vs H Q E->vs.length = ps.length)
  (hbody:∀ (A:Around) (outer:List Env) (s:Shared) (H:Hp) (vs:List V) (Q:VK) (E:XK),QS k (A.deeper (envOfC qual scope s.heap.objs.size f cdv))->sp vs H Q E ->
   ∃ t,PSs (Ll CX P w K mg base N qual scope f cdv A outer s H E) body t /\ t { nx:=λ _ H'=>Q .non H',rt:=Q } (start N vs) H) :
  Q7 P w K mg base CX (k + 1) f (PySem.W.fnOf name qual params body scope dV kV doc pm an cdv ct) ps sp:=by
 refine ⟨len,λ A outer s H args us vs Q E hr e0 hb r hsp=>?_⟩;have hl:=len _ _ _ _ hsp;have KX:K.In s.heap:=e0.mod.kin.keeps λ b o e=>(e0.bs b o e).1;have lim:s.heap.NoLimit:=e0.mod.nolimit.keeps λ b o e=>(e0.bs b o e).1;have hkind:∀ y ∈ ps.zip us,scope.names.lookup y.1 = some .local \/ (scope.names.lookup y.1 = some .cell /\ ((cellsFrom (s.heap.objs.size + 1) scope.names []).lookup y.1).isSome = true):=λ ⟨n,v⟩ hy=>by
  rcases S.par n (List.of_mem_zip hy).1 with q | q
  ·exact .inl q
  ·exact .inr ⟨q,PySem.W.cellsFrom_some _ _ _ (.inl q)⟩
 refine codeAny_call_function hr.depth (KX _ _ lk) rfl S.co S.gen rfl (PySem.W.codeRec_of KX hcd) (hb _ _ _ _ ?_);refine wpAny_newFunctionEnv_cells S.kind hkind λ env he s1 x=>?_;subst he;refine ⟨lim.keeps x.toInCall.keep,codeAny_func ?_⟩;obtain ⟨t,ht,hq⟩:=hbody A outer s H vs Q E (hr.deeper _) hsp;have I:Inv (Ll CX P w K mg base N qual scope f cdv A outer s H E) [] (start N vs) H s1:=BD S hr.hd e0 hl r x;refine wpAny_mono (ht [] s1 (start N vs) H _ I hq) (λ fl s' hs=>?_) λ e s' hs=>hs;have fin:∀ {σ':St} {H':Hp} {v:V} {u:Value},Inv (Ll CX P w K mg base N qual scope f cdv A outer s H E) [] σ' H' s'->RelV v u->Q v H'->CE outer P w H s Q u s':=
  λ {σ' H' v u} J rv q=>⟨v,H',J.os,J.bare,J.base,J.hok,rv,q⟩
 cases fl with
 | ret u=>
  obtain ⟨v,σ',H',J,rv,q⟩:=hs;exact fin J rv q
 | next=>
  obtain ⟨σ',H',J,q⟩:=hs;exact fin (v:=V.non) (u:=Value.none) J rfl q
 | brk=>
  obtain ⟨_,_,_,q⟩:=hs;exact False.elim q
 | cont=>
  obtain ⟨_,_,_,q⟩:=hs;exact False.elim q
section
variable {p:Pos} {es:List Expr} {t:TA} {id T:String} {r:List V->Hp->VK->Prop}
def tCB (r:List V->Hp->VK->Prop) (t:TA):TE:=λ Z H Q=>t Z H λ vs H1=>r vs H1 Q
theorem ET (hc:VM X (.builtin id) r) (hg:Gl X x) (hm:X.mg x = none) (hv:bootBuiltins x = some (.builtin id)) (ha:PA X (e :: es) t) (hn:autoParam (x ≠ "__name__") zz1._auto_1) (hdb:autoParam ((x == ("__debug__" : Str)) = false) zz1._auto_1)
  (he:autoParam (starEach (e :: es) X.env = (false,eval e X.env) :: starEach es X.env) zz3._auto_1) (hpl:autoParam ((backTo pos (starEach es X.env)).any (·.1) = false) zz3._auto_1):PE X (.Call (.Name x p) (e :: es) [] pos) (tCB r t):=by
 intro pins s Z H Q I h;refine wpAny_Call_Name_kw (Ci I hg hm hv ?_ hn hdb);exact PyProof.Rows.callWith_builtin1 (thn (ha pos pins s Z H _ I h) λ us s1 ⟨vs,H1,I1,r1,q1⟩=>hc pins s1 Z H1 vs us Q I1 r1 q1) he hpl
theorem B1 (hc:VM X (.type T) r) (hg:Gl X x) (hm:X.mg x = none) (hv:bootBuiltins x = some (.type T)) (ha:PA X (e :: es) t) (hn:autoParam (x ≠ "__name__") zz1._auto_1) (hdb:autoParam ((x == ("__debug__" : Str)) = false) zz1._auto_1)
  (he:autoParam (starEach (e :: es) X.env = (false,eval e X.env) :: starEach es X.env) zz3._auto_1) (hpl:autoParam ((backTo pos (starEach es X.env)).any (·.1) = false) zz3._auto_1):PE X (.Call (.Name x p) (e :: es) [] pos) (tCB r t):=by
 intro pins s Z H Q I h;refine wpAny_Call_Name_kw (Ci I hg hm hv ?_ hn hdb);exact PyProof.Rows.callWith_type1 (thn (ha pos pins s Z H _ I h) λ us s1 ⟨vs,H1,I1,r1,q1⟩=>hc pins s1 Z H1 vs us Q I1 r1 q1) he hpl
end
end L2
namespace HT
section
open PySem.SeqAt
open PySem.AutoSeq1 (wpAny_loadPart')
open PySem.MeetsSeq PySem.MeetsSeq2 PySem.MeetsSeq3
end
section
variable {prog:Program} {E:Value->Shared->Prop}
theorem MQ {t:Addr} {vs ws:List Value} {Q:Value->Shared->Prop} (ht:IsTup s.heap t vs.toArray) (hb:IsTup s.heap b ws.toArray) (hv:vs ≠ [])
  (h1:ws = []->Q (.ref t) s) (h2:ws ≠ []->Q (.ref s.heap.objs.size) { s with heap:=s.heap.push { cls:=.type "tuple",data:=.seq (vs ++ ws).toArray } })
  (hsz:vs.length + ws.length <= sizeLine):wpAny (model prog w) A (binaryOp .Add (.ref t) (.ref b)) Q E s:=by
 obtain ⟨⟨cls,dd,data,sl⟩,ho,hc,n,hd⟩:=id ht;obtain ⟨⟨cls2,dd2,data2,sl2⟩,ho2,hc2,n2,hd2⟩:=id hb;simp only at hc hd hc2 hd2;subst hc hd hc2 hd2;have e:vs.toArray ++ ws.toArray = (vs ++ ws).toArray:=by simp
 by_cases hw:ws = []
 ·exact concat_meets ⟨_,ho,rfl⟩ ⟨_,ho2,rfl⟩ noFill_tuple_add seq_tuple_add PySem.F.slot_tuple_add PySem.F.entry_tuple_add (PySem.F.args_tuple_add_2 _ _)
   (tuple_addW1 t b vs.toArray ws.toArray n n2 dd dd2 sl sl2 (by simpa using hv) (by simp [hw])) ⟨ho,ho2,h1 hw⟩
 ·refine concat_meets ⟨_,ho,rfl⟩ ⟨_,ho2,rfl⟩ noFill_tuple_add seq_tuple_add PySem.F.slot_tuple_add PySem.F.entry_tuple_add (PySem.F.args_tuple_add_2 _ _)
   (tuple_addW2 t b vs.toArray ws.toArray n n2 dd dd2 sl sl2 (by simpa using hv) (by simpa using hw) (by rw [List.size_toArray,List.size_toArray]; exact hsz)) ⟨ho,ho2,?_⟩
  rw [e];exact h2 hw
noncomputable def sIx (n d:Nat):Option Int->Nat
 | none=>d
 | some v=>if v < 0 then (v + (n:Int)).toNat else min v.toNat n
theorem K4 (n d k:Nat):sIx n d (some (k:Int)) = min k n:=by
 show (if (k:Int) < 0 then ((k:Int) + (n:Int)).toNat else min (k:Int).toNat n) = min k n;rw [if_neg (by lia),Int.toNat_natCast]
theorem V2 (n d:Nat) (hd:d <= n) (o:Option Int):sIx n d o <= n:=by
 cases o with
 | none=>exact hd
 | some v=>
  show (if v < 0 then (v + (n:Int)).toNat else min v.toNat n) <= n
  by_cases hv:v < 0
  ·rw [if_pos hv]; lia
  ·rw [if_neg hv]; exact Nat.min_le_right _ _
theorem KP (v:Int) (n d:Nat):(if v < 0 then max (v + (n:Int)) 0 else min v (n:Int)) = ((sIx n d (some v):Nat):Int):=by
 show (if v < 0 then max (v + (n:Int)) 0 else min v (n:Int)) = (((if v < 0 then (v + (n:Int)).toNat else min v.toNat n):Nat):Int)
 by_cases hv:v < 0
 ·simp only [if_pos hv]; lia
 ·simp only [if_neg hv]; lia
theorem UZ (lo hi:Option Int) (n:Nat):Builtin.Slice.sliceAdjust lo hi 1 (n:Int) = (((sIx n 0 lo:Nat):Int),((sIx n n hi:Nat):Int)):=by
 have h1:¬ ((1:Int) < 0):=by lia
 unfold Builtin.Slice.sliceAdjust;simp only [h1,if_false];refine Prod.ext ?_ ?_
 ·cases lo with
  | none=>rfl
  | some v=>exact KP v n 0
 ·cases hi with
  | none=>rfl
  | some v=>exact KP v n n
theorem Gj (i j:Nat):Builtin.Slice.slicePlaces (i:Int) (j:Int) 1 = j - i:=by
 unfold Builtin.Slice.slicePlaces;have h1:(1:Int) > 0:=by lia
 simp only [h1,if_true,Int.ediv_one]
 split <;> lia
theorem V0 {v:Value} {o:Option Int} {Q:Option Int->Shared->Prop} (p:IsPart v o) (h:Q o s):wpAny (model prog w) A (Builtin.Slice.slicePartIndex v) Q E s:=by
 cases p with
 | none=>exact slicePart_none h
 | int i t=>exact slicePart_int h
theorem QR {sl:Addr} {vl vu:Value} {lo hi:Option Int} {n:Nat} {Q:Int × Int × Nat->Shared->Prop} (hs:s.heap.IsSliceOf sl vl vu .none) (pl:IsPart vl lo) (pu:IsPart vu hi)
  (h:Q (((sIx n 0 lo:Nat):Int),1,sIx n n hi - sIx n 0 lo) s):wpAny (model prog w) A (Builtin.Slice.sliceApplied (.ref sl) (pure (n:Int))) Q E s:=by
 obtain ⟨os,hos,hcs,hds⟩:=id hs;unfold Builtin.Slice.sliceApplied Builtin.Slice.sliceFields;refine wpAny_bind (wpAny_bind (wpAny_field hos hds (x:=vl) rfl (wpAny_bind (wpAny_field hos hds (x:=vu) rfl (wpAny_bind (wpAny_field hos hds (x:=.none) rfl (wpAny_pure ?_)))))));refine wpAny_bind (slicePart_none ?_);show wpAny _ _ (if ((1:Int) == 0) = true then _ else _) _ _ s;rw [if_neg (by decide)];refine wpAny_bind (V0 pl (wpAny_bind (V0 pu (wpAny_bind (wpAny_pure ?_)))));show wpAny _ _ (match Builtin.Slice.sliceAdjust lo hi 1 (n:Int) with | (lo,hi)=>pure (lo,(1:Int),Builtin.Slice.slicePlaces lo hi 1)) _ _ s;rw [UZ lo hi n];show wpAny _ _ (pure (((sIx n 0 lo:Nat):Int),(1:Int),Builtin.Slice.slicePlaces ((sIx n 0 lo:Nat):Int) ((sIx n n hi:Nat):Int) 1)) _ _ s;rw [Gj];exact wpAny_pure h
theorem Hq (xs:Array Value) (i k:Nat):((List.range k).filterMap λ (m:Nat)=>xs[((i:Int) + (m:Int) * 1).toNat]?).toArray = ((xs.toList.drop i).take k).toArray:=by
 have e:(λ (m:Nat)=>xs[((i:Int) + (m:Int) * 1).toNat]?) = λ m=>xs[i + m]?:=by
  funext m
  have:((i:Int) + (m:Int) * 1).toNat = i + m:=by lia
  rw [this]
 rw [e];have:=pick_run xs i k;rw [List.filterMap_map] at this;have e2:((λ x=>xs[x]?) ∘ λ x=>i + x) = λ m=>xs[i + m]?:=rfl;rw [e2] at this;rw [this]
theorem JM {t sl:Addr} {items:Array Value} {vl vu:Value} {lo hi:Option Int} {Q:Value->Shared->Prop} (ht:IsTup s.heap t items) (hs:s.heap.IsSliceOf sl vl vu .none) (pl:IsPart vl lo) (pu:IsPart vu hi)
  (hw:¬ (sIx items.size 0 lo = 0 /\ sIx items.size items.size hi = items.size))
  (h:Q (.ref s.heap.objs.size) { s with heap:=s.heap.push { cls:=.type "tuple",data:=.seq ((items.toList.drop (sIx items.size 0 lo)).take (sIx items.size items.size hi - sIx items.size 0 lo)).toArray } })
  (hsz:items.size <= sizeLine):wpAny (model prog w) A (getItem (.ref t) (.ref sl)) Q E s:=by
 have htake:sizeOk (.seq ((items.toList.drop (sIx items.size 0 lo)).take (sIx items.size items.size hi - sIx items.size 0 lo)).toArray):=by
  show ((items.toList.drop (sIx items.size 0 lo)).take (sIx items.size items.size hi - sIx items.size 0 lo)).toArray.size <= sizeLine;rw [List.size_toArray,List.length_take,List.length_drop,Array.length_toList];lia
 have hj:sIx items.size items.size hi <= items.size:=V2 _ _ (Nat.le_refl _) hi;obtain ⟨os,hos,hcs,hds⟩:=id hs;have hTs:s.TypeIs (.ref sl) "slice" := ⟨os,hos,hcs⟩
 unfold getItem
 try with_reducible refine wpAny_holding ?_
 first | refine wpAny_bind (wpAny_pure ?_) | skip
 refine wpAny_bind (wpAny_sequenceKey ht.typeIs (by decide) ?_)
 refine wpAny_bind (wpAny_callSpecial?_slot (name:=Str.ofString "__getitem__") ht.typeIs PyProof.Rows.slot_tuple_getitem
  (wpAny_call_entry PyProof.Rows.slot_tuple_getitem ht.typeIs entry_tuple_getitem ?_ (args_tuple_getitem _ _)))
 show wpAny _ _ (Builtin.Tuple.tupleItemsOf (.ref t) >>= _) _ _ s;refine wpAny_bind (tupleItemsOf_ ht ?_);refine wpAny_bind (wpAny_typeOf hTs ?_);rw [if_pos (by decide)];refine wpAny_bind (QR hs pl pu ?_);have hno:¬ ((((sIx items.size 0 lo:Nat):Int) == 0 && (1:Int) == 1 && (sIx items.size items.size hi - sIx items.size 0 lo) == items.size) = true):=by
  intro q;rw [Bool.and_eq_true,Bool.and_eq_true] at q;have q1:((sIx items.size 0 lo:Nat):Int) = 0:=eq_of_beq q.1.1;have q2:sIx items.size items.size hi - sIx items.size 0 lo = items.size:=eq_of_beq q.2;exact hw ⟨by lia,by lia⟩
 show wpAny _ _ (if (((sIx items.size 0 lo:Nat):Int) == 0 && (1:Int) == 1 && (sIx items.size items.size hi - sIx items.size 0 lo) == items.size) = true then _ else _) _ _ s;rw [if_neg hno,Hq]
 first
  | exact wpAny_bind (m:=Builtin.Tuple.tupleExact _) (wpAny_newObj_type (wpAny_pure ⟨_,rfl,wpAny_pure h⟩) htake)
  | exact wpAny_bind (m:=Builtin.Tuple.tupleExact _) (wpAny_newObj_type (wpAny_bind (wpAny_pure (wpAny_pure ⟨_,rfl,wpAny_pure h⟩))) htake)
  | exact wpAny_bind (wpAny_bind (m:=Builtin.Tuple.tupleExact _) (wpAny_newObj_type (wpAny_pure (wpAny_pure ⟨_,rfl,wpAny_pure h⟩)) htake))
  | exact wpAny_bind (wpAny_bind (m:=Builtin.Tuple.tupleExact _) (wpAny_newObj_type (wpAny_pure ⟨_,rfl,wpAny_pure h⟩) htake))
end
end HT
namespace L2
abbrev TO:=St->Hp->(Option Int->Hp->Prop)->Prop
def PO (X:Cx) (e:Option Expr) (t:TO):Prop:=
 ∀ (pins:List (Addr × Obj)) (s:Shared) (Z:St) (H:Hp) (Q:Option Int->Hp->Prop),Inv X pins Z H s->t Z H Q ->
  wpAny (model X.prog X.w) X.A (evalPart e X.env) (λ u s'=>∃ o H',Inv X pins Z H' s' /\ IsPart u o /\ Q o H') X.xe s
def MP:TO:=λ _ H Q=>Q none H
def Za6 (t:TE):TO:=λ Z H Q=>t Z H λ x H1=>∃ i,x = .int i /\ Q (some i) H1
section
variable {te:TE} {lo hi:Option Expr} {tl th:TO}
theorem Ms:PO X none MP:=by
 intro pins s Z H Q I h;rw [evalPart_none];exact wpAny_pure ⟨none,H,I,.none,h⟩
theorem Mo (h:PE X e te):PO X (some e) (Za6 te):=by
 intro pins s Z H Q I hw;rw [evalPart_some];refine thn (h pins s Z H _ I hw) λ u s1 ⟨x,H1,I1,r1,q1⟩=>?_;obtain ⟨i,rfl,q⟩:=q1;obtain ⟨t,rfl⟩:=r1;exact ⟨some i,H1,I1,.int i t,q⟩
def SlR (X:Cx) (r:V->Option Int->Option Int->Hp->VK->Prop):Prop:=
 ∀ (pins:List (Addr × Obj)) (s:Shared) (Z:St) (H:Hp) (x:V) (v vl vu:Value) (lo hi:Option Int) (sl:Addr) (Q:VK),Inv X pins Z H s->RelV x v->s.heap.IsSliceOf sl vl vu .none->IsPart vl lo->IsPart vu hi->r x lo hi H Q ->
  ∃ T id,typeLookup (.type T) "__getitem__" = pure (some (.builtin id)) /\ s.TypeIs v T /\ wpAny (model X.prog X.w) X.A (getItem v (.ref sl)) (EP X pins Z Q) X.xe s
theorem SlR.or {r r':V->Option Int->Option Int->Hp->VK->Prop} (h:SlR X r) (h':SlR X r'):SlR X (λ x lo hi H Q=>r x lo hi H Q \/ r' x lo hi H Q):=by
 intro pins s Z H x v vl vu lo hi sl Q I rx hs pl pu q
 rcases q with q | q
 ·exact h pins s Z H x v vl vu lo hi sl Q I rx hs pl pu q
 ·exact h' pins s Z H x v vl vu lo hi sl Q I rx hs pl pu q
def tSl (r:V->Option Int->Option Int->Hp->VK->Prop) (te:TE) (tl th:TO):TE:=λ Z H Q=>te Z H λ x H1=>tl Z H1 λ l H2=>th Z H2 λ u H3=>r x l u H3 Q
theorem Yp {r:V->Option Int->Option Int->Hp->VK->Prop} (hr:SlR X r) (he:PE X e te) (hl:PO X lo tl) (hu:PO X hi th):PE X (.Subscript e (.Slice lo hi none p2) pos) (tSl r te tl th):=by
 intro pins s Z H Q I h;refine Subscript_ (thn (he pins s Z H _ I h) λ v s1 ⟨x,H1,I1,r1,q1⟩=>?_);refine wpAny_Slice (thn (hl pins s1 Z H1 _ I1 q1) λ vl s2 ⟨l,H2,I2,pl,q2⟩=>thn (hu pins s2 Z H2 _ I2 q2) λ vu s3 ⟨u,H3,I3,pu,q3⟩=>?_);rw [evalPart_none];refine wpAny_pure ?_;have I4:Inv X pins Z H3 { s3 with heap:=s3.heap.push { cls:=.type "slice",data:=.fields #[vl,vu,.none] } }:=I3.kept (t':=s3.toks) λ b ob q=>Heap.get?_push_of_some _ q;obtain ⟨T,id,hT,ht,hg⟩:=hr pins { s3 with heap:=s3.heap.push { cls:=.type "slice",data:=.fields #[vl,vu,.none] } } Z H3 x v vl vu l u s3.heap.objs.size Q I4 r1 (Heap.IsSliceOf.new ..) pl pu q3;show wpAny (model X.prog X.w) X.A (subscriptTail e (.Slice lo hi none p2) v (.ref s3.heap.objs.size)) (EP X pins Z Q) X.xe { s3 with heap:=s3.heap.push { cls:=.type "slice",data:=.fields #[vl,vu,.none] } };exact tail_any (ops:=[.ref s3.heap.objs.size,v]) ht hT hg (by with_unfolding_all rfl)
noncomputable def Lp (xs:List V) (lo hi:Option Int):List V:=(xs.drop (HT.sIx xs.length 0 lo)).take (HT.sIx xs.length xs.length hi - HT.sIx xs.length 0 lo)
theorem Va (xs:List V) (lo hi:Option Int):(Lp xs lo hi).length <= xs.length:=by
 unfold Lp;rw [List.length_take,List.length_drop];lia
def ZdG (K:Fj):V->Option Int->Option Int->Hp->VK->Prop:=λ x lo hi H Q=>∃ a xs,x = .ref a /\ SqT K H a xs /\
 ¬ (HT.sIx xs.length 0 lo = 0 /\ HT.sIx xs.length xs.length hi = xs.length) /\ ∀ p,H p = none->Q (.ref p) (upd H p (.tup (Lp xs lo hi)))
theorem Rv:SlR X (ZdG X.K):=by
 intro pins s Z H x v vl vu lo hi sl Q I rx hs pl pu h;obtain ⟨a,xs,rfl,hx,hw,q⟩:=h;cases rx;obtain ⟨its,r,ht,hz⟩:=I.tuple hx;have hlen:its.toArray.size = xs.length:=by rw [List.size_toArray]; exact r.length.symm
 refine ⟨"tuple",_,PyProof.Rows.slot_tuple_getitem.lookup,ht.typeIs,?_⟩;refine HT.JM ht hs pl pu (by rw [hlen]; exact hw) ?_ (by rw [hlen]; exact hz);rw [hlen];refine ⟨.ref s.heap.objs.size,_,I.laid (t':=s.toks) (o:=.tup (Lp xs lo hi)) (λ b ob q=>Heap.get?_push_of_some _ q) (Nat.le_refl _) ?_,rfl,q _ (I.hok.fresh (Nat.le_refl _))⟩;exact ⟨Nat.le_trans (Va xs lo hi) hz,_,(r.drop (HT.sIx xs.length 0 lo)).take (HT.sIx xs.length xs.length hi - HT.sIx xs.length 0 lo),IsTup.new _ _⟩
def Zcn (K:Fj):R2:=λ x y H Q=>∃ a b xs ys,x = .ref a /\ y = .ref b /\ SqT K H a xs /\ SqT K H b ys /\ xs ≠ [] /\ xs.length + ys.length <= sizeLine /\
 (ys = []->Q (.ref a) H) /\ (ys ≠ []->∀ p,H p = none->Q (.ref p) (upd H p (.tup (xs ++ ys))))
theorem Vals.Yu (r:Vals xs us):us = [] ↔ xs = []:=by
 cases r with
 | nil=>simp
 | cons _ _=>simp
theorem Nk:OpR X (binaryOp .Add) (Zcn X.K):=by
 intro pins s Z H x y v u Q I rx ry h;obtain ⟨a,b,xs,ys,rfl,rfl,ha,hb,hx,hz,q1,q2⟩:=h;cases rx;cases ry;obtain ⟨its,r1,p1,_⟩:=I.tuple ha;obtain ⟨its2,r2,p2,_⟩:=I.tuple hb;refine HT.MQ p1 p2 (λ z=>hx (r1.Yu.mp z)) (λ z=>⟨.ref a,H,I,rfl,q1 (r2.Yu.mp z)⟩) (λ z=>?_) (by rw [<- r1.length,<- r2.length]; exact hz);refine ⟨.ref s.heap.objs.size,_,I.laid (t':=s.toks) (o:=.tup (xs ++ ys)) (λ b ob q=>Heap.get?_push_of_some _ q) (Nat.le_refl _) ?_,rfl,q2 (λ w=>z (r2.Yu.mpr w)) _ (I.hok.fresh (Nat.le_refl _))⟩;exact ⟨by rw [List.length_append]; exact hz,_,r1.append r2,IsTup.new _ _⟩
end
noncomputable def ixN (n:Nat) (i:Int):Option Nat:=if 0 <= i then (if i < n then some i.toNat else none) else if -(n:Int) <= i then some (i + n).toNat else none
noncomputable def atI {α:Type} (xs:List α) (i:Int):Option α:=(ixN xs.length i).bind λ j=>xs[j]?
theorem C2 {i:Int} (h:ixN n i = some j):seqIndex? i n = some j /\ j < n /\ -(n:Int) <= i /\ i < n:=by
 unfold ixN at h
 by_cases h0:0 <= i
 ·rw [if_pos h0] at h
  by_cases h1:i < n
  ·rw [if_pos h1] at h;have e:i.toNat = j:=Option.some.inj h;exact ⟨by rw [seqIndex_of h0 h1,e],by lia,by lia,h1⟩
  ·rw [if_neg h1] at h; cases h
 ·rw [if_neg h0] at h
  by_cases h1:-(n:Int) <= i
  ·rw [if_pos h1] at h;have e:(i + n).toNat = j:=Option.some.inj h;exact ⟨by rw [seqIndex_neg (by lia) h1,e],by lia,h1,by lia⟩
  ·rw [if_neg h1] at h; cases h
theorem K1 {α:Type} {xs:List α} {i:Int} {v:α} (h:atI xs i = some v):∃ j,seqIndex? i xs.length = some j /\ xs[j]? = some v /\ j < xs.length /\ -(xs.length:Int) <= i /\ i < xs.length:=by
 unfold atI at h;cases e:ixN xs.length i with
 | none=>rw [e] at h; cases h
 | some j=>
  rw [e] at h;obtain ⟨h1,h2,h3,h4⟩:=C2 e;exact ⟨j,h1,h,h2,h3,h4⟩
theorem JE {α:Type} {xs:List α} {j:Nat} {v:α} (h:xs[j]? = some v):atI xs (j:Int) = some v:=by
 have hj:j < xs.length:=(List.getElem?_eq_some_iff.mp h).1;have e:ixN xs.length (j:Int) = some j:=by
  unfold ixN;rw [if_pos (by lia),if_pos (by lia)]; simp
 unfold atI; rw [e]; exact h
def Wr (b:Expr):Prop:=∀ o i,subscripted b false o i = operate [o,i] (getItem o i)
def IxR (X:Cx) (r:R2):Prop:=
 ∀ (value slice:Expr) (pins:List (Addr × Obj)) (s:Shared) (Z:St) (H:Hp) (x y:V) (v u:Value) (Q:VK),Inv X pins Z H s->RelV x v->RelV y u->r x y H Q ->
  subscripted slice false v u = operate [v,u] (getItem v u)->wpAny (model X.prog X.w) X.A (subscriptTail value slice v u) (EP X pins Z Q) X.xe s
def MtR (X:Cx) (id:String) (r:V->List V->Hp->VK->Prop):Prop:=
 ∀ (pins:List (Addr × Obj)) (s:Shared) (Z:St) (H:Hp) (x:V) (xs:List V) (v:Value) (us:List Value) (Q:VK),Inv X pins Z H s->RelV x v->Vals xs us->r x xs H Q ->
  wpAny (model X.prog X.w) X.A (call (.builtin id) (v :: us)) (EP X pins Z Q) X.xe s
section
variable {a b:Expr} {ta tb:TE}
theorem IxR.or {r r':R2} (h:IxR X r) (h':IxR X r'):IxR X (λ x y H Q=>r x y H Q \/ r' x y H Q):=by
 intro value slice pins s Z H x y v u Q I rx ry q hs
 rcases q with q | q
 ·exact h value slice pins s Z H x y v u Q I rx ry q hs
 ·exact h' value slice pins s Z H x y v u Q I rx ry q hs
theorem Rx {r:R2} (hr:IxR X r) (ha:PE X a ta) (hb:PE X b tb) (hs:Wr b):PE X (.Subscript a b pos) (tOp r ta tb):=by
 intro pins s Z H Q I h;exact Subscript_ (Zcb ha hb I h λ v u s2 x y H2 I2 rx ry q=>hr a b pins s2 Z H2 x y v u Q I2 rx ry q (hs _ _))
def Zc5 (K:Fj):R2:=λ x y H Q=>∃ p xs i v,x = .ref p /\ y = .int i /\ SqL K H p xs /\ atI xs i = some v /\ Q v H
def ZcN (K:Fj):R2:=λ x y H Q=>∃ p xs i v,x = .ref p /\ y = .int i /\ SqT K H p xs /\ atI xs i = some v /\ Q v H
def Zcs:R2:=λ x y H Q=>∃ z i c,x = .str z /\ y = .int i /\ z.length <= sizeLine /\ atI z.cps.toList i = some c /\ Q (.str ⟨#[c]⟩) H
theorem NH:IxR X (Zc5 X.K):=by
 intro value slice pins s Z H x y v u Q I rx ry h hs;obtain ⟨p,xs,i,z,rfl,rfl,hq,he,q⟩:=h;cases rx;obtain ⟨t,rfl⟩:=ry;obtain ⟨its,r,pl,hz⟩:=I.list hq;obtain ⟨j,h1,h2,h3,h4,h5⟩:=K1 he;obtain ⟨w,ew,rw'⟩:=r.get h2;have hl:=r.length;have hn:=Ya;have fin:EP X pins Z Q w s:=⟨z,H,I,rw',q⟩
 by_cases h0:0 <= i
 ·have hj:i.toNat = j:=by
   rw [seqIndex_of h0 h5] at h1;exact Option.some.inj h1
  exact item_listR pl.isList h0 (by lia) (by rw [hj]; simpa using ew) fin hs
 ·have hj:(i + (its.toArray.size:Int)).toNat = j:=by
   rw [seqIndex_neg (by lia) h4] at h1;rw [List.size_toArray,<- hl];exact Option.some.inj h1
  exact subscriptTail_builtinR (x:=w) pl.isList.typeIs slot_list_getitem.lookup
   (wpAny_getItem_list_neg (Q:=λ r s'=>r = w /\ EP X pins Z Q r s') pl.isList (by lia) (by rw [List.size_toArray] <;> lia) (by lia) (by rw [hj]; simpa using ew) ⟨rfl,fin⟩) hs
theorem Sr:IxR X (ZcN X.K):=by
 intro value slice pins s Z H x y v u Q I rx ry h hs;obtain ⟨p,xs,i,z,rfl,rfl,hq,he,q⟩:=h;cases rx;obtain ⟨t,rfl⟩:=ry;obtain ⟨its,r,pl,hz⟩:=I.tuple hq;obtain ⟨j,h1,h2,h3,h4,h5⟩:=K1 he;obtain ⟨w,ew,rw'⟩:=r.get h2;have hl:=r.length;have hn:=Ya;have fin:EP X pins Z Q w s:=⟨z,H,I,rw',q⟩
 exact subscriptTail_builtinR (x:=w) pl.typeIs slot_tuple_getitem.lookup
  (getItem_tuple (j:=j) (Q:=λ r s'=>r = w /\ EP X pins Z Q r s') pl (by lia) (by lia) (by rw [List.size_toArray,<- hl]; exact h1) (by simpa using ew) ⟨rfl,fin⟩) hs
theorem HX:IxR X Zcs:=by
 intro value slice pins s Z H x y v u Q I rx ry h hs;obtain ⟨z,i,c,rfl,rfl,hz,he,q⟩:=h;obtain ⟨t,rfl⟩:=rx;obtain ⟨t',rfl⟩:=ry;obtain ⟨j,h1,h2,h3,h4,h5⟩:=K1 he;have hl:z.cps.toList.length = z.length:=by simp [Str.length]
 rw [hl] at h1 h4 h5;have hn:=Ya
 exact tail_any (typeIs_str s z t) slot_str_getitem.lookup (getItem_str (c:=c) (by
  have e1:decide (i < -(2 ^ 63:Int)) = false:=decide_eq_false (by lia);have e2:decide (i ≥ 2 ^ 63) = false:=decide_eq_false (by lia)
  rw [e1,e2,Bool.or_false]) (by rw [h1]; simpa using h2) ⟨.str ⟨#[c]⟩,H,I.tok _,⟨_,rfl⟩,q⟩) hs
def rIx (K:Fj):R2:=λ x y H Q=>Zc5 K x y H Q \/ ZcN K x y H Q \/ Zcs x y H Q
theorem PM:IxR X (rIx X.K):=NH.or (Sr.or HX)
theorem UX (its:List Value) (n j:Nat) (u:Value):Obj.mapSeq (·.setIfInBounds j u) { cls:=.type "list",data:=.seq its.toArray n } = { cls:=.type "list",data:=.seq (its.set j u).toArray n }:=by
 simp [Obj.mapSeq]
theorem Inv.lst (I:Inv X pins Z H s) (h:H p = some (.lst xs)) :
  ∃ (its:List Value) (n:Nat),Vals xs its /\ s.heap.get? p = some { cls:=.type "list",data:=.seq its.toArray n } /\ xs.length <= sizeLine:=by
 obtain ⟨z,its,n,r,e⟩:=I.hok p _ h;exact ⟨its,n,r,e,z⟩
theorem Inv.S9 {ys:List V} {its its':List Value} {n n':Nat} {f:Obj->Obj} (I:Inv X pins Z H s) (h:H p = some (.lst xs))
  (ho:s.heap.get? p = some { cls:=.type "list",data:=.seq its.toArray n }) (hf:f { cls:=.type "list",data:=.seq its.toArray n } = { cls:=.type "list",data:=.seq its'.toArray n' }) (r:Vals ys its') (hz:ys.length <= sizeLine) (t:Nat) :
  Inv X pins Z (upd H p (.lst ys)) { s with heap:=s.heap.update p f,toks:=t }:=by
 have e:(s.heap.update p f).get? p = some { cls:=.type "list",data:=.seq its'.toArray n' }:=by
  rw [Heap.get?_update_self f ho (by rw [hf] <;> rfl),hf]
 refine I.write (x:=p) (e:=p) (by rw [h]; trivial) (.inl rfl) (λ b u hb q=>(Heap.get?_update_other _ _ (Ne.symm hb)).trans q) ⟨_,e⟩ ?_;exact ⟨hz,its',n',r,e⟩
def Zbc:V->V->V->Hp->(Hp->Prop)->Prop:=λ o i v H Q=>∃ p xs k j,o = .ref p /\ i = .int k /\ H p = some (.lst xs) /\ ixN xs.length k = some j /\ Q (upd H p (.lst (xs.set j v)))
theorem set_list:Zc4 X Zbc:=by
 intro pins s Z H o i v ov iv u Q I ro ri rv h;obtain ⟨p,xs,k,j,rfl,rfl,hp,hj,q⟩:=h;cases ro;obtain ⟨t,rfl⟩:=ri;obtain ⟨its,n,r,ho,hz⟩:=I.lst hp;obtain ⟨h1,h2,h3,h4⟩:=C2 hj;have hl:=r.length;have hn:=Ya;have I':Inv X pins Z (upd H p (.lst (xs.set j v))) { s with heap:=s.heap.update p (Obj.mapSeq (·.setIfInBounds j u)) }:=
  I.S9 hp ho (UX its n j u) (r.set rv j) (by rw [List.length_set]; exact hz) s.toks
 by_cases h0:0 <= k
 ·have hk:k.toNat = j:=by
   rw [seqIndex_of h0 h4] at h1;exact Option.some.inj h1
  exact PySem.W.ki_setAt ho h0 (by lia) (by rw [List.size_toArray,<- hl]; exact h4) (by rw [hk]; exact ⟨_,I',q⟩)
 ·have hk:(k + (its.toArray.size:Int)).toNat = j:=by
   rw [seqIndex_neg (by lia) h3] at h1;rw [List.size_toArray,<- hl];exact Option.some.inj h1
  exact PySem.W.ki_setBack ho (by lia) (by rw [List.size_toArray,<- hl]; exact h3) (by lia) (by rw [hk]; exact ⟨_,I',q⟩)
theorem Xn (lo hi:Option Int) (n:Nat):(sliceBounds lo hi none n).1 = ((HT.sIx n 0 lo:Nat):Int) /\ (sliceBounds lo hi none n).2.1 = ((HT.sIx n n hi:Nat):Int) /\ (sliceBounds lo hi none n).2.2 = 1:=by
 refine ⟨?_,?_,rfl⟩
 ·cases lo with
  | none=>simp [sliceBounds,HT.sIx]
  | some i=>
   simp only [sliceBounds,HT.sIx,Option.getD_none,show (1:Int) > 0 by decide,if_true]
   by_cases h:i < 0
   ·simp only [h,if_true] <;> lia
   ·simp only [h,if_false] <;> lia
 ·cases hi with
  | none=>simp [sliceBounds,HT.sIx]
  | some i=>
   simp only [sliceBounds,HT.sIx,Option.getD_none,show (1:Int) > 0 by decide,if_true]
   by_cases h:i < 0
   ·simp only [h,if_true] <;> lia
   ·simp only [h,if_false] <;> lia
theorem Y3 (its:List Value) (lo hi:Option Int):slicePick its.toArray lo hi none = ((its.drop (HT.sIx its.length 0 lo)).take (HT.sIx its.length its.length hi - HT.sIx its.length 0 lo)).toArray:=by
 obtain ⟨h1,h2,h3⟩:=Xn lo hi its.toArray.size;unfold slicePick;rw [h1,h2,h3];simp only [sliceRange_one,pick_run,List.size_toArray] <;> rfl
def ZdF (K:Fj):V->Option Int->Option Int->Hp->VK->Prop:=λ x lo hi H Q=>∃ a xs,x = .ref a /\ SqL K H a xs /\ ∀ p,H p = none->Q (.ref p) (upd H p (.lst (Lp xs lo hi)))
theorem N9:SlR X (ZdF X.K):=by
 intro pins s Z H x v vl vu lo hi sl Q I rx hs pl pu h;obtain ⟨a,xs,rfl,hx,q⟩:=h;cases rx;obtain ⟨its,r,ht,hz⟩:=I.list hx;have hlen:=r.length;refine ⟨"list",_,slot_list_getitem.lookup,ht.isList.typeIs,?_⟩;refine wpAny_getItem_list_slice ht.isList hs pl pu .none (by simp) ?_ (by rw [List.size_toArray] <;> lia);rw [Y3,<- hlen];refine ⟨.ref s.heap.objs.size,_,I.laid (t':=s.toks) (o:=.lst (Lp xs lo hi)) (λ b ob q=>Heap.get?_push_of_some _ q) (Nat.le_refl _) ?_,rfl,q _ (I.hok.fresh (Nat.le_refl _))⟩;exact ⟨Nat.le_trans (Va xs lo hi) hz,_,0,(r.drop (HT.sIx xs.length 0 lo)).take (HT.sIx xs.length xs.length hi - HT.sIx xs.length 0 lo),Heap.get?_push_size _ rfl⟩
theorem Y7:VM X (.builtin "len") (λ xs H Q=>∃ p ys,xs = [.ref p] /\ (SqL X.K H p ys \/ SqT X.K H p ys) /\ Q (.int ys.length) H):=by
 intro pins s Z H xs us Q I r h;obtain ⟨p,ys,rfl,hq,q⟩:=h;obtain ⟨u,rfl,rx⟩:=vals1 r;cases rx;have hn:=Ya
 rcases hq with hq | hq
 ·obtain ⟨its,r',pl,hz⟩:=I.list hq;have hlen:=r'.length;exact Calls.call_len_list pl.isList (by simp only [List.size_toArray] <;> lia) ⟨.int ys.length,H,I.tok _,⟨s.toks + 1,by rw [List.size_toArray,hlen]⟩,q⟩
 ·obtain ⟨its,r',pl,hz⟩:=I.tuple hq;have hlen:=r'.length;exact len_tuple pl (by simp only [List.size_toArray] <;> lia) ⟨.int ys.length,H,I.tok _,⟨s.toks + 1,by rw [List.size_toArray,hlen]⟩,q⟩
theorem XA:VM X (.builtin "len") (λ xs H Q=>∃ z,xs = [.str z] /\ z.length <= sizeLine /\ Q (.int z.length) H):=by
 intro pins s Z H xs us Q I r h;obtain ⟨z,rfl,hz,q⟩:=h;obtain ⟨u,rfl,t,rfl⟩:=vals1 r;have hn:=Ya;exact len_str (by lia) ⟨.int z.length,H,I.tok _,⟨_,rfl⟩,q⟩
theorem YW:VM X (.type "tuple") (λ xs H Q=>∃ p ys,xs = [.ref p] /\ ((SqL X.K H p ys /\ ∀ l,H l = none->Q (.ref l) (upd H l (.tup ys))) \/ (SqT X.K H p ys /\ Q (.ref p) H))):=by
 intro pins s Z H xs us Q I r h;obtain ⟨p,ys,rfl,h⟩:=h;obtain ⟨u,rfl,rx⟩:=vals1 r;cases rx
 rcases h with ⟨hq,q⟩ | ⟨hq,q⟩
 ·obtain ⟨its,r',pl,hz⟩:=I.list hq;have hlen:=r'.length;refine call_tuple_list pl.isList (λ h' kp=>?_) (by simp only [List.size_toArray] <;> lia);have I1:Inv X pins Z H { s with heap:=h' }:=I.kept (t':=s.toks) kp;have I2:Inv X pins Z (upd H h'.objs.size (.tup ys)) { s with heap:=h'.push { cls:=.type "tuple",data:=.seq its.toArray } }:=
   I1.laid (t':=s.toks) (λ b o e=>Heap.get?_push_of_some _ e) (Nat.le_refl _) (show Qe X.prog X.w _ _ _ (.tup ys) from ⟨hz,its,r',IsTup.new _ _⟩)
  exact ⟨.ref h'.objs.size,_,I2,rfl,q _ (I1.hok.fresh (Nat.le_refl _))⟩
 ·obtain ⟨its,r',pl,hz⟩:=I.tuple hq;exact call_tuple_same pl ⟨.ref p,H,I,rfl,q⟩
def tyV (K:Fj) (T:String) (x:V) (H:Hp):Prop:=match x with
 | .str _=>T = "str"
 | .int _=>T = "int"
 | .ref p=>(T = "list" /\ ∃ xs,SqL K H p xs) \/ (T = "tuple" /\ ∃ o,K.lookup p = some o /\ o.cls = .type "tuple" /\ o.dict = none) \/
   (T = "dict" /\ ((∃ kvs,H p = some (.dK kvs)) \/ ∃ kvs,H p = some (.dT kvs))) \/ (T = "set" /\ ∃ S n,H p = some (.set S n))
 | _=>False
theorem Lr {T:String} {x:V} {v:Value} (I:Inv X pins Z H s) (r:RelV x v) (ty:tyV X.K T x H) :
  s.TypeIs v T /\ ∀ a,v = .ref a->∃ ob,s.heap.get? a = some ob /\ ob.dict = none:=by
 cases x with
 | str z=>
  obtain ⟨t,rfl⟩:=r;cases (show T = "str" from ty);exact ⟨typeIs_str s z t,λ _ e=>nomatch e⟩
 | int i=>
  obtain ⟨t,rfl⟩:=r;cases (show T = "int" from ty);exact ⟨typeIs_int s i t,λ _ e=>nomatch e⟩
 | ref p=>
  cases r
  rcases ty with ⟨rfl,xs,hq⟩ | ⟨rfl,o,hk,hc,hd⟩ | ⟨rfl,hk⟩ | ⟨rfl,S,n,hk⟩
  ·obtain ⟨its,_,pl,_⟩:=I.list hq;refine ⟨pl.isList.typeIs,λ a e=>?_⟩;cases e;obtain ⟨o,n,e,c,hd,_⟩:=pl;exact ⟨o,e,hd⟩
  ·refine ⟨⟨o,I.kIn p o hk,hc⟩,λ a e=>?_⟩;cases e;exact ⟨o,I.kIn _ o hk,hd⟩
  ·have z:∃ o,s.heap.get? p = some o /\ o.ExactDict:=by
    rcases hk with ⟨kvs,hk⟩ | ⟨kvs,hk⟩
    ·obtain ⟨_,_,_,_,o,_,_,e,ex,_⟩:=I.hok p _ hk;exact ⟨o,e,ex⟩
    ·obtain ⟨_,_,_,_,o,_,_,e,ex,_⟩:=I.hok p _ hk;exact ⟨o,e,ex⟩
   obtain ⟨o,e,ex⟩:=z;refine ⟨⟨o,e,ex.1⟩,λ a e2=>?_⟩;cases e2;exact ⟨o,e,ex.2.1⟩
  ·obtain ⟨o,_,_,_,e,ex,_⟩:=I.hok p _ hk;refine ⟨⟨o,e,ex.1⟩,λ a e2=>?_⟩;cases e2;exact ⟨o,e,ex.2.1⟩
 | _=>exact False.elim ty
def Zdj (K:Fj) (T:String) (r:V->List V->Hp->VK->Prop) (to:TE):TE:=λ Z H Q=>to Z H λ x H1=>tyV K T x H1 /\ r x [] H1 Q
def tBM (K:Fj) (T:String) (r:V->List V->Hp->VK->Prop) (to:TE) (t:TA):TE:=λ Z H Q=>to Z H λ x H1=>tyV K T x H1 /\ t Z H1 λ xs H2=>r x xs H2 Q
variable {o:Expr} {es:List Expr} {to:TE} {t:TA} {name:Str} {apos cpos:Pos} {T id:String} {r:V->List V->Hp->VK->Prop}
theorem R5 (pa:PlainAttrs T) (slot:Slot T name id) (hty:typeOf (.builtin id) = pure (.type "method_descriptor")) (hm:MtR X id r) (ho:PE X o to)
  (hbase:autoParam (attributeBase o name X.env (eval o X.env) = eval o X.env) zz3._auto_1) (hline:autoParam ((apos.endLine == cpos.line) = true) zz3._auto_1):PE X (.Call (.Attribute o name apos) [] [] cpos) (Zdj X.K T r to):=by
 intro pins s Z H Q I h;refine wpAny_Call_method0_late hbase hline (thn (ho pins s Z H _ I h) λ v s1 ⟨x,H1,I1,r1,ty,q1⟩=>?_);obtain ⟨h1,h2⟩:=Lr I1 r1 ty;exact ⟨T,id,pa,slot,hty,h1,h2,Calls.callWith_builtin rfl (PySem.evalArgs_none (hm pins s1 Z H1 x [] v [] Q I1 r1 .nil q1))⟩
theorem OJ (pa:PlainAttrs T) (slot:Slot T name id) (hty:typeOf (.builtin id) = pure (.type "method_descriptor")) (hm:MtR X id r) (ho:PE X o to) (ha:PA X (e :: es) t)
  (hbase:autoParam (attributeBase o name X.env (eval o X.env) = eval o X.env) zz3._auto_1)
  (hfew:((backTo cpos (starEach (e :: es) X.env)).all (λ x=>!x.1) && (backToKw cpos (keywordEach [] X.env)).all (λ x=>x.1.isSome)
   && decide ((e :: es).length + ([]:List Keyword).length + (if ([]:List Keyword).isEmpty then 0 else 1) < 30)) = true:=by rfl)
  (hline:autoParam ((apos.endLine == cpos.line) = true) zz3._auto_1) (hs:autoParam (starEach (e :: es) X.env = (false,eval e X.env) :: starEach es X.env) zz3._auto_1) (hplain:autoParam ((backTo cpos (starEach es X.env)).any (·.1) = false) zz3._auto_1) :
  PE X (.Call (.Attribute o name apos) (e :: es) [] cpos) (tBM X.K T r to t):=by
 intro pins s Z H Q I h;refine wpAny_Call_method_late hbase hfew hline rfl (thn (ho pins s Z H _ I h) λ v s1 ⟨x,H1,I1,r1,ty,q1⟩=>?_);obtain ⟨h1,h2⟩:=Lr I1 r1 ty;refine ⟨T,id,pa,slot,hty,h1,h2,?_⟩;have hA:=ha cpos pins s1 Z H1 _ I1 q1;rw [hs] at hA ⊢;refine Calls.callWith_builtin (by show (false || (backTo cpos (starEach es X.env)).any (·.1)) = false; rw [hplain] <;> rfl) (Calls.evalArgs_plain ?_);exact thn hA λ us s2 ⟨vs,H2,I2,r2,q2⟩=>hm pins s2 Z H2 x vs v us Q I2 r1 r2 q2
end
def MtM (X:Cx) (id:String) (r:V->List V->Hp->VK->Prop):Prop:=
 ∀ (pins:List (Addr × Obj)) (s:Shared) (Z:St) (H:Hp) (x:V) (xs:List V) (v:Value) (us:List Value) (Q:VK),Inv X pins Z H s->RelV x v->Vals xs us->r x xs H Q ->
  wpAny (model X.prog X.w) X.A (call (.builtin id) (v :: us)) (EP X pins Z Q) X.xe s
theorem Vals.one {x:V} (h:Vals [x] us):∃ u,us = [u] /\ RelV x u:=by
 cases h with | cons r t=>cases t; exact ⟨_,rfl,r⟩
theorem Vals.two {x:V} (h:Vals [x,y] us):∃ u v,us = [u,v] /\ RelV x u /\ RelV y v:=by
 cases h with | cons r t=>cases t with | cons q t=>cases t; exact ⟨_,_,rfl,r,q⟩
theorem Vals.zero:∀ {us:List Value},Vals [] us->us = []
 | _,.nil=>rfl
theorem Vals.reverse (h:Vals xs us):Vals xs.reverse us.reverse:=by
 induction h with
 | nil=>exact .nil
 | cons r t ih=>rw [List.reverse_cons,List.reverse_cons]; exact Vals.append ih (.cons r .nil)
theorem Vals.rep (h:Vals xs us):∀ k:Nat,Vals (List.replicate k xs).flatten (List.replicate k us).flatten
 | 0=>.nil
 | k + 1=>by
  rw [List.replicate_succ,List.replicate_succ,List.flatten_cons,List.flatten_cons];exact Vals.append h (Vals.rep h k)
theorem foldl_rep (its:List Value):∀ (k:Nat) (acc:List Value),
  List.foldl (λ x1 x2=>x1 ++ x2) acc.toArray (List.replicate k its.toArray) = (acc ++ (List.replicate k its).flatten).toArray
 | 0,acc=>by simp
 | k + 1,acc=>by
  have e:acc.toArray ++ its.toArray = (acc ++ its).toArray:=by simp
  have e2:(acc ++ its) ++ (List.replicate k its).flatten = acc ++ (List.replicate (k + 1) its).flatten:=by
   rw [List.replicate_succ,List.flatten_cons,List.append_assoc]
  rw [<- e2,<- foldl_rep its k (acc ++ its),<- e,List.replicate_succ,List.foldl_cons]
section
variable {l:Addr} {ys zs:List V}
theorem Inv.ZbJ {its its':List Value} {n:Nat} {f:Array Value->Array Value} {t':Nat} (I:Inv X pins Z H s) (hH:H l = some (.lst xs))
  (e:s.heap.get? l = some { cls:=.type "list",data:=.seq its.toArray n }) (hf:f its.toArray = its'.toArray) (hv:Vals ys its') (hz:ys.length <= sizeLine) :
  Inv X pins Z (upd H l (.lst ys)) { s with heap:=s.heap.update l (Obj.mapSeq f),toks:=t' }:=by
 have q:=PySem.IsL.update e f;rw [hf] at q;refine I.write (x:=l) (e:=l) (by rw [hH]; exact trivial) (.inl rfl) (λ b' u hb hu=>(Heap.get?_update_other s.heap (Obj.mapSeq f) (Ne.symm hb)).trans hu) ⟨_,q⟩ ?_;exact ⟨hz,its',_,hv,q⟩
theorem Inv.ZcM {its:List Value} {t':Nat} (I:Inv X pins Z H s) (hv:Vals ys its) (hz:ys.length <= sizeLine) :
  Inv X pins Z (upd H s.heap.objs.size (.lst ys)) { s with heap:=s.heap.push { cls:=.type "list",data:=.seq its.toArray },toks:=t' }:=
 I.laid (λ _ _ q=>Heap.get?_push_of_some _ q) (Nat.le_refl _) ⟨hz,its,0,hv,Heap.get?_push_size _ rfl⟩
theorem Inv.fresh (I:Inv X pins Z H s):H s.heap.objs.size = none:=I.hok.fresh (Nat.le_refl _)
theorem Inv.ZaN (I:Inv X pins Z H s) (hH:H l = some (.lst xs)):xs.length <= sizeLine /\ ∃ (its:List Value) (n:Nat),Vals xs its /\ xs.length = its.length /\ s.heap.get? l = some { cls:=.type "list",data:=.seq its.toArray n }:=by
 obtain ⟨z,its,n,r,e⟩:=I.hok l _ hH;exact ⟨z,its,n,r,r.length,e⟩
theorem F9 (h:n <= sizeLine):Builtin.List.listTooLong n = false:=by
 unfold Builtin.List.listTooLong;exact decide_eq_false (by lia)
end
def NK:V->List V->Hp->VK->Prop:=λ x vs H Q=>∃ l xs y,x = .ref l /\ vs = [y] /\ H l = some (.lst xs) /\ xs.length < sizeLine /\ Q .non (upd H l (.lst (xs ++ [y])))
theorem GF:MtM X "list.append" NK:=by
 intro pins s Z H x vs v us Q I rx rv h;obtain ⟨l,xs,y,rfl,rfl,hH,hz,q⟩:=h;cases rx;obtain ⟨u,rfl,ru⟩:=rv.one;obtain ⟨z,its,n,r,hl,e⟩:=I.ZaN hH;refine call_meets F.slot_list_append ⟨_,e,rfl⟩ F.entry_list_append (F.args_list_append_2 _ _) (PySem.list_append l its.toArray n u (by rw [List.size_toArray]; lia)) ⟨e,?_⟩;refine ⟨.non,_,I.ZbJ (its':=its ++ [u]) hH e (by simp) (r.append (.cons ru .nil)) ?_,rfl,q⟩;rw [List.length_append,List.length_singleton];lia
def FW:V->List V->Hp->VK->Prop:=λ x vs H Q=>∃ l xs,x = .ref l /\ vs = [] /\ H l = some (.lst xs) /\ Q .non (upd H l (.lst xs.reverse))
theorem UH:MtM X "list.reverse" FW:=by
 intro pins s Z H x vs v us Q I rx rv h;obtain ⟨l,xs,rfl,rfl,hH,q⟩:=h;cases rx;have hus:=rv.zero;subst hus;obtain ⟨z,its,n,r,hl,e⟩:=I.ZaN hH;refine call_meets F.slot_list_reverse ⟨_,e,rfl⟩ F.entry_list_reverse (F.args_list_reverse_1 _) (AutoSeq1.list_reverse_list_0 l its.toArray n (by rw [List.size_toArray]; lia)) ⟨e,?_⟩;refine ⟨.non,_,I.ZbJ (its':=its.reverse) hH e (by simp) r.reverse ?_,rfl,q⟩;rw [List.length_reverse];lia
def ZdM:R2:=λ x y H Q=>∃ l k xs,x = .ref l /\ y = .int k /\ H l = some (.lst xs) /\ -(2 ^ 63) <= k /\ k < 2 ^ 63 /\ xs.length * k.toNat <= sizeLine /\
 ∀ p,H p = none->Q (.ref p) (upd H p (.lst (List.replicate k.toNat xs).flatten))
theorem len_rep {α:Type} (xs:List α) (k:Nat):(List.replicate k xs).flatten.length = k * xs.length:=by
 induction k with
 | zero=>simp
 | succ k ih=>rw [List.replicate_succ,List.flatten_cons,List.length_append,ih,Nat.succ_mul,Nat.add_comm]
theorem T2:OpR X (binaryOp .Mult) ZdM:=by
 intro pins s Z H x y v u Q I rx ry h;obtain ⟨l,k,xs,rfl,rfl,hH,h1,h2,hz,q⟩:=h;cases rx;obtain ⟨t,rfl⟩:=ry;obtain ⟨z,its,n,r,hl,e⟩:=I.ZaN hH;have hlen:its.toArray.size * k.toNat <= sizeLine:=by rw [List.size_toArray,<- hl]; exact hz
 have hcap:¬ its.toArray.size * k.toNat > (2 ^ 63 - 1) / 8:=by
  have:(sizeLine:Nat) <= (2 ^ 63 - 1) / 8:=by decide
  lia
 have hfit:¬ (!Builtin.List.listFitsIndex k) = true:=by
  rw [fitsIndex_both h1 h2];exact Bool.false_ne_true
 have hlong:¬ Builtin.List.listTooLong (its.toArray.size * k.toNat) = true:=by
  rw [F9 hlen];exact Bool.false_ne_true
 have hnew:List.foldl (λ x1 x2=>x1 ++ x2) #[] (List.replicate (if its.toArray.isEmpty = true then 0 else k.toNat) its.toArray) = (List.replicate k.toNat its).flatten.toArray:=by
  have f0:∀ m:Nat,List.foldl (λ x1 x2=>x1 ++ x2) #[] (List.replicate m its.toArray) = (List.replicate m its).flatten.toArray:=λ m=>by
   have:=foldl_rep its m [];rw [List.nil_append] at this;exact this
  rw [f0];cases its with
  | nil=>simp
  | cons a r'=>rw [if_neg (by simp)]
 refine wpAny_binaryOp_repeat_ref (T := "list") (U := "int") (by decide) ⟨_,e,rfl⟩ (λ s'=>typeIs_int s' k t) noFill_list_mul F.fills_int_mul F.slot_int_rmul repeat_list F.slot_int_index.lookup
  (call_meets F.slot_int_rmul (typeIs_int s k t) F.entry_int_rmul (F.args_int_rmul_2 _ _) (int___rmul___int_list k t l its.toArray n)
   ⟨e,rfl,⟨_,e,rfl⟩,call_meets F.slot_list_mul ⟨_,e,rfl⟩ F.entry_list_mul (F.args_list_mul_2 _ _) (AutoListH.list___mul___list_int_3 l its.toArray n k t hfit hcap hlong) ⟨e,?_⟩⟩)
 rw [hnew];exact ⟨.ref _,_,I.ZcM (t':=s.toks) (r.rep k.toNat) (by rw [len_rep,Nat.mul_comm]; exact hz),rfl,q _ I.fresh⟩
section
variable {prog:Program} {E:Value->Shared->Prop}
end
section
variable {κ:Type} [DecidableEq κ]
noncomputable def JZ (kvs:List (κ × V)) (k:κ):Option V:=(kvs.find? λ kv=>decide (kv.1 = k)).map (·.2)
noncomputable def putK (kvs:List (κ × V)) (k:κ) (v:V):List (κ × V):=
 if (kvs.any λ kv=>decide (kv.1 = k)) = true then kvs.map (λ kv=>if kv.1 = k then (kv.1,v) else kv) else kvs ++ [(k,v)]
noncomputable def RJ (kvs:List (κ × V)) (k:κ):List (κ × V):=kvs.filter λ kv=>decide (kv.1 ≠ k)
theorem Yx {p:κ × V} {r:List (κ × V)} {k:κ} (e:p.1 = k):JZ (p :: r) k = some p.2:=by simp [JZ,List.find?_cons,e]
theorem Yi {p:κ × V} {r:List (κ × V)} {k:κ} (e:¬ p.1 = k):JZ (p :: r) k = JZ r k:=by simp [JZ,List.find?_cons,e]
theorem WI (k:κ):∀ kvs:List (κ × V),(kvs.any λ kv=>decide (kv.1 = k)) = (JZ kvs k).isSome
 | []=>rfl
 | p :: r=>by
  rw [List.any_cons]
  by_cases e:p.1 = k
  ·simp only [Yx e,decide_eq_true e,Bool.true_or,Option.isSome_some]
  ·rw [Yi e,decide_eq_false e,Bool.false_or]; exact WI k r
theorem Wn (kvs:List (κ × V)) (k:κ) (v:V):(putK kvs k v).length <= kvs.length + 1:=by
 unfold putK
 split
 ·rw [List.length_map]; lia
 ·rw [List.length_append,List.length_cons,List.length_nil]; lia
theorem BY.GO {o:Option V} {u:Option Value} (r:BY o u):o.isSome = u.isSome:=by
 cases o with
 | none=>cases u with
  | none=>rfl
  | some _=>exact (show False from r).elim
 | some _=>cases u with
  | none=>exact (show False from r).elim
  | some _=>rfl
theorem KV.val {kvs:List (κ × V)} {vs:List (κ × Value)} (r:KV kvs vs) (k:κ):BY (JZ kvs k) (valueAt vs k):=by
 unfold KV at r
 induction r with
 | nil=>exact True.intro
 | @cons p q ps qs h t ih=>
  obtain ⟨h1,h2⟩:=h
  by_cases e:p.1 = k
  ·have e':q.1 = k:=h1.symm.trans e;have b:valueAt (q :: qs) k = some q.2:=by simp [valueAt,List.find?_cons,e']
   rw [Yx e,b]; exact h2
  ·have e':¬ q.1 = k:=λ z=>e (h1.trans z);have b:valueAt (q :: qs) k = valueAt qs k:=by simp [valueAt,List.find?_cons,e']
   rw [Yi e,b]; exact ih
theorem KV.any {kvs:List (κ × V)} {vs:List (κ × Value)} (r:KV kvs vs) (k:κ):(kvs.any λ kv=>decide (kv.1 = k)) = vs.any λ kv=>decide (kv.1 = k):=by
 unfold KV at r
 induction r with
 | nil=>rfl
 | cons h t ih=>rw [List.any_cons,List.any_cons,ih,h.1]
theorem KV.Pb {kvs:List (κ × V)} {vs:List (κ × Value)} (r:KV kvs vs) (k:κ) (ry:RelV y u) :
  KV (kvs.map λ kv=>if kv.1 = k then (kv.1,y) else kv) (vs.map λ kv=>if kv.1 = k then (kv.1,u) else kv):=by
 unfold KV at r ⊢
 induction r with
 | nil=>exact .nil
 | @cons p q ps qs h t ih=>
  rw [List.map_cons,List.map_cons];refine .cons ?_ ih;obtain ⟨h1,h2⟩:=h
  by_cases e:p.1 = k
  ·rw [if_pos e,if_pos (h1.symm.trans e)]; exact ⟨h1,ry⟩
  ·rw [if_neg e,if_neg (λ z=>e (h1.trans z))]; exact ⟨h1,h2⟩
theorem KV.put {kvs:List (κ × V)} {vs:List (κ × Value)} (r:KV kvs vs) (k:κ) (ry:RelV y u):KV (putK kvs k y) (stored vs k u):=by
 unfold putK stored;rw [r.any k]
 by_cases e:(vs.any λ kv=>decide (kv.1 = k)) = true
 ·rw [if_pos e,if_pos e]; exact r.Pb k ry
 ·rw [if_neg e,if_neg e]; exact Paired.snoc r ⟨rfl,ry⟩
theorem KV.drop {kvs:List (κ × V)} {vs:List (κ × Value)} (r:KV kvs vs) (k:κ):KV (RJ kvs k) (without vs k):=by
 unfold KV at r ⊢;unfold RJ without
 induction r with
 | nil=>exact .nil
 | @cons p q ps qs h t ih=>
  obtain ⟨h1,h2⟩:=h;rw [List.filter_cons,List.filter_cons]
  by_cases e:p.1 = k
  ·have a:¬ decide (p.1 ≠ k) = true:=by simp [e]
   have b:¬ decide (q.1 ≠ k) = true:=by simp [h1.symm.trans e]
   rw [if_neg a,if_neg b]; exact ih
  ·have e':¬ q.1 = k:=λ z=>e (h1.trans z);have a:decide (p.1 ≠ k) = true:=by simp [e]
   have b:decide (q.1 ≠ k) = true:=by simp [e']
   rw [if_pos a,if_pos b]; exact .cons ⟨h1,h2⟩ ih
theorem KV.length {kvs:List (κ × V)} {vs:List (κ × Value)} (r:KV kvs vs):kvs.length = vs.length:=Paired.length r
end
theorem Fh {k:Key} (r:RelV (kV k) u):(Zy P w).is k u = true:=by
 cases k with
 | inl i=>obtain ⟨t,e⟩:=(show ∃ t,u = Value.int i t from r); subst e; exact KU P w i t
 | inr x=>obtain ⟨t,e⟩:=(show ∃ t,u = Value.str x t from r); subst e; exact QK P w x t
theorem Vy:∀ {ks:List Key} {us:List Value},Vals (ks.map kV) us->ItemsAre (Zy P w) ks us
 | [],_,r=>by rw [List.map_nil] at r; cases r; exact .nil
 | k :: ks,_,r=>by
  rw [List.map_cons] at r;cases r with
  | cons h t=>exact .cons (Fh h) (Vy t)
abbrev KT (H:Hp):List (List Key × V)->List (List Key × Addr × Value)->Prop:=Paired λ p q=>p.1 = q.1 /\ H q.2.1 = some (.tup (p.1.map kV)) /\ RelV p.2 q.2.2
theorem KT.val {kvs:List (List Key × V)} {xs:List (List Key × Addr × Value)} (r:KT H kvs xs) (k:List Key):BY (JZ kvs k) ((atKey xs k).map (·.2)):=by
 induction r with
 | nil=>exact True.intro
 | @cons p q ps qs h t ih=>
  obtain ⟨h1,_,h2⟩:=h
  by_cases e:p.1 = k
  ·have e':q.1 = k:=h1.symm.trans e;have b:atKey (q :: qs) k = some q.2:=by simp [atKey,List.find?_cons,e']
   rw [Yx e,b]; exact h2
  ·have e':¬ q.1 = k:=λ z=>e (h1.trans z);have b:atKey (q :: qs) k = atKey qs k:=by simp [atKey,List.find?_cons,e']
   rw [Yi e,b]; exact ih
theorem KT.Pb {kvs:List (List Key × V)} {xs:List (List Key × Addr × Value)} (r:KT H kvs xs) (k:List Key) (ry:RelV y u) :
  KT H (kvs.map λ kv=>if kv.1 = k then (kv.1,y) else kv) (xs.map (putAt k u)):=by
 induction r with
 | nil=>exact .nil
 | @cons p q ps qs h t ih=>
  rw [List.map_cons,List.map_cons];refine .cons ?_ ih;obtain ⟨h1,h2,h3⟩:=h;unfold putAt
  by_cases e:p.1 = k
  ·rw [if_pos e,if_pos (h1.symm.trans e)]; exact ⟨h1,h2,ry⟩
  ·rw [if_neg e,if_neg (λ z=>e (h1.trans z))]; exact ⟨h1,h2,h3⟩
theorem KT.put {kvs:List (List Key × V)} {xs:List (List Key × Addr × Value)} (r:KT H kvs xs) (k:List Key) (hb:H b = some (.tup (k.map kV))) (ry:RelV y u) :
  KT H (putK kvs k y) (storedH xs k b u):=by
 have e:(kvs.any λ kv=>decide (kv.1 = k)) = (atKey xs k).isSome:=by
  rw [WI,(r.val k).GO,Option.isSome_map]
 unfold putK storedH;rw [e]
 by_cases q:(atKey xs k).isSome = true
 ·rw [if_pos q,if_pos q]; exact r.Pb k ry
 ·rw [if_neg q,if_neg q]; exact Paired.snoc r ⟨rfl,hb,ry⟩
theorem KT.keeps {kvs:List (List Key × V)} {xs:List (List Key × Addr × Value)} (r:KT H kvs xs) (ht:∀ b ys,H b = some (.tup ys)->H' b = some (.tup ys)):KT H' kvs xs:=
 Paired.Nn r λ _ _ z=>⟨z.1,ht _ _ z.2.1,z.2.2⟩
theorem MC {u:HO} (ok:HOk P w H h) (e:Rd H a u):Qe P w H h a u:=e.ok ok
theorem EE (ok:HOk P w H h) (e:Rd H a (.dK kvs)):kvs.length <= sizeLine /\ (a == sysModules) = false /\ ∃ vs,KV kvs vs /\ h.DictOf (Zy P w) a vs:=
 show Qe P w H h a (.dK kvs) from MC ok e
theorem ZbE (ok:HOk P w H h) (e:H a = some (.dK kvs)):kvs.length <= sizeLine /\ (a == sysModules) = false /\ ∃ vs,KV kvs vs /\ h.DictOf (Zy P w) a vs:=EE ok (.inl e)
theorem GI {ks:List Key} (ok:HOk P w H h) (e:H a = some (.tup (ks.map kV))):(tupleKind (Zy P w)).is h ks a:=by
 obtain ⟨_,its,r,o,h1,h2,n,h3⟩:=(show Qe P w H h a (.tup (ks.map kV)) from ok a _ e)
 exact ⟨o,its.toArray,n,h1,h2,h3,by simpa using Vy r⟩
theorem BL {kvs:List (List Key × V)} (ok:HOk P w H h) (e:Rd H a (.dT kvs)):kvs.length <= sizeLine /\ (a == sysModules) = false /\
  ∃ xs,KT H kvs xs /\ h.DictOfH (tupleKind (Zy P w)) a xs:=by
 obtain ⟨z,y,xs,r,o,es,ep,h1,h2,h3,h4,h5⟩:=(show Qe P w H h a (.dT kvs) from MC ok e)
 refine ⟨z,y,xs,r,o,es,ep,h1,h2,h3,h4,λ x hx=>?_,h5⟩;have all:∀ {l:List (List Key × V)} {m:List (List Key × Addr × Value)},KT H l m->∀ x ∈ m,(tupleKind (Zy P w)).is h x.1 x.2.1:=by
  intro l m q
  induction q with
  | nil=>intro x hx; exact nomatch hx
  | @cons p q ps qs hq t ih=>
   intro x hx
   rcases List.mem_cons.mp hx with e | hx
   ·subst e;exact GI ok (by rw [<- hq.1]; exact hq.2.1)
   ·exact ih x hx
 exact all r x hx
theorem Zba {kvs:List (List Key × V)} (ok:HOk P w H h) (e:H a = some (.dT kvs)):kvs.length <= sizeLine /\ (a == sysModules) = false /\
  ∃ xs,KT H kvs xs /\ h.DictOfH (tupleKind (Zy P w)) a xs:=BL ok (.inl e)
def Ls (H:Hp) (a:Addr) (y:V) (r:Option V):Prop:=
 (∃ kvs k,Rd H a (.dK kvs) /\ y = kV k /\ r = JZ kvs k) \/ ∃ kvs k b,Rd H a (.dT kvs) /\ y = .ref b /\ H b = some (.tup (k.map kV)) /\ r = JZ kvs k
def Zaw (H:Hp) (a:Addr) (y v:V) (H':Hp):Prop:=
 (∃ kvs k,H a = some (.dK kvs) /\ y = kV k /\ kvs.length < sizeLine /\ H' = upd H a (.dK (putK kvs k v))) \/
 ∃ kvs k b,H a = some (.dT kvs) /\ y = .ref b /\ H b = some (.tup (k.map kV)) /\ kvs.length < sizeLine /\ H' = upd H a (.dT (putK kvs k v))
theorem Ls.k {k:Key} (e:H a = some (.dK kvs)):Ls H a (kV k) (JZ kvs k):=.inl ⟨kvs,k,.inl e,rfl,rfl⟩
theorem Ls.t {kvs:List (List Key × V)} {k:List Key} (e:H a = some (.dT kvs)) (eb:H b = some (.tup (k.map kV))):Ls H a (.ref b) (JZ kvs k):=.inr ⟨kvs,k,b,.inl e,rfl,eb,rfl⟩
theorem Zaw.k {k:Key} (e:H a = some (.dK kvs)) (hl:kvs.length < sizeLine):Zaw H a (kV k) v (upd H a (.dK (putK kvs k v))):=.inl ⟨kvs,k,e,rfl,hl,rfl⟩
theorem Zaw.t {kvs:List (List Key × V)} {k:List Key} {v:V} (e:H a = some (.dT kvs)) (eb:H b = some (.tup (k.map kV))) (hl:kvs.length < sizeLine) :
  Zaw H a (.ref b) v (upd H a (.dT (putK kvs k v))):=.inr ⟨kvs,k,b,e,rfl,eb,hl,rfl⟩
section
variable {r:Value} {o:Option V} {E:Value->Shared->Prop}
theorem Inv.big (I:Inv X pins Z H s):sysModules < s.heap.objs.size:=by
 have h:mainGlobals < s.heap.objs.size:=(I.mod.glob.keeps I.bk).lt;exact Nat.lt_trans (by decide) h
theorem Ds (hu:A.units + 1 < cLine) (I:Inv X pins Z H s) (g:Ls H a y (some v)) (ry:RelV y u) (h:∀ w' s',Inv X pins Z H s'->RelV v w'->Q w' s') :
  wpAny (model X.prog X.w) A (getItem (.ref a) u) Q E s:=by
 rcases g with ⟨kvs,k,e,ey,l⟩ | ⟨kvs,k,b,e,ey,eb,l⟩
 ·subst ey;obtain ⟨z,hd,vs,rel,dd⟩:=EE I.hok e;obtain ⟨w',hw,rw'⟩:=BY.some_of (v:=v) (o:=valueAt vs k) (by rw [l]; exact rel.val k);exact wpAny_getItem_of (Fh ry) dd.mapOf hw (h w' _ (I.tok _) rw')
 ·subst ey;cases (show u = Value.ref b from ry);obtain ⟨z,hd,xs,rel,dd⟩:=BL I.hok e;obtain ⟨w',hw,rw'⟩:=BY.some_of (v:=v) (o:=(atKey xs k).map (·.2)) (by rw [l]; exact rel.val k);obtain ⟨p,hp,hp2⟩:=Option.map_eq_some_iff.mp hw;refine wpAny_getItem_heap (tupleKind_room_in1 hu) (GI I.hok eb) dd hp ?_;rw [hp2];exact h w' _ (I.tok _) rw'
theorem Br {h':Heap} {t':Nat} {ob:HO} (I:Inv X pins Z H s) (mu:Mut (H a)) (hs:Heap.SameBut a s.heap h') (he:∃ q,h'.get? a = some q) (new:Qe X.prog X.w (upd H a ob) h' a ob) :
  Inv X pins Z (upd H a ob) { s with heap:=h',toks:=t' }:=
 I.write (x:=a) (e:=a) mu (.inl rfl) (λ b q hb z=>(hs.2 b hb).trans z) he new
theorem Ra {H':Hp} {h':Heap} {vs:List (Key × Value)} (z:kvs.length <= sizeLine) (hd:(a == sysModules) = false) (rel:KV kvs vs) (dd:h'.DictOf (Zy P w) a vs) :
  Qe P w H' h' a (.dK kvs):=⟨z,hd,vs,rel,dd⟩
end
section
variable {k:Key} {E:Value->Shared->Prop}
end
def NF (i:Expr):Prop:=∀ ov iv,subscripted i false ov iv = operate [ov,iv] (getItem ov iv)
theorem Kz {prog:Program} {w:World} {A:Around} {E:Value->Shared->Prop} {s:Shared} {env:Env} {value slice:Expr} {pos:Pos} {T id:String} {Q:Value->Shared->Prop}
  (hl:typeLookup (.type T) "__getitem__" = pure (some (.builtin id))) (hs:NF slice)
  (h:wpAny (model prog w) A (eval value env) (λ o s₁=>wpAny (model prog w) A (eval slice env) (λ i s₂=>s₂.TypeIs o T /\ wpAny (model prog w) A (getItem o i) Q E s₂) E s₁) E s) :
  wpAny (model prog w) A (eval (.Subscript value slice pos) env) Q E s:=by
 refine Subscript_ (wpAny_mono h (λ o s₁ h₁=>wpAny_mono h₁ (λ i s₂ h₂=>?_) λ _ _ x=>x) λ _ _ x=>x);obtain ⟨hT,h₂⟩:=h₂;unfold subscriptTail;refine wpAny_bind ?_;rw [getitemInPython_of_ne hT.not_modules];refine wpAny_bind (wpAny_specialOf hT hl ?_);have fin:wpAny (model prog w) A (subscripted slice false o i) (λ r s₃=>wpAny (model prog w) A (letTemporaryGo value o r >>= λ _=>pure r) Q E s₃) E s₂:=by
  rw [hs o i];exact wpAny_operating (wpAny_mono h₂ (λ r s₃ h₃=>wpAny_bind (wpAny_letTemporaryGo (wpAny_pure h₃))) λ _ _ x=>x)
 first
  | exact wpAny_pure (wpAny_bind fin)
  | exact wpAny_bind (wpAny_pure (wpAny_bind fin))
  | exact wpAny_bind fin
theorem Kw {o:Option V} (I:Inv X pins Z H s) (g:Ls H a y o):s.TypeIs (.ref a) "dict" := by
 rcases g with ⟨kvs,k,e,_,_⟩ | ⟨kvs,k,b,e,_,_,_⟩
 ·obtain ⟨_,_,vs,_,dd⟩:=EE I.hok e;exact dd.typeIs
 ·obtain ⟨_,_,xs,_,dd⟩:=BL I.hok e;exact dd.typeIs
def ZbZ (td ty:TE):TE:=λ Z H Q=>td Z H λ x H1=>ty Z H1 λ y H2=>∃ a v,x = .ref a /\ Ls H2 a y (some v) /\ Q v H2
section
variable {o i value:Expr} {pos' tpos:Pos} {td ty tv:TE}
theorem MB (hu:X.A.units + 1 < cLine) (ho:PE X o td) (hi:PE X i ty) (hs:NF i):PE X (.Subscript o i pos) (ZbZ td ty):=by
 intro pins s Z H Q I h;refine Kz PySem.F.slot_dict_getitem.lookup hs (thn (ho pins s Z H _ I h) λ u s1 ⟨x,H1,I1,rx,q1⟩=>thn (hi pins s1 Z H1 _ I1 q1) λ iv s2 ⟨y,H2,I2,ry,a,v,ex,g,q2⟩=>?_);subst ex;obtain rfl:u = Value.ref a:=rx;exact ⟨Kw I2 g,Ds hu I2 g ry λ w' s3 I3 rw'=>⟨v,H2,I3,rw',q2⟩⟩
end
theorem EV (h:Heap) (hb:sysModules < h.objs.size):Qe P w H (h.push { cls:=.type "dict",data:=.dict #[] }) h.objs.size (.dK []):=
 ⟨Nat.zero_le _,beq_eq_false_iff_ne.mpr (Ne.symm (Nat.ne_of_lt hb)),[],.nil,Heap.DictOf.new h⟩
theorem FY (h:Heap) (hb:sysModules < h.objs.size):Qe P w H (h.push { cls:=.type "dict",data:=.dict #[] }) h.objs.size (.dT []):=
 ⟨Nat.zero_le _,beq_eq_false_iff_ne.mpr (Ne.symm (Nat.ne_of_lt hb)),[],.nil,_,#[],0,Heap.get?_push_size _ rfl,⟨rfl,rfl,rfl⟩,rfl,rfl,List.nodup_nil⟩
def TF:TE:=λ _ H Q=>∀ p,H p = none->Q (.ref p) (upd H p (.dT []))
theorem HB:PE X (.Dict [] [] pos) TF:=λ pins s Z H Q I h=>
 wpAny_Dict_empty ⟨.ref s.heap.objs.size,_,I.laid (a:=s.heap.objs.size) (o:=.dT []) (t':=s.toks) (λ _ _ q=>Heap.get?_push_of_some _ q) (Nat.le_refl _) (FY s.heap I.big),rfl,h _ (I.hok.fresh (Nat.le_refl _))⟩
def W5:List (TE × TE)->St->Hp->(List (V × V)->Hp->Prop)->Prop
 | [],_,H,Q=>Q [] H
 | (tk,tv) :: r,Z,H,Q=>tk Z H λ x H1=>tv Z H1 λ y H2=>W5 r Z H2 λ ps H3=>Q ((x,y) :: ps) H3
abbrev VV:List (V × V)->List (Value × Value)->Prop:=Paired λ p q=>RelV p.1 q.1 /\ RelV p.2 q.2
def PPs (X:Cx) (pos:Pos) (keys:List (Option Expr)) (values:List Expr) (trs:List (TE × TE)):Prop:=
 ∀ (pins:List (Addr × Obj)) (s:Shared) (Z:St) (H:Hp) (Q:List (V × V)->Hp->Prop),Inv X pins Z H s->W5 trs Z H Q ->
  wpAny (model X.prog X.w) X.A (evalPairs (pairTrees keys values X.env pos)) (λ vs s'=>∃ ps H',Inv X pins Z H' s' /\ VV ps vs /\ Q ps H') X.xe s
theorem Dr:PPs X pos [] [] []:=λ pins s Z H Q I h=>pairTrees_nil_walk ⟨[],H,I,.nil,h⟩
theorem QI {k v:Expr} {ks:List (Option Expr)} {vs:List Expr} {tk tv:TE} {trs:List (TE × TE)} (hk:PE X k tk) (hv:PE X v tv) (hr:PPs X pos ks vs trs) :
  PPs X pos (some k :: ks) (v :: vs) ((tk,tv) :: trs):=λ pins s Z H Q I h=>
 pairTrees_cons_walk (thn (hk pins s Z H _ I h) λ u s1 ⟨x,H1,I1,rx,q1⟩=>thn (hv pins s1 Z H1 _ I1 q1) λ w2 s2 ⟨y,H2,I2,ry,q2⟩=>
  thn (hr pins s2 Z H2 _ I2 q2) λ ws s3 ⟨ps,H3,I3,rel,q3⟩=>⟨(x,y) :: ps,H3,I3,.cons ⟨rx,ry⟩ rel,q3⟩)
noncomputable def JN (kvs more:List (Key × V)):List (Key × V):=more.foldl (λ acc kv=>putK acc kv.1 kv.2) kvs
theorem KV.merge:∀ {more:List (Key × V)} {rs:List (Key × Value)} {kvs:List (Key × V)} {vs:List (Key × Value)},KV more rs->KV kvs vs->KV (JN kvs more) (merged vs rs):=by
 intro more rs kvs vs r;unfold KV at r
 induction r generalizing kvs vs with
 | nil=>intro q; exact q
 | @cons p q ps qs h t ih=>
  intro r0;have e:KV (putK kvs p.1 p.2) (stored vs q.1 q.2):=by
   have:=r0.put p.1 h.2;rw [<- h.1]; exact this
  exact ih e
theorem Jt:∀ (more kvs:List (Key × V)),(JN kvs more).length <= kvs.length + more.length
 | [],kvs=>by show kvs.length <= kvs.length + 0; lia
 | p :: r,kvs=>by
  have h1:=Jt r (putK kvs p.1 p.2);have h2:=Wn kvs p.1 p.2;show (JN (putK kvs p.1 p.2) r).length <= _;rw [List.length_cons]; lia
theorem Yc {P:Program} {w:World}:∀ {kvs:List (Key × V)} {ws:List (Value × Value)},VV (kvs.map λ kv=>(kV kv.1,kv.2)) ws->∃ rs,Carries (Zy P w) ws rs /\ KV kvs rs
 | [],_,r=>by rw [List.map_nil] at r; cases r; exact ⟨[],True.intro,.nil⟩
 | p :: kvs,_,r=>by
  rw [List.map_cons] at r;cases r with
  | @cons a b as bs h t=>
   obtain ⟨rs,c,q⟩:=Yc (P:=P) (w:=w) t;obtain ⟨b1,b2⟩:=b;exact ⟨(p.1,b2) :: rs,⟨Fh h.1,rfl,c⟩,.cons ⟨rfl,h.2⟩ q⟩
def Za4 (trs:List (TE × TE)):TE:=λ Z H Q=>∀ p,H p = none->W5 trs Z (upd H p (.dK [])) λ ps H2=>H2 p = some (.dK []) /\ ∃ kvs:List (Key × V),ps = kvs.map (λ kv=>(kV kv.1,kv.2)) /\ kvs.length <= 15 /\ Q (.ref p) (upd H2 p (.dK (JN [] kvs)))
theorem CP {keys:List (Option Expr)} {values:List Expr} {trs:List (TE × TE)} (h:PPs X pos keys values trs) (hall:keys.all (·.isSome) = true) (hl:keys.length = values.length) (h0:keys ≠ [])
  (h15:keys.length <= 15):PE X (.Dict keys values pos) (Za4 trs):=by
 intro pins s Z H Q I q;have hn:=I.hok.fresh (Nat.le_refl s.heap.objs.size);have I1:=I.laid (a:=s.heap.objs.size) (o:=.dK []) (h':=s.heap.push { cls:=.type "dict",data:=.dict #[] }) (t':=s.toks) (λ _ _ q=>Heap.get?_push_of_some _ q) (Nat.le_refl _) (EV s.heap I.big);refine wpAny_Dict_walk (knd:=Zy X.prog X.w) hall hl h0 h15 (thn (h pins _ Z _ _ I1 (q _ hn)) λ ws s2 ⟨ps,H2,I2,rel,e,kvs,ep,lk,q2⟩=>?_);subst ep;obtain ⟨rs,c,rk⟩:=Yc (P:=X.prog) (w:=X.w) rel;obtain ⟨z,hd,vs0,r0,dd⟩:=ZbE I2.hok e;cases r0;refine ⟨rs,c,dd,λ h' dd' hs=>⟨.ref s.heap.objs.size,_,?_,rfl,q2⟩⟩;have hz:(JN [] kvs).length <= sizeLine:=by
  have h1:=Jt kvs [];rw [List.length_nil] at h1;rw [sizeLine_eq]; lia
 have he:∃ q,h'.get? s.heap.objs.size = some q:=let ⟨q,_,_,hq,_⟩:=dd'; ⟨q,hq⟩;exact Br I2 (by rw [e]; exact True.intro) hs he (Ra hz hd (rk.merge .nil) dd')
structure M1 (X:Cx) (o:Expr) (m:Str) (apos:Pos) (e:Expr) (cpos:Pos):Prop where
 base:attributeBase o m X.env (eval o X.env) = eval o X.env
 few:((backTo cpos (starEach [e] X.env)).all (λ x=>!x.1) && (backToKw cpos (keywordEach [] X.env)).all (λ x=>x.1.isSome)
  && decide (([e]:List Expr).length + ([]:List Keyword).length + (if ([]:List Keyword).isEmpty then 0 else 1) < 30)) = true
 line:(apos.endLine == cpos.line) = true
 trees:backTo cpos (starEach [e] X.env) = [(false,eval e X.env)]
structure M2 (X:Cx) (o:Expr) (m:Str) (apos:Pos) (e f:Expr) (cpos:Pos):Prop where
 base:attributeBase o m X.env (eval o X.env) = eval o X.env
 few:((backTo cpos (starEach [e,f] X.env)).all (λ x=>!x.1) && (backToKw cpos (keywordEach [] X.env)).all (λ x=>x.1.isSome)
  && decide (([e,f]:List Expr).length + ([]:List Keyword).length + (if ([]:List Keyword).isEmpty then 0 else 1) < 30)) = true
 line:(apos.endLine == cpos.line) = true
 trees:backTo cpos (starEach [e,f] X.env) = [(false,eval e X.env),(false,eval f X.env)]
def IsD (H:Hp) (a:Addr):Prop:=(∃ kvs,Rd H a (.dK kvs)) \/ ∃ kvs,Rd H a (.dT kvs)
theorem Tq (I:Inv X pins Z H s) (d:IsD H a) :
  s.TypeIs (.ref a) "dict" /\ (∀ b,Value.ref a = .ref b->∃ ob,s.heap.get? b = some ob /\ ob.dict = none) /\ (a == sysModules) = false:=by
 rcases d with ⟨kvs,e⟩ | ⟨kvs,e⟩
 ·obtain ⟨_,hd,vs,_,dd⟩:=EE I.hok e;refine ⟨dd.typeIs,λ b q=>?_,hd⟩;cases q;obtain ⟨ob,_,_,h1,h2,_⟩:=dd;exact ⟨ob,h1,h2.2.1⟩
 ·obtain ⟨_,hd,xs,_,dd⟩:=BL I.hok e;refine ⟨dd.typeIs,λ b q=>?_,hd⟩;cases q;obtain ⟨ob,_,_,h1,h2,_⟩:=dd;exact ⟨ob,h1,h2.2.1⟩
section
variable {d:V} {r:Value} {o:Option V} {E:Value->Shared->Prop}
end
section
variable {o f:Expr} {apos cpos:Pos} {td ty tx:TE}
end
section
variable {E:Value->Shared->Prop}
end
section
variable {E:Value->Shared->Prop}
end
end L2
namespace Att
open PySem.W PySem.Calls
theorem Vu {P:Params}:∀ (ns:List Int) (vs:List Value),WellAll P h vs (ns.map WData.int)->IntsAre vs ns:=by
 intro ns
 induction ns with
 | nil=>
  intro vs w;rw [List.map_nil] at w;cases w;exact .nil
 | cons n ns ih=>
  intro vs w;rw [List.map_cons] at w;cases w with
  | cons a b=>
   cases a;exact .cons _ _ (ih _ b)
theorem BG {l:OpenLaw} (hn:l.most = some n) {P:Params} {h:Heap} {args:List WData} {vals:List Value}
  (hpre:l.row.toRowW.claim.pre args = true) (hwl:WellAll P h vals args) :
  ∃ a vs ns,vals = [Value.ref a] /\ args = [WData.list (ns.map WData.int)] /\ h.get? a = some { cls:=.type "list",data:=.seq vs.toArray } /\ IntsAre vs ns /\ ns.length <= n:=by
 have hsh:WShape.hasAll [] args [.list .int] = true:=(pre_splitW hpre).1;have hc:l.pre.holds [] { args:=args } = true:=(pre_splitW hpre).2;obtain ⟨d,r,rfl,h1,h2⟩:=hasAllW_cons hsh;obtain rfl:=hasAllW_nil h2;obtain ⟨xs,rfl,h3⟩:=hasW_list h1;obtain ⟨ns,rfl⟩:=items_int h3;have hlen:ns.length <= n:=by
  unfold OpenLaw.pre at hc;have h4:(WTm.not (.lt (.lit (.int (n:Int))) (.len (.arg 0)))).holds [] { args:=[.list (ns.map .int)] } = true:=by
   have h4:=(holds_andW hc).1;rw [hn] at h4;exact h4
  have h5:=condW_of h4 (w_not (w_lt w_lit (w_len_list (w_arg rfl))));rw [List.length_map] at h5;refine Nat.le_of_not_lt λ q=>?_;have q':(n:Int) < ((ns.length:Nat):Int):=by lia
  first
   | (rw [decide_eq_true q'] at h5; exact absurd h5 (by decide))
   | (simp at h5; lia)
 cases hwl with
 | cons w1 w2=>
  cases w2;cases w1 with
  | list ho hall=>exact ⟨_,_,ns,rfl,rfl,ho,Vu ns _ hall,hlen⟩
theorem BC (l:OpenLaw) (args:List WData):l.row.toRowW.claim.post args (.bool true) args = true:=
 postW_of (r:=l.row.toRowW) (X:=(true == true))
  (show WShape.has [] (.bool true) .bool = true by first | rfl | decide | simp [WShape.has,WShape.arms,WShape.armsAll])
  (show (WTm.eq .res (.lit (.bool true))).value [] { args:=args,res:=some (.bool true),after:=args } = some (.bool (true == true)) from w_eq_bool (w_res rfl) w_lit) rfl
theorem KN {l:OpenLaw} {n:Nat} {q:Program} {loose:List Str} {XP:(Str->Option Value)->Heap->Prop} {YP:World->Heap->Prop} {d:DefRec}
  (hn:l.most = some n) (hdf:d.params.defaults = [])
  (call:∀ (w:World) (s₀ s₁:Shared) (mg mb:Str->Option Value) (fa:Addr) (o:Obj) (pm cd doc:Value) (a:Addr) (vs:List Value) (ns:List Int),
   Ground q loose [] XP w s₀ mg mb s₁.heap->YP w s₁.heap ->
   s₁.heap.get? fa = some o->o.data = .func (docDef d.name d.params d.body d.scope pm cd doc)->s₁.heap.CodeRec cd d.name->mg d.name = some (.ref fa) ->
   s₁.heap.get? a = some { cls:=.type "list",data:=.seq vs.toArray }->IntsAre vs ns->ns.length <= n->s₁.gens = #[] ->
   codeAny (model l.prog w) callerA (.call (.ref fa) ⟨[.ref a],[]⟩) (λ r s'=>r = .ok (.ret (.bool true)) /\ OldK s₁.heap s'.heap /\ s'.os = s₁.os /\ AllBare s'.gens) s₁) :
  WalkO q loose XP YP l.row.toRowW d [] (λ f vs=>PySem.call f vs):=by
 intro w s₀ s₁ mg mb G Y fa o pm cd doc dV kV ho hd hcd hD hmg hg args vals as hpre hlay hrd hwl hlo;obtain rfl:dV = .none:=Dflts.none hD hdf;obtain rfl:kV = .none:=Dflts.noKw hD;obtain ⟨a,vs,ns,rfl,rfl,hobj,hints,hlen⟩:=BG hn hpre hwl;refine enter_call (codeAny_mono (call w s₀ s₁ mg mb fa o pm cd doc a vs ns G Y ho (fd_plain hd) hcd hmg hobj hints hlen hg) λ r s' hq=>?_);obtain ⟨rfl,h2,h3,h4⟩:=hq;exact ⟨.inl ⟨.bool true,.bool true,[],rfl,λ _=>rfl,.bool true,BC l _,λ _=>⟨List.Pairwise.nil,λ _ hm=>(nomatch hm)⟩⟩,h2,h3,h4⟩
section
variable {prog:Program} {E:Value->Shared->Prop} {K:Frag}
end
end Att
namespace L2
theorem Xs:∀ {vs:List Value} {ns:List Int},IntsAre vs ns->Vals (ns.map V.int) vs
 | _,_,.nil=>.nil
 | _,_,.cons n t h=>.cons ⟨t,rfl⟩ (Xs h)
def ZaI (H:Hp):Prop:=∀ b,H b = none \/ ∃ o xs,H b = some (.frz o (.lst xs))
theorem HF {P:Program} {w:World} {K:Fj} {mg mb:Str->Option Value} {CX:CXT} {k:Nat} {fa a:Addr} {fd:FuncData} {x:Str} {sp:Sp} {s₁:Shared} {vs:List Value} {ns:List Int}
  (KX:K.In s₁.heap) (hns:s₁.heap.Ns mainGlobals mg) (hb:s₁.heap.Ns builtinsNs mb) (hbb:∀ x:Str,x ≠ "__name__" -> mb x = bootBuiltins x) (hlim:s₁.heap.NoLimit) (hg:s₁.gens = #[])
  (ha:s₁.heap.get? a = some { cls:=.type "list",data:=.seq vs.toArray }) (hi:IntsAre vs ns) (hl:ns.length <= sizeLine) (hr:QS k callerA)
  (F:∀ base:Heap,K.In base->base.Ns mainGlobals mg->Q7 P w K mg base CX k fa fd [x] sp) (hbind:∀ (s:Shared) (u:Value),BindsTo s fd ⟨[u],[]⟩ [(x,u)])
  (hsp:∀ H:Hp,ZaI H->SqL K H a (ns.map V.int)->sp [.ref a] H (λ v _=>v = .bl true) λ _ _ _=>False)
  (hCX:∀ H e s',CX [] H s₁ (λ _ _ _=>False) e s'->False) :
  codeAny (model P w) callerA (.call (.ref fa) ⟨[.ref a],[]⟩) (λ r s'=>r = .ok (.ret (.bool true)) /\ OldK s₁.heap s'.heap /\ s'.os = s₁.os /\ AllBare s'.gens) s₁:=by
 have rv:=Xs hi;have lenV:=hi.length;have core:∀ H:Hp,ZaI H->SqL K H a (ns.map V.int)->HOk P w H s₁.heap->(∀ b,H b ≠ none->b = a)->(H a ≠ none->K.lookup a = none) ->
   codeAny (model P w) callerA (.call (.ref fa) ⟨[.ref a],[]⟩) (λ r s'=>r = .ok (.ret (.bool true)) /\ OldK s₁.heap s'.heap /\ s'.os = s₁.os /\ AllBare s'.gens) s₁:=by
  intro H hO hS hok hA hK;have base_of:∀ {b:Addr} {o:Obj},s₁.heap.get? b = some o->H b = none->(Fq s₁.heap H).get? b = some o:=λ e n=>Fc e n;have noA:∀ {b:Addr} {o:Obj} {es:Array DictEntry} {ep:Nat},s₁.heap.get? b = some o->o.data = .dict es ep->H b = none:=λ {b o es ep} e d=>by
   cases q:H b with
   | none=>rfl
   | some u=>
    have e':b = a:=hA b (by rw [q]; simp);subst e';rw [ha] at e; cases e;have d':Data.seq vs.toArray _ = Data.dict es ep:=d;cases d'
  have nsK:∀ {b:Addr} {m:Str->Option Value},s₁.heap.Ns b m->(Fq s₁.heap H).Ns b m:=λ {b m} ⟨o,es,ep,e,d,r⟩=>⟨o,es,ep,base_of e (noA e d),d,r⟩
  have hKb:K.In (Fq s₁.heap H):=λ b o e=>base_of (KX b o e) (by
   cases q:H b with
   | none=>rfl
   | some u=>
    have e':b = a:=hA b (by rw [q]; simp);subst e'
    rw [hK (by rw [q]; simp)] at e; cases e)
  have hM:Mod K mg (Fq s₁.heap H):=⟨hKb,nsK hns,⟨mb,nsK hb,hbb⟩,let ⟨mc,h1,h2⟩:=hlim; ⟨mc,nsK h1,h2⟩⟩
  have e0:ZaB P w K mg (Fq s₁.heap H) callerA [] s₁ H:=⟨rfl,hM,λ b o e=>NZ e,Nat.le_of_eq (B6 _ _),trivial,λ b hb=>absurd (show b ∈ ([]:List Addr) from hb) (by simp),hok,.of_eq hg⟩
  refine codeAny_mono ((F _ hKb (nsK hns)).run callerA [] s₁ H ⟨[.ref a],[]⟩ [.ref a] [.ref a] _ _ hr e0 (hbind s₁ (.ref a)) (.cons rfl .nil) (hsp H hO hS)) λ r s' h=>?_;cases r with
  | error e=>exact (hCX H e s' h).elim
  | ok fl=>
   cases fl with
   | next=>exact False.elim h
   | brk=>exact False.elim h
   | cont=>exact False.elim h
   | ret u=>
    obtain ⟨v,H',os,bare,un,hok',r',q⟩:=h;have q':v = .bl true:=q;subst q';obtain rfl:u = Value.bool true:=r';refine ⟨rfl,OldK.of_keep λ b o e=>?_,os,bare⟩;cases q:H b with
    | none=>exact un.keep b o e q (by intro z; exact absurd (show b ∈ ([]:List Addr) from z) (by simp)) (by simp)
    | some u=>
     rcases hO b with z | ⟨ob,xs,z⟩
     ·rw [q] at z; cases z
     ·have z2:=un.frzs b ob _ z;obtain ⟨e1,_⟩:=hok b _ z;obtain ⟨e2,_⟩:=hok' b _ z2;rw [e] at e1; cases e1;exact e2
 cases hk:K.lookup a with
 | some o=>
  have e:=KX a o hk;rw [ha] at e;cases e;refine core (λ _=>none) (λ _=>.inl rfl) (.inr ⟨_,vs.toArray,_,hk,rfl,rfl,rfl,by rw [List.size_toArray,lenV]; exact hl,by simpa using rv⟩) (λ b u z=>by have z':(none:Option HO) = some u:=z; cases z') (λ b z=>absurd rfl z) λ z=>absurd rfl z
 | none=>
  refine core (λ b=>if b = a then some (.frz { cls:=.type "list",data:=.seq vs.toArray } (.lst (ns.map V.int))) else none) (λ b=>?_) (.inl (.inr ⟨{ cls:=.type "list",data:=.seq vs.toArray },if_pos rfl⟩)) (λ b u z=>?_) (λ b z=>?_) λ _=>hk
  ·by_cases hb:b = a
   ·exact .inr ⟨_,_,if_pos hb⟩
   ·exact .inl (if_neg hb)
  ·by_cases hb:b = a
   ·have z':=(if_pos hb).symm.trans z;cases z';subst hb;exact ⟨ha,by rw [List.length_map]; exact hl,vs,_,rv,ha⟩
   ·have z':=(if_neg hb).symm.trans z;cases z'
  ·by_cases hb:b = a
   ·exact hb
   ·exact absurd (if_neg hb) z
theorem NL {l:PySem.W.OpenLaw} {n k:Nat} {q:Program} {loose:List Str} {XP:(Str->Option Value)->Heap->Prop} {YP:World->Heap->Prop} {d:DefRec} {K:Params->Fj} {CX:World->CXT} {sp:World->Sp} {x:Str}
  (hn:l.most = some n) (hn2:n <= sizeLine) (hdf:d.params.defaults = []) (hr:QS k callerA)
  (hY:∀ (w:World) (h:Heap),YP w h->(K w.params).In h)
  (F:∀ (w:World) (mg:Str->Option Value) (fa:Addr) (h:Heap),(K w.params).In h->h.Ns mainGlobals mg->mg d.name = some (.ref fa) ->
   ∃ fd:FuncData,(∀ (s:Shared) (u:Value),BindsTo s fd ⟨[u],[]⟩ [(x,u)]) /\
    ∀ base:Heap,(K w.params).In base->base.Ns mainGlobals mg->Q7 l.prog w (K w.params) mg base (CX w) k fa fd [x] (sp w))
  (hsp:∀ (w:World) (H:Hp) (a:Addr) (ns:List Int),ns.length <= n->ZaI H->SqL (K w.params) H a (ns.map V.int)->sp w [.ref a] H (λ v _=>v = .bl true) λ _ _ _=>False)
  (hCX:∀ (w:World) (H:Hp) (s:Shared) (e:Value) (s':Shared),CX w [] H s (λ _ _ _=>False) e s'->False) :
  PySem.W.WalkO q loose XP YP l.row.toRowW d [] (λ f vs=>PySem.call f vs):=by
 refine Att.KN hn hdf λ w s₀ s₁ mg mb fa o pm cd doc a vs ns G Y ho hd hcd hmg hobj hints hlen hg=>?_;have KX:=hY w _ Y;obtain ⟨fd,hb,hF⟩:=F w mg fa _ KX G.T.g hmg;exact HF KX G.T.g G.T.b G.T.builtins G.T.nolimit hg hobj hints (Nat.le_trans hlen hn2) hr hF hb (λ H hO hS=>hsp w H a ns hlen hO hS) λ H e s'=>hCX w H s₁ e s'
noncomputable def Jn (s:Stmt):Arguments:=match s with
 | .FunctionDef _ a _ _ _ _ _ _ _ _=>a
 | _=>{ posonlyargs:=[],args:=[],vararg:=none,kwonlyargs:=[],kw_defaults:=[],kwarg:=none,defaults:=[] }
noncomputable def Qy (s:Stmt):List Stmt:=match s with
 | .FunctionDef _ _ b _ _ _ _ _ _ _=>b
 | _=>[]
noncomputable def Zf (s:Stmt):Scope:=match s with
 | .FunctionDef _ _ _ _ _ _ sc _ _ _=>sc
 | _=>{ kind:=.function,names:=[],isGenerator:=false,isCoroutine:=false }
abbrev CX0:CXT:=λ _ _ _ _ _ _=>False
abbrev E0:XK:=λ _ _ _=>False
theorem Zco:Passes CX0 X E0:=λ _ _ _ _ _ _ _ h=>h.elim
structure Fun (K:Fj) (x qual:Str) (st:Stmt) (f:Addr) (fd:FuncData):Prop where
 ex:∃ (oc:Value) (od:Option Addr) (kV doc pm:Value) (an:Option Addr) (cdv ct:Value) (osl:Array (Option Value)),
  fd = PySem.W.fnOf x qual (Jn st) (Qy st) (Zf st) .none kV doc pm an cdv ct /\ K.lookup f = some ⟨oc,od,.func fd,osl⟩ /\ PySem.W.codeIn K cdv qual = true
 kp:PySem.W.keepIn K (.ref f) = true
section
variable {base:Heap}
theorem Fun.ok {ps:List Str} {k:Nat} {sp:Sp} (F:Fun K x qual st f fd) (S:ZA N ps (Zf st)) (len:∀ vs H Q E,sp vs H Q E->vs.length = ps.length)
  (hbody:∀ (cdv:Value) (A:Around) (outer:List Env) (s:Shared) (H:Hp) (vs:List V) (Q:VK) (E:XK),QS k (A.deeper (envOfC qual (Zf st) s.heap.objs.size f cdv))->sp vs H Q E ->
   ∃ t,PSs (Ll CX0 P w K mg base N qual (Zf st) f cdv A outer s H E).nox (Qy st) t /\ t { nx:=λ _ H'=>Q .non H',rt:=Q } (start N vs) H):Q7 P w K mg base CX0 (k + 1) f fd ps sp:=by
 obtain ⟨oc,od,kV,doc,pm,an,cdv,ct,osl,rfl,lk,hcd⟩:=F.ex;refine Zcj lk hcd S len λ A outer s H vs Q E hr hsp=>?_;obtain ⟨t,h,q⟩:=hbody cdv A outer s H vs Q E hr hsp;exact ⟨t,h.nox,q⟩
theorem Fun.binds {ps:List Str} (F:Fun K x qual st f fd)
  (h:∀ (kV doc pm:Value) (an:Option Addr) (cdv ct:Value) (us:List Value),us.length = ps.length->bindArgs (PySem.W.fnOf x qual (Jn st) (Qy st) (Zf st) .none kV doc pm an cdv ct) ⟨us,[]⟩ = pure (ps.zip us)):Binds K fd ps []:=by
 obtain ⟨oc,od,kV,doc,pm,an,cdv,ct,osl,rfl,lk,hcd⟩:=F.ex;exact .all (h kV doc pm an cdv ct)
theorem SU {oc:Value} {od an:Option Addr} {osl:Array (Option Value)} {kV doc pm cdv ct:Value} (l:K.lookup f = some ⟨oc,od,.func (PySem.W.fnOf x qual (Jn st) (Qy st) (Zf st) .none kV doc pm an cdv ct),osl⟩)
  (c:PySem.W.codeIn K cdv qual = true) (k:PySem.W.keepIn K (.ref f) = true):Fun K x qual st f (PySem.W.fnOf x qual (Jn st) (Qy st) (Zf st) .none kV doc pm an cdv ct):=⟨⟨oc,od,kV,doc,pm,an,cdv,ct,osl,rfl,l,c⟩,k⟩
end
def LA (H H':Hp):Prop:=∀ b o,H b = some o->H' b = some o
theorem LA.refl (H:Hp):LA H H:=λ _ _ h=>h
theorem LA.trans {H1 H2:Hp} (a:LA H H1) (b:LA H1 H2):LA H H2:=λ c o h=>b c o (a c o h)
theorem LA.free (e:LA H H') {l:Addr} (h:H' l = Option.none):H l = Option.none:=by
 cases q:H l with
 | none=>rfl
 | some o=>
  rw [e l o q] at h;cases h
end L2
namespace DL
inductive DV where
 | dat (d:PyData)
 | own (a:Addr)
 | ty (n:String)
  | mix (xs:List DV)
inductive OO where
 | lst (ds:List PyData)
  | dct (ks:List (List Key))
  | dtv (kvs:List (List Key × PyData))
  | dkv (kvs:List (Key × PyData))
  | dko (kvs:List (Key × DV))
  | fdk (o:Obj) (kvs:List (Key × PyData))
  | lsv (n:Nat) (xs:List DV)
  | ext (φ:Heap->Prop)
  | gst (N₀:Addr->Prop) (H₀:Hp)
  | fdc (o:Obj) (ks:List (List Key))
 | fdt (o:Obj) (ps:List (List Key × PyData))
abbrev Mp:=Addr->Option OO
noncomputable def Zu (M:Mp) (a:Addr) (o:OO):Mp:=λ b=>if b = a then some o else M b
noncomputable def Jj (M:Mp) (a:Addr):Mp:=λ b=>if b = a then none else M b
theorem Zv {M:Mp} {o:OO}:Zu M a o a = some o:=by unfold Zu; rw [if_pos rfl]
theorem ZT {M:Mp} {o:OO} (h:b ≠ a):Zu M a o b = M b:=by unfold Zu; rw [if_neg h]
theorem CU {M:Mp} {o u:OO}:Zu (Zu M a o) a u = Zu M a u:=by
 funext b; unfold Zu; split <;> rfl
theorem XW {M:Mp}:Jj M a a = none:=by unfold Jj; rw [if_pos rfl]
theorem Yy {M:Mp} (h:b ≠ a):Jj M a b = M b:=by unfold Jj; rw [if_neg h]
noncomputable def kD:Key->PyData
 | .inl i=>.int i
 | .inr x=>.str x
def KTu (K:Fj) (a:Addr) (xs:List V):Prop:=
 ∃ (o:Obj) (its:Array Value) (n:Nat),K.lookup a = some o /\ o.cls = .type "tuple" /\ o.data = .seq its n /\ its.size <= sizeLine /\ Vals xs its.toList
def KLs (K:Fj) (a:Addr) (xs:List V):Prop:=
 ∃ (o:Obj) (its:Array Value) (n:Nat),K.lookup a = some o /\ o.cls = .type "list" /\ o.dict = none /\ o.data = .seq its n /\ its.size <= sizeLine /\ Vals xs its.toList
def TupAt (K:Fj) (M:Mp) (H:Hp) (a:Addr) (xs:List V):Prop:=(M a = none /\ Rd H a (.tup xs)) \/ KTu K a xs
def LstAt (K:Fj) (M:Mp) (H:Hp) (a:Addr) (xs:List V):Prop:=(M a = none /\ Rd H a (.lst xs)) \/ KLs K a xs
theorem TupAt.sq {M:Mp} (h:TupAt K M H a xs):SqT K H a xs:=by
 rcases h with ⟨_,h⟩ | h
 ·exact .inl h
 ·exact .inr h
theorem LstAt.sq {M:Mp} (h:LstAt K M H a xs):SqL K H a xs:=by
 rcases h with ⟨_,h⟩ | h
 ·exact .inl h
 ·exact .inr h
mutual
inductive Dt (K:Fj) (M:Mp) (H:Hp):V->PyData->Prop
 | non:Dt K M H .non .none
 | bl (b:Bool):Dt K M H (.bl b) (.bool b)
 | int (i:Int):Dt K M H (.int i) (.int i)
 | str (x:Str):Dt K M H (.str x) (.str x)
 | tup {a:Addr} {xs:List V} {ds:List PyData}:TupAt K M H a xs->Dts K M H xs ds->Dt K M H (.ref a) (.tuple ds)
 | lst {a:Addr} {xs:List V} {ds:List PyData}:LstAt K M H a xs->Dts K M H xs ds->Dt K M H (.ref a) (.list ds)
 | dK {a:Addr} {kvs:List (Key × V)} {ds:List PyData}:M a = none->H a = some (.dK kvs)->Dts K M H (kvs.map (·.2)) ds->Dt K M H (.ref a) (.dict ((kvs.map λ kv=>kD kv.1).zip ds))
 | dT {a:Addr} {kvs:List (List Key × V)} {ds:List PyData}:M a = none->H a = some (.dT kvs)->Dts K M H (kvs.map (·.2)) ds->kvs ≠ []->Dt K M H (.ref a) (.dict ((kvs.map λ kv=>PyData.tuple (kv.1.map kD)).zip ds))
 | dX {a b:Addr} {φ:Heap->Prop} {v:V} {dk d:PyData}:M a = none->H a = some (.ext φ)->(a == sysModules) = false ->
   (∀ h,φ h->∃ o es n u,h.get? a = some o /\ o.cls = .type "dict" /\ o.data = .dict es n /\ es.toList.map (·.key) = [.ref b] /\ es.toList.map (·.val) = [u] /\ RelV v u)->Dt K M H (.ref b) dk->Dt K M H v d->Dt K M H (.ref a) (.dict [(dk,d)])
inductive Dts (K:Fj) (M:Mp) (H:Hp):List V->List PyData->Prop
 | nil:Dts K M H [] []
 | cons {x:V} {xs:List V} {d:PyData} {ds:List PyData}:Dt K M H x d->Dts K M H xs ds->Dts K M H (x :: xs) (d :: ds)
end
structure Step (M:Mp) (H:Hp) (M':Mp) (H':Hp):Prop where
 keep:∀ b o,M b = none->H b = some o->H' b = some o
 free:∀ b o,M b = none->H b = some o->M' b = none
theorem Step.refl {M:Mp}:Step M H M H:=⟨λ _ _ _ h=>h,λ _ _ h _=>h⟩
theorem Step.trans {M M1 M2:Mp} {H1 H2:Hp} (a:Step M H M1 H1) (b:Step M1 H1 M2 H2):Step M H M2 H2:=
 ⟨λ c o h1 h2=>b.keep c o (a.free c o h1 h2) (a.keep c o h1 h2),λ c o h1 h2=>b.free c o (a.free c o h1 h2) (a.keep c o h1 h2)⟩
section
variable {M M':Mp}
theorem Dy {u:HO} (st:Step M H M' H') (hm:M a = none) (h:Rd H a u):M' a = none /\ Rd H' a u:=by
 rcases h with h | ⟨o,h⟩
 ·exact ⟨st.free _ _ hm h,.inl (st.keep _ _ hm h)⟩
 ·exact ⟨st.free _ _ hm h,.inr ⟨o,st.keep _ _ hm h⟩⟩
theorem TupAt.step (h:TupAt K M H a xs) (st:Step M H M' H'):TupAt K M' H' a xs:=by
 rcases h with ⟨h1,h2⟩ | h
 ·exact .inl (Dy st h1 h2)
 ·exact .inr h
theorem LstAt.step (h:LstAt K M H a xs) (st:Step M H M' H'):LstAt K M' H' a xs:=by
 rcases h with ⟨h1,h2⟩ | h
 ·exact .inl (Dy st h1 h2)
 ·exact .inr h
mutual
theorem Dt.step (st:Step M H M' H'):∀ {v:V} {d:PyData},Dt K M H v d->Dt K M' H' v d
 | _,_,.non=>.non
 | _,_,.bl b=>.bl b
 | _,_,.int i=>.int i
 | _,_,.str x=>.str x
 | _,_,.tup h1 h2=>.tup (h1.step st) (Dts.step st h2)
 | _,_,.lst h1 h2=>.lst (h1.step st) (Dts.step st h2)
 | _,_,.dK h0 h1 h2=>.dK (st.free _ _ h0 h1) (st.keep _ _ h0 h1) (Dts.step st h2)
 | _,_,.dT h0 h1 h2 h3=>.dT (st.free _ _ h0 h1) (st.keep _ _ h0 h1) (Dts.step st h2) h3
 | _,_,.dX h0 h1 h2 h3 h4 h5=>.dX (st.free _ _ h0 h1) (st.keep _ _ h0 h1) h2 h3 (Dt.step st h4) (Dt.step st h5)
theorem Dts.step (st:Step M H M' H'):∀ {vs:List V} {ds:List PyData},Dts K M H vs ds->Dts K M' H' vs ds
 | _,_,.nil=>.nil
 | _,_,.cons h1 h2=>.cons (Dt.step st h1) (Dts.step st h2)
end
theorem Dts.length:∀ {vs:List V} {ds:List PyData},Dts K M H vs ds->vs.length = ds.length
 | _,_,.nil=>rfl
 | _,_,.cons _ h=>by rw [List.length_cons,List.length_cons,Dts.length h]
theorem Dts.get:∀ {vs:List V} {ds:List PyData} {i:Nat} {d:PyData},Dts K M H vs ds->ds[i]? = some d->∃ v,vs[i]? = some v /\ Dt K M H v d
 | _,_,_,_,.nil,e=>by simp at e
 | _,_,0,_,.cons h _,e=>by simp at e; subst e; exact ⟨_,rfl,h⟩
 | _,_,i + 1,d,.cons _ h,e=>by
  obtain ⟨v,h1,h2⟩:=Dts.get (i:=i) (d:=d) h (by simpa using e);exact ⟨v,by simpa using h1,h2⟩
theorem Dts.ZbH:∀ {vs:List V} {ds:List PyData} {i:Nat} {v:V},Dts K M H vs ds->vs[i]? = some v->∃ d,ds[i]? = some d /\ Dt K M H v d
 | _,_,_,_,.nil,e=>by simp at e
 | _,_,0,_,.cons h _,e=>by simp at e; subst e; exact ⟨_,rfl,h⟩
 | _,_,i + 1,v,.cons _ h,e=>by
  obtain ⟨d,h1,h2⟩:=Dts.ZbH (i:=i) (v:=v) h (by simpa using e);exact ⟨d,by simpa using h1,h2⟩
theorem Dts.append:∀ {vs ws:List V} {ds es:List PyData},Dts K M H vs ds->Dts K M H ws es->Dts K M H (vs ++ ws) (ds ++ es)
 | _,_,_,_,.nil,h=>h
 | _,_,_,_,.cons h1 h2,h=>.cons h1 (Dts.append h2 h)
theorem Dts.take:∀ {vs:List V} {ds:List PyData} (n:Nat),Dts K M H vs ds->Dts K M H (vs.take n) (ds.take n)
 | _,_,0,_=>.nil
 | _,_,_ + 1,.nil=>.nil
 | _,_,n + 1,.cons h1 h2=>.cons h1 (Dts.take n h2)
theorem Dts.drop:∀ {vs:List V} {ds:List PyData} (n:Nat),Dts K M H vs ds->Dts K M H (vs.drop n) (ds.drop n)
 | _,_,0,h=>h
 | _,_,_ + 1,.nil=>.nil
 | _,_,n + 1,.cons _ h2=>Dts.drop n h2
theorem Dts.set (h:Dt K M H v d):∀ {vs:List V} {ds:List PyData} (i:Nat),Dts K M H vs ds->Dts K M H (vs.set i v) (ds.set i d)
 | _,_,_,.nil=>.nil
 | _,_,0,.cons _ t=>.cons h t
 | _,_,i + 1,.cons q t=>.cons q (Dts.set h i t)
theorem Dts.ints:∀ (ns:List Int),Dts K M H (ns.map V.int) (ns.map PyData.int)
 | []=>.nil
 | n :: ns=>.cons (.int n) (Dts.ints ns)
mutual
inductive Mx (K:Fj) (M:Mp) (H:Hp):V->List DV->Prop
 | mk {a:Addr} {vs:List V} {xs:List DV}:M a = none->H a = some (.tup vs)->Mxs K M H vs xs->Mx K M H (.ref a) xs
inductive Mxs (K:Fj) (M:Mp) (H:Hp):List V->List DV->Prop
 | nil:Mxs K M H [] []
 | dat {v:V} {d:PyData} {vs:List V} {xs:List DV}:Dt K M H v d->Mxs K M H vs xs->Mxs K M H (v :: vs) (.dat d :: xs)
 | own {b:Addr} {vs:List V} {xs:List DV}:Mxs K M H vs xs->Mxs K M H (.ref b :: vs) (.own b :: xs)
 | mix {v:V} {ys:List DV} {vs:List V} {xs:List DV}:Mx K M H v ys->Mxs K M H vs xs->Mxs K M H (v :: vs) (.mix ys :: xs)
end
mutual
theorem Mx.step (st:Step M H M' H'):∀ {v:V} {xs:List DV},Mx K M H v xs->Mx K M' H' v xs
 | _,_,.mk h1 h2 h3=>.mk (st.free _ _ h1 h2) (st.keep _ _ h1 h2) (Mxs.step st h3)
theorem Mxs.step (st:Step M H M' H'):∀ {vs:List V} {xs:List DV},Mxs K M H vs xs->Mxs K M' H' vs xs
 | _,_,.nil=>.nil
 | _,_,.dat h1 h2=>.dat (Dt.step st h1) (Mxs.step st h2)
 | _,_,.own h2=>.own (Mxs.step st h2)
 | _,_,.mix h1 h2=>.mix (Mx.step st h1) (Mxs.step st h2)
end
def VR0 (K:Fj) (M:Mp) (H:Hp) (v:V):DV->Prop
 | .dat d=>Dt K M H v d
 | .own b=>v = .ref b
 | .ty _=>False
 | .mix xs=>Mx K M H v xs
theorem VR0.step {x:DV} (h:VR0 K M H v x) (st:Step M H M' H'):VR0 K M' H' v x:=by
 cases x with
 | dat d=>exact Dt.step st h
 | own b=>exact h
 | ty n=>exact h
 | mix xs=>exact Mx.step st h
def OOk (K:Fj) (M:Mp) (H:Hp) (a:Addr):OO->Prop
 | .lst ds=>∃ vs,H a = some (.lst vs) /\ Dts K M H vs ds
 | .dct ks=>∃ kvs,H a = some (.dT kvs) /\ kvs.map (·.1) = ks
 | .dtv ps=>∃ kvs,H a = some (.dT kvs) /\ kvs.map (·.1) = ps.map (·.1) /\ Dts K M H (kvs.map (·.2)) (ps.map (·.2))
 | .dkv ps=>∃ kvs,H a = some (.dK kvs) /\ kvs.map (·.1) = ps.map (·.1) /\ Dts K M H (kvs.map (·.2)) (ps.map (·.2))
 | .dko ps=>∃ kvs,H a = some (.dK kvs) /\ Paired (λ (p:Key × V) (q:Key × DV)=>p.1 = q.1 /\ VR0 K M H p.2 q.2) kvs ps
 | .fdk o ps=>∃ kvs,H a = some (.frz o (.dK kvs)) /\ kvs.map (·.1) = ps.map (·.1) /\ Dts K M H (kvs.map (·.2)) (ps.map (·.2))
 | .lsv _ xs=>∃ vs,H a = some (.lst vs) /\ Paired (VR0 K M H) vs xs
 | .ext φ=>H a = some (.ext φ)
 | .gst N₀ H₀=>(∃ vs,H a = some (.lst vs) /\ H₀ a = some (.lst vs)) /\ ∀ b o,N₀ b->H₀ b = some o->H b = some o /\ M b = none
 | .fdc o ks=>∃ kvs,H a = some (.frz o (.dT kvs)) /\ kvs.map (·.1) = ks
 | .fdt o ps=>∃ kvs,H a = some (.frz o (.dT kvs)) /\ kvs.map (·.1) = ps.map (·.1) /\ Dts K M H (kvs.map (·.2)) (ps.map (·.2))
theorem OOk.step {o:OO} (h:OOk K M H a o) (st:Step M H M' H') (e:∀ u,H a = some u->H' a = some u):OOk K M' H' a o:=by
 cases o with
 | lst ds=>obtain ⟨vs,e1,e2⟩:=h; exact ⟨vs,e _ e1,e2.step st⟩
 | dct ks=>obtain ⟨vs,e1,e2⟩:=h; exact ⟨vs,e _ e1,e2⟩
 | dtv ps=>obtain ⟨vs,e1,e2,e3⟩:=h; exact ⟨vs,e _ e1,e2,e3.step st⟩
 | dkv ps=>obtain ⟨vs,e1,e2,e3⟩:=h; exact ⟨vs,e _ e1,e2,e3.step st⟩
 | dko ps=>obtain ⟨vs,e1,e2⟩:=h; exact ⟨vs,e _ e1,Paired.Nn e2 λ _ _ z=>⟨z.1,z.2.step st⟩⟩
 | fdk o ps=>obtain ⟨vs,e1,e2,e3⟩:=h; exact ⟨vs,e _ e1,e2,e3.step st⟩
 | lsv n xs=>obtain ⟨vs,e1,e2⟩:=h; exact ⟨vs,e _ e1,Paired.Nn e2 λ _ _ z=>z.step st⟩
 | ext φ=>exact e _ h
 | gst N₀ H₀=>obtain ⟨⟨u,e1,e2⟩,k⟩:=h; exact ⟨⟨u,e _ e1,e2⟩,λ b o n q=>⟨st.keep b o (k b o n q).2 (k b o n q).1,st.free b o (k b o n q).2 (k b o n q).1⟩⟩
 | fdc o ks=>obtain ⟨vs,e1,e2⟩:=h; exact ⟨vs,e _ e1,e2⟩
 | fdt o ps=>obtain ⟨vs,e1,e2,e3⟩:=h; exact ⟨vs,e _ e1,e2,e3.step st⟩
theorem OOk.some {o:OO} (h:OOk K M H a o):∃ u,H a = some u:=by
 cases o with
 | lst ds=>obtain ⟨vs,e1,_⟩:=h; exact ⟨_,e1⟩
 | dct ks=>obtain ⟨vs,e1,_⟩:=h; exact ⟨_,e1⟩
 | dtv ps=>obtain ⟨vs,e1,_⟩:=h; exact ⟨_,e1⟩
 | dkv ps=>obtain ⟨vs,e1,_⟩:=h; exact ⟨_,e1⟩
 | dko ps=>obtain ⟨vs,e1,_⟩:=h; exact ⟨_,e1⟩
 | fdk o ps=>obtain ⟨vs,e1,_⟩:=h; exact ⟨_,e1⟩
 | lsv n xs=>obtain ⟨vs,e1,_⟩:=h; exact ⟨_,e1⟩
 | ext φ=>exact ⟨_,h⟩
 | gst N₀ H₀=>obtain ⟨⟨u,e1,_⟩,_⟩:=h; exact ⟨_,e1⟩
 | fdc o ks=>obtain ⟨vs,e1,_⟩:=h; exact ⟨_,e1⟩
 | fdt o ps=>obtain ⟨vs,e1,_⟩:=h; exact ⟨_,e1⟩
structure Zz (K:Fj) (M:Mp) (H:Hp):Prop where
 ok:∀ a o,M a = some o->OOk K M H a o
theorem Zz.ls (r:Zz K M H) (a:Addr) (ds:List PyData) (h:M a = some (.lst ds)):∃ vs,H a = some (.lst vs) /\ Dts K M H vs ds:=r.ok a _ h
theorem Zz.tracked (r:Zz K M H) (h:H a = none):M a = none:=by
 cases q:M a with
 | none=>rfl
 | some o=>
  obtain ⟨u,e⟩:=(r.ok a o q).some;rw [h] at e;cases e
theorem Step.new {o:HO} (h:H p = none):Step M H M (upd H p o):=
 ⟨λ b u _ e=>by rw [ZE (Zp e h)]; exact e,λ _ _ h _=>h⟩
theorem Zz.step_same (r:Zz K M H) (st:Step M H M H') (hk:∀ a u,M a ≠ none->H a = some u->H' a = some u):Zz K M H':=
 ⟨λ a o e=>(r.ok a o e).step st λ u hu=>hk a u (by rw [e]; simp) hu⟩
theorem Zz.new (r:Zz K M H) {o:HO} (h:H p = none):Zz K M (upd H p o):=
 r.step_same (Step.new h) λ a vs _ e=>by rw [ZE (Zp e h)]; exact e
theorem Step.QO {o:HO} {q:OO} (h:H p = none):Step M H (Zu M p q) (upd H p o):=
 ⟨λ b u _ e=>by rw [ZE (Zp e h)]; exact e,λ b u hm e=>by rw [ZT (Zp e h)]; exact hm⟩
theorem Step.V6 {o:HO} {q q':OO} (h:M p = some q):Step M H (Zu M p q') (upd H p o):=by
 have ne:∀ b,M b = none->b ≠ p:=λ b hb e=>by rw [e,h] at hb; cases hb
 exact ⟨λ b u hb e=>by rw [ZE (ne b hb)]; exact e,λ b u hb e=>by rw [ZT (ne b hb)]; exact hb⟩
theorem Zz.Uz (r:Zz K M H) {u:HO} {o:OO} (st:Step M H (Zu M p o) (upd H p u)) (h:OOk K (Zu M p o) (upd H p u) p o):Zz K (Zu M p o) (upd H p u):=by
 refine ⟨λ a q e=>?_⟩
 by_cases ha:a = p
 ·subst ha;rw [Zv] at e;cases e;exact h
 ·rw [ZT ha] at e;exact (r.ok a q e).step st λ v hv=>by rw [ZE ha]; exact hv
theorem Zz.Vb (r:Zz K M H) (st:Step M H (Zu M p (.lst ds)) (upd H p (.lst vs))) (hv:Dts K M H vs ds) :
  Zz K (Zu M p (.lst ds)) (upd H p (.lst vs)):=r.Uz st ⟨vs,Z5,hv.step st⟩
theorem Step.frz:Step M H (Jj M p) H:=
 ⟨λ _ _ _ h=>h,λ b o hb _=>by unfold Jj; split <;> first | rfl | exact hb⟩
theorem Zz.frz (r:Zz K M H):Zz K (Jj M p) H:=by
 refine ⟨λ a o e=>?_⟩;have hne:a ≠ p:=λ z=>by rw [z,XW] at e; cases e
 rw [Yy hne] at e;exact (r.ok a o e).step Step.frz λ _ h=>h
def Qd (K:Fj) (M:Mp) (H:Hp) (v:V):DV->Prop
 | .dat d=>Dt K M H v d
 | .own a=>v = .ref a
 | .ty n=>v = .ty n
 | .mix xs=>Mx K M H v xs
theorem Qd.step {x:DV} (h:Qd K M H v x) (st:Step M H M' H'):Qd K M' H' v x:=by
 cases x with
 | dat d=>exact Dt.step st h
 | own a=>exact h
 | ty n=>exact h
 | mix xs=>exact Mx.step st h
abbrev JA (K:Fj) (M:Mp) (H:Hp):List V->List DV->Prop:=Paired (Qd K M H)
theorem JA.step {xs:List DV} (h:JA K M H vs xs) (st:Step M H M' H'):JA K M' H' vs xs:=Paired.Nn h λ _ _ q=>Qd.step q st
theorem JA.ZaK:∀ {vs:List V} {ds:List PyData},JA K M H vs (ds.map DV.dat)->Dts K M H vs ds
 | vs,[],h=>by rw [List.map_nil] at h; cases h; exact .nil
 | vs,d :: ds,h=>by
  rw [List.map_cons] at h;cases h with
  | cons h1 h2=>exact .cons h1 (JA.ZaK h2)
def onV (o:Option (Option DV)) (P:DV->Prop):Prop:=match o with | some (some x)=>P x | _=>False
theorem L3 {o:Option (Option DV)} {P:DV->Prop} (h:onV o P):∃ x,o = some (some x) /\ P x:=by
 unfold onV at h
 split at h
 ·exact ⟨_,rfl,h⟩
 ·exact h.elim
def onI (x:DV) (P:Int->Prop):Prop:=match x with | .dat (.int i)=>P i | _=>False
theorem ZS {x:DV} {P:Int->Prop} (h:onI x P):∃ i,x = .dat (.int i) /\ P i:=by
 unfold onI at h
 split at h
 ·exact ⟨_,rfl,h⟩
 ·exact h.elim
def onB (x:DV) (P:Bool->Prop):Prop:=match x with | .dat (.bool i)=>P i | _=>False
theorem L0 {x:DV} {P:Bool->Prop} (h:onB x P):∃ i,x = .dat (.bool i) /\ P i:=by
 unfold onB at h
 split at h
 ·exact ⟨_,rfl,h⟩
 ·exact h.elim
def onS (x:DV) (P:Str->Prop):Prop:=match x with | .dat (.str i)=>P i | _=>False
theorem Qc {x:DV} {P:Str->Prop} (h:onS x P):∃ i,x = .dat (.str i) /\ P i:=by
 unfold onS at h
 split at h
 ·exact ⟨_,rfl,h⟩
 ·exact h.elim
def onT (x:DV) (P:List PyData->Prop):Prop:=match x with | .dat (.tuple i)=>P i | _=>False
theorem WC {x:DV} {P:List PyData->Prop} (h:onT x P):∃ i,x = .dat (.tuple i) /\ P i:=by
 unfold onT at h
 split at h
 ·exact ⟨_,rfl,h⟩
 ·exact h.elim
def onL (x:DV) (P:List PyData->Prop):Prop:=match x with | .dat (.list i)=>P i | _=>False
theorem XI {x:DV} {P:List PyData->Prop} (h:onL x P):∃ i,x = .dat (.list i) /\ P i:=by
 unfold onL at h
 split at h
 ·exact ⟨_,rfl,h⟩
 ·exact h.elim
def onD (x:DV) (P:PyData->Prop):Prop:=match x with | .dat i=>P i | _=>False
theorem ZY {x:DV} {P:PyData->Prop} (h:onD x P):∃ i,x = .dat i /\ P i:=by
 unfold onD at h
 split at h
 ·exact ⟨_,rfl,h⟩
 ·exact h.elim
def onO (x:DV) (P:Addr->Prop):Prop:=match x with | .own i=>P i | _=>False
theorem ZM {x:DV} {P:Addr->Prop} (h:onO x P):∃ i,x = .own i /\ P i:=by
 unfold onO at h
 split at h
 ·exact ⟨_,rfl,h⟩
 ·exact h.elim
def QG (o:Option OO) (P:List PyData->Prop):Prop:=match o with | some (.lst ds)=>P ds | _=>False
theorem VL (ds:List PyData) (P:List PyData->Prop):QG (some (.lst ds)) P = P ds:=rfl
theorem Qq {o:Option OO} {P:List PyData->Prop} (h:QG o P):∃ ds,o = some (.lst ds) /\ P ds:=by
 unfold QG at h
 split at h
 ·exact ⟨_,rfl,h⟩
 ·exact h.elim
def O2 (o:Option OO) (P:List (List Key)->Prop):Prop:=match o with | some (.dct ks)=>P ks | _=>False
def onQ (x:DV) (M:Mp) (P:List PyData->Prop):Prop:=match x with | .dat (.tuple ds)=>P ds | .dat (.list ds)=>P ds | .own l=>QG (M l) P | _=>False
theorem BQ {x:DV} {M:Mp} {P:List PyData->Prop} (h:onQ x M P):∃ ds,(x = .dat (.tuple ds) \/ x = .dat (.list ds) \/ ∃ l,x = .own l /\ M l = some (.lst ds)) /\ P ds:=by
 unfold onQ at h
 split at h
 ·exact ⟨_,.inl rfl,h⟩
 ·exact ⟨_,.inr (.inl rfl),h⟩
 ·replace h:=Qq h;obtain ⟨ds,e,h⟩:=h;exact ⟨ds,.inr (.inr ⟨_,rfl,e⟩),h⟩
 ·exact h.elim
def onK (x:DV) (M:Mp) (P:List PyData->Prop):Prop:=match x with | .dat (.list ds)=>P ds | .own l=>QG (M l) P | _=>False
theorem X6 {x:DV} {M:Mp} {P:List PyData->Prop} (h:onK x M P):∃ ds,(x = .dat (.list ds) \/ ∃ l,x = .own l /\ M l = some (.lst ds)) /\ P ds:=by
 unfold onK at h
 split at h
 ·exact ⟨_,.inl rfl,h⟩
 ·replace h:=Qq h;obtain ⟨ds,e,h⟩:=h;exact ⟨ds,.inr ⟨_,rfl,e⟩,h⟩
 ·exact h.elim
def on1 (xs:List DV) (P:DV->Prop):Prop:=match xs with | [x]=>P x | _=>False
theorem ZU {xs:List DV} {P:DV->Prop} (h:on1 xs P):∃ x,xs = [x] /\ P x:=by
 unfold on1 at h
 split at h
 ·exact ⟨_,rfl,h⟩
 ·exact h.elim
def on2 (xs:List DV) (P:DV->DV->Prop):Prop:=match xs with | [x,y]=>P x y | _=>False
theorem ZZ {xs:List DV} {P:DV->DV->Prop} (h:on2 xs P):∃ x y,xs = [x,y] /\ P x y:=by
 unfold on2 at h
 split at h
 ·exact ⟨_,_,rfl,h⟩
 ·exact h.elim
def on3 (xs:List DV) (P:DV->DV->DV->Prop):Prop:=match xs with | [x,y,z]=>P x y z | _=>False
theorem VW {xs:List DV} {P:DV->DV->DV->Prop} (h:on3 xs P):∃ x y z,xs = [x,y,z] /\ P x y z:=by
 unfold on3 at h
 split at h
 ·exact ⟨_,_,_,rfl,h⟩
 ·exact h.elim
def on4 (xs:List DV) (P:DV->DV->DV->DV->Prop):Prop:=match xs with | [x0,x1,x2,x3]=>P x0 x1 x2 x3 | _=>False
def on5 (xs:List DV) (P:DV->DV->DV->DV->DV->Prop):Prop:=match xs with | [x0,x1,x2,x3,x4]=>P x0 x1 x2 x3 x4 | _=>False
def on6 (xs:List DV) (P:DV->DV->DV->DV->DV->DV->Prop):Prop:=match xs with | [x0,x1,x2,x3,x4,x5]=>P x0 x1 x2 x3 x4 x5 | _=>False
noncomputable def E6:List DV->Option (List PyData)
 | []=>some []
 | .dat d :: r=>match E6 r with | some ds=>some (d :: ds) | none=>none
 | _ :: _=>none
theorem Uu:∀ {xs:List DV} {ds:List PyData},E6 xs = some ds->xs = ds.map DV.dat
 | [],_,h=>by cases h; rfl
 | .dat d :: r,ds,h=>by
  rw [E6] at h
  split at h
  ·rename_i es e;cases h;rw [List.map_cons,<- Uu e]
  ·cases h
 | .own _ :: _,_,h=>by cases h
 | .ty _ :: _,_,h=>by cases h
 | .mix _ :: _,_,h=>by cases h
def Vl (xs:List DV) (P:List PyData->Prop):Prop:=match Nat.ble xs.length 100 with
 | true=>(match E6 xs with | some ds=>P ds | none=>False)
 | false=>False
theorem Wl {xs:List DV} {P:List PyData->Prop} (h:Vl xs P):∃ ds,xs = ds.map DV.dat /\ ds.length <= 100 /\ P ds:=by
 unfold Vl at h
 split at h
 ·rename_i e
  split at h
  ·rename_i ds e2;have e3:=Uu e2;refine ⟨ds,e3,?_,h⟩;have e4:=Nat.le_of_ble_eq_true e
   rwa [e3,List.length_map] at e4
  ·exact h.elim
 ·exact h.elim
abbrev DSt:=List (Option DV)
structure Qr (K:Fj) (M:Mp) (H:Hp) (Z:L2.St) (Δ:DSt):Prop where
 len:Z.length = Δ.length
 at':∀ (i:Nat) (x:DV),Δ[i]? = some (some x)->∃ v,Z[i]? = some (some v) /\ Qd K M H v x
theorem Qr.step {Z:L2.St} {Δ:DSt} (h:Qr K M H Z Δ) (st:Step M H M' H'):Qr K M' H' Z Δ:=
 ⟨h.len,λ i x e=>let ⟨v,e1,e2⟩:=h.at' i x e; ⟨v,e1,e2.step st⟩⟩
theorem Qr.set {Z:L2.St} {Δ:DSt} {x:DV} (h:Qr K M H Z Δ) (r:Qd K M H v x):Qr K M H (Z.set i (some v)) (Δ.set i (some x)):=by
 refine ⟨by rw [List.length_set,List.length_set,h.len],λ j y e=>?_⟩
 by_cases hj:i = j
 ·subst hj
  by_cases hl:i < Δ.length
  ·rw [List.getElem?_set_self hl] at e;cases e;exact ⟨v,List.getElem?_set_self (by rw [h.len]; exact hl),r⟩
  ·rw [List.getElem?_eq_none (by rw [List.length_set]; lia)] at e;cases e
 ·rw [List.getElem?_set_ne hj] at e;rw [List.getElem?_set_ne hj];exact h.at' j y e
noncomputable def JT (N:List Str) (xs:List DV):DSt:=xs.map some ++ List.replicate (N.length - xs.length) none
theorem Paired.Zbi {α β:Type} {F:α->β->Prop}:∀ {l:List α} {m:List β} {i:Nat} {b:β},Paired F l m->m[i]? = some b->∃ a,l[i]? = some a /\ F a b
 | _,_,_,_,.nil,e=>by simp at e
 | _,_,0,_,.cons h _,e=>by simp at e; subst e; exact ⟨_,rfl,h⟩
 | _,_,i + 1,b,.cons _ h,e=>by
  obtain ⟨a,h1,h2⟩:=Paired.Zbi (i:=i) (b:=b) h (by simpa using e);exact ⟨a,by simpa using h1,h2⟩
theorem Qr.start {xs:List DV} (h:JA K M H vs xs):Qr K M H (start N vs) (JT N xs):=by
 have hl:vs.length = xs.length:=Paired.length h;refine ⟨by unfold L2.start JT; simp [hl],λ i x e=>?_⟩;unfold JT at e;unfold L2.start
 by_cases hi:i < xs.length
 ·rw [List.getElem?_append_left (by simpa using hi),List.getElem?_map] at e;cases q:xs[i]? with
  | none=>rw [q] at e; cases e
  | some y=>
   rw [q] at e;cases e;obtain ⟨v,h1,h2⟩:=Paired.Zbi h q;exact ⟨v,by rw [List.getElem?_append_left (by simpa [hl] using hi),List.getElem?_map,h1]; rfl,h2⟩
 ·rw [List.getElem?_append_right (by simpa using hi),List.getElem?_replicate] at e
  split at e <;> cases e
end
abbrev DK:=DV->Mp->Prop
abbrev DTE:=DSt->Mp->DK->Prop
abbrev DTT:=DSt->Mp->(Bool->Mp->Prop)->Prop
abbrev DTA:=DSt->Mp->(List DV->Mp->Prop)->Prop
structure Z1 where
 nx:DSt->Mp->Prop
 rt:DK
 bk:DSt->Mp->Prop:=λ _ _=>False
 ct:DSt->Mp->Prop:=λ _ _=>False
abbrev DTS:=Z1->DSt->Mp->Prop
def Rch (K:Fj) (M:Mp) (H:Hp) (Φ:DK) (Q:VK):Prop:=∀ v H' x M',Zz K M' H'->Step M H M' H'->Qd K M' H' v x->Φ x M'->Q v H'
theorem Rch.step {M M':Mp} {Φ:DK} {Q:VK} (h:Rch K M H Φ Q) (st:Step M H M' H'):Rch K M' H' Φ Q:=λ v H2 x M2 r s2 q f=>h v H2 x M2 r (st.trans s2) q f
theorem Rch.dat {M M':Mp} {Φ:DK} {Q:VK} (h:Rch K M H Φ Q) (r:Zz K M' H') (st:Step M H M' H') (hd:Dt K M' H' v d) (f:Φ (.dat d) M'):Q v H':=h v H' (.dat d) M' r st hd f
def DE (X:Cx) (e:Expr) (τ:DTE):Prop:=∃ t,PE X e t /\ ∀ Z H Δ M Φ Q,Zz X.K M H->Qr X.K M H Z Δ->τ Δ M Φ->Rch X.K M H Φ Q->t Z H Q
def DT (X:Cx) (e:Expr) (τ:DTT):Prop:=∃ t,PT X e t /\ ∀ Z H Δ M Φ (Q:Bool->Hp->Prop),Zz X.K M H->Qr X.K M H Z Δ->τ Δ M Φ ->
 (∀ b H' M',Zz X.K M' H'->Step M H M' H'->Φ b M'->Q b H')->t Z H Q
def DW (X:Cx) (e:Expr) (τ:DTT):Prop:=∃ t,PW X e t /\ ∀ Z H Δ M Φ (Q:Bool->Hp->Prop),Zz X.K M H->Qr X.K M H Z Δ->τ Δ M Φ ->
 (∀ b H' M',Zz X.K M' H'->Step M H M' H'->Φ b M'->Q b H')->t Z H Q
def DA (X:Cx) (es:List Expr) (τ:DTA):Prop:=∃ t,PA X es t /\ ∀ Z H Δ M Φ (Q:List V->Hp->Prop),Zz X.K M H->Qr X.K M H Z Δ->τ Δ M Φ ->
 (∀ vs H' xs M',Zz X.K M' H'->Step M H M' H'->JA X.K M' H' vs xs->Φ xs M'->Q vs H')->t Z H Q
structure VH (K:Fj) (M:Mp) (H:Hp) (D:Z1) (E:Ends):Prop where
 nx:∀ σ' H' Δ' M',Zz K M' H'->Step M H M' H'->Qr K M' H' σ' Δ'->D.nx Δ' M'->E.nx σ' H'
 rt:Rch K M H D.rt E.rt
 bk:∀ σ' H' Δ' M',Zz K M' H'->Step M H M' H'->Qr K M' H' σ' Δ'->D.bk Δ' M'->E.bk σ' H'
 ct:∀ σ' H' Δ' M',Zz K M' H'->Step M H M' H'->Qr K M' H' σ' Δ'->D.ct Δ' M'->E.ct σ' H'
theorem VH.step {M M':Mp} {D:Z1} {E:Ends} (h:VH K M H D E) (st:Step M H M' H'):VH K M' H' D E:=
 ⟨λ a b c d r s=>h.nx a b c d r (st.trans s),h.rt.step st,λ a b c d r s=>h.bk a b c d r (st.trans s),λ a b c d r s=>h.ct a b c d r (st.trans s)⟩
def DS (X:Cx) (st:Stmt) (τ:DTS):Prop:=∃ t,PS X st t /\ ∀ Z H Δ M D E,Zz X.K M H->Qr X.K M H Z Δ->τ D Δ M->VH X.K M H D E->t E Z H
def DSs (X:Cx) (st:List Stmt) (τ:DTS):Prop:=∃ t,PSs X st t /\ ∀ Z H Δ M D E,Zz X.K M H->Qr X.K M H Z Δ->τ D Δ M->VH X.K M H D E->t E Z H
section
variable {a b c:Expr} {ta tb tc:DTE}
def ZbO (i:Nat):DTE:=λ Δ M Φ=>onV Δ[i]? λ x=>Φ x M
def dC (d:PyData):DTE:=λ _ M Φ=>Φ (.dat d) M
theorem Zb (i:Nat) {pos:Pos} (hN:autoParam (X.N[i]? = some x) zz3._auto_1) (hv:autoParam (Vis X.env.scope x) zz4._auto_1) (hd:autoParam ((x == ("__debug__" : Str)) = false) zz1._auto_1)
  (hcd:autoParam ((x == ("__classdict__" : Str)) = false) zz1._auto_1):DE X (.Name x pos) (ZbO i):=by
 refine ⟨_,Lk hN hv hd hcd,λ Z H Δ M Φ Q r e h k=>?_⟩;replace h:=L3 h;obtain ⟨x,e1,h⟩:=h;obtain ⟨v,e2,q⟩:=e.at' i x e1;exact ⟨v,e2,k v H x M r Step.refl q h⟩
theorem J0 (h:PE X e (tC v)) (q:∀ M H,Dt X.K M H v d):DE X e (dC d):=
 ⟨_,h,λ _ H _ M _ _ r _ h k=>k v H (.dat d) M r Step.refl (q M H) h⟩
theorem Zc {i j pos}:DE X (.Constant (.int i) j pos) (dC (.int i)):=J0 S1 λ _ _=>.int i
theorem ZbI {b j pos}:DE X (.Constant (.bool b) j pos) (dC (.bool b)):=J0 Zb7 λ _ _=>.bl b
theorem TZ {j pos}:DE X (.Constant .none j pos) (dC .none):=J0 R6 λ _ _=>.non
theorem Zn {x j pos}:DE X (.Constant (.str x) j pos) (dC (.str x)):=J0 Lf λ _ _=>.str x
def dTy (n:String):DTE:=λ _ M Φ=>Φ (.ty n) M
end
end DL
open DL
variable {M M':Mp} {te:DTE} {tc:DTT} {o:OO}
namespace DL
theorem Qd.bool {b:Bool} (h:Qd K M H v (.dat (.bool b))):v = .bl b:=by cases (show Dt K M H v (.bool b) from h); rfl
theorem Qd.int {i:Int} (h:Qd K M H v (.dat (.int i))):v = .int i:=by cases (show Dt K M H v (.int i) from h); rfl
theorem Qd.str (h:Qd K M H v (.dat (.str x))):v = .str x:=by cases (show Dt K M H v (.str x) from h); rfl
theorem Qd.tup (h:Qd K M H v (.dat (.tuple ds))):∃ a xs,v = .ref a /\ TupAt K M H a xs /\ Dts K M H xs ds:=by
 cases (show Dt K M H v (.tuple ds) from h) with
 | tup h1 h2=>exact ⟨_,_,rfl,h1,h2⟩
theorem Qd.lst (h:Qd K M H v (.dat (.list ds))):∃ a xs,v = .ref a /\ LstAt K M H a xs /\ Dts K M H xs ds:=by
 cases (show Dt K M H v (.list ds) from h) with
 | lst h1 h2=>exact ⟨_,_,rfl,h1,h2⟩
theorem Dt.Y9 (r:Zz K M H) (hp:H p = none) (h:Dts K M H xs ds):Dt K M (upd H p (.tup xs)) (.ref p) (.tuple ds):=
 .tup (.inl ⟨r.tracked hp,.inl Z5⟩) (h.step (Step.new hp))
theorem Dt.Jh (r:Zz K M H) (hp:H p = none) (h:Dts K M H xs ds):Dt K M (upd H p (.lst xs)) (.ref p) (.list ds):=
 .lst (.inl ⟨r.tracked hp,.inl Z5⟩) (h.step (Step.new hp))
def Snd (K:Fj) (t:TE) (τ:DTE):Prop:=∀ Z H Δ M Φ Q,Zz K M H->Qr K M H Z Δ->τ Δ M Φ->Rch K M H Φ Q->t Z H Q
theorem Snd.bin {ta tb:TE} {τa τb:DTE} (qa:Snd K ta τa) (qb:Snd K tb τb) {Z:L2.St} {Δ:DSt} {S:DV->DV->Mp->Prop} {R:V->V->Hp->Prop} (r:Zz K M H) (e:Qr K M H Z Δ)
  (h:τa Δ M λ x M1=>τb Δ M1 λ y M2=>S x y M2)
  (k:∀ v u H2 x y M2,Zz K M2 H2->Step M H M2 H2->Qd K M2 H2 v x->Qd K M2 H2 u y->S x y M2->R v u H2):ta Z H λ v H1=>tb Z H1 λ u H2=>R v u H2:=
 qa Z H Δ M _ _ r e h λ v H1 x M1 r1 st rv hx=>qb Z H1 Δ M1 _ _ r1 (e.step st) hx λ u H2 y M2 r2 st2 ru hy=>k v u H2 x y M2 r2 (st.trans st2) (rv.step st2) ru hy
abbrev D2:=DV->DV->Mp->DK->Prop
def OpD (X:Cx) (f:Value->Value->Sem Value) (δ:D2):Prop:=∃ r:R2,OpR X f r /\ ∀ v u H x y M Φ Q,Zz X.K M H->Qd X.K M H v x->Qd X.K M H u y->δ x y M Φ->Rch X.K M H Φ Q->r v u H Q
def dOp (δ:D2) (ta tb:DTE):DTE:=λ Δ M Φ=>ta Δ M λ x M1=>tb Δ M1 λ y M2=>δ x y M2 Φ
section
variable {a b c:Expr} {ta tb tc:DTE} {op op':CmpOp} {δ δ':D2}
theorem Snd.opn {ta' tb':TE} {r:R2} (ha:Snd X.K ta' ta) (hb:Snd X.K tb' tb) (q:∀ v u H x y M Φ Q,Zz X.K M H->Qd X.K M H v x->Qd X.K M H u y->δ x y M Φ->Rch X.K M H Φ Q->r v u H Q):Snd X.K (tOp r ta' tb') (dOp δ ta tb):=
 λ _ _ _ _ _ _ dr e h k=>Snd.bin ha hb dr e h λ v u H2 x y M2 r2 st rv ru hs=>q v u H2 x y M2 _ _ r2 rv ru hs (k.step st)
theorem Zh {bop:Operator} (ho:OpD X (binaryOp bop) δ) (ha:DE X a ta) (hb:DE X b tb):DE X (.BinOp a bop b pos) (dOp δ ta tb):=by
 obtain ⟨ta',pa,qa⟩:=ha;obtain ⟨tb',pb,qb⟩:=hb;obtain ⟨r,hr,q⟩:=ho;exact ⟨_,Zb5 hr pa pb,Snd.opn qa qb q⟩
theorem VQ (ho:OpD X (compareOp op) δ) (ha:DE X a ta) (hb:DE X b tb) (hm:autoParam (behindInMarks op b = false) zz5._auto_1):DE X (.Compare a [op] [b] pos) (dOp δ ta tb):=by
 obtain ⟨ta',pa,qa⟩:=ha;obtain ⟨tb',pb,qb⟩:=hb;obtain ⟨r,hr,q⟩:=ho;exact ⟨_,Nv hr pa pb hm,Snd.opn qa qb q⟩
def dB (t:DTE):DTT:=λ Δ M Φ=>t Δ M λ x M1=>onB x λ c=>Φ c M1
theorem Snd.test {t:TE} {τ:DTE} (h:Snd X.K t τ) {Z:L2.St} {Δ:DSt} {Φ:Bool->Mp->Prop} {Q:Bool->Hp->Prop} (r:Zz X.K M H) (e:Qr X.K M H Z Δ) (hw:dB τ Δ M Φ)
  (k:∀ b H' M',Zz X.K M' H'->Step M H M' H'->Φ b M'->Q b H'):t Z H λ x H1=>∃ c,x = .bl c /\ Q c H1:=by
 refine h Z H Δ M _ _ r e hw λ v H1 x M1 r1 st rv hx=>?_;replace hx:=L0 hx;obtain ⟨c,rfl,hx⟩:=hx;exact ⟨c,rv.bool,k c H1 M1 r1 st hx⟩
theorem ZG (ho:OpD X (compareOp op) δ) (ha:DE X a ta) (hb:DE X b tb) (hm:autoParam (behindInMarks op b = false) zz5._auto_1):DT X (.Compare a [op] [b] pos) (dB (dOp δ ta tb)):=by
 obtain ⟨ta',pa,qa⟩:=ha;obtain ⟨tb',pb,qb⟩:=hb;obtain ⟨r,hr,q⟩:=ho;exact ⟨_,O8 hr pa pb hm,λ _ _ _ _ _ _ dr e h k=>Snd.test (Snd.opn qa qb q) dr e h k⟩
theorem HS {τ:DTE} (h:DE X e τ) (he:autoParam (∀ whole,isTrue e X.env whole = (do let v <- whole; standAt e.pos; holding [v] (truthy v))) zz2._auto_1):DT X e (dB τ):=by
 obtain ⟨t,p,q⟩:=h;exact ⟨_,P5 p he,λ _ _ _ _ _ _ dr e h k=>Snd.test q dr e h k⟩
def TJ (δ δ':D2) (ta tb tc:DTE):DTE:=λ Δ M Φ=>ta Δ M λ x M1=>tb Δ M1 λ y M2=>δ x y M2 λ z M3=>onB z λ k=>(if k = true then tc Δ M3 λ w' M4=>δ' y w' M4 Φ else Φ (.dat (.bool false)) M3)
variable {tA tB':DTT} {rest:List Expr}
def ZcB (t u:DTT):DTT:=λ Δ M Φ=>t Δ M λ c M1=>if c = true then u Δ M1 Φ else Φ false M1
def dOr (t u:DTT):DTT:=λ Δ M Φ=>t Δ M λ c M1=>if c = true then Φ true M1 else u Δ M1 Φ
def ZcV (t:DTT):DTT:=λ Δ M Φ=>t Δ M λ c M1=>Φ (!c) M1
theorem DW.dt {τ:DTT} (h:DW X e τ):DT X e τ:=by
 obtain ⟨t,p,q⟩:=h;exact ⟨t,p.pt,q⟩
theorem YT (ha:DT X a tA):DW X (.BoolOp .And [a] pos) tA:=by
 obtain ⟨t,p,q⟩:=ha;exact ⟨t,NJ p,q⟩
theorem Dx (ha:DT X a tA):DW X (.BoolOp .Or [a] pos) tA:=by
 obtain ⟨t,p,q⟩:=ha;exact ⟨t,PC p,q⟩
theorem Ud (ha:DT X a tA) (hb:DW X (.BoolOp .And (b :: rest) pos) tB'):DW X (.BoolOp .And (a :: b :: rest) pos) (ZcB tA tB'):=by
 obtain ⟨t,p,q⟩:=ha;obtain ⟨u,p2,q2⟩:=hb;refine ⟨_,Tn p p2,λ Z H Δ M Φ Q r e h k=>?_⟩;refine q Z H Δ M _ _ r e h λ c H1 M1 r1 st hc=>?_;cases c with
 | true=>rw [if_pos rfl]; exact q2 Z H1 Δ M1 Φ Q r1 (e.step st) (by simpa using hc) λ b H2 M2 r2 st2 hb=>k b H2 M2 r2 (st.trans st2) hb
 | false=>rw [if_neg Bool.false_ne_true]; exact k false H1 M1 r1 st (by simpa using hc)
theorem O7 (ha:DT X a tA) (hb:DW X (.BoolOp .Or (b :: rest) pos) tB'):DW X (.BoolOp .Or (a :: b :: rest) pos) (dOr tA tB'):=by
 obtain ⟨t,p,q⟩:=ha;obtain ⟨u,p2,q2⟩:=hb;refine ⟨_,ZbX p p2,λ Z H Δ M Φ Q r e h k=>?_⟩;refine q Z H Δ M _ _ r e h λ c H1 M1 r1 st hc=>?_;cases c with
 | false=>rw [if_neg Bool.false_ne_true]; exact q2 Z H1 Δ M1 Φ Q r1 (e.step st) (by simpa using hc) λ b H2 M2 r2 st2 hb=>k b H2 M2 r2 (st.trans st2) hb
 | true=>rw [if_pos rfl]; exact k true H1 M1 r1 st (by simpa using hc)
theorem Tp (ha:DT X a tA):DT X (.UnaryOp .Not a pos) (ZcV tA):=by
 obtain ⟨t,p,q⟩:=ha;exact ⟨_,TM p,λ Z H Δ M Φ Q r e h k=>q Z H Δ M _ _ r e h λ c H1 M1 r1 st hc=>k _ H1 M1 r1 st hc⟩
def Se (ta tb:DTE):DTE:=λ Δ M Φ=>ta Δ M λ x M1=>onB x λ c=>if c = true then tb Δ M1 Φ else Φ (.dat (.bool false)) M1
def Zdq (ta tb:DTE):DTE:=λ Δ M Φ=>ta Δ M λ x M1=>onB x λ c=>if c = true then Φ (.dat (.bool true)) M1 else tb Δ M1 Φ
def Zb2 (ta:DTE):DTE:=λ Δ M Φ=>ta Δ M λ x M1=>onB x λ c=>Φ (.dat (.bool (!c))) M1
theorem T9 {bop} (h:DE X a ta):DE X (.BoolOp bop [a] pos) ta:=by
 obtain ⟨t,p,q⟩:=h;exact ⟨t,Tr p,q⟩
theorem T4 (ha:DE X a ta) (hb:DE X (.BoolOp .And (b :: rest) pos) tb):DE X (.BoolOp .And (a :: b :: rest) pos) (Se ta tb):=by
 obtain ⟨t,p,q⟩:=ha;obtain ⟨u,p2,q2⟩:=hb;refine ⟨_,Tf p p2,λ Z H Δ M Φ Q r e h k=>?_⟩;refine q Z H Δ M _ _ r e h λ v H1 x M1 r1 st rv hx=>?_;replace hx:=L0 hx;obtain ⟨c,rfl,hx⟩:=hx;refine ⟨c,rv.bool,?_⟩;cases c with
 | true=>rw [if_pos rfl]; exact q2 Z H1 Δ M1 Φ Q r1 (e.step st) (by simpa using hx) (k.step st)
 | false=>rw [if_neg Bool.false_ne_true]; exact k.dat r1 st (Dt.bl false) (by simpa using hx)
def dIf (t:DTT) (ta tb:DTE):DTE:=λ Δ M Φ=>t Δ M λ c M1=>if c = true then ta Δ M1 Φ else tb Δ M1 Φ
def Zc0 (g:Int->Int) (ta:DTE):DTE:=λ Δ M Φ=>ta Δ M λ x M1=>onI x λ i=>Φ (.dat (.int (g i))) M1
theorem Vg (ha:DE X a ta):DE X (.UnaryOp .USub a pos) (Zc0 (λ i=>-i) ta):=by
 obtain ⟨t,p,q⟩:=ha;refine ⟨_,Zb4 S5 p,λ Z H Δ M Φ Q r e h k=>?_⟩;refine q Z H Δ M _ _ r e h λ v H1 x M1 r1 st rv hx=>?_;replace hx:=ZS hx;obtain ⟨i,rfl,hx⟩:=hx;exact ⟨i,rv.int,k.dat r1 st (Dt.int (-i)) hx⟩
def δI (C:Int->Int->Prop) (g:Int->Int->PyData):D2:=λ x y M Φ=>onI x λ i=>onI y λ j=>C i j /\ Φ (.dat (g i j)) M
def δI0 (g:Int->Int->PyData):D2:=λ x y M Φ=>onI x λ i=>onI y λ j=>Φ (.dat (g i j)) M
theorem Rr {f:Value->Value->Sem Value} {C:Int->Int->Prop} {g:Int->Int->Int} (h:OpR X f (rI C λ i j=>.int (g i j))):OpD X f (δI C λ i j=>.int (g i j)):=
 ⟨_,h,λ v u H x y M Φ Q r rv ru h k=>by
  replace h:=ZS h;obtain ⟨i,e1,h⟩:=h;replace h:=ZS h;obtain ⟨j,e2,hc,q⟩:=h;subst e1 e2
  exact ⟨i,j,rv.int,ru.int,hc,k.dat r Step.refl (Dt.int _) q⟩⟩
theorem RS {f:Value->Value->Sem Value} {g:Int->Int->Int} (h:OpR X f (rI0 λ i j=>.int (g i j))):OpD X f (δI0 λ i j=>.int (g i j)):=
 ⟨_,h,λ v u H x y M Φ Q r rv ru h k=>by
  replace h:=ZS h;obtain ⟨i,e1,h⟩:=h;replace h:=ZS h;obtain ⟨j,e2,q⟩:=h;subst e1 e2
  exact ⟨i,j,rv.int,ru.int,k.dat r Step.refl (Dt.int _) q⟩⟩
theorem N6 {f:Value->Value->Sem Value} {g:Int->Int->Bool} (h:OpR X f (rI0 λ i j=>.bl (g i j))):OpD X f (δI0 λ i j=>.bool (g i j)):=
 ⟨_,h,λ v u H x y M Φ Q r rv ru h k=>by
  replace h:=ZS h;obtain ⟨i,e1,h⟩:=h;replace h:=ZS h;obtain ⟨j,e2,q⟩:=h;subst e1 e2
  exact ⟨i,j,rv.int,ru.int,k.dat r Step.refl (Dt.bl _) q⟩⟩
theorem Zq:OpD X (binaryOp .Add) (δI0 λ i j=>.int (i + j)):=RS Rl
theorem Q5:OpD X (binaryOp .Sub) (δI0 λ i j=>.int (i - j)):=RS RV
theorem Qh:OpD X (binaryOp .Mult) (δI ZaE λ i j=>.int (i * j)):=Rr R7
theorem Wm:OpD X (binaryOp .FloorDiv) (δI ZcO λ i j=>.int (i / j)):=Rr O9
theorem QC:OpD X (binaryOp .Mod) (δI (λ _ j=>0 < j) λ i j=>.int (i % j)):=Rr S8
theorem Jx:OpD X (binaryOp .Pow) (δI ZaX λ i j=>.int (i ^ j.toNat)):=Rr SO
theorem DF:OpD X (compareOp .Lt) (δI0 λ i j=>.bool (decide (i < j))):=N6 Za0
theorem El:OpD X (compareOp .Gt) (δI0 λ i j=>.bool (decide (j < i))):=N6 ZbS
theorem Zcg:OpD X (compareOp .GtE) (δI0 λ i j=>.bool (decide (j <= i))):=N6 Zca
def δB (g:Bool->Bool->Bool):D2:=λ x y M Φ=>onB x λ c=>onB y λ d=>Φ (.dat (.bool (g c d))) M
def TX:D2:=λ x y M Φ=>onT x λ ds=>onT y λ es=>ds ≠ [] /\ ds.length + es.length <= sizeLine /\ Φ (.dat (.tuple (ds ++ es))) M
theorem UE:OpR X (binaryOp .Add) (λ x y H Q=>∃ l b xs zs,x = .ref l /\ y = .ref b /\ SqL X.K H l xs /\ SqL X.K H b zs /\ xs.length + zs.length <= sizeLine /\ ∀ p,H p = none->Q (.ref p) (upd H p (.lst (xs ++ zs)))):=by
 intro pins s Z H x y v u Q I rx ry h;obtain ⟨l,b,xs,zs,rfl,rfl,hl,hb,hz,q⟩:=h;cases rx;cases ry;obtain ⟨its,r1,p1,_⟩:=I.list hl;obtain ⟨its2,r2,p2,_⟩:=I.list hb;obtain ⟨⟨cls,dd,data,sl⟩,ho,hc,n,hd⟩:=p1.isList;obtain ⟨⟨cls2,dd2,data2,sl2⟩,ho2,hc2,n2,hd2⟩:=p2.isList;simp only at hc hd hc2 hd2;subst hc hd hc2 hd2;have e:its.toArray ++ its2.toArray = (its ++ its2).toArray:=by simp
 have hsz:its.toArray.size + its2.toArray.size <= sizeLine:=by rw [List.size_toArray,List.size_toArray,<- r1.length,<- r2.length]; exact hz
 refine concat_meets ⟨_,ho,rfl⟩ ⟨_,ho2,rfl⟩ noFill_list_add seq_list_add PySem.F.slot_list_add PySem.F.entry_list_add (PySem.F.args_list_add_2 _ _) (list_addW l b its.toArray its2.toArray n n2 dd dd2 sl sl2 hsz) ⟨ho,ho2,?_⟩;rw [e];exact ⟨.ref _,_,I.ZcM (t':=s.toks) (r1.append r2) (by rw [List.length_append]; exact hz),rfl,q _ I.fresh⟩
def LP:D2:=λ x y M Φ=>onL x λ ds=>onL y λ es=>ds.length + es.length <= sizeLine /\ Φ (.dat (.list (ds ++ es))) M
def Ol:D2:=λ x y M Φ=>onL x λ ds=>onL y λ es=>ds.length + es.length <= sizeLine /\ ∀ p,M p = none->Φ (.own p) (Zu M p (.lst (ds ++ es)))
theorem Pj:OpD X (binaryOp .Add) LP:=by
 refine ⟨_,UE,λ v u H x y M Φ Q r rv ru h k=>?_⟩;replace h:=XI h;obtain ⟨ds,rfl,h⟩:=h;replace h:=XI h;obtain ⟨es,rfl,hz,q⟩:=h;obtain ⟨a,xs,rfl,h1,h2⟩:=rv.lst;obtain ⟨b,ys,rfl,h3,h4⟩:=ru.lst;refine ⟨a,b,xs,ys,rfl,rfl,h1.sq,h3.sq,by rw [h2.length,h4.length]; exact hz,λ p hp=>?_⟩;exact k.dat (r.new hp) (Step.new hp) (Dt.Jh r hp (h2.append h4)) q
end
def Zcx:DTA:=λ _ M Φ=>Φ [] M
def Zad (ta:DTE) (tr:DTA):DTA:=λ Δ M Φ=>ta Δ M λ x M1=>tr Δ M1 λ xs M2=>Φ (x :: xs) M2
section
variable {es:List Expr} {t:DTA}
theorem Ze:DA X [] Zcx:=⟨_,WE,λ _ H _ M _ _ r _ h k=>k [] H [] M r Step.refl .nil h⟩
theorem Za (ha:DE X e te) (hr:DA X es t) (hs:autoParam (starEach (e :: es) X.env = (false,eval e X.env) :: starEach es X.env) zz3._auto_1):DA X (e :: es) (Zad te t):=by
 obtain ⟨u,p,q⟩:=ha;obtain ⟨w,p2,q2⟩:=hr;refine ⟨_,VF p p2 hs,λ Z H Δ M Φ Q r e h k=>?_⟩;refine q Z H Δ M _ _ r e h λ v H1 x M1 r1 st rv hx=>?_;exact q2 Z H1 Δ M1 _ _ r1 (e.step st) hx λ vs H2 xs M2 r2 st2 rvs hxs=>k (v :: vs) H2 (x :: xs) M2 r2 (st.trans st2) (.cons (rv.step st2) rvs) hxs
def ZcK (t:DTA):DTE:=λ Δ M Φ=>t Δ M λ xs M1=>Vl xs λ ds=>Φ (.dat (.tuple ds)) M1
def ZcI (t:DTA):DTE:=λ Δ M Φ=>t Δ M λ xs M1=>Vl xs λ ds=>Φ (.dat (.list ds)) M1
def PN (t:DTA):DTE:=λ Δ M Φ=>t Δ M λ xs M1=>Vl xs λ ds=>∀ p,M1 p = none->Φ (.own p) (Zu M1 p (.lst ds))
theorem ZR {x1} (h:DA X es t):DE X (.Tuple es x1 pos) (ZcK t):=by
 obtain ⟨u,p,q⟩:=h;refine ⟨_,Lg p,λ Z H Δ M Φ Q r e h k=>?_⟩;refine q Z H Δ M _ _ r e h λ vs H1 xs M1 r1 st rv hx=>?_;replace hx:=Wl hx;obtain ⟨ds,rfl,hz',hx⟩:=hx;have hz:ds.length <= sizeLine:=by rw [sizeLine_eq]; lia
 have hd:=rv.ZaK;refine ⟨by rw [hd.length]; exact hz,λ p hp=>?_⟩;exact k.dat (r1.new hp) (st.trans (Step.new hp)) (Dt.Y9 r1 hp hd) hx
theorem Qt (h:DA X es t):DE X (.List es pos) (ZcI t):=by
 obtain ⟨u,p,q⟩:=h;refine ⟨_,LO p,λ Z H Δ M Φ Q r e h k=>?_⟩;refine q Z H Δ M _ _ r e h λ vs H1 xs M1 r1 st rv hx=>?_;replace hx:=Wl hx;obtain ⟨ds,rfl,hz',hx⟩:=hx;have hz:ds.length <= sizeLine:=by rw [sizeLine_eq]; lia
 have hd:=rv.ZaK;refine ⟨by rw [hd.length]; exact hz,λ p hp=>?_⟩;exact k.dat (r1.new hp) (st.trans (Step.new hp)) (Dt.Jh r1 hp hd) hx
theorem QV (h:DA X es t):DE X (.List es pos) (PN t):=by
 obtain ⟨u,p,q⟩:=h;refine ⟨_,LO p,λ Z H Δ M Φ Q r e h k=>?_⟩;refine q Z H Δ M _ _ r e h λ vs H1 xs M1 r1 st rv hx=>?_;replace hx:=Wl hx;obtain ⟨ds,rfl,hz',hx⟩:=hx;have hz:ds.length <= sizeLine:=by rw [sizeLine_eq]; lia
 have hd:=rv.ZaK;refine ⟨by rw [hd.length]; exact hz,λ p hp=>?_⟩;exact k _ _ (.own p) _ (r1.Vb (Step.QO hp) hd) (st.trans (Step.QO hp)) rfl (hx p (r1.tracked hp))
def ZcQ (t:DTE):DTE:=λ Δ M Φ=>t Δ M λ x M1=>onO x λ l=>QG (M1 l) λ ds=>Φ (.dat (.list ds)) (Jj M1 l)
theorem Ka (h:DE X e te):DE X e (ZcQ te):=by
 obtain ⟨u,p,q⟩:=h;refine ⟨u,p,λ Z H Δ M Φ Q r e h k=>?_⟩;refine q Z H Δ M _ _ r e h λ v H1 x M1 r1 st rv hx=>?_;replace hx:=ZM hx;obtain ⟨l,rfl,hx⟩:=hx;replace hx:=Qq hx;obtain ⟨ds,hm,hx⟩:=hx;obtain ⟨vs,e1,e2⟩:=r1.ls l ds hm;cases (show v = .ref l from rv);exact k.dat r1.frz (st.trans Step.frz) (Dt.lst (.inl ⟨XW,.inl e1⟩) (e2.step Step.frz)) hx
def UN:List PyData->Nat->(PyData->Prop)->Prop
 | [],_,_=>False
 | d :: _,0,P=>P d
 | _ :: r,n + 1,P=>UN r n P
def Ke (ds:List PyData) (i:Int) (P:PyData->Prop):Prop:=match i with
 | Int.ofNat n=>UN ds n P
 | Int.negSucc n=>UN ds.reverse n P
theorem Yt:∀ {ds:List PyData} {n:Nat} {P:PyData->Prop},UN ds n P->∃ d,ds[n]? = some d /\ P d
 | [],_,_,h=>h.elim
 | d :: _,0,_,h=>⟨d,rfl,h⟩
 | _ :: r,n + 1,_,h=>by
  obtain ⟨d,e,hp⟩:=Yt (ds:=r) (n:=n) h;exact ⟨d,by rw [List.getElem?_cons_succ]; exact e,hp⟩
theorem Yj:∀ {ds:List PyData} {n:Nat} {P:PyData->Prop} {d:PyData},ds[n]? = some d->P d->UN ds n P
 | [],_,_,_,e,_=>by simp at e
 | d :: _,0,_,_,e,h=>by simp at e; subst e; exact h
 | _ :: r,n + 1,_,_,e,h=>Yj (ds:=r) (n:=n) (by rw [List.getElem?_cons_succ] at e; exact e) h
theorem OE {i:Int} {P:PyData->Prop} (h:Ke ds i P):∃ d,atI ds i = some d /\ P d:=by
 unfold Ke at h
 split at h
 ·rename_i n;replace h:=Yt h;obtain ⟨d,e,hp⟩:=h;exact ⟨d,JE e,hp⟩
 ·rename_i n;replace h:=Yt h;obtain ⟨d,e,hp⟩:=h;refine ⟨d,?_,hp⟩;have hl:=(List.getElem?_eq_some_iff.mp e).1;rw [List.length_reverse] at hl;rw [List.getElem?_reverse hl] at e;unfold L2.atI ixN;have e1:¬ (0 <= Int.negSucc n):=by lia
  rw [if_neg e1];have e2:-(ds.length:Int) <= Int.negSucc n:=by lia
  rw [if_pos e2];have e3:(Int.negSucc n + (ds.length:Int)).toNat = ds.length - 1 - n:=by lia
  simp only [e3];exact e
theorem QF {i:Int} {P:PyData->Prop} (e:atI ds i = some d) (h:P d):Ke ds i P:=by
 unfold L2.atI at e;cases i with
 | ofNat n=>
  have hh:ixN ds.length (Int.ofNat n) = if n < ds.length then some n else none:=by
   unfold ixN;rw [if_pos (show (0:Int) <= Int.ofNat n from Int.natCast_nonneg n)]
   by_cases hn:n < ds.length
   ·rw [if_pos hn,if_pos (show Int.ofNat n < _ by show ((n:Nat):Int) < _; lia)];rfl
   ·rw [if_neg hn,if_neg (show ¬ Int.ofNat n < _ by show ¬ ((n:Nat):Int) < _; lia)]
  rw [hh] at e
  split at e
  ·exact Yj (by exact e) h
  ·cases e
 | negSucc n=>
  unfold ixN at e;rw [if_neg (by lia)] at e
  by_cases hn:-(ds.length:Int) <= Int.negSucc n
  ·rw [if_pos hn] at e;have e3:(Int.negSucc n + (ds.length:Int)).toNat = ds.length - 1 - n:=by lia
   simp only [e3] at e;refine Yj (d:=d) ?_ h;rw [List.getElem?_reverse (by lia)];exact e
  ·rw [if_neg hn] at e;cases e
theorem BW (l:List PyData) (a:PyData) (P:PyData->Prop):Ke (l ++ [a]) (-1) P = P a:=by
 show UN (l ++ [a]).reverse 0 P = P a;rw [List.reverse_append];rfl
def δIx:D2:=λ x y M Φ=>onQ x M λ ds=>onI y λ i=>Ke ds i λ d=>Φ (.dat d) M
theorem Dts.atI {i:Int} (h:Dts K M H vs ds) (e:L2.atI ds i = some d):∃ v,L2.atI vs i = some v /\ Dt K M H v d:=by
 unfold L2.atI at e ⊢;rw [h.length];cases q:ixN ds.length i with
 | none=>rw [q] at e; cases e
 | some j=>
  rw [q] at e;exact h.get e
theorem Zm {a b:Expr} {ta tb:DTE} (ha:DE X a ta) (hb:DE X b tb) (hs:autoParam (Wr b) zz6._auto_1):DE X (.Subscript a b pos) (dOp δIx ta tb):=by
 obtain ⟨ta',pa,qa⟩:=ha;obtain ⟨tb',pb,qb⟩:=hb;refine ⟨_,Rx PM pa pb hs,Snd.opn qa qb λ v u H x y M Φ Q r rv ru h k=>?_⟩;replace h:=BQ h;obtain ⟨ds,hx,h⟩:=h;replace h:=ZS h;obtain ⟨i,rfl,h⟩:=h;replace h:=OE h;obtain ⟨d,hd,q⟩:=h;cases ru.int
 rcases hx with rfl | rfl | ⟨l,rfl,hm⟩
 ·obtain ⟨p,xs,rfl,h1,h2⟩:=rv.tup;obtain ⟨w',e1,e2⟩:=h2.atI hd;exact .inr (.inl ⟨p,xs,i,w',rfl,rfl,h1.sq,e1,k.dat r Step.refl e2 q⟩)
 ·obtain ⟨p,xs,rfl,h1,h2⟩:=rv.lst;obtain ⟨w',e1,e2⟩:=h2.atI hd;exact .inl ⟨p,xs,i,w',rfl,rfl,h1.sq,e1,k.dat r Step.refl e2 q⟩
 ·cases (show v = .ref l from rv);obtain ⟨vs,g1,g2⟩:=r.ls l ds hm;obtain ⟨w',e1,e2⟩:=g2.atI hd;exact .inl ⟨l,vs,i,w',rfl,rfl,SqL.of g1,e1,k.dat r Step.refl e2 q⟩
end
abbrev D1:=List DV->Mp->DK->Prop
def JX (X:Cx) (f:Value) (δ:D1):Prop:=∃ r,VM X f r /\ ∀ vs H xs M Φ Q,Zz X.K M H->JA X.K M H vs xs->δ xs M Φ->Rch X.K M H Φ Q->r vs H Q
def dCB (δ:D1) (t:DTA):DTE:=λ Δ M Φ=>t Δ M λ xs M1=>δ xs M1 Φ
section
variable {es:List Expr} {t:DTA} {p:Pos} {id:String} {δ:D1}
theorem Zt (hc:JX X (.builtin id) δ) (hg:Gl X x) (hm:X.mg x = none) (hv:bootBuiltins x = some (.builtin id)) (ha:DA X (e :: es) t) (hn:autoParam (x ≠ "__name__") zz1._auto_1) (hdb:autoParam ((x == ("__debug__" : Str)) = false) zz1._auto_1)
  (he:autoParam (starEach (e :: es) X.env = (false,eval e X.env) :: starEach es X.env) zz3._auto_1) (hpl:autoParam ((backTo pos (starEach es X.env)).any (·.1) = false) zz3._auto_1):DE X (.Call (.Name x p) (e :: es) [] pos) (dCB δ t):=by
 obtain ⟨u,p,q⟩:=ha;obtain ⟨r,hr,qr⟩:=hc;refine ⟨_,ET hr hg hm hv p hn hdb he hpl,λ Z H Δ M Φ Q r e h k=>?_⟩;exact q Z H Δ M _ _ r e h λ vs H1 xs M1 r1 st rv hx=>qr vs H1 xs M1 _ _ r1 rv hx (k.step st)
theorem QW (hc:JX X (.type id) δ) (hg:Gl X x) (hm:X.mg x = none) (hv:bootBuiltins x = some (.type id)) (ha:DA X (e :: es) t) (hn:autoParam (x ≠ "__name__") zz1._auto_1) (hdb:autoParam ((x == ("__debug__" : Str)) = false) zz1._auto_1)
  (he:autoParam (starEach (e :: es) X.env = (false,eval e X.env) :: starEach es X.env) zz3._auto_1) (hpl:autoParam ((backTo pos (starEach es X.env)).any (·.1) = false) zz3._auto_1):DE X (.Call (.Name x p) (e :: es) [] pos) (dCB δ t):=by
 obtain ⟨u,p,q⟩:=ha;obtain ⟨r,hr,qr⟩:=hc;refine ⟨_,B1 hr hg hm hv p hn hdb he hpl,λ Z H Δ M Φ Q r e h k=>?_⟩;exact q Z H Δ M _ _ r e h λ vs H1 xs M1 r1 st rv hx=>qr vs H1 xs M1 _ _ r1 rv hx (k.step st)
theorem Paired.one {α β:Type} {F:α->β->Prop} {l:List α} {b:β} (h:Paired F l [b]):∃ a,l = [a] /\ F a b:=by
 cases h with
 | cons h1 h2=>cases h2; exact ⟨_,rfl,h1⟩
theorem Paired.two {α β:Type} {F:α->β->Prop} {l:List α} {b c:β} (h:Paired F l [b,c]):∃ a a',l = [a,a'] /\ F a b /\ F a' c:=by
 cases h with
 | cons h1 h2=>
  obtain ⟨a,rfl,h3⟩:=Paired.one h2;exact ⟨_,a,rfl,h1,h3⟩
def Tb:D1:=λ xs M Φ=>on1 xs λ x=>onQ x M λ ds=>Φ (.dat (.int ds.length)) M
theorem QY:JX X (.builtin "len") Tb:=by
 refine ⟨_,Y7,λ vs H xs M Φ Q r rv h k=>?_⟩;replace h:=ZU h;obtain ⟨x,rfl,h⟩:=h;replace h:=BQ h;obtain ⟨ds,hx,q⟩:=h;have fin:Q (.int ds.length) H:=k.dat r Step.refl (Dt.int _) q
 rcases hx with rfl | rfl | ⟨l,rfl,hm⟩
 ·obtain ⟨v,rfl,h1⟩:=Paired.one rv;obtain ⟨p,ys,rfl,g1,g2⟩:=Qd.tup h1;exact ⟨p,ys,rfl,.inr g1.sq,by rw [g2.length]; exact fin⟩
 ·obtain ⟨v,rfl,h1⟩:=Paired.one rv;obtain ⟨p,ys,rfl,g1,g2⟩:=Qd.lst h1;exact ⟨p,ys,rfl,.inl g1.sq,by rw [g2.length]; exact fin⟩
 ·obtain ⟨v,rfl,h1⟩:=Paired.one rv;cases (show v = .ref l from h1);obtain ⟨ws,g1,g2⟩:=r.ls l ds hm;exact ⟨l,ws,rfl,.inl (SqL.of g1),by rw [g2.length]; exact fin⟩
def Md:D1:=λ xs M Φ=>on1 xs λ x=>onS x λ z=>z.length <= sizeLine /\ Φ (.dat (.int z.length)) M
theorem Pd:JX X (.builtin "len") Md:=by
 refine ⟨_,XA,λ vs H xs M Φ Q r rv h k=>?_⟩;replace h:=ZU h;obtain ⟨x,rfl,h⟩:=h;replace h:=Qc h;obtain ⟨z,rfl,hz,q⟩:=h;obtain ⟨v,rfl,h1⟩:=Paired.one rv;exact ⟨z,by rw [Qd.str h1],hz,k.dat r Step.refl (Dt.int _) q⟩
def L6:D1:=λ xs M Φ=>on1 xs λ x=>onI x λ i=>i.natAbs.log2 < 1920 /\ Φ (.dat (.str (toString i))) M
theorem Mr:JX X (.type "str") L6:=by
 refine ⟨_,Xo,λ vs H xs M Φ Q r rv h k=>?_⟩;replace h:=ZU h;obtain ⟨x,rfl,h⟩:=h;replace h:=ZS h;obtain ⟨i,rfl,hz,q⟩:=h;obtain ⟨v,rfl,h1⟩:=Paired.one rv;exact ⟨i,by rw [Qd.int h1],hz,k.dat r Step.refl (Dt.str _) q⟩
def S6:D1:=λ xs M Φ=>on1 xs λ x=>onI x λ i=>Φ (.dat (.int (if i < 0 then -i else i))) M
theorem Bm:JX X (.builtin "abs") S6:=by
 refine ⟨_,EL,λ vs H xs M Φ Q r rv h k=>?_⟩;replace h:=ZU h;obtain ⟨x,rfl,h⟩:=h;replace h:=ZS h;obtain ⟨i,rfl,q⟩:=h;obtain ⟨v,rfl,h1⟩:=Paired.one rv;exact ⟨i,by rw [Qd.int h1],k.dat r Step.refl (Dt.int _) q⟩
def δ2I (g:Int->Int->Int):D1:=λ xs M Φ=>on2 xs λ x y=>onI x λ i=>onI y λ j=>Φ (.dat (.int (g i j))) M
def Ft:D1:=λ xs M Φ=>on1 xs λ x=>onQ x M λ ds=>Φ (.dat (.list ds)) M
end
mutual
noncomputable def ZO:PyData->Bool
 | .none | .bool _ | .int _ | .str _=>false
 | .list _=>true
 | .tuple xs=>Zr xs
 | .dict kvs=>QJ kvs
noncomputable def Zr:List PyData->Bool
 | []=>false
 | x :: xs=>ZO x || Zr xs
noncomputable def QJ:List (PyData × PyData)->Bool
 | []=>false
 | (k,v) :: r=>ZO k || ZO v || QJ r
end
theorem Q4:∀ (ks ds:List PyData),ks.length = ds.length->QJ (ks.zip ds) = false->Zr ds = false
 | [],[],_,_=>by simp [Zr]
 | k :: ks,d :: ds,h,e=>by
  rw [List.zip_cons_cons,QJ] at e;have e':(ZO k = false /\ ZO d = false) /\ QJ (ks.zip ds) = false:=by simpa using e
  rw [Zr,e'.1.2,Q4 ks ds (by simpa using h) e'.2]; rfl
 | [],_ :: _,h,_=>by simp at h
 | _ :: _,[],h,_=>by simp at h
section
variable {Z:L2.St}
theorem Xt:∀ {es:List DictEntry} {kvs:List (Key × Value)},Pairs (Zy P w) es kvs->ReadsAll h (es.map (·.key)) (kvs.map λ kv=>kD kv.1) []
 | _,_,.nil=>.nil
 | _,_,.cons (e:=e) (kv:=kv) h1 _ h3=>by
  rw [List.map_cons,List.map_cons];have hk:Reads h e.key (kD kv.1) []:=by
   rcases ZK (k:=kv.1) (v:=e.key) h1 with ⟨i,t,e1,e2⟩ | ⟨x,t,e1,e2⟩
   ·rw [e1,e2]; exact .int i t
   ·rw [e1,e2]; exact .str x t
  exact .cons (as:=[]) (bs:=[]) hk (Xt h3)
theorem VX:∀ {es:List DictEntry} {kvs:List (Key × Value)},Pairs (Zy P w) es kvs->es.map (·.val) = kvs.map (·.2)
 | _,_,.nil=>rfl
 | _,_,.cons h1 h2 h3=>by rw [List.map_cons,List.map_cons,h2,VX h3]
theorem KV.vals {vs:List (Key × Value)} (r:KV kvs vs):Vals (kvs.map (·.2)) (vs.map (·.2)) /\ (kvs.map λ kv=>kD kv.1) = vs.map λ kv=>kD kv.1:=by
 unfold KV at r
 induction r with
 | nil=>exact ⟨.nil,rfl⟩
 | cons h _ ih=>exact ⟨.cons h.2 ih.1,by rw [List.map_cons,List.map_cons,h.1,ih.2]⟩
theorem Wz:∀ {ks:List Key} {us:List Value},Vals (ks.map kV) us->ReadsAll h us (ks.map kD) []
 | [],_,r=>by rw [List.map_nil] at r; cases r; exact .nil
 | k :: ks,_,r=>by
  rw [List.map_cons] at r;cases r with
  | cons r1 r2=>
   rw [List.map_cons];refine .cons (as:=[]) (bs:=[]) ?_ (Wz r2);cases k with
   | inl i=>obtain ⟨t,rfl⟩:=r1; exact .int i t
   | inr x=>obtain ⟨t,rfl⟩:=r1; exact .str x t
theorem KT.read (I:Inv X pins Z H s) {kvs:List (List Key × V)} {xs:List (List Key × Addr × Value)} (r:KT H kvs xs) :
  ReadsAll s.heap (xs.map λ x=>Value.ref x.2.1) (kvs.map λ kv=>PyData.tuple (kv.1.map kD)) [] /\ Vals (kvs.map (·.2)) (xs.map λ x=>x.2.2):=by
 induction r with
 | nil=>exact ⟨.nil,.nil⟩
 | @cons p q ps qs h _ ih=>
  obtain ⟨its,r,⟨o,ho,hc,n,hd⟩,_⟩:=I.tuple (SqT.of (K:=X.K) h.2.1);rw [List.map_cons,List.map_cons,List.map_cons,List.map_cons];exact ⟨.cons (as:=[]) (bs:=[]) (.tuple ho hc hd (by simpa using Wz r)) ih.1,.cons h.2.2 ih.2⟩
mutual
theorem Dt.reads (I:Inv X pins Z H s):∀ {v:V} {d:PyData},Dt X.K M H v d->∀ {u:Value},RelV v u->∃ as,Reads s.heap u d as /\ (ZO d = false->sysModules ∉ as)
 | _,_,.non,_,r=>by cases r; exact ⟨[],.none,λ _ h=>nomatch h⟩
 | _,_,.bl b,_,r=>by cases r; exact ⟨[],.bool b,λ _ h=>nomatch h⟩
 | _,_,.int i,_,r=>by obtain ⟨t,rfl⟩:=r; exact ⟨[],.int i t,λ _ h=>nomatch h⟩
 | _,_,.str x,_,r=>by obtain ⟨t,rfl⟩:=r; exact ⟨[],.str x t,λ _ h=>nomatch h⟩
 | _,_,.tup h1 h2,_,r=>by
  cases r;obtain ⟨its,rv,⟨o,ho,hc,n,hd⟩,_⟩:=I.tuple h1.sq;obtain ⟨as,ra,hs⟩:=Dts.reads I h2 rv;exact ⟨as,.tuple ho hc hd (by simpa using ra),λ h=>hs (by simpa [ZO] using h)⟩
 | _,_,.lst h1 h2,_,r=>by
  cases r;obtain ⟨its,rv,⟨o,n,ho,hc,_,hd⟩,_⟩:=I.list h1.sq;obtain ⟨as,ra,hs⟩:=Dts.reads I h2 rv;exact ⟨_,.list ho hc hd (by simpa using ra),λ h=>by simp [ZO] at h⟩
 | _,_,.dK (a:=a) (kvs:=kvs) (ds:=ds) h0 h1 h2,_,r=>by
  cases r;obtain ⟨_,hsys,vs,rel,o,es,ep,ho,hc,hd,_,hp,_⟩:=(show Qe X.prog X.w H s.heap a (.dK kvs) from I.hok a _ h1)
  obtain ⟨rv,hk⟩:=KV.vals rel;obtain ⟨bs,rb,hs⟩:=Dts.reads I h2 rv;have hl:(kvs.map λ kv=>kD kv.1).length = ds.length:=by rw [List.length_map,<- h2.length,List.length_map]
  refine ⟨a :: [] ++ bs,.dict (as:=[]) ho hc.1 hd ?_ ?_,λ h=>?_⟩
  ·rw [List.map_fst_zip (Nat.le_of_eq hl),hk];exact Xt hp
  ·rw [List.map_snd_zip (Nat.le_of_eq hl.symm),VX hp];exact rb
  ·have h':Zr ds = false:=Q4 _ _ hl (by rw [ZO] at h; exact h);intro hm
   rcases List.mem_cons.mp hm with e | hm
   ·rw [<- e] at hsys;simp at hsys
   ·exact hs h' hm
 | _,_,.dT (a:=a) (kvs:=kvs) (ds:=ds) h0 h1 h2 _,_,r=>by
  cases r;obtain ⟨_,hsys,xs,rel,o,es,ep,ho,hc,hd,he,_⟩:=(show Qe X.prog X.w H s.heap a (.dT kvs) from I.hok a _ h1)
  obtain ⟨rk,rv⟩:=KT.read I rel;obtain ⟨bs,rb,hs⟩:=Dts.reads I h2 rv;have hl:(kvs.map λ kv=>PyData.tuple (kv.1.map kD)).length = ds.length:=by rw [List.length_map,<- h2.length,List.length_map]
  refine ⟨a :: [] ++ bs,.dict (as:=[]) ho hc.1 hd ?_ ?_,λ h=>?_⟩
  ·rw [List.map_fst_zip (Nat.le_of_eq hl),he,List.map_map];exact rk
  ·rw [List.map_snd_zip (Nat.le_of_eq hl.symm),he,List.map_map];exact rb
  ·have h':Zr ds = false:=Q4 _ _ hl (by rw [ZO] at h; exact h);intro hm
   rcases List.mem_cons.mp hm with e | hm
   ·rw [<- e] at hsys;simp at hsys
   ·exact hs h' hm
 | _,_,.dX (a:=a) (dk:=dk) (d:=d) h0 h1 hsys h3 h4 h5,_,r=>by
  cases r;obtain ⟨hφ,_⟩:=(show Qe X.prog X.w H s.heap a (.ext _) from I.hok a _ h1)
  obtain ⟨o,es,n,u,ho,hc,hd,ek,ev,ru⟩:=h3 s.heap hφ;obtain ⟨as,ra,ha⟩:=Dt.reads I h4 (u:=.ref _) rfl;obtain ⟨bs,rb,hb⟩:=Dt.reads I h5 ru;refine ⟨a :: (as ++ []) ++ (bs ++ []),.dict ho hc hd ?_ ?_,λ h=>?_⟩
  ·rw [ek]; exact .cons ra .nil
  ·rw [ev]; exact .cons rb .nil
  ·have h':ZO dk = false /\ ZO d = false:=by simpa [ZO,QJ] using h
   intro hm;rw [List.append_nil,List.append_nil,List.cons_append] at hm
   rcases List.mem_cons.mp hm with e | hm
   ·rw [<- e] at hsys;simp at hsys
   ·rcases List.mem_append.mp hm with hm | hm
    ·exact ha h'.1 hm
    ·exact hb h'.2 hm
theorem Dts.reads (I:Inv X pins Z H s):∀ {vs:List V} {ds:List PyData},Dts X.K M H vs ds->∀ {us:List Value},Vals vs us->∃ as,ReadsAll s.heap us ds as /\ (Zr ds = false->sysModules ∉ as)
 | _,_,.nil,_,r=>by cases r; exact ⟨[],.nil,λ _ h=>nomatch h⟩
 | _,_,.cons (d:=d) (ds:=ds) h1 h2,_,r=>by
  cases r with
  | cons r1 r2=>
   obtain ⟨as,ra,ha⟩:=Dt.reads I h1 r1;obtain ⟨bs,rb,hb⟩:=Dts.reads I h2 r2;refine ⟨as ++ bs,.cons ra rb,λ h hm=>?_⟩;have h':ZO d = false /\ Zr ds = false:=by simpa [Zr] using h
   rcases List.mem_append.mp hm with hm | hm
   ·exact ha h'.1 hm
   ·exact hb h'.2 hm
end
end
theorem V9 (hg:X.A.guards = some []) (hu:X.A.units + 100 < cLine):VM X (.builtin "repr") (λ xs H Q=>∃ v d M,xs = [v] /\ Dt X.K M H v d /\ d.showable = true /\ (d.hasDict && ZO d) = false /\ d.depth <= 64 /\
  d.shown.length <= sizeLine /\ Q (.str d.shown) H):=by
 intro pins s Z H xs us Q I r h;obtain ⟨v,d,M,rfl,hd,hs,hm,hdp,hz,q⟩:=h;obtain ⟨u,rfl,ru⟩:=vals1 r;have ref:∀ a,u = .ref a->wpAny (model X.prog X.w) X.A (call (.builtin "repr") [u]) (EP X pins Z Q) X.xe s:=λ a e=>by
  obtain ⟨as,ra,hsm⟩:=hd.reads I ru;subst e;refine repr_of_reads' ra hs (λ hx=>hsm ?_) hg (by lia) (λ _ _ e=>e) (λ h' u tk k=>⟨.str d.shown,H,I.kept k,⟨_,rfl⟩,q⟩) hz;rw [hx,Bool.true_and] at hm;exact hm
 cases hd with
 | non=>cases ru; simp only [PyData.shown] at q; exact PySem.P.repr_of_none ⟨.str _,H,I.tok _,⟨_,rfl⟩,q⟩
 | bl b=>cases ru; simp only [PyData.shown] at q; exact PySem.P.repr_of_bool ⟨.str _,H,I.tok _,⟨_,rfl⟩,q⟩
 | int i=>obtain ⟨t,rfl⟩:=ru; simp only [PyData.shown] at q; exact PySem.P.repr_of_int (by simpa [PyData.showable] using hs) ⟨.str _,H,I.tok _,⟨_,rfl⟩,q⟩
 | str x=>obtain ⟨t,rfl⟩:=ru; simp only [PyData.shown] at q hz; exact PySem.P.repr_of_str ⟨.str _,H,I.tok _,⟨_,rfl⟩,q⟩ hz
 | tup _ _=>exact ref _ ru
 | lst _ _=>exact ref _ ru
 | dK _ _ _=>exact ref _ ru
 | dT _ _ _ _=>exact ref _ ru
 | dX _ _ _ _ _ _=>exact ref _ ru
structure Shw (d:PyData):Prop where
 s:d.showable = true
 m:(d.hasDict && ZO d) = false
 dp:d.depth <= 64
 z:d.shown.length <= sizeLine
def LL:D1:=λ xs M Φ=>on1 xs λ x=>onD x λ d=>Shw d /\ Φ (.dat (.str d.shown)) M
theorem Wc {k:Nat} (hr:QS k X.A):JX X (.builtin "repr") LL:=by
 refine ⟨_,V9 hr.gd (by have:=hr.un; lia),λ vs H xs M Φ Q r rv h k=>?_⟩;replace h:=ZU h;obtain ⟨x,rfl,h⟩:=h;replace h:=ZY h;obtain ⟨d,rfl,hs,q⟩:=h;obtain ⟨v,rfl,h1⟩:=Paired.one rv;exact ⟨v,d,M,rfl,h1,hs.s,hs.m,hs.dp,hs.z,k.dat r Step.refl (Dt.str _) q⟩
noncomputable def tyN:PyData->String
 | .none => "NoneType"
 | .bool _ => "bool"
 | .int _ => "int"
 | .str _ => "str"
 | .list _ => "list"
 | .tuple _ => "tuple"
 | .dict _ => "dict"
noncomputable def ZJ (T:String) (d:PyData):Bool:=tyN d == T || (T == "int" && tyN d == "bool")
def Za3 (T:String):D1:=λ xs M Φ=>match xs with | [.dat d,.ty t]=>t = T /\ Φ (.dat (.bool (ZJ T d))) M | _=>False
theorem Lq (hu:X.A.units + 64 < cLine):OpR X (compareOp .Eq) (λ x y H Q=>∃ M d e,Dt X.K M H x d /\ Dt X.K M H y e /\ d.canLay0 = true /\ e.canLay0 = true /\ min d.depth e.depth <= 64 /\ Q (.bl (PyData.eqv d e)) H):=by
 intro pins s Z H x y v u Q I rx ry h;obtain ⟨M,d,e,h1,h2,c1,c2,hdp,q⟩:=h;obtain ⟨as,ra,_⟩:=h1.reads I rx;obtain ⟨bs,rb,_⟩:=h2.reads I ry;exact PySem.SeqAt.compareEq_reads ra rb c1 c2 (by lia) ⟨.bl _,H,I,rfl,q⟩
theorem RC (hu:X.A.units + 64 < cLine):OpR X (compareOp .NotEq) (λ x y H Q=>∃ M d e,Dt X.K M H x d /\ Dt X.K M H y e /\ d.canLay0 = true /\ e.canLay0 = true /\ min d.depth e.depth <= 64 /\ Q (.bl (!PyData.eqv d e)) H):=by
 intro pins s Z H x y v u Q I rx ry h;obtain ⟨M,d,e,h1,h2,c1,c2,hdp,q⟩:=h;obtain ⟨as,ra,_⟩:=h1.reads I rx;obtain ⟨bs,rb,_⟩:=h2.reads I ry;exact PySem.SeqAt.compareNe_reads ra rb c1 c2 (by lia) ⟨.bl _,H,I,rfl,q⟩
noncomputable def Kc (d e:PyData):Bool:=d.canLay0 && e.canLay0 && Nat.ble (min d.depth e.depth) 64
def eqD:PyData->PyData->(Bool->Prop)->Prop
 | .int i,.int j,P=>P (decide (i = j))
 | .str s,.str t,P=>P (decide (s = t))
 | .bool a,.bool b,P=>P (a == b)
 | d,e,P=>Kc d e = true /\ P (PyData.eqv d e)
theorem L5 {e:PyData} {P:Bool->Prop} (h:eqD d e P):(d.canLay0 = true /\ e.canLay0 = true /\ min d.depth e.depth <= 64 /\ P (PyData.eqv d e)) \/ ∃ s t,d = .str s /\ e = .str t /\ P (decide (s = t)):=by
 unfold eqD at h
 split at h
 ·refine .inl ⟨by simp [PyData.canLay0],by simp [PyData.canLay0],by simp [PyData.depth],?_⟩;simp only [PyData.eqv];rw [Bool.beq_eq_decide_eq];exact h
 ·exact .inr ⟨_,_,rfl,rfl,h⟩
 ·refine .inl ⟨by simp [PyData.canLay0],by simp [PyData.canLay0],by simp [PyData.depth],?_⟩;simp only [PyData.eqv];exact h
 ·have h1:=h.1;unfold Kc at h1;simp only [Bool.and_eq_true] at h1;exact .inl ⟨h1.1.1,h1.1.2,Nat.le_of_ble_eq_true h1.2,h.2⟩
theorem RP {f:Value->Value->Sem Value} {r1 r2:R2} (h1:OpR X f r1) (h2:OpR X f r2):OpR X f (λ x y H Q=>r1 x y H Q \/ r2 x y H Q):=
 λ pins s Z H x y v u Q I rx ry h=>h.elim (h1 pins s Z H x y v u Q I rx ry) (h2 pins s Z H x y v u Q I rx ry)
def δEq:D2:=λ x y M Φ=>onD x λ d=>onD y λ e=>eqD d e λ b=>Φ (.dat (.bool b)) M
def δNe:D2:=λ x y M Φ=>onD x λ d=>onD y λ e=>eqD d e λ b=>Φ (.dat (.bool (!b))) M
theorem Vz {k:Nat} (hr:QS k X.A):OpD X (compareOp .Eq) δEq:=
 ⟨_,RP (Lq hr.units) Zbb,λ v u H x y M Φ Q r rv ru h k=>by
  obtain ⟨d,e1,h⟩:=ZY h;obtain ⟨e,e2,h⟩:=ZY h;subst e1 e2
  rcases L5 h with ⟨c1,c2,hdp,q⟩ | ⟨s,t,rfl,rfl,q⟩
  ·exact .inl ⟨M,d,e,rv,ru,c1,c2,hdp,k.dat r Step.refl (Dt.bl _) q⟩
  ·have q':Q (.bl (decide (s = t))) H:=k.dat r Step.refl (Dt.bl _) q;refine .inr ⟨by rw [rv.str,ru.str]; rfl,?_⟩;rw [rv.str,ru.str,Vq,Bool.beq_eq_decide_eq]
   exact q'⟩
theorem Fu {k:Nat} (hr:QS k X.A):OpD X (compareOp .NotEq) δNe:=
 ⟨_,RP (RC hr.units) Ti,λ v u H x y M Φ Q r rv ru h k=>by
  obtain ⟨d,e1,h⟩:=ZY h;obtain ⟨e,e2,h⟩:=ZY h;subst e1 e2
  rcases L5 h with ⟨c1,c2,hdp,q⟩ | ⟨s,t,rfl,rfl,q⟩
  ·exact .inl ⟨M,d,e,rv,ru,c1,c2,hdp,k.dat r Step.refl (Dt.bl _) q⟩
  ·have q':Q (.bl (!decide (s = t))) H:=k.dat r Step.refl (Dt.bl _) q;refine .inr ⟨by rw [rv.str,ru.str]; rfl,?_⟩;rw [rv.str,ru.str,Vq,Bool.beq_eq_decide_eq]
   exact q'⟩
def Sk:D2:=λ x y M Φ=>onS x λ s=>onS y λ t=>Φ (.dat (.bool (!decide (s = t)))) M
theorem Sx:OpD X (compareOp .NotEq) Sk:=
 ⟨_,Ti,λ v u H x y M Φ Q r rv ru h k=>by
  obtain ⟨s,e1,h⟩:=Qc h;obtain ⟨t,e2,q⟩:=Qc h;subst e1 e2;have q':Q (.bl (!decide (s = t))) H:=k.dat r Step.refl (Dt.bl _) q;refine ⟨by rw [rv.str,ru.str]; rfl,?_⟩;rw [rv.str,ru.str,Vq,Bool.beq_eq_decide_eq]
  exact q'⟩
def ZaQ:D2:=λ x y M Φ=>onS x λ s=>onS y λ t=>Φ (.dat (.bool (decide (s = t)))) M
abbrev DTO:=DSt->Mp->(Option Int->Mp->Prop)->Prop
def DO (X:Cx) (e:Option Expr) (τ:DTO):Prop:=∃ t,PO X e t /\ ∀ Z H Δ M Φ (Q:Option Int->Hp->Prop),Zz X.K M H->Qr X.K M H Z Δ->τ Δ M Φ->(∀ o H' M',Zz X.K M' H'->Step M H M' H'->Φ o M'->Q o H')->t Z H Q
def Dp:DTO:=λ _ M Φ=>Φ none M
def TY (t:DTE):DTO:=λ Δ M Φ=>t Δ M λ x M1=>onI x λ i=>Φ (some i) M1
theorem ZX:DO X none Dp:=⟨_,Ms,λ _ H _ M _ _ r _ h k=>k none H M r Step.refl h⟩
theorem ZP (h:DE X e te):DO X (some e) (TY te):=by
 obtain ⟨t,p,q⟩:=h;refine ⟨_,Mo p,λ Z H Δ M Φ Q r e h k=>?_⟩;refine q Z H Δ M _ _ r e h λ v H1 x M1 r1 st rv hx=>?_;replace hx:=ZS hx;obtain ⟨i,rfl,hx⟩:=hx;exact ⟨i,rv.int,k _ H1 M1 r1 st hx⟩
noncomputable def cutD (xs:List PyData) (lo hi:Option Int):List PyData:=(xs.drop (HT.sIx xs.length 0 lo)).take (HT.sIx xs.length xs.length hi - HT.sIx xs.length 0 lo)
theorem Dts.cut (h:Dts K M H vs ds) (lo hi:Option Int):Dts K M H (Lp vs lo hi) (cutD ds lo hi):=by
 unfold Lp cutD;rw [h.length];exact (h.drop _).take _
def Zdl (te:DTE) (tl th:DTO):DTE:=λ Δ M Φ=>te Δ M λ x M1=>tl Δ M1 λ l M2=>th Δ M2 λ u M3=>onT x λ ds=>¬ (HT.sIx ds.length 0 l = 0 /\ HT.sIx ds.length ds.length u = ds.length) /\ Φ (.dat (.tuple (cutD ds l u))) M3
end DL
namespace DL
def SD:DTS:=λ D Δ M=>D.nx Δ M
def ZaG (t u:DTS):DTS:=λ D Δ M=>t { D with nx:=u D } Δ M
section
variable {rest:List Stmt} {t u:DTS}
theorem ZD:DSs X [] SD:=⟨_,Ph,λ Z H Δ M D E r e h k=>k.nx Z H Δ M r Step.refl e h⟩
theorem Zd (h1:DS X st t) (h2:DSs X rest u):DSs X (st :: rest) (ZaG t u):=by
 obtain ⟨t1,p1,q1⟩:=h1;obtain ⟨t2,p2,q2⟩:=h2;refine ⟨_,HR p1 p2,λ Z H Δ M D E r e h k=>?_⟩;refine q1 Z H Δ M { D with nx:=u D } { E with nx:=t2 E } r e h ⟨λ σ' H' Δ' M' r' st' e' hn=>?_,k.rt,k.bk,k.ct⟩;exact q2 σ' H' Δ' M' D E r' e' hn (k.step st')
theorem Zg (h1:DS X st t):DSs X [st] t:=by
 obtain ⟨t1,p1,q1⟩:=h1;exact ⟨_,Mm p1,q1⟩
def Ro:DTS:=λ D Δ M=>D.bk Δ M
def Zbe:DTS:=λ D Δ M=>D.ct Δ M
def Zap (te:DTE):DTS:=λ D Δ M=>te Δ M λ _ M1=>D.nx Δ M1
theorem QH (he:DE X e te) (hs:autoParam (swapsWith e none pos.line X.env = pure false) zz3._auto_1):DS X (.Expr e pos) (Zap te):=by
 obtain ⟨t,p,q⟩:=he;refine ⟨_,MF p hs,λ Z H Δ M D E r e h k=>?_⟩;exact q Z H Δ M _ _ r e h λ v H1 x M1 r1 st rv hx=>k.nx Z H1 Δ M1 r1 st (e.step st) hx
def ZcY (te:DTE):DTS:=λ D Δ M=>te Δ M D.rt
theorem Zs (he:DE X e te):DS X (.Return (some e) pos) (ZcY te):=by
 obtain ⟨t,p,q⟩:=he;exact ⟨_,Ss p,λ Z H Δ M D E r e h k=>q Z H Δ M _ _ r e h k.rt⟩
def Za1:DTS:=λ D _ M=>D.rt (.dat .none) M
def Zc1 (c:DTT) (t u:DTS):DTS:=λ D Δ M=>c Δ M λ b M1=>if b = true then t D Δ M1 else u D Δ M1
theorem Qp {c:Expr} {a b:List Stmt} (hc:DT X c tc) (ha:DSs X a t) (hb:DSs X b u):DS X (.If c a b pos) (Zc1 tc t u):=by
 obtain ⟨t0,p0,q0⟩:=hc;obtain ⟨t1,p1,q1⟩:=ha;obtain ⟨t2,p2,q2⟩:=hb;refine ⟨_,Za9 p0 p1 p2,λ Z H Δ M D E r e h k=>?_⟩;refine q0 Z H Δ M _ _ r e h λ c H1 M1 r1 st hc=>?_;cases c with
 | true=>rw [if_pos rfl]; exact q1 Z H1 Δ M1 D E r1 (e.step st) (by simpa using hc) (k.step st)
 | false=>rw [if_neg Bool.false_ne_true]; exact q2 Z H1 Δ M1 D E r1 (e.step st) (by simpa using hc) (k.step st)
abbrev DTG:=DV->DSt->Mp->(DSt->Mp->Prop)->Prop
abbrev Ew:=List DV->DSt->Mp->(DSt->Mp->Prop)->Prop
def DG (X:Cx) (tg:Expr) (τ:DTG):Prop:=∃ t,PG X tg t /\ ∀ v Z H x Δ M Φ (Q:L2.St->Hp->Prop),Zz X.K M H->Qr X.K M H Z Δ->Qd X.K M H v x->τ x Δ M Φ ->
 (∀ σ' H' Δ' M',Zz X.K M' H'->Step M H M' H'->Qr X.K M' H' σ' Δ'->Φ Δ' M'->Q σ' H')->t v Z H Q
def DGs (X:Cx) (ts:List Expr) (τ:Ew):Prop:=∃ t,PGs X ts t /\ ∀ vs Z H xs Δ M Φ (Q:L2.St->Hp->Prop),Zz X.K M H->Qr X.K M H Z Δ->JA X.K M H vs xs->τ xs Δ M Φ ->
 (∀ σ' H' Δ' M',Zz X.K M' H'->Step M H M' H'->Qr X.K M' H' σ' Δ'->Φ Δ' M'->Q σ' H')->t vs Z H Q
def V7 (i:Nat):DTG:=λ x Δ M Φ=>Φ (Δ.set i (some x)) M
theorem Zw (i:Nat) (hN:X.N.Nodup) (hi:autoParam (X.N[i]? = some x) zz3._auto_1) (hx:autoParam (Loc X.env.scope x) zz7._auto_1) (hf:autoParam (X.fn x = true \/ X.env.scope.names.lookup x = some .local) zz0._auto_1) :
  DG X (.Name x pos) (V7 i):=
 ⟨_,GA hN hi hx hf,λ v Z H x Δ M Φ Q r e rv h k=>k _ H _ M r Step.refl (e.set rv) h⟩
def Sd:Ew:=λ xs Δ M Φ=>match xs with | []=>Φ Δ M | _=>False
def HZ (t:DTG) (u:Ew):Ew:=λ xs Δ M Φ=>match xs with | x :: r=>t x Δ M λ Δ' M'=>u r Δ' M' Φ | []=>False
theorem YK:DGs X [] Sd:=⟨_,MA,λ vs Z H xs Δ M Φ Q r e rv h k=>by
 cases xs with
 | cons x r=>exact h.elim
 | nil=>
 have h2:Φ Δ M:=h;cases rv
 exact ⟨rfl,k Z H Δ M r Step.refl e h2⟩⟩
theorem Qw {es:List Expr} {t:DTG} {u:Ew} (h1:DG X e t) (h2:DGs X es u)
  (hs:autoParam ((assignEach (e :: es) X.env).map (·.2) = assign e X.env :: (assignEach es X.env).map (·.2)) zz3._auto_1):DGs X (e :: es) (HZ t u):=by
 obtain ⟨t1,p1,q1⟩:=h1;obtain ⟨t2,p2,q2⟩:=h2;refine ⟨_,Fw p1 p2 hs,λ vs Z H xs Δ M Φ Q r e rv h k=>?_⟩;obtain ⟨x,xr,e1,h⟩:∃ x xr,xs = x :: xr /\ t x Δ M λ Δ' M'=>u xr Δ' M' Φ:=by
  cases xs with
  | nil=>exact h.elim
  | cons x xr=>exact ⟨x,xr,rfl,h⟩
 subst e1;cases rv with
 | cons ra rr=>
  refine ⟨_,_,rfl,q1 _ Z H x Δ M _ _ r e ra h λ σ' H' Δ' M' r' st e' h'=>?_⟩;exact q2 _ σ' H' xr Δ' M' Φ Q r' e' (JA.step rr st) h' λ σ2 H2 Δ2 M2 r2 st2 e2 hΦ=>k σ2 H2 Δ2 M2 r2 (st.trans st2) e2 hΦ
def ME:Nat->List PyData->(List DV->Prop)->Prop
 | 0,[],P=>P []
 | n + 1,d :: r,P=>ME n r λ xs=>P (.dat d :: xs)
 | 0,_ :: _,_=>False
 | _ + 1,[],_=>False
theorem Gx:∀ {n:Nat} {ds:List PyData} {P:List DV->Prop},ME n ds P->ds.length = n /\ P (ds.map DV.dat)
 | 0,[],_,h=>⟨rfl,h⟩
 | n + 1,d :: r,P,h=>by
  obtain ⟨a,b⟩:=Gx (n:=n) (ds:=r) h;exact ⟨by rw [List.length_cons,a],b⟩
 | 0,_ :: _,_,h=>h.elim
 | _ + 1,[],_,h=>h.elim
def RE (n:Nat) (t:Ew):DTG:=λ x Δ M Φ=>onT x λ ds=>ME n ds λ xs=>t xs Δ M Φ
theorem Dts.SH:∀ {vs:List V} {ds:List PyData},Dts K M H vs ds->JA K M H vs (ds.map DV.dat)
 | _,_,.nil=>.nil
 | _,_,.cons h1 h2=>.cons h1 (Dts.SH h2)
theorem UG {es:List Expr} {k:Nat} {t:Ew} (hc:X.calm = true) (h:DGs X es t) (hn:autoParam ((assignEach es X.env).length = n) zz3._auto_1) (hst:autoParam ((assignEach es X.env).findIdx? (·.1) = none) zz3._auto_1):DG X (.Tuple es k pos) (RE n t):=by
 obtain ⟨t1,p1,q1⟩:=h;refine ⟨_,SW hc p1 hn hst,λ v Z H x Δ M Φ Q r e rv h k=>?_⟩;replace h:=WC h;obtain ⟨ds,rfl,h⟩:=h;replace h:=Gx h;obtain ⟨hl,h⟩:=h;obtain ⟨a,xs,rfl,h1,h2⟩:=rv.tup;exact ⟨a,xs,rfl,h1.sq,by rw [h2.length]; exact hl,q1 xs Z H _ Δ M Φ Q r e h2.SH h k⟩
def Zac (to ti:DTE):DTG:=λ x Δ M Φ=>to Δ M λ o M1=>ti Δ M1 λ i M2=>onO o λ l=>onI i λ k=>onD x λ d=>QG (M2 l) λ ds=>∃ j,ixN ds.length k = some j /\ Φ Δ (Zu M2 l (.lst (ds.set j d)))
theorem Y6 {o i:Expr} {to ti:DTE} (ho:DE X o to) (hi:DE X i ti)
  (ha:∀ v,assign (.Subscript o i pos) X.env v = (do
   let ov <- holding [v] (eval o X.env)
   let iv <- holding [v,ov] (eval i X.env)
   standAt pos
   holding [v,ov,iv] (setItem ov iv v)
   release [v,ov,iv] []):=by intro _; rfl):DG X (.Subscript o i pos) (Zac to ti):=by
 obtain ⟨t1,p1,q1⟩:=ho;obtain ⟨t2,p2,q2⟩:=hi;refine ⟨_,Rn p1 p2 set_list ha,λ v Z H x Δ M Φ Q r e rv h k=>?_⟩;refine Snd.bin q1 q2 r e h λ w1 w2 H2 o' i' M2 r2 st ro ri hs=>?_;replace hs:=ZM hs;obtain ⟨l,rfl,hs⟩:=hs;replace hs:=ZS hs;obtain ⟨kk,rfl,hs⟩:=hs;replace hs:=ZY hs;obtain ⟨d,rfl,hs⟩:=hs;replace hs:=Qq hs;obtain ⟨ds,hm,j,hj,hΦ⟩:=hs;obtain ⟨vs,g1,g2⟩:=r2.ls l ds hm;cases (show w1 = .ref l from ro);have rv2:Dt X.K M2 H2 v d:=Dt.step st rv;have st2:Step M2 H2 (Zu M2 l (.lst (ds.set j d))) (upd H2 l (.lst (vs.set j v))):=Step.V6 hm;refine ⟨l,vs,kk,j,rfl,ri.int,g1,by rw [g2.length]; exact hj,?_⟩;exact k Z _ Δ _ (r2.Vb st2 (g2.set rv2 j)) (st.trans st2) (e.step (st.trans st2)) hΦ
def Px (te:DTE) (g:DTG):DTS:=λ D Δ M=>te Δ M λ x M1=>g x Δ M1 D.nx
theorem JU {g:DTG} (he:DE X e te) (hg:DG X tg g) (hs:autoParam (swapsWithSole [tg] e pos.line X.env = pure false) zz3._auto_1) (hw:autoParam (swappedStores [tg] e X.env = pure none) zz3._auto_1)
  (h1:autoParam ((assignEach [tg] X.env).map (·.2) = [assign tg X.env]) zz3._auto_1):DS X (.Assign [tg] e pos) (Px te g):=by
 obtain ⟨t1,p1,q1⟩:=he;obtain ⟨t2,p2,q2⟩:=hg;refine ⟨_,Pz p1 p2 hs hw h1,λ Z H Δ M D E r e h k=>?_⟩;refine q1 Z H Δ M _ _ r e h λ v H1 x M1 r1 st rv hx=>?_;exact q2 v Z H1 x Δ M1 _ _ r1 (e.step st) rv hx λ σ' H' Δ' M' r' st' e' hn=>k.nx σ' H' Δ' M' r' (st.trans st') e' hn
theorem Zj (i:Nat) {pos':Pos} (hN:X.N.Nodup) (he:DE X e te) (hi:autoParam (X.N[i]? = some x) zz3._auto_1) (hx:autoParam (Loc X.env.scope x) zz7._auto_1) (hs:autoParam (swapsWith e (some (.Name x pos')) pos.line X.env = pure false) zz3._auto_1)
  (hf:autoParam (X.fn x = true \/ X.env.scope.names.lookup x = some .local) zz0._auto_1):DS X (.Assign [.Name x pos'] e pos) (Px te (V7 i)):=by
 obtain ⟨t1,p1,q1⟩:=he;refine ⟨_,Sq hN hi hx p1 hs hf,λ Z H Δ M D E r e h k=>?_⟩;refine q1 Z H Δ M _ _ r e h λ v H1 x M1 r1 st rv hx=>?_;exact k.nx _ H1 _ M1 r1 st ((e.step st).set rv) hx
def GB (to te:DTE):DTE:=λ Δ M Φ=>to Δ M λ x M1=>onO x λ l=>QG (M1 l) λ _=>te Δ M1 λ y M2=>onD y λ d=>QG (M2 l) λ ds=>ds.length < sizeLine /\ Φ (.dat .none) (Zu M2 l (.lst (ds ++ [d])))
theorem QU {o:Expr} {to:DTE} {apos cpos:Pos} (ho:DE X o to) (he:DE X e te) (hbase:autoParam (attributeBase o "append" X.env (eval o X.env) = eval o X.env) zz3._auto_1)
  (hfew:((backTo cpos (starEach [e] X.env)).all (λ x=>!x.1) && (backToKw cpos (keywordEach [] X.env)).all (λ x=>x.1.isSome)
   && decide ([e].length + ([]:List Keyword).length + (if ([]:List Keyword).isEmpty then 0 else 1) < 30)) = true:=by rfl)
  (hline:autoParam ((apos.endLine == cpos.line) = true) zz3._auto_1) (hs:autoParam (starEach [e] X.env = (false,eval e X.env) :: starEach [] X.env) zz3._auto_1) (hplain:autoParam ((backTo cpos (starEach [] X.env)).any (·.1) = false) zz3._auto_1) :
  DE X (.Call (.Attribute o "append" apos) [e] [] cpos) (GB to te):=by
 obtain ⟨t1,p1,q1⟩:=ho;obtain ⟨t2,p2,q2⟩:=he;refine ⟨_,OJ PySem.F.plainAttrs_list PySem.F.slot_list_append PySem.F.type_list_append GF p1 (VF p2 WE hs) hbase hfew hline hs hplain,λ Z H Δ M Φ Q r e h k=>?_⟩;refine q1 Z H Δ M _ _ r e h λ v H1 x M1 r1 st rv hx=>?_;replace hx:=ZM hx;obtain ⟨l,rfl,hx⟩:=hx;replace hx:=Qq hx;obtain ⟨oo,ho,hx⟩:=hx;cases (show v = .ref l from rv);have ty:tyV X.K "list" (.ref l) H1:=by
  obtain ⟨vs,g1,_⟩:=r1.ls l oo ho;exact .inl ⟨rfl,vs,SqL.of g1⟩
 refine ⟨ty,q2 Z H1 Δ M1 _ _ r1 (e.step st) hx λ w H2 y M2 r2 st2 rw2 hy=>?_⟩;replace hy:=ZY hy;obtain ⟨d,rfl,hy⟩:=hy;replace hy:=Qq hy;obtain ⟨ds,hm,hz,hy⟩:=hy;obtain ⟨vs,g1,g2⟩:=r2.ls l ds hm;have st3:Step M2 H2 (Zu M2 l (.lst (ds ++ [d]))) (upd H2 l (.lst (vs ++ [w]))):=Step.V6 hm;refine ⟨l,vs,w,rfl,rfl,g1,by rw [g2.length]; exact hz,?_⟩;exact k.dat (r2.Vb st3 (g2.append (.cons rw2 .nil))) (st.trans (st2.trans st3)) Dt.non hy
end
section
variable {body:List Stmt} {g:DTG} {tb:DTS}
def Hg (g:DTG) (tb:DTS) (D:Z1) (ds:List PyData) (Δ:DSt) (M:Mp):Prop:=
 ∃ J:Nat->DSt->Mp->Prop,J 0 Δ M /\ (∀ i d Δ M,ds[i]? = some d->J i Δ M->g (.dat d) Δ M λ Δ2 M2=>tb { D with nx:=J (i + 1),ct:=J (i + 1),bk:=D.nx } Δ2 M2) /\ ∀ Δ M,J ds.length Δ M->D.nx Δ M
def RA (te:DTE) (g:DTG) (tb:DTS):DTS:=λ D Δ M=>te Δ M λ x M1=>onL x λ ds=>Hg g tb D ds Δ M1
def Zcq (te:DTE) (g:DTG) (tb:DTS):DTS:=λ D Δ M=>te Δ M λ x M1=>onT x λ ds=>Hg g tb D ds Δ M1
theorem JL (he:DE X iter te) (hg:DG X tg g) (hb:DSs X body tb) (hp:PassesOwn (model X.prog X.w) X.A X.env X.xe) (hc:X.calm = true) (hs:autoParam (∀ x,foldedSetIterable iter X.env x = pure x) zz2._auto_1) :
  DS X (.For tg iter body [] pos) (RA te g tb):=by
 obtain ⟨t1,p1,q1⟩:=he;obtain ⟨t2,p2,q2⟩:=hg;obtain ⟨t3,p3,q3⟩:=hb;refine ⟨_,LX hp hc (CW p1) p2 p3 hs,λ Z H Δ M D E r e h k=>?_⟩;refine q1 Z H Δ M _ _ r e h λ v H1 x M1 r1 st rv hx=>?_;replace hx:=XI hx;obtain ⟨ds,rfl,J,j0,jt,jd⟩:=hx;obtain ⟨a,xs,rfl,h1,h2⟩:=rv.lst
 refine ⟨a,rfl,⟨xs,h1.sq⟩,E7 (xs:=xs) (λ i Z H=>∃ Δ M,Zz X.K M H /\ Step M1 H1 M H /\ Qr X.K M H Z Δ /\ J i Δ M) ⟨Δ,M1,r1,Step.refl,e.step st,j0⟩
  (λ i Z H _ ⟨Δ,M,_,st',_,_⟩=>(h1.step st').sq) (λ i y Z H hi ⟨Δ,M,r',st',e',j⟩=>?_) (λ Z H ⟨Δ,M,r',st',e',j⟩=>?_)⟩
 ·obtain ⟨d,hd,hy⟩:=h2.ZbH hi;refine q2 y Z H (.dat d) Δ M _ _ r' e' (Dt.step st' hy) (jt i d Δ M hd j) λ σ2 H2 Δ2 M2 r2 st2 e2 hb2=>?_;refine q3 σ2 H2 Δ2 M2 _ _ r2 e2 hb2 ?_;have s12:Step M1 H1 M2 H2:=st'.trans st2
  exact ⟨λ σ' H' Δ' M' a b c d=>⟨Δ',M',a,s12.trans b,c,d⟩,k.rt.step (st.trans s12),λ σ' H' Δ' M' a b c d=>k.nx σ' H' Δ' M' a ((st.trans s12).trans b) c d,
   λ σ' H' Δ' M' a b c d=>⟨Δ',M',a,s12.trans b,c,d⟩⟩
 ·rw [h2.length] at j;exact k.nx Z H Δ M r' (st.trans st') e' (jd Δ M j)
def Kl (g:DTG) (tb:DTS) (D:Z1) (lo:Int) (n:Nat) (Δ:DSt) (M:Mp):Prop:=
 ∃ J:Nat->DSt->Mp->Prop,J 0 Δ M /\ (∀ i Δ M,i < n->J i Δ M->g (.dat (.int (lo + i))) Δ M λ Δ2 M2=>tb { D with nx:=J (i + 1),ct:=J (i + 1),bk:=D.nx } Δ2 M2) /\ ∀ Δ M,J n Δ M->D.nx Δ M
theorem Py {g':TG} {tb':TS} {lo:Int} {n:Nat} (q2:∀ v Z H x Δ M Φ (Q:L2.St->Hp->Prop),Zz X.K M H->Qr X.K M H Z Δ->Qd X.K M H v x->g x Δ M Φ ->
  (∀ σ' H' Δ' M',Zz X.K M' H'->Step M H M' H'->Qr X.K M' H' σ' Δ'->Φ Δ' M'->Q σ' H')->g' v Z H Q)
  (q3:∀ Z H Δ M D E,Zz X.K M H->Qr X.K M H Z Δ->tb D Δ M->VH X.K M H D E->tb' E Z H) {D:Z1} {E:Ends} {Z:L2.St} {H:Hp} {Δ:DSt} {M:Mp} (r:Zz X.K M H) (e:Qr X.K M H Z Δ) (h:Kl g tb D lo n Δ M) (k:VH X.K M H D E) :
  ∃ W:Nat->Nat->L2.St->Hp->Prop,(∃ m,W 0 m Z H) /\ ∀ i m Z H,W i m Z H ->
   ((Itr lo n).stop i H /\ E.nx Z H) \/ ((Itr lo n).go i H /\ ∃ N:L2.St->Hp->Prop,(∀ σ' H',N σ' H'->∃ m',m' < m /\ W (i + 1) m' σ' H') /\ ∀ x H',(Itr lo n).yld i H x H'->g' x Z H' λ σ2 H2=>tb' { E with nx:=N,ct:=N,bk:=E.nx } σ2 H2):=by
 obtain ⟨J,j0,jt,jd⟩:=h;refine GY (λ i σ' H'=>∃ Δ' M',Zz X.K M' H' /\ Step M H M' H' /\ Qr X.K M' H' σ' Δ' /\ J i Δ' M') ⟨Δ,M,r,Step.refl,e,j0⟩ (λ i σ1 H1 hi ⟨Δ1,M1,r',st',e',j⟩=>?_) (λ σ1 H1 ⟨Δ1,M1,r',st',e',j⟩=>?_)
 ·refine q2 _ σ1 H1 (.dat (.int (lo + i))) Δ1 M1 _ _ r' e' (Dt.int _) (jt i Δ1 M1 hi j) λ σ2 H2 Δ2 M2 r2 st2 e2 hb2=>?_;refine q3 σ2 H2 Δ2 M2 _ _ r2 e2 hb2 ?_;have s12:Step M H M2 H2:=st'.trans st2
  exact ⟨λ σ' H' Δ' M' a b c d=>⟨Δ',M',a,s12.trans b,c,d⟩,k.rt.step s12,λ σ' H' Δ' M' a b c d=>k.nx σ' H' Δ' M' a (s12.trans b) c d,
   λ σ' H' Δ' M' a b c d=>⟨Δ',M',a,s12.trans b,c,d⟩⟩
 ·exact k.nx σ1 H1 Δ1 M1 r' st' e' (jd Δ1 M1 j)
def InR (j:Int):Prop:=-(2 ^ 62) <= j /\ j < 2 ^ 62
def HV (ta:DTA) (g:DTG) (tb:DTS):DTS:=λ D Δ M=>ta Δ M λ xs M1=>on1 xs λ x=>onI x λ j=>InR j /\ Kl g tb D 0 j.toNat Δ M1
theorem J8 {a:Expr} {ta:DTA} {p p2:Pos} (hg0:Gl X "range") (hm:X.mg "range" = none) (ha:DA X [a] ta) (hg:DG X tg g) (hb:DSs X body tb) (hp:PassesOwn (model X.prog X.w) X.A X.env X.xe) (hc:X.calm = true)
  (hs:autoParam (starEach [a] X.env = [(false,eval a X.env)]) zz3._auto_1) (hs2:autoParam (∀ x,foldedSetIterable (.Call (.Name "range" p) [a] [] p2) X.env x = pure x) zz2._auto_1):DS X (.For tg (.Call (.Name "range" p) [a] [] p2) body [] pos) (HV ta g tb):=by
 obtain ⟨t1,p1,q1⟩:=ha;obtain ⟨t2,p2,q2⟩:=hg;obtain ⟨t3,p3,q3⟩:=hb;refine ⟨_,LX hp hc (Kh hg0 hm p1 hs) p2 p3 hs2,λ Z H Δ M D E r e h k=>?_⟩;refine q1 Z H Δ M _ _ r e h λ vs H1 xs M1 r1 st rv hx=>?_;replace hx:=ZU hx;obtain ⟨x,rfl,hx⟩:=hx;replace hx:=ZS hx;obtain ⟨j,rfl,⟨h1,h2⟩,hx⟩:=hx;obtain ⟨v,rfl,hv⟩:=Paired.one rv;exact ⟨j,by rw [Qd.int hv],h1,h2,Py q2 q3 r1 (e.step st) hx (k.step st)⟩
def Rm (ta:DTA) (g:DTG) (tb:DTS):DTS:=λ D Δ M=>ta Δ M λ xs M1=>on2 xs λ x y=>onI x λ i=>onI y λ j=>(InR i /\ InR j) /\ Kl g tb D i (j - i).toNat Δ M1
end
abbrev DSp:=List DV->Mp->DK->Prop
def lift (K:Fj) (S:DSp):Sp:=λ vs H Q _=>∃ xs M Φ,Zz K M H /\ JA K M H vs xs /\ S xs M Φ /\ Rch K M H Φ Q
def O1 (S:DSp) (t:DTA):DTE:=λ Δ M Φ=>t Δ M λ xs M1=>S xs M1 Φ
section
variable {CX:CXT} {k:Nat} {ps:List Str} {S:DSp} {E:XK} {p:Pos} {es:List Expr} {t:DTA}
theorem Nw (F:Q7 X.prog X.w X.K X.mg X.base CX k f fd ps (lift X.K S)) (hr:QS k X.A) (hg:Gl X x) (hm:X.mg x = some (.ref f)) (hk:PySem.W.keepIn X.K (.ref f) = true) (hb:Binds X.K fd ps []) (hx:Passes CX X E)
  (ha:DA X (e :: es) t) (hdb:autoParam ((x == ("__debug__" : Str)) = false) zz1._auto_1) (he:autoParam (starEach (e :: es) X.env = (false,eval e X.env) :: starEach es X.env) zz3._auto_1) (hpl:autoParam ((backTo pos (starEach es X.env)).any (·.1) = false) zz3._auto_1) :
  DE X (.Call (.Name x p) (e :: es) [] pos) (O1 S t):=by
 obtain ⟨t1,p1,q1⟩:=ha;refine ⟨_,Ot F hr hg hm hk hb .nil hx p1 hdb he hpl,λ Z H Δ M Φ Q r e h k=>?_⟩;refine q1 Z H Δ M _ _ r e h λ vs H1 xs M1 r1 st rv hx=>?_;show lift X.K S (vs ++ []) H1 Q E;rw [List.append_nil];exact ⟨xs,M1,Φ,r1,rv,hx,k.step st⟩
end
section
variable {base:Heap}
theorem okD {ps:List Str} {k:Nat} {S:DSp} (F:Fun K x qual st f fd) (Sc:ZA N ps (Zf st)) (len:∀ xs M Φ,S xs M Φ->xs.length = ps.length)
  (hbody:∀ (cdv:Value) (A:Around) (outer:List Env) (s:Shared) (H:Hp) (E:XK),QS k (A.deeper (envOfC qual (Zf st) s.heap.objs.size f cdv)) ->
   ∃ τ,DSs (Ll CX0 P w K mg base N qual (Zf st) f cdv A outer s H E).nox (Qy st) τ /\ ∀ xs M Φ,S xs M Φ->τ { nx:=λ _ M'=>Φ (.dat .none) M',rt:=Φ } (JT N xs) M):Q7 P w K mg base CX0 (k + 1) f fd ps (lift K S):=by
 refine F.ok Sc (λ vs H Q E h=>?_) λ cdv A outer s H vs Q E hr h=>?_
 ·obtain ⟨xs,M,Φ,_,rv,hs,_⟩:=h;rw [Paired.length rv];exact len xs M Φ hs
 ·obtain ⟨xs,M,Φ,r,rv,hs,kk⟩:=h;obtain ⟨τ,⟨t,p,q⟩,hτ⟩:=hbody cdv A outer s H E hr;refine ⟨t,p,q (start N vs) H (JT N xs) M _ _ r (Qr.start rv) (hτ xs M Φ hs) ⟨λ σ' H' Δ' M' r' st' e' hn=>?_,kk,λ _ _ _ _ _ _ _ h=>h.elim,λ _ _ _ _ _ _ _ h=>h.elim⟩⟩;exact kk.dat r' st' Dt.non hn
end
section
variable {k v:Expr}
def At (X:Cx) (e:Expr) (τ:DTE):Prop:=∃ t,PE X e t /\ ∀ Z H Δ M Φ,Qr X.K M H Z Δ->τ Δ M Φ->∃ v x,Qd X.K M H v x /\ Φ x M /\ ∀ (H':Hp) (Q:VK),Q v H'->t Z H' Q
theorem V3 (i:Nat) {pos:Pos} (hN:autoParam (X.N[i]? = some x) zz3._auto_1) (hv:autoParam (Vis X.env.scope x) zz4._auto_1) (hd:autoParam ((x == ("__debug__" : Str)) = false) zz1._auto_1)
  (hcd:autoParam ((x == ("__classdict__" : Str)) = false) zz1._auto_1):At X (.Name x pos) (ZbO i):=by
 refine ⟨_,Lk hN hv hd hcd,λ Z H Δ M Φ e h=>?_⟩;replace h:=L3 h;obtain ⟨x,e1,h⟩:=h;obtain ⟨v,e2,q⟩:=e.at' i x e1;exact ⟨v,x,q,h,λ H' Q hq=>⟨v,e2,hq⟩⟩
theorem Yf {x j pos}:At X (.Constant (.str x) j pos) (dC (.str x)):=⟨_,Lf,λ _ H _ M Φ _ h=>⟨.str x,.dat (.str x),Dt.str x,h,λ _ _ hq=>hq⟩⟩
def Sf:DTE:=λ _ M Φ=>Φ (.dat (.dict [])) M
theorem Zdb {K:Fj} {M:Mp} {H:Hp} {v:V} {k:Key} (h:Dt K M H v (kD k)):v = kV k:=by
 cases k with
 | inl i=>cases (show Dt K M H v (.int i) from h); rfl
 | inr x=>cases (show Dt K M H v (.str x) from h); rfl
def JF (x:DV) (P:Key->Prop):Prop:=match x with | .dat (.int i)=>P (.inl i) | .dat (.str s)=>P (.inr s) | _=>False
theorem HP {x:DV} {P:Key->Prop} (h:JF x P):∃ k,x = .dat (kD k) /\ P k:=by
 unfold JF at h
 split at h
 ·exact ⟨_,rfl,h⟩
 ·exact ⟨_,rfl,h⟩
 ·exact h.elim
noncomputable def HN:List PyData->Option (List Key)
 | []=>some []
 | .int i :: r=>(HN r).map (.inl i :: ·)
 | .str s :: r=>(HN r).map (.inr s :: ·)
 | _ :: _=>none
def ZbM (ds:List PyData) (P:List Key->Prop):Prop:=match HN ds with | some ks=>P ks | none=>False
def RM (tk tv:DTE):DTE:=λ Δ M Φ=>tk Δ M λ x M1=>tv Δ M1 λ y M2=>JF x λ k=>onD y λ d=>Φ (.dat (.dict [(kD k,d)])) M2
def RH (tk tv tk' tv':DTE):DTE:=λ Δ M Φ=>tk Δ M λ x M1=>tv Δ M1 λ y M2=>tk' Δ M2 λ x' M3=>tv' Δ M3 λ y' M4=>JF x λ k=>onD y λ d=>JF x' λ k'=>onD y' λ d'=>k ≠ k' /\ Φ (.dat (.dict [(kD k,d),(kD k',d')])) M4
def NV (tk tv:DTE):DTE:=λ Δ M Φ=>tk Δ M λ x M1=>tv Δ M1 λ y M2=>onT x λ ds=>ZbM ds λ ks=>onD y λ d=>Φ (.dat (.dict [(.tuple (ks.map kD),d)])) M2
theorem SqT.new {o:HO} (h:SqT K H a xs) (hp:H p = none):SqT K (upd H p o) a xs:=by
 rcases h with (h | ⟨ob,h⟩) | h
 ·exact .inl (.inl (by rw [ZE (Zp h hp)]; exact h))
 ·exact .inl (.inr ⟨ob,by rw [ZE (Zp h hp)]; exact h⟩)
 ·exact .inr h
end
mutual
noncomputable def cost:PyData->Nat
 | .none=>4
 | .bool _=>5
 | .int _=>1921
 | .str x=>(reprText x).length
 | .list xs=>Z7 xs + 2
 | .tuple xs=>Z7 xs + 3
 | .dict kvs=>Yb kvs + 2
noncomputable def Z7:List PyData->Nat
 | []=>0
 | x :: xs=>cost x + 2 + Z7 xs
noncomputable def Yb:List (PyData × PyData)->Nat
 | []=>0
 | (k,v) :: r=>cost k + 2 + cost v + 2 + Yb r
end
theorem VA:∀ (ts:List Str) (k:Nat) (acc:Str),(textFrom k acc ts).length <= acc.length + piled ts
 | [],k,acc=>Nat.le_add_right _ _
 | t :: r,k,acc=>by
  have h:=VA r (k + 1) (acc ++ (if k > 0 then ", " else "" : String) ++ t);have e:(acc ++ (if k > 0 then ", " else "" : String) ++ t).length = acc.length + (if k > 0 then 2 else 0) + t.length:=by
   rw [strLen_append,strLen_append]
   split <;> rfl
  have d1:(if k > 0 then 2 else 0:Nat) <= 2:=by split <;> lia
  rw [e] at h;rw [piled_cons];show (textFrom (k + 1) _ r).length <= _;lia
theorem DB (ts:List Str):(Str.join ", " ts).length <= piled ts:=by
 by_cases h:ts = []
 ·subst h; exact Nat.le_of_eq rfl
 ·have:=join_length_add ts h;lia
mutual
theorem QD:∀ d:PyData,d.showable = true->d.shown.length <= cost d
 | .none,_=>by simp only [PyData.shown,cost]; exact Nat.le_of_eq rfl
 | .bool b,_=>by
  simp only [PyData.shown,cost];cases b
  ·exact Nat.le_of_eq rfl
  ·exact (by decide:4 <= 5)
 | .int i,h=>by
  simp only [PyData.shown,cost];exact int_text_len_1921 (by simpa [PyData.showable] using h)
 | .str x,_=>by simp only [PyData.shown,cost]; exact Nat.le_refl _
 | .list xs,h=>by
  have h1:=QM xs (by simpa [PyData.showable] using h);have h2:=VA (PyData.shownAll xs) 0 "[";have e1:((("[" : String):Str)).length = 1:=rfl;have e2:((("]" : String):Str)).length = 1:=rfl;simp only [PyData.shown,cost];unfold listText;rw [strLen_append,e2];rw [e1] at h2;lia
 | .tuple xs,h=>by
  have h1:=QM xs (by simpa [PyData.showable] using h);have h2:=DB (PyData.shownAll xs);have e1:((("(" : String):Str)).length = 1:=rfl;have e3:(((if (PyData.shownAll xs).length == 1 then ",)" else ")" : String):Str)).length <= 2:=by split <;> decide
  simp only [PyData.shown,cost];unfold tupleText;rw [strLen_append,strLen_append,e1];lia
 | .dict kvs,h=>by
  have h1:=JP kvs (by simpa [PyData.showable] using h);have h2:=DB (PyData.shownKv kvs);have e:(dictText (PyData.shownKv kvs)).length = 1 + (Str.join ", " (PyData.shownKv kvs)).length + 1:=by
   unfold dictText;rw [strLen_append,strLen_append]; rfl
  simp only [PyData.shown,cost];lia
theorem QM:∀ xs:List PyData,PyData.showableAll xs = true->piled (PyData.shownAll xs) <= Z7 xs
 | [],_=>by simp only [PyData.shownAll,Z7]; exact Nat.le_of_eq rfl
 | x :: xs,h=>by
  have h':x.showable = true /\ PyData.showableAll xs = true:=by simpa [PyData.showableAll] using h
  have h1:=QD x h'.1;have h2:=QM xs h'.2;simp only [PyData.shownAll,Z7];rw [piled_cons];lia
theorem JP:∀ kvs:List (PyData × PyData),PyData.showableKv kvs = true->piled (PyData.shownKv kvs) <= Yb kvs
 | [],_=>by simp only [PyData.shownKv,Yb]; exact Nat.le_of_eq rfl
 | (k,v) :: r,h=>by
  have h':(k.showable = true /\ v.showable = true) /\ PyData.showableKv r = true:=by simpa [PyData.showableKv] using h
  have h1:=QD k h'.1.1;have h2:=QD v h'.1.2;have h3:=JP r h'.2;have e:((k.shown ++ ": " ++ v.shown:Str)).length = k.shown.length + 2 + v.shown.length:=by rw [strLen_append,strLen_append]; rfl
  simp only [PyData.shownKv,Yb];rw [piled_cons,e];lia
end
theorem Shw.of (s:d.showable = true) (m:(d.hasDict && ZO d) = false) (dp:d.depth <= 64) (z:cost d <= 1000000):Shw d:=
 ⟨s,m,dp,Nat.le_trans (QD d s) (Nat.le_trans z (by rw [sizeLine_eq]; decide))⟩
structure Own (K:Fj) (mg:Str->Option Value) (x:Str) (st:Stmt) (ps:List Str) (f:Addr) (fd:FuncData):Prop where
 F:Fun K x x st f fd
 m:mg x = some (.ref f)
 b:Binds K fd ps []
def GL:DSp:=λ xs M Φ=>∃ ns:List Int,xs = [.dat (.list (ns.map PyData.int))] /\ ns.length <= 63 /\ ∀ M',Φ (.dat (.bool true)) M'
theorem CM {ns:List Int} (hl:ns.length <= 63) (_:ZaI H) (hS:SqL K H a (ns.map V.int)):lift K GL [.ref a] H (λ v _=>v = .bl true) λ _ _ _=>False:=by
 refine ⟨[.dat (.list (ns.map PyData.int))],λ _=>none,λ x _=>x = .dat (.bool true),(show Zz K (λ _=>none) H from ⟨λ b o e=>(by cases e)⟩),Paired.cons (Dt.lst ?_ (Dts.ints ns)) Paired.nil,⟨ns,rfl,hl,λ _=>rfl⟩,λ v H' x M' _ _ rv hx=>?_⟩
 ·rcases hS with h | h
  ·exact .inl ⟨rfl,h⟩
  ·exact .inr h
 ·subst hx;exact rv.bool
theorem CF {α:Type} {l:List α} {i:Int} (h0:0 <= i) (h1:i < l.length):∃ d,atI l i = some d /\ d ∈ l:=by
 have hl:i.toNat < l.length:=by lia
 refine ⟨l[i.toNat],?_,List.getElem_mem hl⟩;have q:atI l ((i.toNat:Nat):Int) = some l[i.toNat]:=JE (by simp [hl]);rw [show ((i.toNat:Nat):Int) = i by lia] at q;exact q
theorem Tg:ixN 3 0 = some 0:=rfl
theorem Sw:ixN 3 1 = some 1:=rfl
theorem Zak:ixN 3 2 = some 2:=rfl
theorem MD {ns:List Int} {j:Int} (h0:0 <= j) (h1:j < ns.length):∃ c:Int,atI (ns.map PyData.int) j = some (.int c):=by
 obtain ⟨d,e,hm⟩:=CF (l:=ns.map PyData.int) h0 (by rw [List.length_map]; exact h1);obtain ⟨c,_,rfl⟩:=List.mem_map.mp hm;exact ⟨c,e⟩
theorem Xk (x:Int) {m:Int} (h:0 < m):0 <= x % m /\ x % m < m:=⟨Int.emod_nonneg _ (by lia),Int.emod_lt_of_pos _ h⟩
def sp1 (f:PyData->Bool):DSp:=λ xs M Φ=>∃ d,xs = [.dat d] /\ Φ (.dat (.bool (f d))) M
theorem Hr (k:Int) (h:0 <= k /\ k <= 1000000):ZaX 10 k:=⟨h.1,h.2,by decide⟩
theorem Kd (h:M a = none):Jj (Zu M a o) a = M:=by
 funext b
 unfold Jj Zu
 split
 ·rename_i e; rw [e,h]
 ·rfl
theorem Zl {p:Prop} [Decidable p] {A B:Prop} (h1:p->A) (h2:¬ p->B):if decide p = true then A else B:=by
 by_cases h:p
 ·rw [decide_eq_true h,if_pos rfl]; exact h1 h
 ·rw [decide_eq_false h,if_neg Bool.false_ne_true]; exact h2 h
noncomputable def DM (env:Env):List (Str × NameKind)->List (Str × Addr)->List (Str × Addr)
 | [],cs=>cs
 | (n,k) :: r,cs=>DM env r (if (k == NameKind.free) = true then (n,(env.cells.lookup n).getD 0) :: cs else cs)
theorem V1 {env:Env} (f:Str × NameKind->List (Str × Addr)->Sem (ForInStep (List (Str × Addr)))):∀ (l:List (Str × NameKind)) (cs:List (Str × Addr)),
  (∀ y ∈ l,∀ cs,f y cs = pure (.yield (if (y.2 == NameKind.free) = true then (y.1,(env.cells.lookup y.1).getD 0) :: cs else cs)))->forIn l cs f = pure (DM env l cs)
 | [],cs,_=>by rw [List.forIn_nil]; rfl
 | (n,k) :: r,cs,h=>by
  rw [List.forIn_cons,h _ List.mem_cons_self,pure_bind];exact V1 f r _ λ y hy=>h y (List.mem_cons_of_mem _ hy)
theorem Vc (h:∀ y ∈ scope.names,y.2 = .free->∃ c,env.cells.lookup y.1 = some c):closureFor scope env = pure (DM env scope.names []):=by
 simp only [closureFor]
 rw [V1 (env:=env) _ scope.names [] (λ y hy cs=>by
  obtain ⟨n,k⟩:=y
  by_cases hk:k = .free
  ·subst hk;obtain ⟨c,e⟩:=h _ hy rfl;have e':env.cells.lookup n = some c:=e;simp only [beq_self_eq_true,if_true,cellOf,e',Option.getD_some,pure_bind]
  ·have:(k == NameKind.free) = false:=by simpa using hk
   simp only [this,Bool.false_eq_true,if_false])]
 rfl
theorem Ua:∀ {l:List (Str × NameKind)} {cs:List (Str × Addr)} {x:Str} {c:Addr},(x,c) ∈ DM env l cs->(x,c) ∈ cs \/ ((x,NameKind.free) ∈ l /\ c = (env.cells.lookup x).getD 0)
 | [],_,_,_,h=>.inl h
 | (n,k) :: r,cs,x,c,h=>by
  rcases Ua (l:=r) h with h | ⟨h1,h2⟩
  ·by_cases hk:k = .free
   ·subst hk;rw [if_pos (by simp)] at h
    rcases List.mem_cons.mp h with h | h
    ·cases h;exact .inr ⟨List.mem_cons_self,rfl⟩
    ·exact .inl h
   ·have:(k == NameKind.free) = false:=by simpa using hk
    rw [if_neg (by rw [this]; exact Bool.false_ne_true)] at h;exact .inl h
  ·exact .inr ⟨List.mem_cons_of_mem _ h1,h2⟩
theorem Uj:∀ {l:List (Str × NameKind)} {cs:List (Str × Addr)} {x:Str},((x,NameKind.free) ∈ l \/ ∃ c,(x,c) ∈ cs)->∃ c,(x,c) ∈ DM env l cs
 | [],_,_,h=>h.elim (λ z=>nomatch z) id
 | (n,k) :: r,cs,x,h=>by
  refine Uj (l:=r) ?_
  rcases h with h | ⟨c,h⟩
  ·rcases List.mem_cons.mp h with h | h
   ·cases h;exact .inr ⟨_,by rw [if_pos (by simp)]; exact List.mem_cons_self⟩
   ·exact .inl h
  ·refine .inr ⟨c,?_⟩
   split
   ·exact List.mem_cons_of_mem _ h
   ·exact h
theorem VB {β:Type}:∀ {l:List (Str × β)} {x:Str} {c:β},(x,c) ∈ l->∃ c',l.lookup x = some c'
 | [],_,_,h=>nomatch h
 | (n,d) :: r,x,c,h=>by
  rw [List.lookup_cons];cases e:x == n with
  | true=>exact ⟨d,rfl⟩
  | false=>
   rcases List.mem_cons.mp h with h | h
   ·cases h;simp at e
   ·exact VB h
theorem Z8 {names:List (Str × NameKind)} (hf:∀ y ∈ names,y.2 = .free->∃ c,env.cells.lookup y.1 = some c) {c:Addr} (h:(DM env names []).lookup x = some c) :
  env.cells.lookup x = some c /\ (x,NameKind.free) ∈ names:=by
 rcases Ua (PySem.mem_of_lookup h) with h | ⟨h1,h2⟩
 ·exact nomatch h
 ·obtain ⟨c',e⟩:=hf _ h1 rfl;have e':env.cells.lookup x = some c':=e;rw [e',Option.getD_some] at h2;subst h2;exact ⟨e',h1⟩
theorem Ur {names:List (Str × NameKind)} (hf:∀ y ∈ names,y.2 = .free->∃ c,env.cells.lookup y.1 = some c) (h:(x,NameKind.free) ∈ names):∃ c,(DM env names []).lookup x = some c /\ env.cells.lookup x = some c:=by
 obtain ⟨c,hm⟩:=Uj (env:=env) (cs:=[]) (.inl h);obtain ⟨c',e⟩:=VB hm;exact ⟨c',e,(Z8 hf e).1⟩
noncomputable def Zx (X:Cx) (scope:Scope) (C:Addr) (N:List Str) (ex:List Addr) (s:Shared) (H:Hp):Cx:=
 { X with N:=N,s₀:=s,H₀:=H,env:=compEnvC scope (DM X.env scope.names []) C X.env,outer:=X.stack,ex:=ex,fn:=λ _=>false,pn:=[],xe:=λ _ _=>False }
noncomputable def QX (ix:List (Option Nat)) (Z:L2.St):L2.St:=ix.map λ o=>o.bind λ i=>(Z[i]?).join
noncomputable def Gn (ix:List (Option Nat)) (Δ:DSt):DSt:=ix.map λ o=>o.bind λ i=>(Δ[i]?).join
structure Q3 (X:Cx) (scope:Scope) (N:List Str) (ix:List (Option Nat)):Prop where
 kind:scope.kind = .function
 cellF:∀ y ∈ scope.names,y.2 ≠ .cell
 names:∀ y ∈ scope.names,y.2 = .local->scope.names.lookup y.1 = some .local
 free:∀ y ∈ scope.names,y.2 = .free->X.env.kindOf y.1 = some .cell
 len:N.length = ix.length
 cap:∀ (j:Nat) (x:Str) (i:Nat),N[j]? = some x->ix[j]? = some (some i)->X.N[i]? = some x /\ (x,NameKind.free) ∈ scope.names /\ (relabel scope X.env).names.lookup x = some .cell
theorem Bl {Z:L2.St} (h:(QX ix Z)[j]? = some (some v)):∃ i,ix[j]? = some (some i) /\ Z[i]? = some (some v):=by
 unfold QX at h;rw [List.getElem?_map] at h;cases e:ix[j]? with
 | none=>rw [e] at h; cases h
 | some o=>
  rw [e] at h;cases o with
  | none=>simp at h
  | some i=>
   refine ⟨i,rfl,?_⟩;have h':(Z[i]?).join = some v:=by simpa using h
   cases q:Z[i]? with
   | none=>rw [q] at h'; cases h'
   | some o'=>rw [q] at h'; exact congrArg some h'
theorem Qr.cap {Z:L2.St} {Δ:DSt} (h:Qr K M H Z Δ) (ix:List (Option Nat)):Qr K M H (QX ix Z) (Gn ix Δ):=by
 refine ⟨by unfold QX Gn; rw [List.length_map,List.length_map],λ j x e=>?_⟩;unfold Gn at e;rw [List.getElem?_map] at e;cases q:ix[j]? with
 | none=>rw [q] at e; cases e
 | some o=>
  rw [q] at e;cases o with
  | none=>simp at e
  | some i=>
   have e':(Δ[i]?).join = some x:=by simpa using e
   have e2:Δ[i]? = some (some x):=by
    cases q2:Δ[i]? with
    | none=>rw [q2] at e'; cases e'
    | some o'=>rw [q2] at e'; exact congrArg some e'
   obtain ⟨v,hv,rv⟩:=h.at' i x e2;refine ⟨v,?_,rv⟩;unfold QX;rw [List.getElem?_map,q];simp [hv]
section
variable {Z:L2.St} {H2:Hp} {s2:Shared} {C:Addr} {fp:List Addr}
theorem R8 (ok:Q3 X scope N ix) (I2:Inv X pins Z H2 s2):∀ y ∈ scope.names,y.2 = .free->∃ c,X.env.cells.lookup y.1 = some c:=λ y hy hk=>I2.ok.has y.1 (.inl (ok.free y hy hk))
theorem UP (ok:Q3 X scope N ix) (I2:Inv X pins Z H2 s2) (f2:∀ b ∈ fp,BK X pins H2 b) (ex:∀ b ∈ fp,∃ o,s2.heap.get? b = some o) (hC:s2.heap.objs.size <= C):(Zx X scope C N fp s2 H2).Ok:=by
 have hf:=R8 ok I2
 refine ⟨I2.ok.mod,ok.kind,I2.ok.glob,I2.ok.blt,hC,λ x y c h1 h2=>I2.ok.inj x y c (Z8 hf h1).1 (Z8 hf h2).1,λ x hx=>?_,λ x c h=>absurd h Bool.false_ne_true,I2.ok.hd,I2.ok.frames,.inl rfl,λ b hb=>?_,λ b o e=>I2.bs b o e,Nat.le_trans I2.ok.bsz I2.sz,
  λ b o e hb=>?_,λ b hb z=>?_,I2.stack,I2.CK⟩
 ·have hx':(relabel scope X.env).names.lookup x = some .cell \/ (relabel scope X.env).names.lookup x = some .free:=hx;have key:(x,NameKind.free) ∈ scope.names:=by
   have go:∀ k',(relabel scope X.env).names.lookup x = some k'->(k' = .cell \/ k' = .free)->(x,NameKind.free) ∈ scope.names:=λ k' e hk=>by
    have hm:=PySem.mem_of_lookup e;obtain ⟨⟨n,k⟩,hn,q⟩:=List.mem_map.mp hm
    by_cases hr:(k == NameKind.free && X.env.scope.kind == .function && X.env.kindOf n == some .cell) = true
    ·have q':(n,NameKind.cell) = (x,k'):=by rw [<- q]; simp [hr]
     cases q';have:k = .free:=by simp only [Bool.and_eq_true] at hr; simpa using hr.1.1
     subst this;exact hn
    ·have q':(n,k) = (x,k'):=by rw [<- q]; simp [hr]
     cases q'
     rcases hk with rfl | rfl
     ·exact absurd rfl (ok.cellF _ hn)
     ·exact hn
   rcases hx' with h | h
   ·exact go _ h (.inl rfl)
   ·exact go _ h (.inr rfl)
  obtain ⟨c,h1,_⟩:=Ur hf key;exact ⟨c,h1⟩
 ·obtain ⟨o,e⟩:=ex b hb;exact ⟨Nat.ne_of_lt (Nat.lt_of_lt_of_le (Heap.lt_size e) hC),λ x c h=>(f2 b hb).2.2.2.2.1 x c (Z8 hf h).1⟩
 ·rcases (f2 b hb).2.2.2.1 with z | z
  ·exact I2.ok.noex b o e z
  ·exact absurd (Nat.lt_of_lt_of_le (Heap.lt_size e) (Nat.le_trans I2.ok.bsz z)) (Nat.lt_irrefl _)
 ·rcases List.mem_cons.mp (I2.Gy b z) with z | z
  ·exact (f2 b hb).2.1 z
  ·exact (f2 b hb).2.2.1 z
theorem Um (ok:Q3 X scope N ix) (I2:Inv X pins Z H2 s2) (f2:∀ b ∈ fp,BK X pins H2 b) {m:Str->Option Value} (u:Un (frs X.stack) fp H2 H s2.heap s.heap) :
  ∀ (i:Nat) (x:Str) (v:V),N[i]? = some x->(QX ix Z)[i]? = some (some v)->∃ w,RelV v w /\ Look (Zx X scope C N fp s2 H2).env s.heap m x w:=λ j x v hN hv=>by
 obtain ⟨i,hi,hs⟩:=Bl hv;obtain ⟨hx,hm,hr⟩:=ok.cap j x i hN hi;have hk:X.env.kindOf x = some .cell:=ok.free _ hm rfl;obtain ⟨m0,_,hl⟩:=I2.loc;obtain ⟨w,r,l⟩:=hl i x v hx hs (.inr (.inl hk));refine ⟨w,r,.inr ⟨.inl hr,?_⟩⟩
 rcases l with ⟨z,_⟩ | ⟨_,c,e,hc⟩
 ·rw [hk] at z; cases z
 ·obtain ⟨c',h1,h2⟩:=Ur (R8 ok I2) hm;rw [e] at h2;cases h2;refine ⟨c,h1,?_⟩;obtain ⟨o,ho,hd⟩:=hc;obtain ⟨sl,q⟩:=u.any ho (I2.freeC x c e) λ z=>(f2 c z).2.2.2.2.1 x c e rfl;exact ⟨_,q,hd⟩
end
section
variable {prog:Program} {R:Result->Shared->Prop}
theorem XS {elt target iter:Expr} {ifs:List Expr} {scope:Scope} {pos:Pos} {it acc:Value} {env:Env} (I:Nat->Shared->Prop)
  (turn:∀ n s,I n s->wpAny (model prog w) A (pyNext it) (λ r s₁=>match r with
   | none=>R (.ok .next) s₁
   | some v=>wpAny (model prog w) A (letOwnedTupleGo target it v) (λ _ s₁'=>wpAny (model prog w) A (assign target env v) (λ _ s₂=>
     wpAny (model prog w) A (forIn ifs true λ c r=>if r = true then do let ok <- isTrue c env (eval c env); pure (ForInStep.yield ok) else pure (ForInStep.yield r)) (λ ok s₃=>
      if ok = true then wpAny (model prog w) A (eval elt env) (λ x s₄=>
       wpAny (model prog w) A (call (.builtin "list.append") [acc,x]) (λ _ s₅=>∃ m,m < n /\ I m s₅) (λ _ _=>False) s₄) (λ _ _=>False) s₃
      else ∃ m,m < n /\ I m s₃) (λ _ _=>False) s₂) (λ _ _=>False) s₁') (λ _ _=>False) s₁) (λ _ _=>False) s)
  (n:Nat) (h:I n s):codeAny (model prog w) A (.compLoop (.ListComp elt [⟨target,iter,ifs,0⟩] scope pos) 0 it acc env) R s:=by
 refine codeAny_loop rfl I (λ n s hI=>?_) n h;show wpAny _ A ((compTurn (.ListComp elt [⟨target,iter,ifs,0⟩] scope pos) 0 it acc env).onRaise (λ x=>do noteFrame x env; theTreesLotGoes x)) _ _ s;refine wpAny_noted ?_;rw [compTurn_list];refine wpAny_bind (wpAny_standAt (wpAny_bind (wpAny_mono (turn n s hI) (λ r s₁ h₁=>?_) λ _ _ h'=>h'.elim)));cases r with
 | none=>exact wpAny_pure h₁
 | some v=>
  refine wpAny_bind (wpAny_mono h₁ (λ _ s₁' h₁'=>?_) λ _ _ h'=>h'.elim);refine wpAny_bind (wpAny_mono h₁' (λ _ s₂ h₂=>wpAny_bind (wpAny_mono h₂ (λ ok s₃ h₃=>?_) λ _ _ h'=>h'.elim)) λ _ _ h'=>h'.elim);cases ok with
  | false=>exact wpAny_pure ⟨rfl,h₃⟩
  | true=>
   exact wpAny_bind (wpAny_bind (wpAny_mono h₃ (λ x s₄ h₄=>wpAny_bind (wpAny_mono h₄ (λ _ s₅ h₅=>wpAny_pure (wpAny_pure ⟨rfl,h₅⟩)) λ _ _ h'=>h'.elim)) λ _ _ h'=>h'.elim))
end
def Yl (K:Fj) (J:It) (ds:List PyData) (M:Mp) (H:Hp):Prop:=∀ M2 H2,Step M H M2 H2->∀ i,
 (i < ds.length->J.go i H2 /\ ∀ x H',J.yld i H2 x H'->Zz K M2 H2->Zz K M2 H' /\ Step M2 H2 M2 H' /\ ∃ d,ds[i]? = some d /\ Dt K M2 H' x d) /\ (ds.length <= i->J.stop i H2)
abbrev VN:=DSt->Mp->(List PyData->Mp->Prop)->Prop
def DI (X:Cx) (tg iter:Expr) (src:VN):Prop:=∃ wi,PI X tg iter wi /\ ∀ Z H Δ M Ψ (R:It->Hp->Prop),Zz X.K M H->Qr X.K M H Z Δ->src Δ M Ψ ->
 (∀ J H' M' ds,Zz X.K M' H'->Step M H M' H'->Yl X.K J ds M' H'->Ψ ds M'->R J H')->wi Z H R
def Zct (te:DTE):VN:=λ Δ M Ψ=>te Δ M λ x M1=>onL x λ ds=>Ψ ds M1
def Zdk (te:DTE):VN:=λ Δ M Ψ=>te Δ M λ x M1=>onT x λ ds=>Ψ ds M1
theorem Wh (he:DE X iter te):DI X tg iter (Zct te):=by
 obtain ⟨t,p,q⟩:=he;refine ⟨_,CW p,λ Z H Δ M Ψ R dr er h k=>?_⟩;refine q Z H Δ M _ _ dr er h λ v H1 x M1 r1 st rv hx=>?_;replace hx:=XI hx;obtain ⟨ds,rfl,hΨ⟩:=hx;obtain ⟨a,xs,rfl,h1,h2⟩:=rv.lst;refine ⟨a,rfl,⟨xs,h1.sq⟩,k _ H1 M1 ds r1 st (λ M2 H2 st2 i=>⟨λ hi=>?_,λ hi=>?_⟩) hΨ⟩
 ·have hx:i < xs.length:=by rw [h2.length]; exact hi
  refine ⟨⟨xs,xs[i],(h1.step st2).sq,by simp [hx]⟩,λ x H' y=>?_⟩;obtain ⟨e,y⟩:=y;obtain ⟨d,hd,hy⟩:=(h2.step st2).ZbH (y xs (h1.step st2).sq);subst e;exact λ r=>⟨r,Step.refl,d,hd,hy⟩
 ·exact ⟨xs,(h1.step st2).sq,by rw [h2.length]; exact hi⟩
noncomputable def Yn (lo:Int) (n:Nat):List PyData:=(List.range n).map λ (i:Nat)=>PyData.int (lo + (i:Int))
theorem ZV (lo:Int) (n:Nat):(Yn lo n).length = n:=by unfold Yn; rw [List.length_map,List.length_range]
theorem J5 {lo:Int} (h:i < n):(Yn lo n)[i]? = some (.int (lo + (i:Int))):=by
 unfold Yn;rw [List.getElem?_map,List.getElem?_range h];rfl
theorem Ey (lo:Int) (n:Nat):Yl K (Itr lo n) (Yn lo n) M H:=λ M2 H2 st2 i=>by
 rw [ZV];refine ⟨λ hi=>⟨hi,λ x H' y=>?_⟩,λ hi=>hi⟩;obtain ⟨e,y⟩:=y;subst y e;exact λ r=>⟨r,Step.refl,_,J5 hi,Dt.int _⟩
def Zav (ta:DTA):VN:=λ Δ M Ψ=>ta Δ M λ xs M1=>on1 xs λ x=>onI x λ j=>InR j /\ Ψ (Yn 0 j.toNat) M1
theorem QB {a:Expr} {ta:DTA} {p:Pos} (hg0:Gl X "range") (hm:X.mg "range" = none) (ha:DA X [a] ta) (hs:autoParam (starEach [a] X.env = [(false,eval a X.env)]) zz3._auto_1):DI X tg (.Call (.Name "range" p) [a] [] p2) (Zav ta):=by
 obtain ⟨t1,p1,q1⟩:=ha;refine ⟨_,Kh hg0 hm p1 hs,λ Z H Δ M Ψ R dr er h k=>?_⟩;refine q1 Z H Δ M _ _ dr er h λ vs H1 xs M1 r1 st rv hx=>?_;replace hx:=ZU hx;obtain ⟨x,rfl,hx⟩:=hx;replace hx:=ZS hx;obtain ⟨j,rfl,⟨h1,h2⟩,hΨ⟩:=hx;obtain ⟨v,rfl,hv⟩:=Paired.one rv;exact ⟨j,by rw [Qd.int hv],h1,h2,k _ H1 M1 _ r1 st (Ey 0 j.toNat) hΨ⟩
def Za5 (ta:DTA):VN:=λ Δ M Ψ=>ta Δ M λ xs M1=>on2 xs λ x y=>onI x λ i=>onI y λ j=>(InR i /\ InR j) /\ Ψ (Yn i (j - i).toNat) M1
def WQ (ow:Bool) (Φ:DK) (acc:List PyData) (M:Mp):Prop:=match ow with | true=>∀ p,M p = none->Φ (.own p) (Zu M p (.lst acc)) | false=>Φ (.dat (.list acc)) M
def UM (ow:Bool) (src:VN) (ix:List (Option Nat)) (g:DTG) (tc:DTT) (te:DTE):DTE:=λ Δ M Φ=>src Δ M λ ds M1=>ds.length <= sizeLine /\ ∃ J:Nat->List PyData->Mp->Prop,J 0 [] M1 /\
 (∀ i d acc M',ds[i]? = some d->J i acc M'->g (.dat d) (Gn ix Δ) M' λ Δ2 M2=>tc Δ2 M2 λ b M3=>if b = true then te Δ2 M3 λ y M4=>onD y λ e=>J (i + 1) (acc ++ [e]) M4 else J (i + 1) acc M3) /\
 ∀ acc M',J ds.length acc M'->WQ ow Φ acc M'
def DTs (X:Cx) (ifs:List Expr) (τ:DTT):Prop:=∀ (pins:List (Addr × Obj)) (s:Shared) (Z:L2.St) (H:Hp) (Δ:DSt) (M:Mp) (Φ:Bool->Mp->Prop),L2.Inv X pins Z H s->Zz X.K M H->Qr X.K M H Z Δ->τ Δ M Φ ->
 wpAny (model X.prog X.w) X.A (forIn ifs true λ c r=>if r = true then do let ok <- isTrue c X.env (eval c X.env); pure (ForInStep.yield ok) else pure (ForInStep.yield r))
  (λ b s'=>∃ H' M',L2.Inv X pins Z H' s' /\ Zz X.K M' H' /\ Step M H M' H' /\ Φ b M') X.xe s
def Zc2:DTT:=λ _ M Φ=>Φ true M
theorem QT:DTs X [] Zc2:=λ pins s Z H Δ M Φ I dr er h=>wpAny_tests_nil ⟨H,M,I,dr,Step.refl,h⟩
theorem MU {c:Expr} {τ:DTT} (hc:DT X c τ):DTs X [c] τ:=λ pins s Z H Δ M Φ I dr er h=>by
 obtain ⟨t,p,q⟩:=hc;refine wpAny_tests_one (thn (p pins s Z H (λ b H'=>∃ M',Zz X.K M' H' /\ Step M H M' H' /\ Φ b M') I (q Z H Δ M Φ _ dr er h λ b H' M' a c d=>⟨M',a,c,d⟩)) λ b s' h=>?_);obtain ⟨H',I',M',a,c,d⟩:=h;exact ⟨H',M',I',a,c,d⟩
def YlG (K:Fj) (J:It) (ds:List PyData) (G:Mp->Prop) (M:Mp) (H:Hp):Prop:=∀ M2 H2,Step M H M2 H2->Zz K M2 H2->G M2->∀ i,
 (i < ds.length->J.go i H2 /\ ∀ x H',J.yld i H2 x H'->Zz K M2 H2->Zz K M2 H' /\ Step M2 H2 M2 H' /\ ∃ d,ds[i]? = some d /\ Dt K M2 H' x d) /\ (ds.length <= i->J.stop i H2)
abbrev UU:=DSt->Mp->(List PyData->(Mp->Prop)->Mp->Prop)->Prop
def DIG (X:Cx) (tg iter:Expr) (src:UU):Prop:=∃ wi,PI X tg iter wi /\ ∀ Z H Δ M Ψ (R:It->Hp->Prop),Zz X.K M H->Qr X.K M H Z Δ->src Δ M Ψ ->
 (∀ J H' M' ds G,Zz X.K M' H'->Step M H M' H'->YlG X.K J ds G M' H'->Ψ ds G M'->R J H')->wi Z H R
section
set_option maxHeartbeats 2000000
abbrev EH (ds:List PyData) (G:Mp->Prop) (M1:Mp) (Δ:DSt) (ix:List (Option Nat)) (g:DTG) (tc:DTT) (te:DTE) (ψ:List PyData->Mp->Prop):Prop:=ds.length <= sizeLine /\ ∃ J:Nat->List PyData->Mp->Prop,(∀ i acc M',J i acc M'->G M') /\ J 0 [] M1 /\
 (∀ i d acc M',ds[i]? = some d->J i acc M'->g (.dat d) (Gn ix Δ) M' λ Δ2 M2=>tc Δ2 M2 λ b M3=>if b = true then te Δ2 M3 λ y M4=>onD y λ e=>J (i + 1) (acc ++ [e]) M4 else J (i + 1) acc M3) /\ ∀ acc M',J ds.length acc M'->ψ acc M'
theorem VZ {elt:Expr} {ifs:List Expr} {pos ps:Pos} {src:UU} {g:DTG} {tc:DTT} {te:DTE} {use:Option (Value->Sem Unit)} {QQ:Value->Shared->Prop} {ψ:List PyData->Mp->Prop} (ok:Q3 X scope N ix) (hi:DIG X tg iter src)
  (hg:∀ C ex s H,DG (Zx X scope C N ex s H) tg g) (ht:∀ C ex s H,DTs (Zx X scope C N ex s H) ifs tc) (he:∀ C ex s H,DE (Zx X scope C N ex s H) elt te) (hc:X.calm = true)
  (hs:∀ x,foldedSetIterable iter X.env x = pure x) {Z:L2.St} {H:Hp} {Δ:DSt} {M:Mp} {pins:List (Addr × Obj)} {s:Shared} (dr:Zz X.K M H) (er:Qr X.K M H Z Δ) (h:src Δ M λ ds G M1=>EH ds G M1 Δ ix g tc te ψ) (I:L2.Inv X pins Z H s)
  (hfin:∀ (s4:Shared) (C D:Addr) (H':Hp) (M':Mp) (vs:List V) (acc:List PyData),L2.Inv X pins Z (upd H' D (.lst vs)) s4->H' D = none->Zz X.K M' H'->Step M H M' H'->Dts X.K M' H' vs acc->ψ acc M'->(∃ m,s4.heap.Ns C m)->BK X pins (upd H' D (.lst vs)) C ->
   compPost (model X.prog X.w) X.A X.xe use QQ (.ref D) C (.ok .next) s4) :
  wpAny (model X.prog X.w) X.A (comprehension (.ListComp elt [⟨tg,iter,ifs,0⟩] scope pos) scope X.env ps (newList []) false (eval iter X.env) use) QQ X.xe s:=by
 obtain ⟨wi,pi,qi⟩:=hi;refine wpAny_comprehension_free (use:=use) (cl:=DM X.env scope.names []) rfl hs (Vc (R8 ok I)) ok.kind ok.names ?_;show wpAny _ _ (eval iter X.env) _ _ s
 refine thn (pi pins s Z H (λ J H'=>∃ M' ds G,Zz X.K M' H' /\ Step M H M' H' /\ YlG X.K J ds G M' H' /\ ds.length <= sizeLine /\ ∃ W:Nat->List PyData->Mp->Prop,(∀ i acc M',W i acc M'->G M') /\ W 0 [] M' /\
   (∀ i d acc M',ds[i]? = some d->W i acc M'->g (.dat d) (Gn ix Δ) M' λ Δ2 M2=>tc Δ2 M2 λ b M3=>if b = true then te Δ2 M3 λ y M4=>onD y λ e=>W (i + 1) (acc ++ [e]) M4 else W (i + 1) acc M3) /\
   ∀ acc M',W ds.length acc M'->ψ acc M') I (qi Z H Δ M _ _ dr er h λ J H' M' ds G a b c d=>⟨M',ds,G,a,b,c,d⟩)) λ x s1 h1=>thn h1 λ itv s2 h2=>?_
 obtain ⟨it,fp,tn,J,H2,e,I2,T,st2,f2,M1,ds,G,dr1,stp,yl,hz,W,wg,w0,wt,wd⟩:=h2;subst e;have exo:∀ b ∈ fp,∃ o,s2.heap.get? b = some o:=λ b hb=>let ⟨o,q,_⟩:=T.obj 0 _ st2 b hb; ⟨o,q⟩;refine wpAny_newObj_type (wpAny_newFunctionEnv ok.cellF (by intro y hy; simp at hy) (λ h₁ hns₁ hsb₁=>?_) ok.kind);dsimp only at hns₁ hsb₁ ⊢;generalize hH2:s2.heap.push { cls:=.type "list",dict:=none,data:=.seq ([]:List Value).toArray } = HH at hns₁ hsb₁ ⊢;have hC:HH.objs.size = s2.heap.objs.size + 1:=by rw [<- hH2,Heap.size_push]
 have hDC:s2.heap.objs.size ≠ HH.objs.size:=by rw [hC]; exact Nat.ne_of_lt (Nat.lt_succ_self _)
 have hCle:s2.heap.objs.size <= HH.objs.size:=by rw [hC]; exact Nat.le_succ _
 have below:∀ b,b < s2.heap.objs.size->b ≠ HH.objs.size /\ b ≠ s2.heap.objs.size:=λ b hb=>⟨by rw [hC]; exact Nat.ne_of_lt (Nat.lt_succ_of_lt hb),Nat.ne_of_lt hb⟩;have old:∀ b o,s2.heap.get? b = some o->h₁.get? b = some o:=λ b o e=>hsb₁.extBut b o (below b (Heap.lt_size e)).1 (Heap.get?_push_of_some _ (hH2 ▸ Heap.get?_push_of_some _ e));have hacc:h₁.get? s2.heap.objs.size = some { cls:=.type "list",data:=.seq ([]:List Value).toArray }:=hsb₁.extBut _ _ hDC (Heap.get?_push_of_some _ (hH2 ▸ Heap.get?_push_size _ rfl));generalize hCC:HH.objs.size = C at *;generalize hDD:s2.heap.objs.size = D at hDC hacc below hCle;have hDs:s2.heap.objs.size <= D:=Nat.le_of_eq hDD;have hCs:s2.heap.objs.size <= C:=by rw [hDD]; exact hCle
 have fD:∀ b ∈ fp,b ≠ D /\ b ≠ C:=λ b hb=>by
  obtain ⟨o,q⟩:=exo b hb;exact ⟨(below b (by rw [<- hDD]; exact Heap.lt_size q)).2,(below b (by rw [<- hDD]; exact Heap.lt_size q)).1⟩
 have okY:(Zx X scope C N fp s2 H2).Ok:=UP ok I2 f2 exo hCs;have fsD:∀ b ∈ frs X.stack,b < s2.heap.objs.size:=λ b hb=>by
  obtain ⟨_,o,ho,_⟩:=I2.stack.mem hb;exact Heap.lt_size ho
 have cellD:∀ x c,(Zx X scope C N fp s2 H2).env.cells.lookup x = some c->c < s2.heap.objs.size /\ H2 c = none:=λ x c e=>by
  have e':=(Z8 (R8 ok I2) e).1;obtain ⟨v,q⟩:=I2.cell x c e';exact ⟨q.lt,I2.freeC x c e'⟩
 have fpY:∀ {H':Hp} {ps:List (Addr × Obj)},(∀ b ∈ fp,H' b = none)->(∀ p ∈ ps,p.1 = D)->∀ b ∈ fp,BK (Zx X scope C N fp s2 H2) ps H' b:=λ {H' ps} hn hp b hb=>
  ⟨hn b hb,(fD b hb).2,okY.exfs b hb,.inl hb,(okY.exf b hb).2,λ p hp' z=>by
   have q:p ∈ ps:=hp';rw [hp p q] at z
   exact (fD b hb).1 z.symm⟩
 have onlyD:∀ (o:Obj),∀ p ∈ [(D,o)],p.1 = D:=λ o p hp=>by
  have q:p = (D,o):=by simpa using hp
  rw [q]
 have reloc:∀ {ps:List (Addr × Obj)} {σ':L2.St} {H':Hp} {s':Shared} {o:Obj},L2.Inv (Zx X scope C N fp s2 H2) ps σ' H' s'->s'.heap.get? D = some o->H' D = none->(∀ v,o.data ≠ .cell v) ->
   L2.Inv (Zx X scope C N fp s2 H2) [(D,o)] (QX ix Z) H' s':=λ {ps σ' H' s' o} J' hD hn hd=>by
  obtain ⟨m,hm,_⟩:=J'.loc;refine ⟨J'.ok,J'.os,J'.bare,J'.base,⟨m,hm,λ i x v a b _=>Um ok I2 f2 J'.base i x v a b⟩,J'.cell,J'.free,J'.freeC,λ p hp=>?_,J'.hok,?_⟩
  ·have q:p = (D,o):=by
    have z:p ∈ ([]:List (Addr × Obj)) ++ [(D,o)]:=hp
    simpa using z
   subst q;exact ⟨hD,hn,hDC,λ z=>absurd (fsD D z) (Nat.not_lt.mpr hDs),hd⟩
  ·show (QX ix Z).length = N.length;unfold QX;rw [List.length_map,ok.len]
 have start:L2.Inv (Zx X scope C N fp s2 H2) [(D,{ cls:=.type "list",data:=.seq ([]:List Value).toArray })] (QX ix Z) H2 { s2 with heap:=h₁,toks:=s2.toks + ([]:List (Str × Value)).length }:=by
  refine ⟨okY,rfl,I2.bare,Un.kept old,⟨_,hns₁,λ i x v a b _=>Um ok I2 f2 (Un.kept old) i x v a b⟩,λ x c e=>?_,I2.hok.fresh hCs,λ x c e=>(cellD x c e).2,λ p hp=>?_,I2.hok.kept old,?_⟩
  ·obtain ⟨v,o,ho,hd⟩:=I2.cell x c (Z8 (R8 ok I2) e).1;exact ⟨v,o,old c o ho,hd⟩
  ·have q:p = (D,{ cls:=.type "list",data:=.seq ([]:List Value).toArray }):=by
    have z:p ∈ ([]:List (Addr × Obj)) ++ [(D,{ cls:=.type "list",data:=.seq ([]:List Value).toArray })]:=hp
    simpa using z
   subst q;exact ⟨hacc,I2.hok.fresh hDs,hDC,λ z=>absurd (fsD D z) (Nat.not_lt.mpr hDs),λ v z=>nomatch z⟩
  ·show (QX ix Z).length = N.length;unfold QX;rw [List.length_map,ok.len]
 have loop:∀ s₃:Shared,s₃ = { s2 with heap:=h₁,toks:=s2.toks + ([]:List (Str × Value)).length } ->
   codeAny (model X.prog X.w) X.A (.compLoop (.ListComp elt [⟨tg,iter,ifs,0⟩] scope pos) 0 (.ref it) (.ref D) (compEnvC scope (DM X.env scope.names []) C X.env)) (compPost (model X.prog X.w) X.A X.xe use QQ (.ref D) C) s₃:=by
  rintro s₃ rfl
  refine XS (λ n s'=>∃ (i:Nat) (acc:List PyData) (vs:List V) (its:List Value) (nn:Nat) (H':Hp) (M':Mp),L2.Inv (Zx X scope C N fp s2 H2) [(D,{ cls:=.type "list",data:=.seq its.toArray nn })] (QX ix Z) H' s' /\
   tn i s'.heap /\ (∀ b ∈ fp,H' b = none) /\ Zz X.K M' H' /\ Step M1 H2 M' H' /\ Vals vs its /\ Dts X.K M' H' vs acc /\ W i acc M' /\ i <= ds.length /\ acc.length <= i /\ n = ds.length - i) ?_ ds.length
   ⟨0,[],[],[],0,H2,M1,start,T.keep _ _ _ st2 (λ b _ o e=>old b o e),λ b hb=>(f2 b hb).1,dr1,Step.refl,.nil,.nil,w0,Nat.zero_le _,Nat.le_refl _,rfl⟩
  rintro n s' ⟨i,acc,vs,its,nn,H',M',IY,ti,fr,dr',stp',rv,rd,wi',hil,hal,rfl⟩;have pinD:=IY.pin (D,{ cls:=.type "list",data:=.seq its.toArray nn }) (by simp);have fok:=fpY (ps:=[(D,{ cls:=.type "list",data:=.seq its.toArray nn })]) fr (onlyD _);obtain ⟨ygo,ystop⟩:=yl M' H' stp' dr' (wg i acc M' wi') i
  by_cases hlt:i < ds.length
  ·obtain ⟨jgo,jyl⟩:=ygo hlt;refine thn (T.item (Zx X scope C N fp s2 H2) rfl rfl rfl hc i _ s' (QX ix Z) H' (λ _ _=>False) IY fok ti jgo) λ r s4 ⟨u,hr,h4⟩=>?_;subst hr;refine thn h4 λ _ s5 ⟨x,H5,I5,r5,y5,st5,fr5⟩=>?_;obtain ⟨dr5,stp5,d,hd,hxd⟩:=jyl x H5 y5 dr';replace dr':=dr5;replace stp':=stp'.trans stp5;replace rd:=rd.step stp5;have I5':=I5.pinned (fpY (ps:=[(D,{ cls:=.type "list",data:=.seq its.toArray nn })]) fr5 (onlyD _)) (T.obj _ _ st5);obtain ⟨tg',pg,qg⟩:=hg C fp s2 H2
   refine thn (pg _ s5 (QX ix Z) H5 x u (λ σ6 H6=>∃ Δ6 M6,Zz X.K M6 H6 /\ Step M' H5 M6 H6 /\ Qr X.K M6 H6 σ6 Δ6 /\ tc Δ6 M6 λ b M3=>if b = true then te Δ6 M3 λ y M4=>onD y λ e=>W (i + 1) (acc ++ [e]) M4 else W (i + 1) acc M3) I5' r5
    (qg x (QX ix Z) H5 (.dat d) (Gn ix Δ) M' _ _ dr' ((er.step (stp.trans stp')).cap ix) hxd (wt i d acc M' hd wi') λ σ6 H6 Δ6 M6 a b c d=>⟨Δ6,M6,a,b,c,d⟩)) λ _ s6 ⟨σ6,H6,I6,Δ6,M6,dr6,stp6,er6,q6⟩=>?_
   refine thn (ht C fp s2 H2 _ s6 σ6 H6 Δ6 M6 _ I6 dr6 er6 q6) λ b s7 ⟨H7,M7,I7,dr7,stp7,q7⟩=>?_;have keepD:∀ {σz:L2.St} {Hz:Hp} {sz:Shared},L2.Inv (Zx X scope C N fp s2 H2) ([(D,{ cls:=.type "list",data:=.seq its.toArray nn })] ++ Xl fp s5.heap) σz Hz sz ->
     sz.heap.get? D = some { cls:=.type "list",data:=.seq its.toArray nn } /\ Hz D = none /\ tn (i + 1) sz.heap /\ ∀ b ∈ fp,Hz b = none:=λ {σz Hz sz} Iz=>by
    have a:=Iz.pin (D,{ cls:=.type "list",data:=.seq its.toArray nn }) (by simp);refine ⟨a.1,a.2.1,T.keep _ _ _ st5 λ b hb o e=>(Iz.pin (b,o) (List.mem_append_right _ (List.mem_append_right _ (Q9 hb e)))).1,λ b hb=>?_⟩;obtain ⟨o,e,_⟩:=T.obj _ _ st5 b hb;exact (Iz.pin (b,o) (List.mem_append_right _ (List.mem_append_right _ (Q9 hb e)))).2.1
   cases b with
   | false=>
    have q7':W (i + 1) acc M7:=by simpa using q7
    obtain ⟨a1,a2,a3,a4⟩:=keepD I7;have st17:Step M' H5 M7 H7:=stp6.trans stp7;exact ⟨ds.length - (i + 1),by omega,i + 1,acc,vs,its,nn,H7,M7,reloc I7 a1 a2 (λ v z=>nomatch z),a3,a4,dr7,stp'.trans st17,rv,rd.step st17,q7',hlt,by omega,rfl⟩
   | true=>
    have q7':te Δ6 M7 λ y M4=>onD y λ e=>W (i + 1) (acc ++ [e]) M4:=by simpa using q7
    obtain ⟨te',pe',qe'⟩:=he C fp s2 H2
    refine thn (pe' _ s7 σ6 H7 (λ v H8=>∃ e M8,Zz X.K M8 H8 /\ Step M7 H7 M8 H8 /\ Dt X.K M8 H8 v e /\ W (i + 1) (acc ++ [e]) M8) I7 (qe' σ6 H7 Δ6 M7 _ _ dr7 (er6.step stp7) q7' λ v H8 x8 M8 a b c d=>by
     replace d:=ZY d;obtain ⟨e,rfl,w8⟩:=d
     exact ⟨e,M8,a,b,c,w8⟩)) λ y s8 ⟨v,H8,I8,r8,e,M8,dr8,stp8,dv8,w8⟩=>?_
    obtain ⟨a1,a2,a3,a4⟩:=keepD I8;have st18:Step M' H5 M8 H8:=stp6.trans (stp7.trans stp8);have lv:=rv.length;have ld:=rd.length;refine call_meets PySem.F.slot_list_append ⟨_,a1,rfl⟩ PySem.F.entry_list_append (PySem.F.args_list_append_2 _ _) (PySem.list_append D its.toArray nn y (by rw [List.size_toArray]; omega)) ⟨a1,?_⟩;have q:=PySem.IsL.update a1 (·.push y);have I8':L2.Inv (Zx X scope C N fp s2 H2) [] σ6 H8 s8:=I8.Vk λ p hp=>nomatch hp;have I9:=I8'.turned (it:=D) (h':=s8.heap.update D (Obj.mapSeq (·.push y))) (t':=s8.toks) (λ b o hb hu=>(Heap.get?_update_other s8.heap (Obj.mapSeq (·.push y)) (Ne.symm hb)).trans hu) a2 hDC (.inr hDs)
     (λ x c e z=>absurd (z ▸ (cellD x c e).1) (Nat.not_lt.mpr hDs)) (λ p hp=>by have z:p ∈ ([]:List (Addr × Obj)) ++ []:=hp; simp at z)
    have ea:(its.toArray.push y) = (its ++ [y]).toArray:=by simp
    rw [ea] at q
    refine ⟨ds.length - (i + 1),by omega,i + 1,acc ++ [e],vs ++ [v],its ++ [y],_,H8,M8,reloc I9 q a2 (λ v z=>nomatch z),T.keep _ _ _ a3 (λ b hb o e=>(Heap.get?_update_other s8.heap (Obj.mapSeq (·.push y)) (Ne.symm (fD b hb).1)).trans e),a4,dr8,stp'.trans st18,
     rv.append (.cons r8 .nil),(rd.step st18).append (.cons dv8 .nil),w8,hlt,by rw [List.length_append,List.length_singleton]; omega,rfl⟩
  ·have hie:i = ds.length:=by omega
   refine thn (T.done (Zx X scope C N fp s2 H2) rfl rfl rfl hc i _ s' (QX ix Z) H' (λ _ _=>False) IY fok ti (ystop (by omega))) λ r s4 ⟨hr,I4⟩=>?_;subst hr;obtain ⟨m4,hm4,_⟩:=I4.loc;have pD:=I4.pin (D,{ cls:=.type "list",data:=.seq its.toArray nn }) (by simp);have hCn:H' C = none:=I4.free;have hDn:H' D = none:=pD.2.1;have hok4:HOk X.prog X.w (upd H' D (.lst vs)) s4.heap:=λ b u e=>by
    by_cases hb:b = D
    ·subst hb;rw [Z5] at e;cases e;exact ⟨by have:=rv.length; have:=rd.length; omega,its,nn,rv,pD.1⟩
    ·rw [ZE hb] at e;refine (I4.hok b u e).Pu (λ c v hc' q=>q) (λ c q=>?_) λ c xs q=>?_
     ·rw [ZE (Zp q pD.2.1)]; exact q
     ·rw [ZE (Zp q pD.2.1)]; exact q
   have bu:Un (frs X.stack) fp H2 H' s2.heap s4.heap:=I4.base;have un4:Un (frs X.stack) fp H2 (upd H' D (.lst vs)) s2.heap s4.heap:=by
    have nD:∀ b o,s2.heap.get? b = some o->b ≠ D /\ b ≠ C:=λ b o e=>⟨λ z=>absurd (z ▸ Heap.lt_size e) (Nat.not_lt.mpr hDs),λ z=>absurd (z ▸ Heap.lt_size e) (Nat.not_lt.mpr hCs)⟩;refine ⟨λ b o e n hb hx=>bu.keep b o e n hb hx,λ b o e n hb hx=>bu.slot b o e n hb hx,λ b o e n hx=>by rw [ZE (nD b o e).1]; exact bu.free b o e n hx,λ b o e hx=>bu.there b o e hx,λ b xs e=>?_,λ b o xs e=>?_,λ b ps e=>?_⟩
    ·have q:=bu.tups b xs e;rw [ZE (Zp q pD.2.1)]; exact q
    ·have q:=bu.frzs b o xs e;rw [ZE (Zp q pD.2.1)]; exact q
    ·obtain ⟨mo,q⟩:=bu.tbls b ps e;exact ⟨mo,by rw [ZE (Zp q pD.2.1)]; exact q⟩
   have os4:s4.os = s2.os:=I4.os;have IX:L2.Inv X pins Z (upd H' D (.lst vs)) s4:=I2.Rq (s':=s4) os4 un4 hok4 I4.bare λ b hb=>⟨(f2 b hb).2.2.2.1,(f2 b hb).2.1,(f2 b hb).2.2.2.2.1,(f2 b hb).2.2.2.2.2⟩;subst hie;exact hfin s4 C D H' M' vs acc IX hDn dr' (stp.trans stp') rd (wd acc M' wi') ⟨m4,hm4⟩ (I2.Zcc hCs (by rw [ZE (Ne.symm hDC)]; exact hCn))
 have hst₁:tn 0 h₁:=T.keep _ _ _ st2 λ b _ o e=>old b o e;exact codeAny_compStart_list (loop _ rfl) (T.self _ 0 _ _ _ hst₁ (loop _ rfl))
theorem Tv {h':Heap} {C:Addr} {m:Str->Option Value} (n:h.Ns C m) (k:∀ o,h.get? C = some o->h'.get? C = some o):h'.Ns C m:=by
 obtain ⟨o,es,ep,ho,r⟩:=n;exact ⟨o,es,ep,k o ho,r⟩
theorem gone {Z:L2.St} {C:Addr} {h':Heap} (I:L2.Inv X pins Z H s) (f:BK X pins H C) (hsb:Heap.SameBut C s.heap h'):L2.Inv X pins Z H { s with heap:=h' }:=
 I.turned (t':=s.toks) (λ b o hb e=>hsb.extBut b o hb e) f.1 f.2.1 f.2.2.2.1 f.2.2.2.2.1 f.2.2.2.2.2
theorem RK {ow:Bool} {Φ:DK} {Q:VK} {D:Addr} {acc:List PyData} (dr':Zz X.K M' H') (st:Step M H M' H') (rd:Dts X.K M' H' vs acc) (hDn:H' D = none) (fin:WQ ow Φ acc M') (k:Rch X.K M H Φ Q):Q (.ref D) (upd H' D (.lst vs)):=by
 cases ow with
 | true=>
  have fin':∀ p,M' p = none->Φ (.own p) (Zu M' p (.lst acc)):=by simpa [WQ] using fin
  exact k _ _ (.own D) _ (dr'.Vb (Step.QO hDn) rd) (st.trans (Step.QO hDn)) rfl (fin' D (dr'.tracked hDn))
 | false=>
  have fin':Φ (.dat (.list acc)) M':=by simpa [WQ] using fin
  exact k.dat (dr'.new hDn) (st.trans (Step.new hDn)) (Dt.Jh dr' hDn rd) fin'
def WN (ow:Bool) (src:UU) (ix:List (Option Nat)) (g:DTG) (tc:DTT) (te:DTE):DTE:=λ Δ M Φ=>src Δ M λ ds G M1=>ds.length <= sizeLine /\ ∃ J:Nat->List PyData->Mp->Prop,(∀ i acc M',J i acc M'->G M') /\ J 0 [] M1 /\
 (∀ i d acc M',ds[i]? = some d->J i acc M'->g (.dat d) (Gn ix Δ) M' λ Δ2 M2=>tc Δ2 M2 λ b M3=>if b = true then te Δ2 M3 λ y M4=>onD y λ e=>J (i + 1) (acc ++ [e]) M4 else J (i + 1) acc M3) /\ ∀ acc M',J ds.length acc M'->WQ ow Φ acc M'
theorem D7 (ow:Bool) {elt:Expr} {ifs:List Expr} {pos:Pos} {src:UU} {g:DTG} {tc:DTT} {te:DTE} (ok:Q3 X scope N ix) (hi:DIG X tg iter src)
  (hg:∀ C ex s H,DG (Zx X scope C N ex s H) tg g) (ht:∀ C ex s H,DTs (Zx X scope C N ex s H) ifs tc) (he:∀ C ex s H,DE (Zx X scope C N ex s H) elt te) (hc:X.calm = true)
  (hs:autoParam (∀ x,foldedSetIterable iter X.env x = pure x) zz2._auto_1):DE X (.ListComp elt [⟨tg,iter,ifs,0⟩] scope pos) (WN ow src ix g tc te):=by
 refine ⟨λ Z H Q=>∀ pins s,L2.Inv X pins Z H s->wpAny (model X.prog X.w) X.A (eval (.ListComp elt [⟨tg,iter,ifs,0⟩] scope pos) X.env) (EP X pins Z Q) X.xe s,λ pins s Z H Q I h=>h pins s I,λ Z H Δ M Φ Q dr er h k pins s I=>?_⟩;rw [eval_ListComp];refine VZ (ψ:=WQ ow Φ) ok hi hg ht he hc hs dr er h I λ s4 C D H' M' vs acc IX hDn dr' st rd fin hm f=>?_;obtain ⟨m,hm⟩:=hm;exact ⟨m,hm,λ h' hsb=>⟨.ref D,_,gone IX f hsb,rfl,RK dr' st rd hDn fin k⟩⟩
theorem ES (i:Nat) (ow:Bool) {x:Str} {pos' spos:Pos} (hN:X.N.Nodup) {elt:Expr} {ifs:List Expr} {pos:Pos} {src:UU} {g:DTG} {tc:DTT} {te:DTE} (ok:Q3 X scope N ix) (hi:DIG X tg iter src)
  (hg:∀ C ex s H,DG (Zx X scope C N ex s H) tg g) (ht:∀ C ex s H,DTs (Zx X scope C N ex s H) ifs tc) (he:∀ C ex s H,DE (Zx X scope C N ex s H) elt te) (hc:X.calm = true)
  (hs:autoParam (∀ x,foldedSetIterable iter X.env x = pure x) zz2._auto_1) (hin:autoParam (X.N[i]? = some x) zz3._auto_1) (hx:autoParam (Loc X.env.scope x) zz7._auto_1)
  (hsw:autoParam (swapsWith (.ListComp elt [⟨tg,iter,ifs,0⟩] scope pos) (some (.Name x pos')) spos.line X.env = pure true) zz3._auto_1)
  (hf:autoParam (X.fn x = true \/ X.env.scope.names.lookup x = some .local) zz0._auto_1) :
  DS X (.Assign [.Name x pos'] (.ListComp elt [⟨tg,iter,ifs,0⟩] scope pos) spos) (Px (WN ow src ix g tc te) (V7 i)):=by
 refine ⟨λ E Z H=>∀ pins s,L2.Inv X pins Z H s->wpAny (model X.prog X.w) X.A (exec (.Assign [.Name x pos'] (.ListComp elt [⟨tg,iter,ifs,0⟩] scope pos) spos) X.env) (SP X pins E) X.xe s,λ pins s Z H E I h=>h pins s I,λ Z H Δ M D E dr er h k pins s I=>?_⟩;rw [exec_Assign_Name_used _ _ _ _ hsw];refine wpAny_bind (wpAny_standAt (wpAny_bind ?_));show wpAny _ _ (do let _ <- comprehension (.ListComp elt [⟨tg,iter,ifs,0⟩] scope pos) scope X.env _ (newList []) false (eval iter X.env) (some (assign (.Name x pos') X.env))) _ _ s
 refine wpAny_bind (wpAny_mono (VZ (QQ:=λ _ s'=>SP X pins E .next s') (use:=some (assign (.Name x pos') X.env)) (ψ:=WQ ow λ y M1=>D.nx (Δ.set i (some y)) M1) ok hi hg ht he hc hs dr er h I λ s4 C DD H' M' vs acc IX hDn dr' st rd fin hm f=>?_)
  (λ _ s' hq=>wpAny_pure (wpAny_pure hq)) λ _ _ e=>e)
 obtain ⟨m,hm⟩:=hm;have hm0:=hm;obtain ⟨oC,es,ep,hoC,hr1,hr2⟩:=hm0;have IP:L2.Inv X (pins ++ [(C,oC)]) Z (upd H' DD (.lst vs)) s4:=IX.Vk λ p hp=>by
  rcases List.mem_append.mp hp with hp | hp
  ·exact IX.pin p (List.mem_append_right _ hp)
  ·rw [List.mem_singleton.mp hp];exact ⟨hoC,f.1,f.2.1,f.2.2.1,λ v z=>nomatch (hr1.symm.trans z)⟩
 have nxt:∀ Q':L2.St->Hp->Prop,(Q' (Z.set i (some (.ref DD))) (upd H' DD (.lst vs)))->wpAny (model X.prog X.w) X.A (assign (.Name x pos') X.env (.ref DD)) (λ _ s'=>∃ σ' H',L2.Inv X (pins ++ [(C,oC)]) σ' H' s' /\ Q' σ' H') X.xe s4:=λ Q' hq=>
  GA (pos:=pos') hN hin hx hf _ s4 Z _ (.ref DD) (.ref DD) Q' IP rfl hq
 have kq:E.nx (Z.set i (some (.ref DD))) (upd H' DD (.lst vs)):=by
  cases ow with
  | true=>
   have fin':∀ p,M' p = none->D.nx (Δ.set i (some (.own p))) (Zu M' p (.lst acc)):=by simpa [WQ] using fin
   have st2:Step M H (Zu M' DD (.lst acc)) (upd H' DD (.lst vs)):=st.trans (Step.QO hDn);exact k.nx _ _ _ _ (dr'.Vb (Step.QO hDn) rd) st2 ((er.step st2).set (v:=.ref DD) (x:=.own DD) rfl) (fin' DD (dr'.tracked hDn))
  | false=>
   have fin':D.nx (Δ.set i (some (.dat (.list acc)))) M':=by simpa [WQ] using fin
   have st2:Step M H M' (upd H' DD (.lst vs)):=st.trans (Step.new hDn);exact k.nx _ _ _ _ (dr'.new hDn) st2 ((er.step st2).set (v:=.ref DD) (x:=.dat (.list acc)) (Dt.Jh dr' hDn rd)) fin'
 show wpAny _ _ (assign (.Name x pos') X.env (.ref DD)) _ _ s4;refine thn (nxt (λ σ' H'=>σ' = Z.set i (some (.ref DD)) /\ E.nx σ' H') ⟨rfl,kq⟩) λ _ s5 ⟨σ5,H5,I5,_,q5⟩=>?_;have p5:=I5.pin (C,oC) (by simp);refine ⟨m,Tv hm λ o ho=>?_,λ h' hsb=>⟨σ5,H5,?_,q5⟩⟩
 ·rw [hoC] at ho;cases ho;exact p5.1
 ·have I6:L2.Inv X pins σ5 H5 s5:=I5.Vk λ p hp=>I5.pin p (List.mem_append_right _ (List.mem_append_left _ hp));exact gone I6 ⟨p5.2.1,f.2⟩ hsb
def toG (src:VN):UU:=λ Δ M Ψ=>src Δ M λ ds M1=>Ψ ds (λ _=>True) M1
theorem DI.toG {src:VN} (h:DI X tg iter src):DIG X tg iter (toG src):=by
 obtain ⟨wi,p,q⟩:=h;exact ⟨wi,p,λ Z H Δ M Ψ R dr er hs k=>q Z H Δ M _ R dr er hs λ J H' M' ds a b c d=>k J H' M' ds _ a b (λ M2 H2 st _ _=>c M2 H2 st) d⟩
theorem B5 (ow:Bool) (src:VN) (ix:List (Option Nat)) (g:DTG) (tc:DTT) (te:DTE):UM ow src ix g tc te = WN ow (toG src) ix g tc te:=by
 funext Δ M Φ
 unfold UM WN toG;simp only [implies_true,true_and]
theorem Jl (ow:Bool) {elt:Expr} {ifs:List Expr} {pos:Pos} {src:VN} {g:DTG} {tc:DTT} {te:DTE} (ok:Q3 X scope N ix) (hi:DI X tg iter src)
  (hg:∀ C ex s H,DG (Zx X scope C N ex s H) tg g) (ht:∀ C ex s H,DTs (Zx X scope C N ex s H) ifs tc) (he:∀ C ex s H,DE (Zx X scope C N ex s H) elt te) (hc:X.calm = true)
  (hs:autoParam (∀ x,foldedSetIterable iter X.env x = pure x) zz2._auto_1):DE X (.ListComp elt [⟨tg,iter,ifs,0⟩] scope pos) (UM ow src ix g tc te):=by
 rw [B5];exact D7 ow ok hi.toG hg ht he hc hs
theorem Bo (i:Nat) (ow:Bool) {x:Str} {pos' spos:Pos} (hN:X.N.Nodup) {elt:Expr} {ifs:List Expr} {pos:Pos} {src:VN} {g:DTG} {tc:DTT} {te:DTE} (ok:Q3 X scope N ix) (hi:DI X tg iter src)
  (hg:∀ C ex s H,DG (Zx X scope C N ex s H) tg g) (ht:∀ C ex s H,DTs (Zx X scope C N ex s H) ifs tc) (he:∀ C ex s H,DE (Zx X scope C N ex s H) elt te) (hc:X.calm = true)
  (hs:autoParam (∀ x,foldedSetIterable iter X.env x = pure x) zz2._auto_1) (hin:autoParam (X.N[i]? = some x) zz3._auto_1) (hx:autoParam (Loc X.env.scope x) zz7._auto_1)
  (hsw:autoParam (swapsWith (.ListComp elt [⟨tg,iter,ifs,0⟩] scope pos) (some (.Name x pos')) spos.line X.env = pure true) zz3._auto_1)
  (hf:autoParam (X.fn x = true \/ X.env.scope.names.lookup x = some .local) zz0._auto_1) :
  DS X (.Assign [.Name x pos'] (.ListComp elt [⟨tg,iter,ifs,0⟩] scope pos) spos) (Px (UM ow src ix g tc te) (V7 i)):=by
 rw [B5];exact ES i ow hN ok hi.toG hg ht he hc hs hin hx hsw hf
end
def JR (xs:List DV) (M:Mp) (ns:List Int):Prop:=xs = [.dat (.list (ns.map PyData.int))] \/ ∃ l,xs = [.own l] /\ M l = some (.lst (ns.map PyData.int))
def Ou:D1:=λ xs M Φ=>∃ ns:List Int,JR xs M ns /\ ns.length < 64 /\ ∀ ns':List Int,ns'.Perm ns->ns'.Pairwise (· <= ·)->Φ (.dat (.list (ns'.map PyData.int))) M
def PX:D1:=λ xs M Φ=>∃ ns:List Int,JR xs M ns /\ 0 < ns.length /\ ∀ m ∈ ns,(∀ a ∈ ns,m <= a)->Φ (.dat (.int m)) M
def SJ:D1:=λ xs M Φ=>∃ ns:List Int,JR xs M ns /\ 0 < ns.length /\ ∀ m ∈ ns,(∀ a ∈ ns,a <= m)->Φ (.dat (.int m)) M
def δ3I (g:Int->Int->Int->Int):D1:=λ xs M Φ=>on3 xs λ x y z=>onI x λ i=>onI y λ j=>onI z λ l=>Φ (.dat (.int (g i j l))) M
def Cu:D1:=λ xs M Φ=>on1 xs λ x=>onQ x M λ ds=>Φ (.dat (.tuple ds)) M
theorem Je:JX X (.type "tuple") Cu:=by
 refine ⟨_,YW,λ vs H xs M Φ Q r rv h k=>?_⟩;replace h:=ZU h;obtain ⟨x,rfl,h⟩:=h;replace h:=BQ h;obtain ⟨ds,hx,q⟩:=h;have hx':x = .dat (.list ds) \/ x = .dat (.tuple ds) \/ ∃ l,x = .own l /\ M l = some (.lst ds):=by
  rcases hx with a | a | a
  ·exact .inr (.inl a)
  ·exact .inl a
  ·exact .inr (.inr a)
 rcases hx' with rfl | rfl | ⟨l,rfl,hm⟩
 ·obtain ⟨v,rfl,h1⟩:=Paired.one rv;obtain ⟨p,ys,rfl,g1,g2⟩:=Qd.lst h1;exact ⟨p,ys,rfl,.inl ⟨g1.sq,λ l hl=>k.dat (r.new hl) (Step.new hl) (Dt.Y9 r hl g2) q⟩⟩
 ·obtain ⟨v,rfl,h1⟩:=Paired.one rv;obtain ⟨p,ys,rfl,g1,g2⟩:=Qd.tup h1;exact ⟨p,ys,rfl,.inr ⟨g1.sq,k.dat r Step.refl (Dt.tup g1 g2) q⟩⟩
 ·obtain ⟨v,rfl,h1⟩:=Paired.one rv;cases (show v = .ref l from h1);obtain ⟨ws,g1,g2⟩:=r.ls l _ hm;exact ⟨l,ws,rfl,.inl ⟨SqL.of g1,λ l hl=>k.dat (r.new hl) (Step.new hl) (Dt.Y9 r hl g2) q⟩⟩
def onW (x:DV) (P:List PyData->Prop):Prop:=match x with | .dat (.tuple ds)=>P ds | .dat (.list ds)=>P ds | _=>False
noncomputable def okIn (d:PyData) (ds:List PyData):Bool:=d.canLay0 && PyData.canLayAll0 ds && Nat.ble d.depth 64
def δIn:D2:=λ x y M Φ=>onD x λ d=>onW y λ ds=>okIn d ds = true /\ Φ (.dat (.bool (ds.any λ e=>PyData.eqv e d))) M
def Mn (to te:DTE):DTE:=λ Δ M Φ=>to Δ M λ x M1=>onO x λ l=>QG (M1 l) λ _=>te Δ M1 λ y M2=>onO y λ b=>QG (M2 l) λ ds=>QG (M2 b) λ es=>b ≠ l /\ ds.length + es.length <= sizeLine /\ Φ (.dat .none) (Jj (Zu M2 l (.lst (ds ++ es))) b)
def Zc6 (te:DTE) (tl th:DTO):DTE:=λ Δ M Φ=>te Δ M λ x M1=>tl Δ M1 λ l M2=>th Δ M2 λ u M3=>onL x λ ds=>Φ (.dat (.list (cutD ds l u))) M3
theorem X5 {lo hi:Option Expr} {tl th:DTO} (he:DE X e te) (hl:DO X lo tl) (hu:DO X hi th):DE X (.Subscript e (.Slice lo hi none p2) pos) (Zc6 te tl th):=by
 obtain ⟨t1,p1,q1⟩:=he;obtain ⟨t2,p2,q2⟩:=hl;obtain ⟨t3,p3,q3⟩:=hu;refine ⟨_,Yp N9 p1 p2 p3,λ Z H Δ M Φ Q r e h k=>?_⟩;refine q1 Z H Δ M _ _ r e h λ v H1 x M1 r1 st rv hx=>?_;refine q2 Z H1 Δ M1 _ _ r1 (e.step st) hx λ l H2 M2 r2 st2 hl=>?_;refine q3 Z H2 Δ M2 _ _ r2 (e.step (st.trans st2)) hl λ u H3 M3 r3 st3 hu=>?_;replace hu:=XI hu;obtain ⟨ds,rfl,hu⟩:=hu;obtain ⟨a,xs,rfl,h1,h2⟩:=(rv.step (st2.trans st3)).lst;refine ⟨a,xs,rfl,h1.sq,λ p hp=>?_⟩;exact k.dat (r3.new hp) ((st.trans (st2.trans st3)).trans (Step.new hp)) (Dt.Jh r3 hp (h2.cut l u)) hu
noncomputable def ER (scope sc:Scope):List (Str × NameKind):=scope.names.map λ (n,k)=>if (k == .free && sc.kind == .function && sc.names.lookup n == some .cell) then (n,.cell) else (n,k)
noncomputable def S3 (sc:Scope) (XN:List Str) (scope:Scope) (N:List Str) (ix:List (Option Nat)) (j:Nat):Bool:=
 match N[j]?,ix[j]? with
 | some x,some (some i)=>decide (XN[i]? = some x) && (decide ((x,NameKind.free) ∈ scope.names) && decide ((ER scope sc).lookup x = some .cell))
 | _,_=>true
theorem Z3 {sc:Scope} {XN:List Str} {scope:Scope} {N:List Str} {ix:List (Option Nat)} (hsc:X.env.scope = sc) (hN:X.N = XN)
  (h:scope.kind = .function /\ (∀ y ∈ scope.names,y.2 ≠ .cell) /\ (∀ y ∈ scope.names,y.2 = .local->scope.names.lookup y.1 = some .local) /\ (∀ y ∈ scope.names,y.2 = .free->sc.names.lookup y.1 = some .cell) /\ N.length = ix.length /\
   ∀ j ∈ List.range N.length,S3 sc XN scope N ix j = true):Q3 X scope N ix:=by
 obtain ⟨h1,h2,h3,h4,h5,h6⟩:=h;subst hsc hN;refine ⟨h1,h2,h3,h4,h5,λ j x i hx hi=>?_⟩;have hj:j < N.length:=(List.getElem?_eq_some_iff.mp hx).1;have q:=h6 j (List.mem_range.mpr hj);unfold S3 at q;rw [hx,hi] at q;simp only [Bool.and_eq_true,decide_eq_true_eq] at q;exact ⟨q.1,q.2.1,q.2.2⟩
theorem fresh_ne (h:Zu M p o b = none):b ≠ p:=λ e=>by rw [e,Zv] at h; cases h
theorem take_snoc {α β:Type} {l:List α} {i:Nat} {a:α} (f:α->β) (h:l[i]? = some a):(l.take i).map f ++ [f a] = (l.take (i + 1)).map f:=by
 rw [List.take_add_one,h,List.map_append];rfl
theorem Q6 {α β:Type} {l:List α} {f:α->β} {i:Nat} {b:β} (h:(l.map f)[i]? = some b):∃ a,l[i]? = some a /\ f a = b:=by
 rw [List.getElem?_map] at h;cases q:l[i]? with
 | none=>rw [q] at h; cases h
 | some a=>rw [q] at h; exact ⟨a,rfl,by simpa using h⟩
def gc (Φ:DK):DK:=λ x M=>∃ ps:List Addr,Φ x (ps.foldl Jj M)
theorem PH {Φ:DK} {Q:VK} (k:Rch K M H Φ Q) {x:DV}:∀ (ps:List Addr) (M':Mp),Zz K M' H'->Step M H M' H'->Qd K M' H' v x->Φ x (ps.foldl Jj M')->Q v H'
 | [],M',r,st,rv,f=>k v H' x M' r st rv f
 | p :: ps,M',r,st,rv,f=>PH k ps (Jj M' p) r.frz (st.trans Step.frz) (rv.step Step.frz) f
theorem L9 {Φ:DK} {Q:VK} (k:Rch K M H Φ Q):Rch K M H (gc Φ) Q:=λ _ _ _ M' r st rv ⟨ps,f⟩=>PH k ps M' r st rv f
theorem okG {P:Program} {w:World} {mg:Str->Option Value} {base:Heap} {ps:List Str} {k:Nat} {S:DSp} (F:Fun K x qual st f fd) (Sc:ZA N ps (Zf st)) (len:∀ xs M Φ,S xs M Φ->xs.length = ps.length)
  (hbody:∀ (cdv:Value) (A:Around) (outer:List Env) (s:Shared) (H:Hp) (E:XK),QS k (A.deeper (envOfC qual (Zf st) s.heap.objs.size f cdv)) ->
   ∃ τ,DSs (Ll CX0 P w K mg base N qual (Zf st) f cdv A outer s H E).nox (Qy st) τ /\ ∀ xs M Φ,S xs M Φ->τ { nx:=λ _ M'=>gc Φ (.dat .none) M',rt:=gc Φ } (JT N xs) M):Q7 P w K mg base CX0 (k + 1) f fd ps (lift K S):=by
 refine F.ok Sc (λ vs H Q E h=>?_) λ cdv A outer s H vs Q E hr h=>?_
 ·obtain ⟨xs,M,Φ,_,rv,hs,_⟩:=h;rw [Paired.length rv];exact len xs M Φ hs
 ·obtain ⟨xs,M,Φ,r,rv,hs,kk⟩:=h;obtain ⟨τ,⟨t,p,q⟩,hτ⟩:=hbody cdv A outer s H E hr;refine ⟨t,p,q (start N vs) H (JT N xs) M _ _ r (Qr.start rv) (hτ xs M Φ hs) ⟨λ σ' H' Δ' M' r' st' e' hn=>?_,L9 kk,λ _ _ _ _ _ _ _ h=>h.elim,λ _ _ _ _ _ _ _ h=>h.elim⟩⟩;exact (L9 kk).dat r' st' Dt.non hn
theorem Y8 {Φ:DK} {x:DV} (hp:M p = none) (h:Φ x M):gc Φ x (Zu M p o):=⟨[p],by
 show Φ x (Jj (Zu M p o) p)
 rw [Kd hp]; exact h⟩
theorem YM {k:Nat} (h:n < 2 ^ k) (hk:0 < k):n.log2 < k:=by
 by_cases h0:n = 0
 ·subst h0; simpa using hk
 ·exact (Nat.log2_lt h0).mpr h
def Mid (i:Int):Prop:=-(10 ^ 70) <= i /\ i <= 10 ^ 70
theorem Mid.show {i:Int} (h:Mid i):(PyData.int i).showable = true:=by
 have h1:i.natAbs.log2 < 240:=YM (by unfold Mid at h; omega) (by decide);simp only [PyData.showable,decide_eq_true_eq];omega
def Sn:D1:=λ xs M Φ=>∃ ns:List Int,JR xs M ns /\ Φ (.dat (.int ns.sum)) M
def PF:D1:=λ xs M Φ=>∃ bs:List Bool,xs = [.dat (.list (bs.map PyData.bool))] /\ Φ (.dat (.bool (bs.all id))) M
def TK:D1:=λ xs M Φ=>∃ bs:List Bool,xs = [.dat (.list (bs.map PyData.bool))] /\ Φ (.dat (.bool (bs.any id))) M
def Zaq:D1:=λ xs M Φ=>on1 xs λ x=>onB x λ b=>Φ (.dat (.int (if b = true then 1 else 0))) M
def Zdi (i j:Nat) (ta:DTA):DTS:=λ D Δ M=>ta Δ M λ xs M1=>on2 xs λ x y=>D.nx ((Δ.set i (some x)).set j (some y)) M1
def OH (x:DV) (M:Mp) (ds:List PyData):Prop:=x = .dat (.list ds) \/ ∃ l,x = .own l /\ M l = some (.lst ds)
theorem OH.sq {x:DV} (h:OH x M ds) (r:Zz X.K M H) (rv:Qd X.K M H v x):∃ p ys,v = .ref p /\ SqL X.K H p ys /\ Dts X.K M H ys ds:=by
 rcases h with rfl | ⟨l,rfl,hm⟩
 ·obtain ⟨p,ys,rfl,g1,g2⟩:=Qd.lst rv;exact ⟨p,ys,rfl,g1.sq,g2⟩
 ·cases (show v = .ref l from rv);obtain ⟨ws,g1,g2⟩:=r.ls l _ hm;exact ⟨l,ws,rfl,SqL.of g1,g2⟩
def LR:D2:=λ x y M Φ=>onK x M λ ds=>onK y M λ es=>ds.length + es.length <= sizeLine /\ Φ (.dat (.list (ds ++ es))) M
theorem Oq:OpD X (binaryOp .Add) LR:=by
 refine ⟨_,UE,λ v u H x y M Φ Q r rv ru h k=>?_⟩;replace h:=X6 h;obtain ⟨ds,hx,h⟩:=h;replace h:=X6 h;obtain ⟨es,hy,hz,q⟩:=h;replace hx:OH x M ds:=hx;replace hy:OH y M es:=hy;obtain ⟨a,xs,rfl,h1,h2⟩:=hx.sq r rv;obtain ⟨b,ys,rfl,h3,h4⟩:=hy.sq r ru;exact ⟨a,b,xs,ys,rfl,rfl,h1,h3,by rw [h2.length,h4.length]; exact hz,λ p hp=>k.dat (r.new hp) (Step.new hp) (Dt.Jh r hp (h2.append h4)) q⟩
def Zda (te:DTE) (tl th:DTO):DTE:=λ Δ M Φ=>te Δ M λ x M1=>tl Δ M1 λ l M2=>th Δ M2 λ u M3=>onK x M3 λ ds=>Φ (.dat (.list (cutD ds l u))) M3
def Pr (ta:DTA):DTE:=λ Δ M Φ=>ta Δ M λ xs M1=>on2 xs λ x y=>onI x λ i=>onI y λ j=>(InR i /\ InR j) /\ (j - i).toNat <= 16777216 /\ Φ (.dat (.list (Yn i (j - i).toNat))) M1
def Zdm (i:Nat) (te:DTE) (f:Int->Int->Int):DTS:=λ D Δ M=>onV Δ[i]? λ z=>onI z λ a=>te Δ M λ x M1=>onI x λ b=>D.nx (Δ.set i (some (.dat (.int (f a b))))) M1
noncomputable def ltP (p q:Int × Int):Bool:=if p.1 = q.1 then decide (p.2 < q.2) else decide (p.1 < q.1)
theorem BP (p:Int × Int):ltP p p = false:=by unfold ltP; rw [if_pos rfl]; exact decide_eq_false (by lia)
section
variable {prog:Program} {E:Value->Shared->Prop}
end
section
variable {prog:Program} {R:Result->Shared->Prop} {I:Addr} {fp wr:List Addr} {P:Nat->Value->Prop} {St:Nat->Heap->Prop}
end
section
variable {prog:Program} {E:Value->Shared->Prop}
end
def RZ (i j:Int):Prop:=0 < j /\ j.natAbs.log2 < 9000
theorem HI:OpR X (binaryOp .FloorDiv) (rI RZ λ i j=>.int (i / j)):=opI λ i j _ _ _ _ _ hc q=>by
 have h1:(0:Int) < j:=hc.1;exact floordiv_int (by lia) (by rw [Int.fdiv_eq_ediv_of_nonneg i (by lia)]; exact q) (.inl (PyProof.noPylong_of_log2 hc.2))
theorem WK:OpD X (binaryOp .FloorDiv) (δI RZ λ i j=>.int (i / j)):=Rr HI
noncomputable def prD (q:Int × Int):PyData:=.tuple [.int q.1,.int q.2]
def Tt:D1:=λ xs M Φ=>∃ qs:List (Int × Int),xs = [.dat (.list (qs.map prD))] /\ 0 < qs.length /\ ∀ q ∈ qs,(∀ r ∈ qs,ltP r q = false)->Φ (.dat (prD q)) M
noncomputable def ZaA {α:Type} [DecidableEq α] (ks:List α) (k:α):Bool:=decide (k ∈ ks)
noncomputable def Zcw {α:Type} [DecidableEq α] (ks:List α) (k:α):List α:=if k ∈ ks then ks else ks ++ [k]
def MO:DTE:=λ _ M Φ=>∀ p,M p = none->Φ (.own p) (Zu M p (.dct []))
noncomputable def kP (i j:Int):List Key:=[.inl i,.inl j]
def Zb9 (td:DTE) (ta:DTA) (tv:DTE):DTS:=λ D Δ M=>tv Δ M λ x M1=>td Δ M1 λ y M2=>ta Δ M2 λ zs M3=>onD x λ _=>onO y λ l=>on2 zs λ p q=>onI p λ i=>onI q λ j=>O2 (M3 l) λ ks=>ks.length < sizeLine /\ D.nx Δ (Zu M3 l (.dct (Zcw ks (kP i j))))
theorem SM {Z:L2.St} {ks:List Key} (I:L2.Inv X pins Z H s) (h:SqT X.K H b (ks.map kV)):(tupleKind (Zy X.prog X.w)).is s.heap ks b:=by
 obtain ⟨its,r,⟨o,e,c,n,d⟩,_⟩:=I.tuple h;exact ⟨o,its.toArray,n,e,c,d,by simpa using Vy r⟩
def onP (x:DV) (P:Int->Int->Prop):Prop:=match x with | .dat (.tuple [.int i,.int j])=>P i j | _=>False
theorem Rj {x:DV} {P:Int->Int->Prop} (h:onP x P):∃ i j,x = .dat (.tuple [.int i,.int j]) /\ P i j:=by
 unfold onP at h
 split at h
 ·exact ⟨_,_,rfl,h⟩
 ·exact h.elim
def Zby:D2:=λ x y M Φ=>onP x λ i j=>onO y λ l=>O2 (M l) λ ks=>Φ (.dat (.bool (ZaA ks (kP i j)))) M
theorem Ul {α β:Type} {f g:α->Option β}:∀ {l:List α},(∀ k ∈ l,f k = g k)->l.filterMap f = l.filterMap g
 | [],_=>rfl
 | a :: l,h=>by
  have h1:=h a List.mem_cons_self;have h2:=Ul (l:=l) λ k hk=>h k (List.mem_cons_of_mem _ hk);cases e:f a with
  | none=>rw [List.filterMap_cons_none e,List.filterMap_cons_none (by rw [<- h1]; exact e),h2]
  | some b=>rw [List.filterMap_cons_some e,List.filterMap_cons_some (by rw [<- h1]; exact e),h2]
section
variable {prog:Program} {E:Value->Shared->Prop}
end
def Zbr (te ts:DTE):DTE:=λ Δ M Φ=>te Δ M λ x M1=>ts Δ M1 λ y M2=>onT x λ ds=>onI y λ i=>i = -1 /\ Φ (.dat (.tuple ds.reverse)) M2
theorem Dts.reverse:∀ {vs:List V} {ds:List PyData},Dts K M H vs ds->Dts K M H vs.reverse ds.reverse
 | _,_,.nil=>.nil
 | _,_,.cons h1 h2=>by
  rw [List.reverse_cons,List.reverse_cons];exact (Dts.reverse h2).append (.cons h1 .nil)
section
variable {prog:Program} {E:Value->Shared->Prop}
theorem Gk {t sl:Addr} {items:Array Value} {vl vu:Value} {lo hi:Option Int} {Q:Value->Shared->Prop} (ht:IsTup s.heap t items) (hs:s.heap.IsSliceOf sl vl vu .none) (pl:IsPart vl lo) (pu:IsPart vu hi)
  (hw:HT.sIx items.size 0 lo = 0 /\ HT.sIx items.size items.size hi = items.size) (h:Q (.ref t) s):wpAny (model prog w) A (getItem (.ref t) (.ref sl)) Q E s:=by
 obtain ⟨os,hos,hcs,hds⟩:=id hs;have hTs:s.TypeIs (.ref sl) "slice" := ⟨os,hos,hcs⟩
 unfold getItem
 try with_reducible refine wpAny_holding ?_
 first | refine wpAny_bind (wpAny_pure ?_) | skip
 refine wpAny_bind (wpAny_sequenceKey ht.typeIs (by decide) ?_);refine wpAny_bind (wpAny_callSpecial?_slot (name:=Str.ofString "__getitem__") ht.typeIs PyProof.Rows.slot_tuple_getitem (wpAny_call_entry PyProof.Rows.slot_tuple_getitem ht.typeIs entry_tuple_getitem ?_ (args_tuple_getitem _ _)));show wpAny _ _ (Builtin.Tuple.tupleItemsOf (.ref t) >>= _) _ _ s;refine wpAny_bind (tupleItemsOf_ ht (wpAny_bind (wpAny_typeOf hTs ?_)));rw [if_pos (by decide)];refine wpAny_bind (HT.QR hs pl pu ?_);rw [hw.1,hw.2,Nat.sub_zero];show wpAny _ _ (if ((((0:Nat):Int) == 0) && ((1:Int) == 1) && (items.size == items.size)) = true then _ else _) _ _ s;rw [if_pos (by simp)];unfold Builtin.Tuple.tupleIsExact;refine wpAny_bind (wpAny_bind (wpAny_typeOf ht.typeIs (wpAny_pure ?_)));rw [if_pos (by decide)];exact wpAny_bind (wpAny_rule (wpAny_pure ⟨_,rfl,wpAny_pure h⟩))
end
def Zbm (K:Fj):V->Option Int->Option Int->Hp->VK->Prop:=λ x lo hi H Q=>∃ a xs,x = .ref a /\ SqT K H a xs /\ (HT.sIx xs.length 0 lo = 0 /\ HT.sIx xs.length xs.length hi = xs.length) /\ Q (.ref a) H
theorem Nu:SlR X (Zbm X.K):=by
 intro pins s Z H x v vl vu lo hi sl Q I rx hs pl pu h;obtain ⟨a,xs,rfl,hx,hw,q⟩:=h;cases (show v = .ref a from rx);obtain ⟨its,r,ht,hz⟩:=I.tuple hx;have hlen:its.toArray.size = xs.length:=by rw [List.size_toArray]; exact r.length.symm
 exact ⟨"tuple",_,PyProof.Rows.slot_tuple_getitem.lookup,ht.typeIs,Gk ht hs pl pu (by rw [hlen]; exact hw) ⟨.ref a,H,I,rfl,q⟩⟩
def P7 (te:DTE) (tl th:DTO):DTE:=λ Δ M Φ=>te Δ M λ x M1=>tl Δ M1 λ l M2=>th Δ M2 λ u M3=>onT x λ ds=>Φ (.dat (.tuple (cutD ds l u))) M3
theorem ZI {lo hi:Option Expr} {tl th:DTO} (he:DE X e te) (hl:DO X lo tl) (hu:DO X hi th):DE X (.Subscript e (.Slice lo hi none p2) pos) (P7 te tl th):=by
 obtain ⟨t1,p1,q1⟩:=he;obtain ⟨t2,p2,q2⟩:=hl;obtain ⟨t3,p3,q3⟩:=hu;refine ⟨_,Yp (Rv.or Nu) p1 p2 p3,λ Z H Δ M Φ Q r e h k=>?_⟩;refine q1 Z H Δ M _ _ r e h λ v H1 x M1 r1 st rv hx=>?_;refine q2 Z H1 Δ M1 _ _ r1 (e.step st) hx λ l H2 M2 r2 st2 hl=>?_;refine q3 Z H2 Δ M2 _ _ r2 (e.step (st.trans st2)) hl λ u H3 M3 r3 st3 hu=>?_;replace hu:=WC hu;obtain ⟨ds,rfl,hu⟩:=hu;obtain ⟨a,xs,rfl,h1,h2⟩:=(rv.step (st2.trans st3)).tup
 by_cases hw:HT.sIx xs.length 0 l = 0 /\ HT.sIx xs.length xs.length u = xs.length
 ·refine .inr ⟨a,xs,rfl,h1.sq,hw,k.dat r3 (st.trans (st2.trans st3)) (Dt.tup h1 h2) ?_⟩;have e:cutD ds l u = ds:=by
   unfold cutD;rw [<- h2.length,hw.1,hw.2,List.drop_zero,Nat.sub_zero,h2.length,List.take_length]
  rw [e] at hu;exact hu
 ·refine .inl ⟨a,xs,rfl,h1.sq,hw,λ p hp=>?_⟩;exact k.dat (r3.new hp) ((st.trans (st2.trans st3)).trans (Step.new hp)) (Dt.Y9 r3 hp (h2.cut l u)) hu
def ZaD (x:DV) (M:Mp) (Φ:DK):Prop:=match x with | .dat (.list ds)=>Φ (.dat (.list ds)) M | .own l=>QG (M l) λ ds=>Φ (.dat (.list ds)) (Jj M l) | _=>False
def Zbv (t:DTE):DTE:=λ Δ M Φ=>t Δ M λ x M1=>ZaD x M1 Φ
theorem N4 {τ τ':DTE} (h:DE X e τ) (k:∀ Δ M Φ,τ' Δ M Φ->τ Δ M Φ):DE X e τ':=by
 obtain ⟨t,p,q⟩:=h;exact ⟨t,p,λ Z H Δ M Φ Q a b c d=>q Z H Δ M Φ Q a b (k _ _ _ c) d⟩
theorem Nq {s:Stmt} {τ τ':DTS} (h:DS X s τ) (k:∀ D Δ M,τ' D Δ M->τ D Δ M):DS X s τ':=by
 obtain ⟨t,p,q⟩:=h;exact ⟨t,p,λ Z H Δ M D E a b c d=>q Z H Δ M D E a b (k _ _ _ c) d⟩
def ZaV (src:VN):VN:=λ Δ M Ψ=>∃ Ψ',src Δ M Ψ' /\ ∀ ds M1,Ψ' ds M1->Ψ ds M1
theorem DI.mono {src:VN} (h:DI X tg iter src):DI X tg iter (ZaV src):=by
 obtain ⟨wi,p,q⟩:=h;exact ⟨wi,p,λ Z H Δ M Ψ R dr er ⟨Ψ',h1,h2⟩ k=>q Z H Δ M Ψ' R dr er h1 λ J H' M' ds a b c d=>k J H' M' ds a b c (h2 _ _ d)⟩
def Qg (g:DTG) (tc:DTT) (te:DTE) (Δc:DSt) (fin:List PyData->Mp->Prop):List PyData->List PyData->Mp->Prop
 | [],acc,M=>fin acc M
 | d :: ds,acc,M=>g (.dat d) Δc M λ Δ2 M2=>tc Δ2 M2 λ b M3=>if b = true then te Δ2 M3 λ y M4=>onD y λ e=>Qg g tc te Δc fin ds (acc ++ [e]) M4 else Qg g tc te Δc fin ds acc M3
theorem GV (g:DTG) (tc:DTT) (te:DTE) (Δc:DSt) (fin:List PyData->Mp->Prop) (acc:List PyData) (M:Mp):Qg g tc te Δc fin [] acc M = fin acc M:=by rw [Qg]
theorem Cn (g:DTG) (tc:DTT) (te:DTE) (Δc:DSt) (fin:List PyData->Mp->Prop) (d:PyData) (ds acc:List PyData) (M:Mp):Qg g tc te Δc fin (d :: ds) acc M =
  g (.dat d) Δc M λ Δ2 M2=>tc Δ2 M2 λ b M3=>if b = true then te Δ2 M3 λ y M4=>onD y λ e=>Qg g tc te Δc fin ds (acc ++ [e]) M4 else Qg g tc te Δc fin ds acc M3:=by rw [Qg]
theorem FK {g:DTG} {Δc:DSt} {fin:List PyData->Mp->Prop} (h:Qg g tc te Δc fin ds [] M):∃ J:Nat->List PyData->Mp->Prop,J 0 [] M /\
 (∀ i d acc M',ds[i]? = some d->J i acc M'->g (.dat d) Δc M' λ Δ2 M2=>tc Δ2 M2 λ b M3=>if b = true then te Δ2 M3 λ y M4=>onD y λ e=>J (i + 1) (acc ++ [e]) M4 else J (i + 1) acc M3) /\
 ∀ acc M',J ds.length acc M'->fin acc M':=by
 refine ⟨λ i acc M'=>Qg g tc te Δc fin (ds.drop i) acc M',by simpa using h,λ i d acc M' e k=>?_,λ acc M' k=>?_⟩
 ·have ed:ds.drop i = d :: ds.drop (i + 1):=by
   obtain ⟨hi,e'⟩:=List.getElem?_eq_some_iff.mp e;rw [<- e',List.drop_eq_getElem_cons hi]
  dsimp only at k;rw [ed] at k;exact k
 ·dsimp only at k;rw [List.drop_length] at k;exact k
def WU (ow:Bool) (src:VN) (ix:List (Option Nat)) (g:DTG) (tc:DTT) (te:DTE):DTE:=λ Δ M Φ=>src Δ M λ ds M1=>ds.length <= sizeLine /\ Qg g tc te (Gn ix Δ) (WQ ow Φ) ds [] M1
theorem WL {ow:Bool} {src:VN} {g:DTG} (Δ:DSt) (M:Mp) (Φ:DK) (h:WU ow src ix g tc te Δ M Φ):UM ow (ZaV src) ix g tc te Δ M Φ:=
 ⟨_,h,λ _ _ ⟨a,b⟩=>⟨a,FK b⟩⟩
theorem Fl (ow:Bool) {elt:Expr} {ifs:List Expr} {pos:Pos} {src:VN} {g:DTG} {tc:DTT} {te:DTE} (ok:Q3 X scope N ix) (hi:DI X tg iter src)
  (hg:∀ C ex s H,DG (Zx X scope C N ex s H) tg g) (ht:∀ C ex s H,DTs (Zx X scope C N ex s H) ifs tc) (he:∀ C ex s H,DE (Zx X scope C N ex s H) elt te) (hc:X.calm = true)
  (hs:autoParam (∀ x,foldedSetIterable iter X.env x = pure x) zz2._auto_1):DE X (.ListComp elt [⟨tg,iter,ifs,0⟩] scope pos) (WU ow src ix g tc te):=
 N4 (Jl ow ok hi.mono hg ht he hc hs) WL
theorem E8 (i:Nat) (ow:Bool) {x:Str} {pos' spos:Pos} (hN:X.N.Nodup) {elt:Expr} {ifs:List Expr} {pos:Pos} {src:VN} {g:DTG} {tc:DTT} {te:DTE} (ok:Q3 X scope N ix) (hi:DI X tg iter src)
  (hg:∀ C ex s H,DG (Zx X scope C N ex s H) tg g) (ht:∀ C ex s H,DTs (Zx X scope C N ex s H) ifs tc) (he:∀ C ex s H,DE (Zx X scope C N ex s H) elt te) (hc:X.calm = true)
  (hs:autoParam (∀ x,foldedSetIterable iter X.env x = pure x) zz2._auto_1) (hin:autoParam (X.N[i]? = some x) zz3._auto_1) (hx:autoParam (Loc X.env.scope x) zz7._auto_1)
  (hsw:autoParam (swapsWith (.ListComp elt [⟨tg,iter,ifs,0⟩] scope pos) (some (.Name x pos')) spos.line X.env = pure true) zz3._auto_1)
  (hf:autoParam (X.fn x = true \/ X.env.scope.names.lookup x = some .local) zz0._auto_1) :
  DS X (.Assign [.Name x pos'] (.ListComp elt [⟨tg,iter,ifs,0⟩] scope pos) spos) (Px (WU ow src ix g tc te) (V7 i)):=
 Nq (Bo i ow hN ok hi.mono hg ht he hc hs hin hx hsw hf) λ D Δ M h=>WL Δ M _ h
def JW (g:DTG) (tb:DTS) (D:Z1):List PyData->DSt->Mp->Prop
 | [],Δ,M=>D.nx Δ M
 | d :: ds,Δ,M=>g (.dat d) Δ M λ Δ2 M2=>tb { D with nx:=JW g tb D ds,ct:=JW g tb D ds,bk:=D.nx } Δ2 M2
theorem Fg (g:DTG) (tb:DTS) (D:Z1) (Δ:DSt) (M:Mp):JW g tb D [] Δ M = D.nx Δ M:=by rw [JW]
theorem FD (g:DTG) (tb:DTS) (D:Z1) (d:PyData) (ds:List PyData) (Δ:DSt) (M:Mp):JW g tb D (d :: ds) Δ M = g (.dat d) Δ M λ Δ2 M2=>tb { D with nx:=JW g tb D ds,ct:=JW g tb D ds,bk:=D.nx } Δ2 M2:=by rw [JW]
theorem UA (lo:Int) (n:Nat):Yn lo (n + 1) = .int lo :: Yn (lo + 1) n:=by
 unfold Yn;rw [List.range_succ_eq_map,List.map_cons,List.map_map]
 congr 1
 ·simp
 ·refine List.map_congr_left λ i _=>?_;show PyData.int _ = PyData.int _
  congr 1
  simp;lia
theorem R3 (lo:Int):Yn lo 0 = []:=rfl
theorem H9 (lo:Int):Yn lo 1 = [.int lo]:=by rw [UA]; rfl
theorem Lo (lo:Int):Yn lo 2 = [.int lo,.int (lo + 1)]:=by rw [UA,H9]
theorem Ln (lo:Int):Yn lo 3 = [.int lo,.int (lo + 1),.int (lo + 1 + 1)]:=by rw [UA,Lo]
theorem RI (lo:Int):Yn lo 4 = [.int lo,.int (lo + 1),.int (lo + 1 + 1),.int (lo + 1 + 1 + 1)]:=by rw [UA,Ln]
theorem Hf {A B:DTS} {D:Z1} {Δ:DSt} (h:∀ R,R = B->ZaG A R D Δ M):ZaG A B D Δ M:=h B rfl
theorem Ox {l:List Int} {r:Int} (h0:0 <= r) (h1:r < l.length):∃ w ∈ l,atI (l.map PyData.int) r = some (.int w):=by
 obtain ⟨d,e,hm⟩:=CF (l:=l.map PyData.int) h0 (by rw [List.length_map]; exact h1);obtain ⟨w,hw,rfl⟩:=List.mem_map.mp hm;exact ⟨w,hw,e⟩
theorem Wk  : ZJ "int" .none = false:=rfl
theorem K5 (b:Bool):ZJ "int" (.bool b) = true:=rfl
theorem UR (i:Int):ZJ "int" (.int i) = true:=rfl
theorem UW (z:Str):ZJ "int" (.str z) = false:=rfl
theorem KI (l:List PyData):ZJ "int" (.list l) = false:=rfl
theorem XD (l:List PyData):ZJ "int" (.tuple l) = false:=rfl
theorem KR (l:List (PyData × PyData)):ZJ "int" (.dict l) = false:=rfl
theorem Km  : ZJ "bool" .none = false:=rfl
theorem Xr (b:Bool):ZJ "bool" (.bool b) = true:=rfl
theorem KJ (i:Int):ZJ "bool" (.int i) = false:=rfl
theorem K7 (z:Str):ZJ "bool" (.str z) = false:=rfl
theorem Xq (l:List PyData):ZJ "bool" (.list l) = false:=rfl
theorem YJ (l:List PyData):ZJ "bool" (.tuple l) = false:=rfl
theorem X8 (l:List (PyData × PyData)):ZJ "bool" (.dict l) = false:=rfl
theorem YG  : ZJ "tuple" .none = false:=rfl
theorem Yv (b:Bool):ZJ "tuple" (.bool b) = false:=rfl
theorem XH (i:Int):ZJ "tuple" (.int i) = false:=rfl
theorem XO (z:Str):ZJ "tuple" (.str z) = false:=rfl
theorem YE (l:List PyData):ZJ "tuple" (.list l) = false:=rfl
theorem VP (l:List PyData):ZJ "tuple" (.tuple l) = true:=rfl
theorem Ym (l:List (PyData × PyData)):ZJ "tuple" (.dict l) = false:=rfl
theorem Xg  : ZJ "list" .none = false:=rfl
theorem XG (b:Bool):ZJ "list" (.bool b) = false:=rfl
theorem We (i:Int):ZJ "list" (.int i) = false:=rfl
theorem Kq (z:Str):ZJ "list" (.str z) = false:=rfl
theorem X7 (l:List PyData):ZJ "list" (.list l) = true:=rfl
theorem YX (l:List PyData):ZJ "list" (.tuple l) = false:=rfl
theorem Xz (l:List (PyData × PyData)):ZJ "list" (.dict l) = false:=rfl
theorem Wj  : ZJ "str" .none = false:=rfl
theorem KO (b:Bool):ZJ "str" (.bool b) = false:=rfl
theorem U7 (i:Int):ZJ "str" (.int i) = false:=rfl
theorem Gf (z:Str):ZJ "str" (.str z) = true:=rfl
theorem KL (l:List PyData):ZJ "str" (.list l) = false:=rfl
theorem XE (l:List PyData):ZJ "str" (.tuple l) = false:=rfl
theorem Wb (l:List (PyData × PyData)):ZJ "str" (.dict l) = false:=rfl
theorem X1  : ZJ "dict" .none = false:=rfl
theorem XT (b:Bool):ZJ "dict" (.bool b) = false:=rfl
theorem KQ (i:Int):ZJ "dict" (.int i) = false:=rfl
theorem K9 (z:Str):ZJ "dict" (.str z) = false:=rfl
theorem Kb (l:List PyData):ZJ "dict" (.list l) = false:=rfl
theorem YV (l:List PyData):ZJ "dict" (.tuple l) = false:=rfl
theorem Xx (l:List (PyData × PyData)):ZJ "dict" (.dict l) = true:=rfl
theorem Zbh (i j:Int):(PyData.int i).eqv (.int j) = decide (i = j):=by
 simp only [PyData.eqv]
 first | rfl | exact Bool.beq_eq_decide_eq _ _ | (rw [Bool.eq_iff_iff]; simp)
theorem ZbC (x y:Str):(PyData.str x).eqv (.str y) = decide (x = y):=by
 simp only [PyData.eqv]
 first | rfl | (rw [Bool.eq_iff_iff]; simp)
theorem Zbl (x y:Bool):(PyData.bool x).eqv (.bool y) = (x == y):=by
 simp only [PyData.eqv]
theorem Zce:PyData.none.eqv .none = true:=by simp only [PyData.eqv]
theorem ZbL (x y:List PyData):(PyData.tuple x).eqv (.tuple y) = PyData.eqvAll x y:=by simp only [PyData.eqv]
theorem ZbP (x y:List PyData):(PyData.list x).eqv (.list y) = PyData.eqvAll x y:=by simp only [PyData.eqv]
theorem Oa:PyData.eqvAll [] [] = true:=by simp only [PyData.eqvAll]
theorem FA (x y:PyData) (xs ys:List PyData):PyData.eqvAll (x :: xs) (y :: ys) = (x.eqv y && PyData.eqvAll xs ys):=by simp only [PyData.eqvAll]
theorem RU (x:PyData) (xs:List PyData):PyData.eqvAll (x :: xs) [] = false:=by simp only [PyData.eqvAll]
theorem T8 (x:PyData) (xs:List PyData):PyData.eqvAll [] (x :: xs) = false:=by simp only [PyData.eqvAll]
def Ly (tc:DTT) (tb:DTS):DTS:=λ D Δ M=>∃ J:Nat->DSt->Mp->Prop,(∃ m,J m Δ M) /\ ∀ n Δ M,J n Δ M->tc Δ M λ b M1=>
 if b = true then tb { D with nx:=λ Δ' M'=>∃ m,m < n /\ J m Δ' M',ct:=λ Δ' M'=>∃ m,m < n /\ J m Δ' M',bk:=D.nx } Δ M1 else D.nx Δ M1
theorem FZ {c:Expr} {body:List Stmt} {tb:DTS} (hc:DT X c tc) (hb:DSs X body tb) (hp:PassesOwn (model X.prog X.w) X.A X.env X.xe):DS X (.While c body [] pos) (Ly tc tb):=by
 obtain ⟨t1,p1,q1⟩:=hc;obtain ⟨t2,p2,q2⟩:=hb;refine ⟨_,E2 hp p1 p2,λ Z H Δ M D E r e h k=>?_⟩;obtain ⟨J,⟨m0,j0⟩,jt⟩:=h;refine ⟨λ n σ' H'=>∃ Δ' M',Zz X.K M' H' /\ Step M H M' H' /\ Qr X.K M' H' σ' Δ' /\ J n Δ' M',⟨m0,Δ,M,r,Step.refl,e,j0⟩,?_⟩;rintro n σ1 H1 ⟨Δ1,M1,r1,st1,e1,j1⟩;refine q1 σ1 H1 Δ1 M1 _ _ r1 e1 (jt n Δ1 M1 j1) λ b H2 M2 r2 st2 hb2=>?_;cases b with
 | true=>
  rw [if_pos rfl] at hb2 ⊢;refine ⟨λ σ' H'=>∃ m',m' < n /\ ∃ Δ' M',Zz X.K M' H' /\ Step M H M' H' /\ Qr X.K M' H' σ' Δ' /\ J m' Δ' M',λ σ' H' h=>h,?_⟩;have s12:=st1.trans st2;refine q2 σ1 H2 Δ1 M2 _ _ r2 (e1.step st2) hb2 ⟨λ σ' H' Δ' M' a b c d=>?_,k.rt.step s12,λ σ' H' Δ' M' a b c d=>k.nx σ' H' Δ' M' a (s12.trans b) c d,λ σ' H' Δ' M' a b c d=>?_⟩
  ·obtain ⟨m,hm,j⟩:=d;exact ⟨m,hm,Δ',M',a,s12.trans b,c,j⟩
  ·obtain ⟨m,hm,j⟩:=d;exact ⟨m,hm,Δ',M',a,s12.trans b,c,j⟩
 | false=>
  rw [if_neg Bool.false_ne_true] at hb2 ⊢;exact k.nx σ1 H2 Δ1 M2 r2 (st1.trans st2) (e1.step st2) hb2
def ZdL (to:DTE):DTE:=λ Δ M Φ=>to Δ M λ x M1=>onO x λ l=>∃ ds d,M1 l = some (.lst (ds ++ [d])) /\ Φ (.dat d) (Zu M1 l (.lst ds))
noncomputable def isNone:PyData->Bool
 | .none=>true
 | _=>false
def onN (x:DV) (P:Prop):Prop:=match x with | .dat .none=>P | _=>False
def ZbK (b:Bool):D2:=λ x y M Φ=>onD x λ d=>onN y <| Φ (.dat (.bool (isNone d != b))) M
theorem isNone_none:isNone .none = true:=rfl
theorem Wq (b:Bool):isNone (.bool b) = false:=rfl
theorem U6 (b:Int):isNone (.int b) = false:=rfl
theorem UI (b:Str):isNone (.str b) = false:=rfl
theorem Wx (b:List PyData):isNone (.list b) = false:=rfl
theorem XM (b:List PyData):isNone (.tuple b) = false:=rfl
theorem K8 (b:List (PyData × PyData)):isNone (.dict b) = false:=rfl
def NY:D2:=λ x y M Φ=>onD x λ d=>onW y λ ds=>okIn d ds = true /\ Φ (.dat (.bool (!(ds.any λ e=>PyData.eqv e d)))) M
def Hh:D2:=λ x y M Φ=>onP x λ i j=>onO y λ l=>O2 (M l) λ ks=>Φ (.dat (.bool (!ZaA ks (kP i j)))) M
section
variable {prog:Program} {E:Value->Shared->Prop}
end
theorem HM (x:DV) (P:DV->Prop):onV (some (some x)) P = P x:=qI
theorem F6 (i:Int) (P:Int->Prop):onI (.dat (.int i)) P = P i:=qI
theorem Hy (i:Bool) (P:Bool->Prop):onB (.dat (.bool i)) P = P i:=qI
theorem EB (i:Str) (P:Str->Prop):onS (.dat (.str i)) P = P i:=qI
theorem Ek (i:List PyData) (P:List PyData->Prop):onT (.dat (.tuple i)) P = P i:=qI
theorem HD (i:List PyData) (P:List PyData->Prop):onL (.dat (.list i)) P = P i:=qI
theorem Fn (i:PyData) (P:PyData->Prop):onD (.dat i) P = P i:=qI
theorem Hd (i:Addr) (P:Addr->Prop):onO (.own i) P = P i:=qI
theorem B3 (ds:List PyData) (P:List PyData->Prop):QG (some (.lst ds)) P = P ds:=qI
theorem NS (ds:List PyData) (M:Mp) (P:List PyData->Prop):onQ (.dat (.tuple ds)) M P = P ds:=qI
theorem NX (ds:List PyData) (M:Mp) (P:List PyData->Prop):onQ (.dat (.list ds)) M P = P ds:=qI
theorem OC (l:Addr) (M:Mp) (P:List PyData->Prop):onQ (.own l) M P = QG (M l) P:=qI
theorem NW (ds:List PyData) (M:Mp) (P:List PyData->Prop):onK (.dat (.list ds)) M P = P ds:=qI
theorem E3 (x:DV) (P:DV->Prop):on1 [x] P = P x:=qI
theorem F8 (x y:DV) (P:DV->DV->Prop):on2 [x,y] P = P x y:=qI
theorem FP (x y z:DV) (P:DV->DV->DV->Prop):on3 [x,y,z] P = P x y z:=qI
theorem Hl (P:List PyData->Prop):Vl [] P = P []:=qI
theorem Hj (a0:PyData) (P:List PyData->Prop):Vl [.dat a0] P = P [a0]:=qI
theorem EX (a0 a1:PyData) (P:List PyData->Prop):Vl [.dat a0,.dat a1] P = P [a0,a1]:=qI
theorem FI (a0 a1 a2:PyData) (P:List PyData->Prop):Vl [.dat a0,.dat a1,.dat a2] P = P [a0,a1,a2]:=qI
theorem FT (a0 a1 a2 a3:PyData) (P:List PyData->Prop):Vl [.dat a0,.dat a1,.dat a2,.dat a3] P = P [a0,a1,a2,a3]:=qI
theorem FO (a0 a1 a2 a3 a4:PyData) (P:List PyData->Prop):Vl [.dat a0,.dat a1,.dat a2,.dat a3,.dat a4] P = P [a0,a1,a2,a3,a4]:=qI
theorem EK (a0 a1 a2 a3 a4 a5:PyData) (P:List PyData->Prop):Vl [.dat a0,.dat a1,.dat a2,.dat a3,.dat a4,.dat a5] P = P [a0,a1,a2,a3,a4,a5]:=qI
theorem CV (a0 a1 a2 a3 a4 a5 a6 a7 a8 a9 a10 a11 a12:PyData) (P:List PyData->Prop):Vl [.dat a0,.dat a1,.dat a2,.dat a3,.dat a4,.dat a5,.dat a6,.dat a7,.dat a8,.dat a9,.dat a10,.dat a11,.dat a12] P = P [a0,a1,a2,a3,a4,a5,a6,a7,a8,a9,a10,a11,a12]:=qI
theorem RQ:type_of% @ZbO.eq_1:=λ _ _ _ _=>qI
theorem ZdD:type_of% @dC.eq_1:=λ _ _ _ _=>qI
theorem ZaS:type_of% @dOp.eq_1:=λ _ _ _ _ _ _=>qI
theorem ZdC:type_of% @dB.eq_1:=λ _ _ _ _=>qI
theorem SF:type_of% @ZcB.eq_1:=λ _ _ _ _ _=>qI
theorem Zb6:type_of% @dOr.eq_1:=λ _ _ _ _ _=>qI
theorem Rw:type_of% @ZcV.eq_1:=λ _ _ _ _=>qI
theorem Og:type_of% @Se.eq_1:=λ _ _ _ _ _=>qI
theorem SG:type_of% @Zc0.eq_1:=λ _ _ _ _ _=>qI
theorem Zch:type_of% @δI.eq_1:=λ _ _ _ _ _ _=>qI
theorem R9:type_of% @δI0.eq_1:=λ _ _ _ _ _=>qI
theorem Eg  (x:DV) (y:DV) (M:Mp) (Φ:DK):LP x y M Φ = (onL x λ ds=>onL y λ es=>ds.length + es.length <= sizeLine /\ Φ (.dat (.list (ds ++ es))) M):=qI
theorem Sl  (z0:DSt) (M:Mp) (Φ:List DV->Mp->Prop):Zcx z0 M Φ = (Φ [] M):=qI
theorem Nh:type_of% @Zad.eq_1:=λ _ _ _ _ _=>qI
theorem TR:type_of% @ZcK.eq_1:=λ _ _ _ _=>qI
theorem So:type_of% @ZcI.eq_1:=λ _ _ _ _=>qI
theorem Po:type_of% @PN.eq_1:=λ _ _ _ _=>qI
theorem Rf:type_of% @ZcQ.eq_1:=λ _ _ _ _=>qI
theorem Hi (a:PyData) (l:List PyData) (P:PyData->Prop):Ke (a :: l) 0 P = P a:=qI
theorem Hc (a b:PyData) (l:List PyData) (P:PyData->Prop):Ke (a :: b :: l) 1 P = P b:=qI
theorem EI (a b c:PyData) (l:List PyData) (P:PyData->Prop):Ke (a :: b :: c :: l) 2 P = P c:=qI
theorem Fd (a b c d:PyData) (l:List PyData) (P:PyData->Prop):Ke (a :: b :: c :: d :: l) 3 P = P d:=qI
theorem Ep (a b c d e:PyData) (l:List PyData) (P:PyData->Prop):Ke (a :: b :: c :: d :: e :: l) 4 P = P e:=qI
theorem Fe (a b c d e f:PyData) (l:List PyData) (P:PyData->Prop):Ke (a :: b :: c :: d :: e :: f :: l) 5 P = P f:=qI
theorem RN  (x:DV) (y:DV) (M:Mp) (Φ:DK):δIx x y M Φ = (onQ x M λ ds=>onI y λ i=>Ke ds i λ d=>Φ (.dat d) M):=qI
theorem Zbs:type_of% @dCB.eq_1:=λ _ _ _ _ _=>qI
theorem Ml  (xs:List DV) (M:Mp) (Φ:DK):Tb xs M Φ = (on1 xs λ x=>onQ x M λ ds=>Φ (.dat (.int ds.length)) M):=qI
theorem D5  (xs:List DV) (M:Mp) (Φ:DK):Md xs M Φ = (on1 xs λ x=>onS x λ z=>z.length <= sizeLine /\ Φ (.dat (.int z.length)) M):=qI
theorem Er  (xs:List DV) (M:Mp) (Φ:DK):L6 xs M Φ = (on1 xs λ x=>onI x λ i=>i.natAbs.log2 < 1920 /\ Φ (.dat (.str (toString i))) M):=qI
theorem MZ  (xs:List DV) (M:Mp) (Φ:DK):S6 xs M Φ = (on1 xs λ x=>onI x λ i=>Φ (.dat (.int (if i < 0 then -i else i))) M):=qI
theorem Eu  (xs:List DV) (M:Mp) (Φ:DK):LL xs M Φ = (on1 xs λ x=>onD x λ d=>Shw d /\ Φ (.dat (.str d.shown)) M):=qI
theorem Fb (i j:Int) (P:Bool->Prop):eqD (.int i) (.int j) P = P (decide (i = j)):=qI
theorem E4 (i j:Str) (P:Bool->Prop):eqD (.str i) (.str j) P = P (decide (i = j)):=qI
theorem Zab  (x:DV) (y:DV) (M:Mp) (Φ:DK):δEq x y M Φ = (onD x λ d=>onD y λ e=>eqD d e λ b=>Φ (.dat (.bool b)) M):=qI
theorem TC  (x:DV) (y:DV) (M:Mp) (Φ:DK):δNe x y M Φ = (onD x λ d=>onD y λ e=>eqD d e λ b=>Φ (.dat (.bool (!b))) M):=qI
theorem Ng  (x:DV) (y:DV) (M:Mp) (Φ:DK):Sk x y M Φ = (onS x λ s=>onS y λ t=>Φ (.dat (.bool (!decide (s = t)))) M):=qI
theorem Cw  (z0:DSt) (M:Mp) (Φ:Option Int->Mp->Prop):Dp z0 M Φ = (Φ none M):=qI
theorem ON:type_of% @TY.eq_1:=λ _ _ _ _=>qI
theorem OG  (D:Z1) (Δ:DSt) (M:Mp):SD D Δ M = (D.nx Δ M):=qI
theorem SA:type_of% @ZaG.eq_1:=λ _ _ _ _ _=>qI
theorem Oy:type_of% @Zap.eq_1:=λ _ _ _ _=>qI
theorem T3:type_of% @ZcY.eq_1:=λ _ _ _ _=>qI
theorem Zaf:type_of% @Zc1.eq_1:=λ _ _ _ _ _ _=>qI
theorem Qk:type_of% @V7.eq_1:=λ _ _ _ _ _=>qI
theorem US (Δ:DSt) (M:Mp) (Φ:DSt->Mp->Prop):Sd [] Δ M Φ = Φ Δ M:=qI
theorem Wf (t:DTG) (u:Ew) (x:DV) (r:List DV) (Δ:DSt) (M:Mp) (Φ:DSt->Mp->Prop):HZ t u (x :: r) Δ M Φ = t x Δ M λ Δ' M'=>u r Δ' M' Φ:=qI
theorem Fi (P:List DV->Prop):ME 0 [] P = P []:=qI
theorem HJ (n:Nat) (d:PyData) (r:List PyData) (P:List DV->Prop):ME (n + 1) (d :: r) P = ME n r λ xs=>P (.dat d :: xs):=qI
theorem N0:type_of% @RE.eq_1:=λ _ _ _ _ _ _=>qI
theorem Oi:type_of% @Zac.eq_1:=λ _ _ _ _ _ _=>qI
theorem Zae:type_of% @Px.eq_1:=λ _ _ _ _ _=>qI
theorem Bb:type_of% @GB.eq_1:=λ _ _ _ _ _=>qI
theorem OZ:type_of% @RA.eq_1:=λ _ _ _ _ _ _=>qI
theorem HE:type_of% @HV.eq_1:=λ _ _ _ _ _ _=>qI
theorem Nm:type_of% @O1.eq_1:=λ _ _ _ _ _=>qI
theorem Gu (i:Str) (P:Key->Prop):JF (.dat (.str i)) P = P (.inr i):=qI
theorem To:type_of% @Zct.eq_1:=λ _ _ _ _=>qI
theorem NM:type_of% @Zav.eq_1:=λ _ _ _ _=>qI
theorem Fo (Φ:DK) (acc:List PyData) (M:Mp):WQ true Φ acc M = ∀ p,M p = none->Φ (.own p) (Zu M p (.lst acc)):=qI
theorem HG (Φ:DK) (acc:List PyData) (M:Mp):WQ false Φ acc M = Φ (.dat (.list acc)) M:=qI
theorem NG:type_of% @UM.eq_1:=λ _ _ _ _ _ _ _ _ _=>qI
theorem RO  (z0:DSt) (M:Mp) (Φ:Bool->Mp->Prop):Zc2 z0 M Φ = (Φ true M):=qI
theorem Dw  (xs:List DV) (M:Mp) (Φ:DK):Cu xs M Φ = (on1 xs λ x=>onQ x M λ ds=>Φ (.dat (.tuple ds)) M):=qI
theorem Zas:type_of% @Zc6.eq_1:=λ _ _ _ _ _ _=>qI
theorem E9  (x:DV) (y:DV) (M:Mp) (Φ:DK):LR x y M Φ = (onK x M λ ds=>onK y M λ es=>ds.length + es.length <= sizeLine /\ Φ (.dat (.list (ds ++ es))) M):=qI
theorem FJ (i j:Int) (P:Int->Int->Prop):onP (.dat (.tuple [.int i,.int j])) P = P i j:=qI
theorem Bi:type_of% @P7.eq_1:=λ _ _ _ _ _ _=>qI
theorem Hk:type_of% @WU.eq_1:=λ _ _ _ _ _ _ _ _ _=>qI
theorem FQ:type_of% @Ly.eq_1:=λ _ _ _ _ _=>qI
noncomputable def C8 (x:Str) (lo hi:Option Int):Str:=⟨((x.cps.toList.drop (HT.sIx x.length 0 lo)).take (HT.sIx x.length x.length hi - HT.sIx x.length 0 lo)).toArray⟩
theorem YF (v:Int) (n d:Nat):max 0 (min (if v < 0 then v + (n:Int) else v) (n:Int)) = ((HT.sIx n d (some v):Nat):Int):=by
 rw [<- HT.KP v n d]
 split <;> lia
theorem idx_eq (lo hi:Option Int) (n:Nat):Builtin.Str.strSliceIndices lo hi 1 n = Builtin.Str.strSliceIndices (some ((HT.sIx n 0 lo:Nat):Int)) (some ((HT.sIx n n hi:Nat):Int)) 1 n:=by
 have l1:=HT.V2 n 0 (Nat.zero_le n) lo;have l2:=HT.V2 n n (Nat.le_refl n) hi;have e:∀ a:Nat,a <= n->max 0 (min (if (a:Int) < 0 then (a:Int) + (n:Int) else (a:Int)) (n:Int)) = (a:Int):=λ a ha=>by
  rw [if_neg (by lia)];lia
 unfold Builtin.Str.strSliceIndices;simp only [show ((1:Int) > 0) = True from by simp,if_true];rw [e _ l1,e _ l2];cases lo with
 | none=>
  cases hi with
  | none=>rfl
  | some v=>simp only [YF v n n]; rfl
 | some u=>
  cases hi with
  | none=>simp only [YF u n 0]; rfl
  | some v=>simp only [YF u n 0,YF v n n]
theorem OD {a b:Nat} (h:b < a) (ha:a <= n):Builtin.Str.strSliceIndices (some (a:Int)) (some (b:Int)) 1 n = []:=by
 unfold Builtin.Str.strSliceIndices sliceRange;simp only [show ((1:Int) > 0) = True from by simp,if_true];rw [if_neg (show ¬ ((a:Int) < 0) by lia),if_neg (show ¬ ((b:Int) < 0) by lia),if_neg (by lia)];rfl
theorem CD (x:Str) (lo hi:Option Int):Txt.slice x lo hi = C8 x lo hi:=by
 have l1:=HT.V2 x.length 0 (Nat.zero_le _) lo;have l2:=HT.V2 x.length x.length (Nat.le_refl _) hi;have hl:x.cps.toList.length = x.length:=by simp [Str.length]
 unfold Txt.slice;rw [idx_eq];unfold C8;generalize HT.sIx x.length 0 lo = a at *;generalize HT.sIx x.length x.length hi = b at *
 by_cases h:a <= b
 ·rw [StrLaws.sliced_plain x h l2,StrLaws.strSliceIndices_plain h l2]
  split
  ·rename_i q;have q':b - a = x.length:=by simpa using q
   have a0:a = 0:=by lia
   subst a0;apply Str.ext';rw [List.drop_zero,List.take_of_length_le (by lia)]
  ·rfl
 ·rw [OD (by lia) l1,show b - a = 0 by lia]
  split
  ·rename_i q;have q':x.length = 0:=by
    have:0 = x.length:=by simpa using q
    lia
   apply Str.ext';have:x.cps.toList = []:=List.length_eq_zero_iff.mp (by lia);rw [List.take_zero];exact Array.toList_inj.mp this
  ·simp
section
variable {a b:Expr} {ta tb:DTE}
def Zde:V->Option Int->Option Int->Hp->VK->Prop:=λ x lo hi H Q=>∃ z,x = .str z /\ z.length <= sizeLine /\ Q (.str (C8 z lo hi)) H
theorem Rh:SlR X Zde:=by
 intro pins s Z H x v vl vu lo hi sl Q I rx hs pl pu h;obtain ⟨z,rfl,hz,q⟩:=h;obtain ⟨t,rfl⟩:=rx;have hlen:(Txt.slice z lo hi).length <= sizeLine:=Nat.le_trans (Txt.slice_le z lo hi) hz;have fin:∀ t' k,EP X pins Z Q (.str (Txt.slice z lo hi) t') { s with toks:=k }:=λ t' k=>by
  rw [CD];exact ⟨.str (C8 z lo hi),H,I.tok _,⟨_,rfl⟩,q⟩
 refine ⟨"str",_,PySem.F.slot_str_getitem.lookup,typeIs_str s z t,?_⟩;cases pl with
 | none=>cases pu with
  | none=>exact wpAny_getItem_str_slice (l:=none) (u:=none) (st:=none) hs rfl (post_val_or_str ⟨hlen,fin⟩)
  | int j uj=>exact wpAny_getItem_str_slice (l:=none) (u:=some (j,uj)) (st:=none) hs rfl (post_val_or_str ⟨hlen,fin⟩)
 | int i ui=>cases pu with
  | none=>exact wpAny_getItem_str_slice (l:=some (i,ui)) (u:=none) (st:=none) hs rfl (post_val_or_str ⟨hlen,fin⟩)
  | int j uj=>exact wpAny_getItem_str_slice (l:=some (i,ui)) (u:=some (j,uj)) (st:=none) hs rfl (post_val_or_str ⟨hlen,fin⟩)
def ZcT (te:DTE) (tl th:DTO):DTE:=λ Δ M Φ=>te Δ M λ x M1=>tl Δ M1 λ l M2=>th Δ M2 λ u M3=>onS x λ s=>s.length <= sizeLine /\ Φ (.dat (.str (C8 s l u))) M3
theorem Vi {lo hi:Option Expr} {tl th:DTO} (he:DE X e te) (hl:DO X lo tl) (hu:DO X hi th):DE X (.Subscript e (.Slice lo hi none p2) pos) (ZcT te tl th):=by
 obtain ⟨t1,p1,q1⟩:=he;obtain ⟨t2,p2,q2⟩:=hl;obtain ⟨t3,p3,q3⟩:=hu;refine ⟨_,Yp Rh p1 p2 p3,λ Z H Δ M Φ Q r e h k=>?_⟩;refine q1 Z H Δ M _ _ r e h λ v H1 x M1 r1 st rv hx=>?_;refine q2 Z H1 Δ M1 _ _ r1 (e.step st) hx λ l H2 M2 r2 st2 hl=>?_;refine q3 Z H2 Δ M2 _ _ r2 (e.step (st.trans st2)) hl λ u H3 M3 r3 st3 hu=>?_;replace hu:=Qc hu;obtain ⟨s,rfl,hz,hu⟩:=hu;exact ⟨s,rv.str,hz,k.dat r3 (st.trans (st2.trans st3)) (Dt.str _) hu⟩
def R4:D2:=λ x y M Φ=>onS x λ s=>onI y λ i=>s.length <= sizeLine /\ ∃ c,L2.atI s.cps.toList i = some c /\ Φ (.dat (.str ⟨#[c]⟩)) M
theorem Me (ha:DE X a ta) (hb:DE X b tb) (hs:autoParam (Wr b) zz6._auto_1):DE X (.Subscript a b pos) (dOp R4 ta tb):=by
 obtain ⟨ta',pa,qa⟩:=ha;obtain ⟨tb',pb,qb⟩:=hb;refine ⟨_,Rx HX pa pb hs,Snd.opn qa qb λ v u H x y M Φ Q r rv ru h k=>?_⟩;replace h:=Qc h;obtain ⟨s,rfl,h⟩:=h;replace h:=ZS h;obtain ⟨i,rfl,hz,c,hc,q⟩:=h;exact ⟨s,i,c,rv.str,ru.int,hz,hc,k.dat r Step.refl (Dt.str _) q⟩
def LI:D2:=λ x y M Φ=>onS x λ s=>onS y λ t=>s.length + t.length <= sizeLine /\ Φ (.dat (.str (s ++ t))) M
theorem DH:OpD X (binaryOp .Add) LI:=
 ⟨_,Gi,λ v u H x y M Φ Q r rv ru h k=>by
  replace h:=Qc h;obtain ⟨s,rfl,h⟩:=h;replace h:=Qc h;obtain ⟨t,rfl,hz,q⟩:=h
  exact ⟨s,t,rv.str,ru.str,hz,k.dat r Step.refl (Dt.str _) q⟩⟩
noncomputable def Zc9 (s:Str) (n:Nat):Str:=⟨((List.replicate n s.cps.toList).flatten).toArray⟩
def Sv:D2:=λ x y M Φ=>onS x λ s=>onI y λ i=>(1 <= i /\ i <= 1000 /\ s.length <= 1000) /\ Φ (.dat (.str (Zc9 s i.toNat))) M
def Zb8:D2:=λ x y M Φ=>onS x λ s=>onS y λ t=>Φ (.dat (.bool (!decide (t.cps.toList < s.cps.toList)))) M
noncomputable def Pw (c:Nat):PyData:=.str ⟨#[c]⟩
def Zdn (te:DTE):VN:=λ Δ M Ψ=>te Δ M λ x M1=>onS x λ s=>Ψ (s.cps.toList.map Pw) M1
def MX:D1:=λ xs M Φ=>on1 xs λ x=>onS x λ s=>s.length <= sizeLine /\ Φ (.dat (.list (s.cps.toList.map Pw))) M
def RW:D1:=λ xs M Φ=>on1 xs λ x=>onS x λ s=>s.length <= sizeLine /\ Φ (.dat (.tuple (s.cps.toList.map Pw))) M
def rJoin (K:Fj):V->List V->Hp->VK->Prop:=λ x xs H Q=>∃ z p ss,x = .str z /\ xs = [.ref p] /\ SqL K H p (ss.map V.str) /\ JoinOk z ss = true /\ Q (.str (Txt.join z ss)) H
theorem CG:∀ {ss:List Str} {us:List Value},Vals (ss.map V.str) us->∃ l:List (Str × Tok),us = strValues l /\ l.map (·.1) = ss
 | [],_,r=>by rw [List.map_nil] at r; cases r; exact ⟨[],rfl,rfl⟩
 | s :: ss,_,r=>by
  rw [List.map_cons] at r;cases r with
  | cons r1 r2=>
   obtain ⟨t,rfl⟩:=r1;obtain ⟨l,rfl,e⟩:=CG r2;exact ⟨(s,t) :: l,rfl,by rw [List.map_cons,e]⟩
theorem Oh:MtR X "str.join" (rJoin X.K):=by
 intro pins s Z H x xs v us Q I rx rs h;obtain ⟨z,p,ss,rfl,rfl,hq,hj,q⟩:=h;obtain ⟨t,rfl⟩:=rx;obtain ⟨u,rfl,ru⟩:=vals1 rs;cases ru;obtain ⟨its,rv,pl,hz⟩:=I.list hq;obtain ⟨l,rfl,hl⟩:=CG rv;exact SC.join pl.isList hl hj λ t' k=>⟨.str _,H,I.tok _,⟨_,rfl⟩,q⟩
def ZcL (ds:List PyData) (P:List Str->Prop):Prop:=∃ ss,ds = ss.map PyData.str /\ P ss
def S2 (to te:DTE):DTE:=λ Δ M Φ=>to Δ M λ x M1=>onS x λ z=>te Δ M1 λ y M2=>onK y M2 λ ds=>ZcL ds λ ss=>JoinOk z ss = true /\ Φ (.dat (.str (Txt.join z ss))) M2
theorem Yg:∀ {vs:List V} {ss:List Str},Dts K M H vs (ss.map PyData.str)->vs = ss.map V.str
 | vs,[],h=>by
  rw [List.map_nil] at h;cases h;rfl
 | vs,n :: ns,h=>by
  rw [List.map_cons] at h;cases h with
  | cons h1 h2=>
   cases h1;rw [Yg h2,List.map_cons]
theorem Oo {o:Expr} {to:DTE} {apos cpos:Pos} (ho:DE X o to) (he:DE X e te) (hbase:autoParam (attributeBase o "join" X.env (eval o X.env) = eval o X.env) zz3._auto_1)
  (hfew:((backTo cpos (starEach [e] X.env)).all (λ x=>!x.1) && (backToKw cpos (keywordEach [] X.env)).all (λ x=>x.1.isSome)
   && decide ([e].length + ([]:List Keyword).length + (if ([]:List Keyword).isEmpty then 0 else 1) < 30)) = true:=by rfl)
  (hline:autoParam ((apos.endLine == cpos.line) = true) zz3._auto_1) (hs:autoParam (starEach [e] X.env = (false,eval e X.env) :: starEach [] X.env) zz3._auto_1) (hplain:autoParam ((backTo cpos (starEach [] X.env)).any (·.1) = false) zz3._auto_1) :
  DE X (.Call (.Attribute o "join" apos) [e] [] cpos) (S2 to te):=by
 obtain ⟨t1,p1,q1⟩:=ho;obtain ⟨t2,p2,q2⟩:=he;refine ⟨_,OJ PySem.F.plainAttrs_str PySem.F.slot_str_join PySem.F.type_str_join Oh p1 (VF p2 WE hs) hbase hfew hline hs hplain,λ Z H Δ M Φ Q r e h k=>?_⟩;refine q1 Z H Δ M _ _ r e h λ v H1 x M1 r1 st rv hx=>?_;replace hx:=Qc hx;obtain ⟨z,rfl,hx⟩:=hx;cases rv.str;refine ⟨rfl,q2 Z H1 Δ M1 _ _ r1 (e.step st) hx λ w H2 y M2 r2 st2 rw2 hy=>?_⟩;replace hy:=X6 hy;obtain ⟨ds,hd,ss,rfl,hj,hy⟩:=hy;replace hd:OH y M2 (ss.map PyData.str):=hd;obtain ⟨a,xs,rfl,h1,h2⟩:=hd.sq r2 rw2;cases Yg h2;exact ⟨z,a,ss,rfl,rfl,h1,hj,k.dat r2 (st.trans st2) (Dt.str _) hy⟩
def P1 (to:DTE):DTE:=λ Δ M Φ=>to Δ M λ x M1=>onS x λ z=>z.length <= 1000 /\ Φ (.dat (.str (Txt.upper z))) M1
end
theorem SV:type_of% @ZcT.eq_1:=λ _ _ _ _ _ _=>qI
theorem Np:type_of% @R4.eq_1:=λ _ _ _ _=>qI
theorem F4:type_of% @LI.eq_1:=λ _ _ _ _=>qI
theorem OI:type_of% @S2.eq_1:=λ _ _ _ _ _=>qI
theorem str_len (s:Str):s.cps.toList.length = s.length:=by simp [Str.length]
theorem add_list (s t:Str):(s ++ t).cps.toList = s.cps.toList ++ t.cps.toList:=by rw [Str.cps_append,Array.toList_append]
theorem KZ (s t:Str):(s ++ t).length = s.length + t.length:=Str.length_append s t
theorem W6 (c:Nat):(⟨#[c]⟩:Str).cps.toList = [c]:=rfl
theorem Kv (c:Nat):(⟨#[c]⟩:Str).length = 1:=rfl
theorem WD (s:Str) (lo hi:Option Int):(C8 s lo hi).cps.toList = (s.cps.toList.drop (HT.sIx s.length 0 lo)).take (HT.sIx s.length s.length hi - HT.sIx s.length 0 lo):=rfl
theorem Kr {s:Str} {lo hi:Option Int} {c:Nat} (h:c ∈ (C8 s lo hi).cps.toList):c ∈ s.cps.toList:=by
 rw [WD] at h;exact List.mem_of_mem_drop (List.mem_of_mem_take h)
theorem Ky (s:Str) (lo hi:Option Int):(C8 s lo hi).length = HT.sIx s.length s.length hi - HT.sIx s.length 0 lo:=by
 have l1:=HT.V2 s.length s.length (Nat.le_refl _) hi;rw [<- str_len,WD,List.length_take,List.length_drop,str_len];lia
theorem W2 {d:Nat} {i:Int} (h0:0 <= i):HT.sIx n d (some i) = min i.toNat n:=by
 obtain ⟨k,rfl⟩:=Int.eq_ofNat_of_zero_le h0;rw [HT.K4];rfl
theorem join_list:∀ ss:List Str,(Txt.join (Str.ofString "") ss).cps.toList = (ss.map (·.cps.toList)).flatten:=by
 have e0:(Str.ofString "").cps.toList = []:=by walk_at "k"
 have go:∀ ss:List Str,(Str.join (Str.ofString "") ss).cps.toList = (ss.map (·.cps.toList)).flatten:=λ ss=>by
  induction ss with
  | nil=>rfl
  | cons s ss ih=>
   cases ss with
   | nil=>simp [Str.join]
   | cons t ss=>
    rw [Str.join,add_list,add_list,e0,ih]
    ·simp
    ·simp
 intro ss;have:Txt.join (Str.ofString "") ss = Str.join (Str.ofString "") ss:=by
  exact StrLaws.glued_eq_join _ _
 rw [this,go]
theorem N7 {sep:Str} {ss:List Str} {B:Nat} (hB:∀ y ∈ ss,y.length <= B) (h:ss.length * B + ss.length * sep.length <= 16777216):JoinOk sep ss = true:=by
 unfold JoinOk;rw [StrLaws.joinFits hB h];rfl
end DL
namespace DL
open PySem.W
section
variable {lt:Nat->Nat->Bool}
def KOk (n:Nat) (lt:Nat->Nat->Bool) {α:Type}:KasT α->(α->Prop)->Prop
 | .ret a,Q=>Q a
 | .ask i j k,Q=>i < n /\ j < n /\ i ≠ j /\ KOk n lt (k (lt i j)) Q
def Le (lt:Nat->Nat->Bool) (a b:Nat):Prop:=lt b a = false
structure Ord (lt:Nat->Nat->Bool):Prop where
 asym:∀ a b,lt a b = true->lt b a = false
 tran:∀ a b c,Le lt a b->Le lt b c->Le lt a c
theorem Ord.refl (o:Ord lt) (a:Nat):Le lt a a:=by
 unfold Le;cases h:lt a a with
 | false=>rfl
 | true=>have:=o.asym a a h; rw [h] at this; cases this
noncomputable abbrev at' (p:Array Nat) (k:Nat):Nat:=p.getD k 0
def Pm (n:Nat) (p:Array Nat):Prop:=p.Perm (List.range n).toArray
theorem Pm.size {p:Array Nat} (h:Pm n p):p.size = n:=by
 have:=h.size_eq
 simpa using this
theorem Pm.below {p:Array Nat} (h:Pm n p) {k:Nat} (hk:k < n):at' p k < n:=by
 have hs:k < p.size:=by rw [h.size]; exact hk
 have e:at' p k = p[k]:=by simp [at',hs]
 have m1:p[k] ∈ p:=Array.getElem_mem hs;have m2:=h.mem_iff.mp m1;rw [e]
 simpa using m2
theorem Bq {α:Type} {l:List α} (nd:l.Nodup) {a b:Nat} (ha:a < l.length) (hb:b < l.length) (z:l[a] = l[b]):a = b:=by
 have pw:=List.pairwise_iff_getElem.mp nd
 by_cases h1:a < b
 ·exact absurd z (pw a b ha hb h1)
 ·by_cases h2:b < a
  ·exact absurd z.symm (pw b a hb ha h2)
  ·lia
theorem Pm.inj {p:Array Nat} (h:Pm n p) {a b:Nat} (ha:a < n) (hb:b < n) (hn:a ≠ b):at' p a ≠ at' p b:=by
 have hs:=h.size;have e:∀ k,(hk:k < n)->at' p k = p.toList[k]'(by simpa [hs] using hk):=λ k hk=>by simp [at',hs,hk]
 have nd:p.toList.Nodup:=by
  have:=Array.perm_iff_toList_perm.mp h;exact this.nodup_iff.mpr List.nodup_range
 rw [e a ha,e b hb];exact λ z=>hn (Bq nd _ _ z)
theorem Pm.rev {p:Array Nat} (h:Pm n p) (i j:Nat):Pm n (kas_rev p i j):=(mirror_perm _ _ _ _).trans h
theorem Pm.bub {p:Array Nat} (h:Pm n p) (i j:Nat):Pm n (bubble p i j):=(bubble_perm _ _ _).trans h
theorem VY {p:Array Nat} (hj:j <= p.size) (k:Nat):at' (kas_rev p i j) k = if i <= k /\ k < j then at' p (i + j - 1 - k) else at' p k:=by
 have hm:=getElem?_mirror (i:=i) hj ((j - i) / 2) (by lia) k;have e:∀ (q:Array Nat) (k:Nat),at' q k = q[k]?.getD 0:=λ q k=>by simp [at',Array.getD_eq_getD_getElem?]
 rw [e,e,e];unfold kas_rev;rw [hm]
 by_cases c:i <= k /\ k < j
 ·rw [if_pos c]
  by_cases c2:(i <= k /\ k < i + (j - i) / 2) \/ (j - (j - i) / 2 <= k /\ k < j)
  ·rw [if_pos c2]
  ·rw [if_neg c2]
   congr 2
   lia
 ·rw [if_neg c,if_neg (by lia)]
theorem Cs {p:Array Nat} {k l:Nat} (hk:k < p.size) (hl:l <= k) (x:Nat):at' (bubble p k (k - l)) x = if x = l then at' p k else if l < x /\ x <= k then at' p (x - 1) else at' p x:=by
 have hm:=getElem?_bubble hk (k - l) (by lia) x;have e:∀ (q:Array Nat) (k:Nat),at' q k = q[k]?.getD 0:=λ q k=>by simp [at',Array.getD_eq_getD_getElem?]
 rw [show k - (k - l) = l by lia] at hm;rw [e,hm,e,e,e]
 split
 ·rfl
 ·split <;> rfl
end
section
variable {prog:Program} {E:Value->Shared->Prop} {lt:Nat->Nat->Bool}
noncomputable abbrev Yk (vs:List Value) (q:Array Nat):Array Value:=List.toArray (q.toList.map λ i=>vs.getD i Value.none)
theorem GD (vs:List Value):Yk vs (List.range vs.length).toArray = vs.toArray:=by
 apply Array.toList_inj.mp;show (List.range vs.length).map (λ i=>vs.getD i Value.none) = vs;apply List.ext_getElem?;intro i;rw [List.getElem?_map]
 by_cases h:i < vs.length
 ·rw [List.getElem?_range h,List.getElem?_eq_getElem h];simp [h]
 ·rw [List.getElem?_eq_none (by simpa using h),List.getElem?_eq_none (by simpa using h)];rfl
end
theorem map_range {α:Type} (l:List α) (d:α):(List.range l.length).map (λ i=>l.getD i d) = l:=by
 apply List.ext_getElem?;intro i;rw [List.getElem?_map]
 by_cases h:i < l.length
 ·rw [List.getElem?_range h,List.getElem?_eq_getElem h];simp [h]
 ·rw [List.getElem?_eq_none (by simpa using h),List.getElem?_eq_none (by simpa using h)];rfl
end DL
namespace DL
def Ga (o:Option OO) (P:List (Key × PyData)->Prop):Prop:=match o with | some (.dkv ps)=>P ps | _=>False
theorem Bh (ps:List (Key × PyData)) (P:List (Key × PyData)->Prop):Ga (some (.dkv ps)) P = P ps:=qI
theorem OX {o:Option OO} {P:List (Key × PyData)->Prop} (h:Ga o P):∃ ps,o = some (.dkv ps) /\ P ps:=by
 unfold Ga at h
 split at h
 ·exact ⟨_,rfl,h⟩
 ·exact h.elim
noncomputable def Qx (ps:List (Key × PyData)) (k:Key):Option PyData:=(ps.find? λ kv=>decide (kv.1 = k)).map (·.2)
noncomputable def Ry (ps:List (Key × PyData)) (k:Key) (d:PyData):List (Key × PyData):=if (ps.any λ kv=>decide (kv.1 = k)) = true then ps.map (λ kv=>if kv.1 = k then (kv.1,d) else kv) else ps ++ [(k,d)]
inductive KD (K:Fj) (M:Mp) (H:Hp):List (Key × V)->List (Key × PyData)->Prop
 | nil:KD K M H [] []
 | cons {k:Key} {v:V} {d:PyData} {kvs:List (Key × V)} {ps:List (Key × PyData)}:Dt K M H v d->KD K M H kvs ps->KD K M H ((k,v) :: kvs) ((k,d) :: ps)
theorem KD.of:∀ {kvs:List (Key × V)} {ps:List (Key × PyData)},kvs.map (·.1) = ps.map (·.1)->Dts K M H (kvs.map (·.2)) (ps.map (·.2))->KD K M H kvs ps
 | [],[],_,_=>.nil
 | [],_ :: _,h,_=>by simp at h
 | _ :: _,[],h,_=>by simp at h
 | (k,v) :: kvs,(k',d) :: ps,h,hd=>by
  rw [List.map_cons,List.map_cons,List.cons.injEq] at h;cases (show k = k' from h.1);cases hd with
  | cons h1 h2=>exact .cons h1 (KD.of h.2 h2)
theorem KD.keys:∀ {kvs:List (Key × V)} {ps:List (Key × PyData)},KD K M H kvs ps->kvs.map (·.1) = ps.map (·.1)
 | _,_,.nil=>rfl
 | _,_,.cons _ h=>by rw [List.map_cons,List.map_cons,h.keys]
theorem KD.vals:∀ {kvs:List (Key × V)} {ps:List (Key × PyData)},KD K M H kvs ps->Dts K M H (kvs.map (·.2)) (ps.map (·.2))
 | _,_,.nil=>.nil
 | _,_,.cons h1 h=>.cons h1 h.vals
theorem KD.any (k:Key):∀ {kvs:List (Key × V)} {ps:List (Key × PyData)},KD K M H kvs ps->(kvs.any λ kv=>decide (kv.1 = k)) = ps.any λ kv=>decide (kv.1 = k)
 | _,_,.nil=>rfl
 | _,_,.cons _ h=>by rw [List.any_cons,List.any_cons,h.any k]
theorem KD.snoc {k:Key} (hd:Dt K M H v d):∀ {kvs:List (Key × V)} {ps:List (Key × PyData)},KD K M H kvs ps->KD K M H (kvs ++ [(k,v)]) (ps ++ [(k,d)])
 | _,_,.nil=>.cons hd .nil
 | _,_,.cons h1 h=>.cons h1 (h.snoc hd)
theorem KD.Pb (k:Key) (hd:Dt K M H v d):∀ {kvs:List (Key × V)} {ps:List (Key × PyData)},KD K M H kvs ps->KD K M H (kvs.map λ kv=>if kv.1 = k then (kv.1,v) else kv) (ps.map λ kv=>if kv.1 = k then (kv.1,d) else kv)
 | _,_,.nil=>.nil
 | _,_,.cons (k:=k') h1 h=>by
  rw [List.map_cons,List.map_cons]
  by_cases e:k' = k
  ·rw [if_pos e,if_pos e];exact .cons hd (h.Pb k hd)
  ·rw [if_neg e,if_neg e];exact .cons h1 (h.Pb k hd)
theorem KD.put (k:Key) (hd:Dt K M H v d) {ps:List (Key × PyData)} (h:KD K M H kvs ps):KD K M H (putK kvs k v) (Ry ps k d):=by
 unfold putK Ry;rw [h.any k]
 split
 ·exact h.Pb k hd
 ·exact h.snoc hd
theorem KD.val (k:Key):∀ {kvs:List (Key × V)} {ps:List (Key × PyData)},KD K M H kvs ps->(JZ kvs k = none /\ Qx ps k = none) \/ ∃ v d,JZ kvs k = some v /\ Qx ps k = some d /\ Dt K M H v d
 | _,_,.nil=>.inl ⟨rfl,rfl⟩
 | _,_,.cons (k:=k') (v:=v) (d:=d) h1 h=>by
  unfold JZ Qx
  by_cases e:k' = k
  ·rw [List.find?_cons_of_pos (by simpa using e),List.find?_cons_of_pos (by simpa using e)];exact .inr ⟨v,d,rfl,rfl,h1⟩
  ·rw [List.find?_cons_of_neg (by simpa using e),List.find?_cons_of_neg (by simpa using e)];exact h.val k
theorem KD.step (st:Step M H M' H'):∀ {kvs:List (Key × V)} {ps:List (Key × PyData)},KD K M H kvs ps->KD K M' H' kvs ps
 | _,_,.nil=>.nil
 | _,_,.cons h1 h=>.cons (h1.step st) (h.step st)
theorem KD.length {ps:List (Key × PyData)} (h:KD K M H kvs ps):kvs.length = ps.length:=by
 have:=congrArg List.length h.keys
 simpa using this
theorem Zz.dk (r:Zz K M H) {ps:List (Key × PyData)} (h:M a = some (.dkv ps)):∃ kvs,H a = some (.dK kvs) /\ KD K M H kvs ps:=by
 obtain ⟨kvs,e1,e2,e3⟩:=r.ok a _ h;exact ⟨kvs,e1,.of e2 e3⟩
theorem Zz.Mw (r:Zz K M H) {ps:List (Key × PyData)} (st:Step M H (Zu M p (.dkv ps)) (upd H p (.dK kvs))) (h:KD K M H kvs ps):Zz K (Zu M p (.dkv ps)) (upd H p (.dK kvs)):=
 r.Uz st ⟨kvs,Z5,h.keys,h.vals.step st⟩
section
variable {o i value:Expr} {td ti tv:DTE} {pos':Pos}
theorem KD.some {ps:List (Key × PyData)} (h:KD K M H kvs ps) (k:Key):(JZ kvs k).isSome = (Qx ps k).isSome:=by
 rcases h.val k with ⟨a,b⟩ | ⟨v,d,a,b,_⟩
 ·rw [a,b]; rfl
 ·rw [a,b]; rfl
def P2 (td ti:DTE):DTE:=λ Δ M Φ=>td Δ M λ x M1=>ti Δ M1 λ y M2=>onO x λ l=>onS y λ s=>Ga (M2 l) λ ps=>∃ d,Qx ps (.inr s) = some d /\ Φ (.dat d) M2
theorem ZW {k:Nat} (hr:QS k X.A) (ho:DE X o td) (hi:DE X i ti) (hs:autoParam (NF i) zz6._auto_1):DE X (.Subscript o i pos) (P2 td ti):=by
 obtain ⟨t1,p1,q1⟩:=ho;obtain ⟨t2,p2,q2⟩:=hi;refine ⟨_,MB (by have:=hr.un; lia) p1 p2 hs,λ Z H Δ M Φ Q r e h k=>?_⟩;refine q1 Z H Δ M _ _ r e h λ v H1 x M1 r1 st1 rv hx=>?_;refine q2 Z H1 Δ M1 _ _ r1 (e.step st1) hx λ w H2 y M2 r2 st2 rw2 hy=>?_;replace hy:=ZM hy;obtain ⟨l,rfl,hy⟩:=hy;replace hy:=Qc hy;obtain ⟨s,rfl,hy⟩:=hy;replace hy:=OX hy;obtain ⟨ps,hm,d,hd,q⟩:=hy;cases (show v = .ref l from rv);cases rw2.str;obtain ⟨kvs,g1,g2⟩:=r2.dk hm
 rcases g2.val (.inr s) with ⟨_,b⟩ | ⟨u,d',a,b,du⟩
 ·rw [hd] at b;cases b
 ·rw [hd] at b;cases b;exact ⟨l,u,rfl,by rw [<- a]; exact Ls.k (k:=.inr s) g1,k.dat r2 (st1.trans st2) du q⟩
end
theorem Pg:type_of% @P2.eq_1:=λ _ _ _ _ _=>qI
end DL
namespace DL
open PySem.W
theorem De (its:List Value):slicePick its.toArray none none (some (-1)) = its.reverse.toArray:=by
  have hr:sliceRange ((its.length:Int) - 1) (-1) (-1) = (List.range its.length).map λ (k:Nat)=>its.length - 1 - k:=by
    unfold sliceRange
    have hc:(if (-1:Int) > 0 then (if (its.length:Int) - 1 < -1 then (-1 - ((its.length:Int) - 1) + -1 - 1) / -1 else 0)
                     else (if (its.length:Int) - 1 > -1 then ((its.length:Int) - 1 - -1 - -1 - 1) / (- -1) else 0)).toNat = its.length:=by
      rw [if_neg (by decide)]
      split
      · rw [show -(-1:Int) = 1 from rfl,Int.ediv_one]
        lia
      · lia
    dsimp only;rw [hc];refine List.map_congr_left λ k _=>?_;lia
  unfold slicePick;show ((sliceRange ((its.toArray.size:Int) - 1) (-1) (-1)).filterMap (its.toArray[·]?)).toArray = _;rw [List.size_toArray,hr,List.filterMap_map]
  congr 1
  have h1:((List.range its.length).filterMap ((λ (x:Nat)=>its.toArray[x]?) ∘ λ (k:Nat)=>its.length - 1 - k)) = (List.range its.length).filterMap (λ (k:Nat)=>some ((its.reverse[k]?).getD .none)):=by
    refine Ul λ k hk=>?_;have hk:=List.mem_range.mp hk;show its.toArray[its.length - 1 - k]? = _;rw [List.getElem?_toArray,List.getElem?_reverse hk,List.getElem?_eq_getElem (by lia)];rfl
  rw [h1];have h2:(λ (k:Nat)=>some ((its.reverse[k]?).getD Value.none)) = some ∘ λ (k:Nat)=>(its.reverse[k]?).getD Value.none:=rfl;rw [h2,List.filterMap_eq_map];refine List.ext_getElem (by simp) λ i a b=>?_;rw [List.getElem_map,List.getElem_range,List.getElem?_eq_getElem b];rfl
theorem Nz {st:Expr} {te ts:TE} (he:PE X e te) (hs:PE X st ts) {ops:Value->Value->List Value} (hsub:∀ v u,subscripted (.Slice none none (some st) p2) false v u = operate (ops v u) (getItem v u)):PE X (.Subscript e (.Slice none none (some st) p2) pos)
  (λ Z H Q=>te Z H λ x H1=>ts Z H1 λ y H2=>∃ a xs,x = .ref a /\ y = .int (-1) /\ SqL X.K H2 a xs /\ ∀ p,H2 p = none->Q (.ref p) (upd H2 p (.lst xs.reverse))):=by
 intro pins s Z H Q I h;refine Subscript_ (thn (he pins s Z H _ I h) λ v s1 ⟨x,H1,I1,r1,q1⟩=>?_);refine wpAny_Slice ?_;rw [evalPart_none];refine wpAny_pure (wpAny_pure ?_);rw [evalPart_some];refine thn (hs pins s1 Z H1 _ I1 q1) λ u s2 ⟨y,H2,I2,ry,a,xs,ex,ey,hq,q2⟩=>?_;subst ex ey;cases (show v = .ref a from r1);obtain ⟨tk,rfl⟩:=ry;have I4:Inv X pins Z H2 { s2 with heap:=s2.heap.push { cls:=.type "slice",data:=.fields #[.none,.none,.int (-1) tk] } }:=I2.kept (t':=s2.toks) λ b ob q=>Heap.get?_push_of_some _ q;obtain ⟨its,r,ht,hz⟩:=I4.list hq;have hlen:=r.length;refine tail_any (ops:=ops (.ref a) (.ref s2.heap.objs.size)) ht.isList.typeIs slot_list_getitem.lookup (wpAny_getItem_list_slice ht.isList (Heap.IsSliceOf.new ..) .none .none (.int (-1) tk) (by decide) ?_ (by rw [List.size_toArray] <;> lia)) (hsub _ _);rw [De];refine ⟨.ref _,_,I4.laid (t':=_) (o:=.lst xs.reverse) (λ b ob q=>Heap.get?_push_of_some _ q) (Nat.le_refl _) ?_,rfl,q2 _ (I4.hok.fresh (Nat.le_refl _))⟩;exact ⟨by rw [List.length_reverse]; exact hz,_,0,r.reverse,Heap.get?_push_size _ rfl⟩
def TL (te ts:DTE):DTE:=λ Δ M Φ=>te Δ M λ x M1=>ts Δ M1 λ y M2=>onK x M2 λ ds=>onI y λ i=>i = -1 /\ Φ (.dat (.list ds.reverse)) M2
theorem OK {st:Expr} {ts:DTE} (he:DE X e te) (hs:DE X st ts) {ops:Value->Value->List Value} (hsub:autoParam (∀ v u,subscripted (.Slice none none (some st) p2) false v u = operate (ops v u) (getItem v u)) zz8._auto_1):DE X (.Subscript e (.Slice none none (some st) p2) pos) (TL te ts):=by
 obtain ⟨t1,p1,q1⟩:=he;obtain ⟨t2,p2,q2⟩:=hs;refine ⟨_,Nz p1 p2 hsub,λ Z H Δ M Φ Q r e h k=>?_⟩;refine q1 Z H Δ M _ _ r e h λ v H1 x M1 r1 st rv hx=>?_;refine q2 Z H1 Δ M1 _ _ r1 (e.step st) hx λ u H2 y M2 r2 st2 ru hy=>?_;replace hy:=X6 hy;obtain ⟨ds,hd,hy⟩:=hy;replace hd:OH x M2 ds:=hd;replace hy:=ZS hy;obtain ⟨ii,rfl,rfl,hy⟩:=hy;obtain ⟨a,xs,rfl,h1,h2⟩:=hd.sq r2 (rv.step st2);exact ⟨a,xs,rfl,Qd.int ru,h1,λ p hp=>k.dat (r2.new hp) ((st.trans st2).trans (Step.new hp)) (Dt.Jh r2 hp h2.reverse) hy⟩
theorem Pp:type_of% @TL.eq_1:=λ _ _ _ _ _=>qI
section
variable {prog:Program} {E:Value->Shared->Prop}
end
section
variable {prog:Program} {E:Value->Shared->Prop}
end
section
variable {Z:L2.St} {h':Heap}
end
section
variable {prog:Program} {E:Value->Shared->Prop}
end
def NC:D2:=λ x y M Φ=>onK x M λ ds=>onK y M λ es=>es = [] /\ Φ (.dat (.bool (!ds.isEmpty))) M
noncomputable def isS (h:PyData) (s:Str):Bool:=match h with | .str t=>decide (t = s) | _=>false
end DL
namespace DL
open PySem.W PySem.SeqAt PySem.MeetsSeq
theorem Jf (l:Addr) (es:Array DictEntry) (n:Nat) (dd:Option Addr) (sl:Array (Option Value)) (b:Str) (u:Tok) :
  Meets (Builtin.«dict.__eq__» ⟨[.ref l,.str b u],[]⟩) (λ _ R s=>s.heap.get? l = some { cls:=.type "dict",dict:=dd,data:=.dict es n,slots:=sl } /\ R (.ok (.ret .notImplemented)) s):=
 .of_wp λ prog w A R s h=>by
  obtain ⟨hp,g,d,tk,os⟩:=s; obtain ⟨hl,h⟩:=h;have f1:=F.sub_str_dict
  wp_walk using wpAny_loadPart' hl
  exact ⟨_,rfl,h⟩
theorem Jg (b:Str) (u:Tok) (l:Addr) (c:Value) (es:Array DictEntry) (n:Nat) (dd:Option Addr) (sl:Array (Option Value)) :
  Meets (Builtin.«str.__eq__» ⟨[.str b u,.ref l],[]⟩) (λ _ R s=>s.heap.get? l = some { cls:=c,dict:=dd,data:=.dict es n,slots:=sl } /\ R (.ok (.ret .notImplemented)) s):=
 .of_wp λ prog w A R s h=>by obtain ⟨hp,g,d,tk,os⟩:=s; obtain ⟨hl,h⟩:=h; wp_walk using wpAny_loadPart' hl,wpAny_load hl; exact ⟨_,rfl,h⟩
def Zcv (h:Heap) (l:Addr):Prop:=∃ (o:Obj) (es:Array DictEntry) (n:Nat),h.get? l = some o /\ o.cls = .type "dict" /\ o.data = .dict es n
theorem WA {l:Addr} (b:Str) (u:Tok) (hl:Zcv s.heap l) (hu:A.units < cLine):RcAt A s (.ref l) (.str b u) false:=λ prog w E Q h=>by
 obtain ⟨⟨cls,dd,data,sl⟩,es,n,ho,hc,hd⟩:=hl;simp only at hc hd;subst hc hd;exact rc_eq_decline_or (k:=false) ⟨_,ho,rfl⟩ (typeIs_str s b u) (by decide) F.sub_str_dict F.slot_dict_eq F.slot_str_eq_refl
  (λ _ hq=>call_meets F.slot_dict_eq ⟨_,ho,rfl⟩ F.entry_dict_eq (F.args_dict_eq_2 _ _) (Jf l es n dd sl b u) ⟨ho,hq⟩)
  (λ _ hq=>call_meets F.slot_str_eq_refl (typeIs_str s b u) F.entry_str_eq (F.args_str_eq_2 _ _) (Jg b u l (.type "dict") es n dd sl) ⟨ho,hq⟩)
  (λ _ hq=>wpAny_of_eq (rfl:isSame (.ref l) (.str b u) = pure false) hq) (.inr hu) h
inductive Bs (h:Heap) (b:Bool) (t:Str):Value->Prop
 | non:b = false->Bs h b t .none
 | bl (k:Bool):b = false->Bs h b t (.bool k)
 | int (i:Int) (u:Tok):b = false->Bs h b t (.int i u)
 | str (x:Str) (u:Tok):b = decide (x = t)->Bs h b t (.str x u)
 | tup {a:Addr} {items:Array Value}:h.IsTuple a items->b = false->Bs h b t (.ref a)
 | lst {a:Addr} {items:Array Value}:h.IsList a items->b = false->Bs h b t (.ref a)
 | dic {a:Addr}:Zcv h a->b = false->Bs h b t (.ref a)
theorem Zbj {Z:L2.St} {x:V} {v:Value} (t:Str) (I:L2.Inv X pins Z H s) (r:RelV x v) (h:Dt X.K M H x d):Bs s.heap (isS d t) t v:=by
 cases h with
 | non=>cases r; exact .non rfl
 | bl b=>cases r; exact .bl b rfl
 | int i=>obtain ⟨u,rfl⟩:=r; exact .int i u rfl
 | str z=>obtain ⟨u,rfl⟩:=r; exact .str z u rfl
 | tup h1 h2=>
  cases r;obtain ⟨its,rv,p,_⟩:=I.tuple h1.sq;exact .tup (show s.heap.IsTuple _ its.toArray from p) rfl
 | lst h1 h2=>
  cases r;obtain ⟨its,rv,p,_⟩:=I.list h1.sq;exact .lst p.isList rfl
 | dK h0 h1 h2=>
  cases r;obtain ⟨_,_,_,_,o,es,n,e,c,d,_⟩:=I.hok _ _ h1;exact .dic ⟨o,es,n,e,c.1,d⟩ rfl
 | dT h0 h1 h2 _=>
  cases r;obtain ⟨_,_,_,_,o,es,n,e,c,d,_⟩:=I.hok _ _ h1;exact .dic ⟨o,es,n,e,c.1,d⟩ rfl
 | dX h0 h1 h2 h3 h4 h5=>
  cases r;obtain ⟨φ,_⟩:=I.hok _ _ h1;obtain ⟨o,es,n,u,e,c,d,_⟩:=h3 _ φ;exact .dic ⟨o,es,n,e,c,d⟩ rfl
theorem Bs.rc {b:Bool} {t:Str} {v:Value} (u:Tok) (h:Bs s.heap b t v) (hu:A.units < cLine):RcAt A s v (.str t u) b:=by
 cases h with
 | non e=>rw [e]; exact RcAt.none_str t u
 | bl k e=>rw [e]; exact RcAt.bool_str k t u
 | int i w e=>rw [e]; exact RcAt.int_str i w t u
 | str x w e=>rw [e,<- Bool.beq_eq_decide_eq]; exact RcAt.str_str x w t u
 | tup p e=>rw [e]; exact RcAt.tuple_str t u p hu
 | lst p e=>rw [e]; exact RcAt.list_str t u p hu
 | dic p e=>rw [e]; exact WA t u p hu
theorem TU (hu:X.A.units < cLine):OpR X (compareOp .Eq) (λ x y H Q=>∃ M d t,Dt X.K M H x d /\ y = .str t /\ Q (.bl (isS d t)) H):=by
 intro pins s Z H x y v u Q I rx ry h;obtain ⟨M,d,t,h1,rfl,q⟩:=h;obtain ⟨w,rfl⟩:=ry;exact (Zbj t I rx h1).rc w hu _ _ _ _ ⟨.bl _,H,I,rfl,q⟩
def PR:D2:=λ x y M Φ=>onD x λ d=>onS y λ t=>Φ (.dat (.bool (isS d t))) M
theorem Xy {k:Nat} (hr:QS k X.A):OpD X (compareOp .Eq) PR:=
 ⟨_,TU (by have:=hr.un; lia),λ v u H x y M Φ Q r rv ru h k=>by
  obtain ⟨d,e1,h⟩:=ZY h;obtain ⟨t,e2,q⟩:=Qc h;subst e1 e2
  exact ⟨M,d,t,rv,ru.str,k.dat r Step.refl (Dt.bl _) q⟩⟩
def Zbk:D2:=λ x y M Φ=>onD x λ d=>onT y λ ds=>∃ ts:List Str,ds = ts.map PyData.str /\ Φ (.dat (.bool (ts.any (isS d)))) M
theorem N1:type_of% @PR.eq_1:=λ _ _ _ _=>qI
end DL
namespace DL
open PySem.W
theorem XF:∀ (l acc:List (Key × V)),(l.map (·.1)).Nodup->(∀ p ∈ l,∀ q ∈ acc,q.1 ≠ p.1)->l.foldl (λ acc kv=>putK acc kv.1 kv.2) acc = acc ++ l
 | [],acc,_,_=>by simp
 | p :: l,acc,hn,hd=>by
  rw [List.map_cons,List.nodup_cons] at hn;have e:putK acc p.1 p.2 = acc ++ [p]:=by
   unfold putK;rw [if_neg];intro z;obtain ⟨q,hq,e⟩:=List.any_eq_true.mp z;exact hd p List.mem_cons_self q hq (of_decide_eq_true e)
  rw [List.foldl_cons,e,XF l _ hn.2 λ p' hp' q hq=>?_]
  ·simp
  ·rcases List.mem_append.mp hq with hq | hq
   ·exact hd p' (List.mem_cons_of_mem _ hp') q hq
   ·rw [List.mem_singleton.mp hq];intro z;exact hn.1 (List.mem_map.mpr ⟨p',hp',z.symm⟩)
theorem V4 (l:List (Key × V)) (h:(l.map (·.1)).Nodup):JN [] l = l:=by
 unfold JN;rw [XF l [] h λ p _ q hq=>(nomatch hq)];rfl
def LD (tk0 tk1 tk2 tk3 tk4 tk5 tv0 tv1 tv2 tv3 tv4 tv5:DTE):DTE:=λ Δ M Φ=>tk0 Δ M λ x0 M1=>tv0 Δ M1 λ y0 M2=>tk1 Δ M2 λ x1 M3=>tv1 Δ M3 λ y1 M4=>tk2 Δ M4 λ x2 M5=>tv2 Δ M5 λ y2 M6=>tk3 Δ M6 λ x3 M7=>tv3 Δ M7 λ y3 M8=>tk4 Δ M8 λ x4 M9=>tv4 Δ M9 λ y4 M10=>tk5 Δ M10 λ x5 M11=>tv5 Δ M11 λ y5 M12=>onS x0 λ s0=>onD y0 λ d0=>onS x1 λ s1=>onD y1 λ d1=>onS x2 λ s2=>onD y2 λ d2=>onS x3 λ s3=>onD y3 λ d3=>onS x4 λ s4=>onD y4 λ d4=>onS x5 λ s5=>onD y5 λ d5=>([s0,s1,s2,s3,s4,s5]:List Str).Nodup /\ ∀ p,M12 p = none->Φ (.own p) (Zu M12 p (.dkv [(Sum.inr s0,d0),(Sum.inr s1,d1),(Sum.inr s2,d2),(Sum.inr s3,d3),(Sum.inr s4,d4),(Sum.inr s5,d5)]))
theorem Fm {k0 k1 k2 k3 k4 k5 v0 v1 v2 v3 v4 v5:Expr} {tk0 tk1 tk2 tk3 tk4 tk5 tv0 tv1 tv2 tv3 tv4 tv5:DTE} (hk0:At X k0 tk0) (hv0:At X v0 tv0) (hk1:At X k1 tk1) (hv1:At X v1 tv1) (hk2:At X k2 tk2) (hv2:At X v2 tv2) (hk3:At X k3 tk3) (hv3:At X v3 tv3) (hk4:At X k4 tk4) (hv4:At X v4 tv4) (hk5:At X k5 tk5) (hv5:At X v5 tv5):DE X (.Dict [some k0,some k1,some k2,some k3,some k4,some k5] [v0,v1,v2,v3,v4,v5] pos) (LD tk0 tk1 tk2 tk3 tk4 tk5 tv0 tv1 tv2 tv3 tv4 tv5):=by
 obtain ⟨a0,pk0,qk0⟩:=hk0;obtain ⟨b0,pv0,qv0⟩:=hv0;obtain ⟨a1,pk1,qk1⟩:=hk1;obtain ⟨b1,pv1,qv1⟩:=hv1;obtain ⟨a2,pk2,qk2⟩:=hk2;obtain ⟨b2,pv2,qv2⟩:=hv2;obtain ⟨a3,pk3,qk3⟩:=hk3;obtain ⟨b3,pv3,qv3⟩:=hv3;obtain ⟨a4,pk4,qk4⟩:=hk4;obtain ⟨b4,pv4,qv4⟩:=hv4;obtain ⟨a5,pk5,qk5⟩:=hk5;obtain ⟨b5,pv5,qv5⟩:=hv5;refine ⟨_,CP (QI pk0 pv0 (QI pk1 pv1 (QI pk2 pv2 (QI pk3 pv3 (QI pk4 pv4 (QI pk5 pv5 Dr)))))) rfl rfl (by simp) (by simp),λ Z H Δ M Φ Q r e h kk p hp=>?_⟩;obtain ⟨u0,x0,ru0,i0,f0⟩:=qk0 Z H Δ M _ e h;clear h;obtain ⟨w0,y0,rw0,j0,g0⟩:=qv0 Z H Δ M _ e i0;clear i0;obtain ⟨u1,x1,ru1,i1,f1⟩:=qk1 Z H Δ M _ e j0;clear j0;obtain ⟨w1,y1,rw1,j1,g1⟩:=qv1 Z H Δ M _ e i1;clear i1;obtain ⟨u2,x2,ru2,i2,f2⟩:=qk2 Z H Δ M _ e j1;clear j1;obtain ⟨w2,y2,rw2,j2,g2⟩:=qv2 Z H Δ M _ e i2;clear i2;obtain ⟨u3,x3,ru3,i3,f3⟩:=qk3 Z H Δ M _ e j2;clear j2;obtain ⟨w3,y3,rw3,j3,g3⟩:=qv3 Z H Δ M _ e i3;clear i3;obtain ⟨u4,x4,ru4,i4,f4⟩:=qk4 Z H Δ M _ e j3;clear j3;obtain ⟨w4,y4,rw4,j4,g4⟩:=qv4 Z H Δ M _ e i4;clear i4;obtain ⟨u5,x5,ru5,i5,f5⟩:=qk5 Z H Δ M _ e j4;clear j4;obtain ⟨w5,y5,rw5,j5,g5⟩:=qv5 Z H Δ M _ e i5;clear i5;replace j5:=Qc j5;obtain ⟨s0,rfl,z0⟩:=j5;replace z0:=ZY z0;obtain ⟨d0,rfl,y0⟩:=z0;replace y0:=Qc y0;obtain ⟨s1,rfl,z1⟩:=y0;replace z1:=ZY z1;obtain ⟨d1,rfl,y1⟩:=z1;replace y1:=Qc y1;obtain ⟨s2,rfl,z2⟩:=y1;replace z2:=ZY z2;obtain ⟨d2,rfl,y2⟩:=z2;replace y2:=Qc y2;obtain ⟨s3,rfl,z3⟩:=y2;replace z3:=ZY z3;obtain ⟨d3,rfl,y3⟩:=z3;replace y3:=Qc y3;obtain ⟨s4,rfl,z4⟩:=y3;replace z4:=ZY z4;obtain ⟨d4,rfl,y4⟩:=z4;replace y4:=Qc y4;obtain ⟨s5,rfl,z5⟩:=y4;replace z5:=ZY z5;obtain ⟨d5,rfl,y5⟩:=z5;have h:=y5;refine f0 _ _ (g0 _ _ (f1 _ _ (g1 _ _ (f2 _ _ (g2 _ _ (f3 _ _ (g3 _ _ (f4 _ _ (g4 _ _ (f5 _ _ (g5 _ _ ⟨Z5,[((Sum.inr s0:Key),w0),((Sum.inr s1:Key),w1),((Sum.inr s2:Key),w2),((Sum.inr s3:Key),w3),((Sum.inr s4:Key),w4),((Sum.inr s5:Key),w5)],?_,by simp,?_⟩)))))))))))
 ·rw [ru0.str,ru1.str,ru2.str,ru3.str,ru4.str,ru5.str]; rfl
 ·have e1:JN [] [((Sum.inr s0:Key),w0),((Sum.inr s1:Key),w1),((Sum.inr s2:Key),w2),((Sum.inr s3:Key),w3),((Sum.inr s4:Key),w4),((Sum.inr s5:Key),w5)] = [((Sum.inr s0:Key),w0),((Sum.inr s1:Key),w1),((Sum.inr s2:Key),w2),((Sum.inr s3:Key),w3),((Sum.inr s4:Key),w4),((Sum.inr s5:Key),w5)]:=V4 _ (by simpa using h.1);rw [e1,MI];exact kk _ _ (.own p) _ (r.Mw (ps:=[(Sum.inr s0,d0),(Sum.inr s1,d1),(Sum.inr s2,d2),(Sum.inr s3,d3),(Sum.inr s4,d4),(Sum.inr s5,d5)]) (Step.QO hp) (.cons rw0 (.cons rw1 (.cons rw2 (.cons rw3 (.cons rw4 (.cons rw5 .nil))))))) (Step.QO hp) rfl (h.2 p (r.tracked hp))
theorem Es:type_of% @LD.eq_1:=λ _ _ _ _ _ _ _ _ _ _ _ _ _ _ _=>qI
theorem Dts.rep (h:Dts K M H vs ds):∀ n:Nat,Dts K M H (List.replicate n vs).flatten (List.replicate n ds).flatten
 | 0=>.nil
 | n + 1=>by rw [List.replicate_succ,List.replicate_succ,List.flatten_cons,List.flatten_cons]; exact h.append (h.rep n)
def Zau:D2:=λ x y M Φ=>onO x λ l=>onI y λ i=>QG (M l) λ ds=>(0 <= i /\ i < 2 ^ 63 /\ ds.length * i.toNat <= sizeLine) /\ Φ (.dat (.list (List.replicate i.toNat ds).flatten)) M
theorem RF:OpD X (binaryOp .Mult) Zau:=by
 refine ⟨_,T2,λ v u H x y M Φ Q r rv ru h k=>?_⟩;replace h:=ZM h;obtain ⟨l,rfl,h⟩:=h;replace h:=ZS h;obtain ⟨i,rfl,h⟩:=h;replace h:=Qq h;obtain ⟨ds,hl,⟨h1,h2,h3⟩,q⟩:=h;cases (show v = .ref l from rv);obtain ⟨ws,g1,g2⟩:=r.ls l _ hl;exact ⟨l,i,ws,rfl,ru.int,g1,by lia,h2,by rw [g2.length]; exact h3,λ p hp=>k.dat (r.new hp) (Step.new hp) (Dt.Jh r hp (g2.rep _)) q⟩
theorem Ob:type_of% @Zau.eq_1:=λ _ _ _ _=>qI
end DL
namespace DL
open PySem.W PySem.SeqAt PySem.MeetsSeq
def SX:D2:=λ x y M Φ=>onT x λ ds=>onI y λ k=>(2 <= k /\ k <= 1000 /\ 1 <= ds.length /\ ds.length <= 1000) /\ Φ (.dat (.tuple (List.replicate k.toNat ds).flatten)) M
theorem D4:OpR X (binaryOp .Add) (λ x y H Q=>∃ a b xs ys,x = .ref a /\ y = .ref b /\ SqT X.K H a xs /\ SqT X.K H b ys /\ xs.length + ys.length <= sizeLine /\
  (xs = []->Q (.ref b) H) /\ (xs ≠ []->ys = []->Q (.ref a) H) /\ (xs ≠ []->ys ≠ []->∀ p,H p = none->Q (.ref p) (upd H p (.tup (xs ++ ys))))):=by
 intro pins s Z H x y v u Q I rx ry h;obtain ⟨a,b,xs,ys,rfl,rfl,ha,hb,hz,q0,q1,q2⟩:=h
 by_cases hx:xs = []
 ·cases rx;cases ry;obtain ⟨its,r1,p1,_⟩:=I.tuple ha;obtain ⟨its2,r2,p2,_⟩:=I.tuple hb;obtain ⟨⟨cls,dd,data,sl⟩,ho,hc,n,hd⟩:=id p1;obtain ⟨⟨cls2,dd2,data2,sl2⟩,ho2,hc2,n2,hd2⟩:=id p2;simp only at hc hd hc2 hd2;subst hc hd hc2 hd2;have he:its = []:=r1.Yu.mpr hx;exact concat_meets ⟨_,ho,rfl⟩ ⟨_,ho2,rfl⟩ noFill_tuple_add seq_tuple_add PySem.F.slot_tuple_add PySem.F.entry_tuple_add (PySem.F.args_tuple_add_2 _ _)
   (tuple_addW0 a b its.toArray its2.toArray n n2 dd dd2 sl sl2 (by rw [he]; rfl)) ⟨ho,ho2,⟨.ref b,H,I,rfl,q0 hx⟩⟩
 ·exact Nk pins s Z H _ _ v u Q I rx ry ⟨a,b,xs,ys,rfl,rfl,ha,hb,hx,hz,q1 hx,q2 hx⟩
def Gs:D2:=λ x y M Φ=>onT x λ ds=>onT y λ es=>ds.length + es.length <= sizeLine /\ Φ (.dat (.tuple (ds ++ es))) M
theorem Qi:OpD X (binaryOp .Add) Gs:=by
 refine ⟨_,D4,λ v u H x y M Φ Q r rv ru h k=>?_⟩;replace h:=WC h;obtain ⟨ds,rfl,h⟩:=h;replace h:=WC h;obtain ⟨es,rfl,hz,q⟩:=h;obtain ⟨a,xs,rfl,h1,h2⟩:=id rv.tup;obtain ⟨b,ys,rfl,h3,h4⟩:=id ru.tup;refine ⟨a,b,xs,ys,rfl,rfl,h1.sq,h3.sq,by rw [h2.length,h4.length]; exact hz,λ e=>?_,λ e e2=>?_,λ e e2 p hp=>?_⟩
 ·subst e;cases h2;exact k _ _ _ _ r Step.refl ru q
 ·subst e2;cases h4;rw [List.append_nil] at q;exact k _ _ _ _ r Step.refl rv q
 ·exact k.dat (r.new hp) (Step.new hp) (Dt.Y9 r hp (h2.append h4)) q
theorem BV:type_of% @Gs.eq_1:=λ _ _ _ _=>qI
end DL
namespace DL
open PySem.W
def TH (a b:Addr) (n:Nat) (i:Nat) (h:Heap):Prop:=
 IsZip h (n + 4) (n + 2) (n + 3) .none /\ IsPair h (n + 2) (.ref n) (.ref (n + 1)) /\ (∃ u v,IsPair h (n + 3) u v) /\ h.IsListIter n a i /\ h.IsListIter (n + 1) b i
theorem zn {p q:Nat} (h:p ≠ q):n + p ≠ n + q:=λ e=>h (Nat.add_left_cancel e)
theorem zn0 {p:Nat} (h:p ≠ 0):n + p ≠ n:=λ e=>h (by lia)
theorem TH.apart {xs ys:Array Value} (st:TH a b n i h) (ha:h.IsList a xs) (hb:h.IsList b ys):ZipApart (n + 4) (n + 2) (n + 3) n (n + 1) a b:=by
 obtain ⟨hz,h2,⟨u,v,h3⟩,h0,h1⟩:=st;have nz:∀ {l:Addr} {zs:Array Value} (_:h.IsList l zs),l ≠ n + 4 /\ l ≠ n + 3 /\ l ≠ n /\ l ≠ n + 1:=by
  intro l zs hl;obtain ⟨o,ho,hc,_⟩:=hl;refine ⟨λ e=>?_,λ e=>?_,λ e=>?_,λ e=>?_⟩
  ·rw [e,hz] at ho; cases ho; exact absurd (Value.type.inj hc) (by decide)
  ·rw [e,h3] at ho; cases ho; exact absurd (Value.type.inj hc) (by decide)
  ·obtain ⟨o',ho',hc',_⟩:=h0;rw [e,ho'] at ho; cases ho; rw [hc'] at hc; exact absurd (Value.type.inj hc) (by decide)
  ·obtain ⟨o',ho',hc',_⟩:=h1;rw [e,ho'] at ho; cases ho; rw [hc'] at hc; exact absurd (Value.type.inj hc) (by decide)
 have A:=nz ha;have B:=nz hb;exact ⟨zn (by decide),zn (by decide),(zn0 (by decide)).symm,zn (by decide),zn (by decide),zn0 (by decide),zn (by decide),zn0 (by decide),zn (by decide),(zn0 (by decide)).symm,A.1,A.2.1,A.2.2.1,A.2.2.2,B.1,B.2.1,B.2.2.1,B.2.2.2⟩
abbrev DTP:=DSt->Mp->(List (DV × DV)->Mp->Prop)->Prop
def DPs (X:Cx) (pos:Pos) (keys:List (Option Expr)) (values:List Expr) (τ:DTP):Prop:=
 ∃ trs,PPs X pos keys values trs /\ trs.length = keys.length /\ ∀ Z H Δ M Φ (Q:List (V × V)->Hp->Prop),Zz X.K M H->Qr X.K M H Z Δ->τ Δ M Φ ->
  (∀ ps H' qs M',Zz X.K M' H'->Step M H M' H'->Paired (λ (p:V × V) (q:DV × DV)=>Qd X.K M' H' p.1 q.1 /\ Qd X.K M' H' p.2 q.2) ps qs->Φ qs M'->Q ps H')->W5 trs Z H Q
def TQ:DTP:=λ _ M Φ=>Φ [] M
def LY (tk tv:DTE) (t:DTP):DTP:=λ Δ M Φ=>tk Δ M λ x M1=>tv Δ M1 λ y M2=>t Δ M2 λ qs M3=>Φ ((x,y) :: qs) M3
theorem O6 (Δ:DSt) (M:Mp) (Φ:List (DV × DV)->Mp->Prop):TQ Δ M Φ = Φ [] M:=qI
theorem D0:type_of% @LY.eq_1:=λ _ _ _ _ _ _=>qI
theorem By:DPs X pos [] [] TQ:=⟨[],Dr,rfl,λ _ H _ M _ _ r _ h k=>k [] H [] M r Step.refl .nil h⟩
theorem Qs {k v:Expr} {ks:List (Option Expr)} {vs:List Expr} {tk tv:DTE} {t:DTP} (hk:DE X k tk) (hv:DE X v tv) (hr:DPs X pos ks vs t):DPs X pos (some k :: ks) (v :: vs) (LY tk tv t):=by
 obtain ⟨a,p,q⟩:=hk;obtain ⟨b,p2,q2⟩:=hv;obtain ⟨c,p3,hl,q3⟩:=hr;refine ⟨_,QI p p2 p3,by rw [List.length_cons,List.length_cons,hl],λ Z H Δ M Φ Q r e h k=>?_⟩;refine q Z H Δ M _ _ r e h λ x H1 x' M1 r1 st1 rx hx=>?_;refine q2 Z H1 Δ M1 _ _ r1 (e.step st1) hx λ y H2 y' M2 r2 st2 ry hy=>?_;exact q3 Z H2 Δ M2 _ _ r2 ((e.step st1).step st2) hy λ ps H3 qs M3 r3 st3 rp hq=>k _ H3 _ M3 r3 ((st1.trans st2).trans st3) (.cons ⟨(rx.step st2).step st3,ry.step st3⟩ rp) hq
def Wa:List (DV × DV)->(List (Key × PyData)->Prop)->Prop
 | [],P=>P []
 | (x,y) :: r,P=>JF x λ k=>onD y λ d=>Wa r λ l=>P ((k,d) :: l)
theorem Ww (P:List (Key × PyData)->Prop):Wa [] P = P []:=qI
theorem XB (x y:DV) (r:List (DV × DV)) (P:List (Key × PyData)->Prop):Wa ((x,y) :: r) P = (JF x λ k=>onD y λ d=>Wa r λ l=>P ((k,d) :: l)):=qI
theorem Ug:∀ {qs:List (DV × DV)} {P:List (Key × PyData)->Prop},Wa qs P->∃ l,qs = l.map (λ kd=>(DV.dat (kD kd.1),DV.dat kd.2)) /\ P l
 | [],P,h=>⟨[],rfl,h⟩
 | (x,y) :: r,P,h=>by
  obtain ⟨k,rfl,h1⟩:=HP (show JF x λ k=>onD y λ d=>Wa r λ l=>P ((k,d) :: l) from h);obtain ⟨d,rfl,h2⟩:=ZY h1;obtain ⟨l,rfl,h3⟩:=Ug h2;exact ⟨(k,d) :: l,rfl,h3⟩
theorem WY:∀ {l:List (Key × PyData)} {ps:List (V × V)},Paired (λ (p:V × V) (q:DV × DV)=>Qd K M H p.1 q.1 /\ Qd K M H p.2 q.2) ps (l.map λ kd=>(DV.dat (kD kd.1),DV.dat kd.2)) ->
  ∃ kvs:List (Key × V),ps = kvs.map (λ kv=>(kV kv.1,kv.2)) /\ KD K M H kvs l
 | [],ps,h=>by rw [List.map_nil] at h; cases h; exact ⟨[],rfl,.nil⟩
 | (k,d) :: l,ps,h=>by
  rw [List.map_cons] at h;cases h with
  | @cons p q ps' qs' h1 h2=>
   obtain ⟨kvs,rfl,hk⟩:=WY h2;obtain ⟨p1,p2⟩:=p;have e:p1 = kV k:=Zdb h1.1;have h12:Dt K M H p2 d:=h1.2;exact ⟨(k,p2) :: kvs,by rw [e]; rfl,.cons h12 hk⟩
def ZaY (t:DTP):DTE:=λ Δ M Φ=>∀ p,M p = none->t Δ (Zu M p (.dkv [])) λ qs M2=>Wa qs λ l=>M2 p = some (.dkv []) /\ ((l.map (·.1)).Nodup /\ l.length <= 15) /\ Φ (.own p) (Zu M2 p (.dkv l))
theorem Dv {keys:List (Option Expr)} {values:List Expr} {t:DTP} (h:DPs X pos keys values t) (hall:autoParam (keys.all (·.isSome) = true) zz3._auto_1) (hl:autoParam (keys.length = values.length) zz3._auto_1) (h0:autoParam (keys ≠ []) zz9._auto_1)
  (h15:autoParam (keys.length <= 15) zz1._auto_1):DE X (.Dict keys values pos) (ZaY t):=by
 obtain ⟨trs,p,_,q⟩:=h;refine ⟨_,CP p hall hl h0 h15,λ Z H Δ M Φ Q r e h k a ha=>?_⟩;have ma:=r.tracked ha;have r0:Zz X.K (Zu M a (.dkv [])) (upd H a (.dK [])):=r.Mw (kvs:=[]) (ps:=[]) (Step.QO ha) .nil;have s0:Step M H (Zu M a (.dkv [])) (upd H a (.dK [])):=Step.QO ha;refine q Z _ Δ _ _ _ r0 (e.step s0) (h a ma) λ ps H2 qs M2 r2 st2 rp hq=>?_;obtain ⟨l,rfl,m2,⟨nd,l15⟩,f⟩:=Ug hq;obtain ⟨kvs,rfl,hk⟩:=WY rp;obtain ⟨kvs0,g0,k0⟩:=r2.dk m2;have e0:kvs0 = []:=by
  have:=k0.length;exact List.length_eq_zero_iff.mp (by simpa using this)
 subst e0;refine ⟨g0,kvs,rfl,by rw [hk.length]; exact l15,?_⟩;rw [V4 kvs (by rw [hk.keys]; exact nd)];have s3:Step M2 H2 (Zu M2 a (.dkv l)) (upd H2 a (.dK kvs)):=Step.V6 m2;exact k _ _ (.own a) _ (r2.Mw s3 hk) ((s0.trans st2).trans s3) rfl f
section
variable {Z:L2.St}
end
section
variable {E:Value->Shared->Prop}
end
theorem EZ {vs:List Value} {out:Array Value} {o:Obj} (q:h.get? b = some o):(sortedHeap (h.push (seqObj "list" vs.toArray 0)) h.objs.size vs out).get? b = some o:=by
 have bl:b < h.objs.size:=Heap.lt_size q;unfold sortedHeap;exact (Heap.get?_update_other _ _ (Nat.ne_of_gt bl)).trans (Heap.get?_push_of_some _ (Heap.get?_push_of_some _ ((Heap.get?_update_other _ _ (Nat.ne_of_gt bl)).trans (Heap.get?_push_of_some _ q))))
theorem Of (h:Heap) (vs:List Value) (out:Array Value):∃ e,(sortedHeap (h.push (seqObj "list" vs.toArray 0)) h.objs.size vs out).get? h.objs.size = some (seqObj "list" out e):=by
 unfold sortedHeap;have h1:(h.push (seqObj "list" vs.toArray 0)).get? h.objs.size = some (seqObj "list" vs.toArray 0):=Heap.get?_push_size _ rfl;exact ⟨_,get?_update_seq (Heap.get?_push_of_some _ (Heap.get?_push_of_some _ (get?_update_seq h1 (λ _=>#[])))) (λ _=>out)⟩
section
variable {E:Value->Shared->Prop}
end
section
variable {t:TA} {p pos2:Pos}
end
end DL
namespace DL
end DL
namespace DL
open PySem.W
structure Gives (it l:Addr) (xs:Array Value) (st:Nat->Heap->Prop):Prop where
 frame:∀ {i:Nat} {h h':Heap},st i h->(∀ b,b = it \/ b = l->∀ o,h.get? b = some o->h'.get? b = some o)->st i h'
 live:∀ {i:Nat} {h:Heap},st i h->∃ o,h.get? it = some o
 item:∀ {prog:Program} {w:World} {A:Around} {E:Value->Shared->Prop} {s:Shared} {Q:Value->Shared->Prop} {i:Nat} {x:Value},st i s.heap->xs[i]? = some x ->
  (∀ h',st (i + 1) h'->Heap.SameBut it s.heap h'->Q x { s with heap:=h' })->wpAny (model prog w) A (Builtin.SmallTypes.nextOf (.ref it)) Q E s
 done:∀ {prog:Program} {w:World} {A:Around} {E:Value->Shared->Prop} {s:Shared} {Q:Value->Shared->Prop} {i:Nat},A.handled = none->st i s.heap->xs[i]? = none ->
  (∀ h' e,Heap.ExtBut it s.heap h'->(∃ o,h'.get? e = some o /\ o.cls = .type "StopIteration")->E (.ref e) { s with heap:=h' })->wpAny (model prog w) A (Builtin.SmallTypes.nextOf (.ref it)) Q E s
section
variable {prog:Program} {E:Value->Shared->Prop} {z TI TO l m:Addr} {xs ys:Array Value} {f g:Nat->Heap->Prop}
end
section
variable {prog:Program} {E:Value->Shared->Prop}
end
section
variable {g:DTG} {tb:DTS} {body:List Stmt}
end
end DL
namespace DL
structure Zcf (X:Cx) (scope:Scope) (k:Str) (N:List Str) (ix:List (Option Nat)):Prop where
 kind:scope.kind = .function
 cf:∀ n cl,cellsFrom n scope.names cl = (k,n) :: cl
 pc:∀ h,pushCells h scope.names = h.push { cls:=.type "cell",data:=.cell none }
 cellK:∀ y ∈ scope.names,y.2 = .cell->y.1 = k
 nk:∀ y ∈ scope.names,y.2 = .free->y.1 ≠ k
 names:∀ y ∈ scope.names,y.2 = .local->scope.names.lookup y.1 = some .local
 free:∀ y ∈ scope.names,y.2 = .free->X.env.kindOf y.1 = some .cell
 len:N.length = ix.length
 cap:∀ (j:Nat) (x:Str) (i:Nat),N[j]? = some x->ix[j]? = some (some i)->X.N[i]? = some x /\ (x,NameKind.free) ∈ scope.names /\ (relabel scope X.env).names.lookup x = some .cell
section
variable {Z:L2.St} {H2:Hp} {s2:Shared} {k:Str} {C:Addr} {fp:List Addr}
end
end DL
namespace DL
open PySem.W
theorem Qd.zero {x:DV} (h:Qd K M H v x) (n:∀ t,x ≠ .ty t):VR0 K M H v x:=by
 cases x with
 | dat d=>exact h
 | own b=>exact h
 | ty t=>exact absurd rfl (n t)
 | mix xs=>exact h
section
variable {o i value:Expr} {td ti tv:DTE} {pos':Pos}
def ZbD (x:DV) (P:Prop):Prop:=match x with | .ty _=>False | _=>P
theorem OU {x:DV} {P:Prop} (h:ZbD x P):(∀ t,x ≠ .ty t) /\ P:=by
 cases x with
 | dat d=>exact ⟨λ t e=>(by cases e),h⟩
 | own a=>exact ⟨λ t e=>(by cases e),h⟩
 | ty t=>exact h.elim
 | mix xs=>exact ⟨λ t e=>(by cases e),h⟩
end
section
open PySem.SeqAt
open PySem.AutoSeq1 (wpAny_loadPart')
open PySem.MeetsSeq PySem.MeetsSeq2 PySem.MeetsSeq3
variable {prog:Program} {E:Value->Shared->Prop}
end
theorem Step.all:Step M H (λ _=>none) H:=⟨λ _ _ _ h=>h,λ _ _ _ _=>rfl⟩
def UQ (x:DV) (M:Mp) (P:PyData->Prop):Prop:=match x with | .dat d=>P d | .own q=>QG (M q) (λ ds=>P (.list ds)) | _=>False
theorem EY (d:PyData) (M:Mp) (P:PyData->Prop):UQ (.dat d) M P = P d:=qI
theorem DQ (q:Addr) (M:Mp) (P:PyData->Prop):UQ (.own q) M P = QG (M q) (λ ds=>P (.list ds)):=qI
theorem Kx {x:DV} {P:PyData->Prop} (h:UQ x M P) (r:Zz X.K M H) (rv:Qd X.K M H v x):∃ d,Dt X.K (λ _=>none) H v d /\ P d:=by
 cases x with
 | dat d=>exact ⟨d,Dt.step Step.all rv,h⟩
 | own q=>
  have h:QG (M q) (λ ds=>P (.list ds)):=h;replace h:=Qq h;obtain ⟨ds,hm,h⟩:=h;cases (show v = .ref q from rv);obtain ⟨vs,g1,g2⟩:=r.ls q ds hm;exact ⟨.list ds,.lst (.inl ⟨rfl,.inl g1⟩) (g2.step Step.all),h⟩
 | ty t=>exact h.elim
 | mix xs=>exact h.elim
def SK:D2:=λ x y M Φ=>UQ x M λ d=>UQ y M λ e=>Kc d e = true /\ Φ (.dat (.bool (PyData.eqv d e))) M
theorem Mv:type_of% @SK.eq_1:=λ _ _ _ _=>qI
def ZaU:D2:=λ x y M Φ=>UQ x M λ d=>UQ y M λ e=>Kc d e = true /\ Φ (.dat (.bool (!PyData.eqv d e))) M
theorem Pn {e:PyData} (h:Kc d e = true):d.canLay0 = true /\ e.canLay0 = true /\ min d.depth e.depth <= 64:=by
 unfold Kc at h;simp only [Bool.and_eq_true] at h;exact ⟨h.1.1,h.1.2,Nat.le_of_ble_eq_true h.2⟩
theorem Cb {k:Nat} (hr:QS k X.A):OpD X (compareOp .Eq) SK:=
 ⟨_,Lq hr.units,λ v u H x y M Φ Q r rv ru h k=>by
  obtain ⟨d,hd,h⟩:=Kx h r rv;obtain ⟨e,he,ok,q⟩:=Kx h r ru;obtain ⟨c1,c2,hdp⟩:=Pn ok
  exact ⟨_,d,e,hd,he,c1,c2,hdp,k.dat r Step.refl (Dt.bl _) q⟩⟩
def Dd:D1:=λ xs M Φ=>on1 xs λ x=>UQ x M λ d=>Shw d /\ Φ (.dat (.str d.shown)) M
theorem CJ:type_of% @Dd.eq_1:=λ _ _ _=>qI
theorem Hn {k:Nat} (hr:QS k X.A):JX X (.builtin "repr") Dd:=by
 refine ⟨_,V9 hr.gd (by have:=hr.un; lia),λ vs H xs M Φ Q r rv h k=>?_⟩;replace h:=ZU h;obtain ⟨x,rfl,h⟩:=h;obtain ⟨v,rfl,h1⟩:=Paired.one rv;obtain ⟨d,hd,hs,q⟩:=Kx h r h1;exact ⟨v,d,_,rfl,hd,hs.s,hs.m,hs.dp,hs.z,k.dat r Step.refl (Dt.str _) q⟩
end DL
namespace DL
end DL
namespace DL
open PySem.W
def Zax (x:DV) (M:Mp) (P:List PyData->Prop):Prop:=match x with | .dat (.list ds)=>P ds | .own q=>QG (M q) P | _=>False
def Zb0:D2:=λ x y M Φ=>onD x λ d=>Zax y M λ ds=>okIn d ds = true /\ Φ (.dat (.bool (ds.any λ e=>PyData.eqv e d))) M
def ZbW (i:Nat) (t:DTS):DTS:=λ D Δ M=>onV Δ[i]? λ x=>onO x λ l=>QG (M l) λ ds=>t D (Δ.set i (some (.dat (.list ds)))) (Jj M l)
section
variable {l:Expr} {tl:TE}
end
theorem S4 (k:Key):Dt K M H (kV k) (kD k):=by
 cases k with
 | inl i=>exact Dt.int i
 | inr x=>exact Dt.str x
section
variable {g:DTG} {tb:DTS} {body:List Stmt}
end
section
variable {o i:Expr} {td ti:DTE}
end
end DL
namespace DL
open PySem.W Builtin Builtin.Str
section
variable {a b:Expr} {rest:List Expr} {ta tb:DTE}
end
def UB (to:DTE):DTE:=λ Δ M Φ=>to Δ M λ x M1=>onO x λ l=>QG (M1 l) λ ds=>Φ (.dat .none) (Zu M1 l (.lst ds.reverse))
theorem UL:type_of% @UB.eq_1:=λ _ _ _ _=>qI
theorem Dts.rev:∀ {vs:List V} {ds:List PyData},Dts K M H vs ds->Dts K M H vs.reverse ds.reverse
 | _,_,.nil=>.nil
 | _,_,.cons h1 h2=>by
  rw [List.reverse_cons,List.reverse_cons];exact (Dts.rev h2).append (.cons h1 .nil)
theorem U3 {o:Expr} {to:DTE} {apos cpos:Pos} (ho:DE X o to) (hbase:autoParam (attributeBase o "reverse" X.env (eval o X.env) = eval o X.env) zz3._auto_1) (hline:autoParam ((apos.endLine == cpos.line) = true) zz3._auto_1) :
  DE X (.Call (.Attribute o "reverse" apos) [] [] cpos) (UB to):=by
 obtain ⟨t1,p1,q1⟩:=ho;refine ⟨_,R5 PySem.F.plainAttrs_list PySem.F.slot_list_reverse PySem.F.type_list_reverse UH p1 hbase hline,λ Z H Δ M Φ Q r e h k=>?_⟩;refine q1 Z H Δ M _ _ r e h λ v H1 x M1 r1 st rv hx=>?_;replace hx:=ZM hx;obtain ⟨l,rfl,hx⟩:=hx;replace hx:=Qq hx;obtain ⟨ds,hm,hx⟩:=hx;cases (show v = .ref l from rv);obtain ⟨vs,g1,g2⟩:=r1.ls l _ hm;refine ⟨.inl ⟨rfl,_,SqL.of g1⟩,l,_,rfl,rfl,g1,?_⟩;have st2:Step M1 H1 (Zu M1 l (.lst ds.reverse)) (upd H1 l (.lst vs.reverse)):=Step.V6 hm;exact k.dat (r1.Vb st2 g2.rev) (st.trans st2) Dt.non hx
def Td:DTS:=λ _ _ _=>False
theorem Fv (D:Z1) (Δ:DSt) (M:Mp):Td D Δ M = False:=rfl
end DL
namespace DL
open PySem.W
theorem Paired.atI {α β:Type} {F:α->β->Prop} {l:List α} {m:List β} {i:Int} {b:β} (h:Paired F l m) (e:L2.atI m i = some b):∃ a,L2.atI l i = some a /\ F a b:=by
 unfold L2.atI at e ⊢;rw [Paired.length h];cases q:ixN m.length i with
 | none=>rw [q] at e; cases e
 | some j=>
  rw [q] at e;exact Paired.Zbi h e
theorem Paired.app {α β:Type} {F:α->β->Prop}:∀ {l l':List α} {m m':List β},Paired F l m->Paired F l' m'->Paired F (l ++ l') (m ++ m')
 | _,_,_,_,.nil,h=>h
 | _,_,_,_,.cons h1 h2,h=>.cons h1 (Paired.app h2 h)
theorem Zz.lv (r:Zz K M H) {xs:List DV} (h:M a = some (.lsv n xs)):∃ vs,H a = some (.lst vs) /\ Paired (VR0 K M H) vs xs:=r.ok a _ h
theorem Mxs.of:∀ {vs:List V} {xs:List DV},Paired (VR0 K M H) vs xs->Mxs K M H vs xs
 | _,_,.nil=>.nil
 | _,.dat d :: _,.cons h1 h2=>.dat h1 (Mxs.of h2)
 | _,.own b :: _,.cons h1 h2=>by
  cases (show _ = V.ref b from h1);exact .own (Mxs.of h2)
 | _,.mix ys :: _,.cons h1 h2=>.mix h1 (Mxs.of h2)
 | _,.ty t :: _,.cons h1 h2=>h1.elim
theorem Mxs.vr:∀ {vs:List V} {xs:List DV},Mxs K M H vs xs->Paired (VR0 K M H) vs xs
 | _,_,.nil=>.nil
 | _,_,.dat h1 h2=>.cons h1 (Mxs.vr h2)
 | _,_,.own h2=>.cons rfl (Mxs.vr h2)
 | _,_,.mix h1 h2=>.cons h1 (Mxs.vr h2)
mutual
inductive AsD (M:Mp):DV->PyData->Prop
 | dat (d:PyData):AsD M (.dat d) d
 | lsv {a:Addr} {n:Nat} {xs:List DV} {ds:List PyData}:M a = some (.lsv n xs)->DJ M xs ds->AsD M (.own a) (.list ds)
 | mix {xs:List DV} {ds:List PyData}:DJ M xs ds->AsD M (.mix xs) (.tuple ds)
 | lst {a:Addr} {ds:List PyData}:M a = some (.lst ds)->AsD M (.own a) (.list ds)
 | dkv {a:Addr} {ps:List (Key × PyData)}:M a = some (.dkv ps)->AsD M (.own a) (.dict (ps.map λ q=>(kD q.1,q.2)))
inductive DJ (M:Mp):List DV->List PyData->Prop
 | nil:DJ M [] []
 | cons {x:DV} {xs:List DV} {d:PyData} {ds:List PyData}:AsD M x d->DJ M xs ds->DJ M (x :: xs) (d :: ds)
end
theorem TV (r:Zz K M H) {ps:List (Key × PyData)} (hm:M a = some (.dkv ps)):Dt K (λ _=>none) H (.ref a) (.dict (ps.map λ q=>(kD q.1,q.2))):=by
 obtain ⟨kvs,g1,g2,g3⟩:=(show OOk K M H a (.dkv ps) from r.ok a _ hm)
 have e:(kvs.map λ kv=>kD kv.1) = ps.map λ q=>kD q.1:=by
  have:=congrArg (List.map kD) g2
  rwa [List.map_map,List.map_map] at this
 have z:=Dt.dK (K:=K) (M:=λ _=>none) (H:=H) (a:=a) rfl g1 (g3.step Step.all);rw [e,List.zip_map'] at z;exact z
mutual
theorem AsD.dt (r:Zz K M H):∀ {x:DV} {d:PyData},AsD M x d->∀ {v:V},VR0 K M H v x->Dt K (λ _=>none) H v d
 | _,_,.dat _,_,h=>Dt.step Step.all h
 | _,_,.lsv hm hs,_,h=>by
  cases (show _ = V.ref _ from h);exact .lst (.inl ⟨rfl,.inl (r.lv hm).choose_spec.1⟩) (DJ.dt r hs (r.lv hm).choose_spec.2)
 | _,_,.mix hs,_,h=>by
  cases (show Mx K M H _ _ from h) with
  | mk h1 h2 h3=>exact .tup (.inl ⟨rfl,.inl h2⟩) (DJ.dt r hs h3.vr)
 | _,_,.lst hm,_,h=>by
  cases (show _ = V.ref _ from h);exact .lst (.inl ⟨rfl,.inl (r.ls _ _ hm).choose_spec.1⟩) ((r.ls _ _ hm).choose_spec.2.step Step.all)
 | _,_,.dkv hm,_,h=>by
  cases (show _ = V.ref _ from h);exact TV r hm
theorem DJ.dt (r:Zz K M H):∀ {xs:List DV} {ds:List PyData},DJ M xs ds->∀ {vs:List V},Paired (VR0 K M H) vs xs->Dts K (λ _=>none) H vs ds
 | _,_,.nil,_,h=>by cases h; exact .nil
 | _,_,.cons h1 h2,_,h=>by
  cases h with
  | cons a b=>exact .cons (AsD.dt r h1 a) (DJ.dt r h2 b)
end
mutual
noncomputable def K3:PyData->Bool
 | .none=>true
 | .bool _=>true
 | .int _=>true
 | .str _=>true
 | .tuple ds=>Xe ds
 | _=>false
noncomputable def Xe:List PyData->Bool
 | []=>true
 | d :: ds=>K3 d && Xe ds
end
theorem BU (r:Zz K M H) (h:Rd H a (.tup xs)):M a = none:=by
 cases q:M a with
 | none=>rfl
 | some o=>
  have g:=r.ok a o q;exfalso;have no:∀ u,H a = some u->(∀ ys,u ≠ .tup ys)->(∀ o ys,u ≠ .frz o (.tup ys))->False:=λ u e n1 n2=>by
   rcases h with h | ⟨o,h⟩
   ·rw [h] at e; cases e; exact n1 _ rfl
   ·rw [h] at e; cases e; exact n2 _ _ rfl
  cases o with
  | lst ds=>obtain ⟨vs,e,_⟩:=g; exact no _ e (λ _ z=>nomatch z) (λ _ _ z=>nomatch z)
  | dct ks=>obtain ⟨vs,e,_⟩:=g; exact no _ e (λ _ z=>nomatch z) (λ _ _ z=>nomatch z)
  | dtv ps=>obtain ⟨vs,e,_⟩:=g; exact no _ e (λ _ z=>nomatch z) (λ _ _ z=>nomatch z)
  | dkv ps=>obtain ⟨vs,e,_⟩:=g; exact no _ e (λ _ z=>nomatch z) (λ _ _ z=>nomatch z)
  | dko ps=>obtain ⟨vs,e,_⟩:=g; exact no _ e (λ _ z=>nomatch z) (λ _ _ z=>nomatch z)
  | fdk o ps=>obtain ⟨vs,e,_⟩:=g; exact no _ e (λ _ z=>nomatch z) (λ _ _ z=>(by cases z))
  | lsv n xs=>obtain ⟨vs,e,_⟩:=g; exact no _ e (λ _ z=>nomatch z) (λ _ _ z=>nomatch z)
  | ext φ=>exact no _ g (λ _ z=>nomatch z) (λ _ _ z=>nomatch z)
  | gst N₀ H₀=>obtain ⟨⟨vs,e,_⟩,_⟩:=g; exact no _ e (λ _ z=>nomatch z) (λ _ _ z=>nomatch z)
  | fdc o ks=>obtain ⟨vs,e,_⟩:=g; exact no _ e (λ _ z=>nomatch z) (λ _ _ z=>(by cases z))
  | fdt o ps=>obtain ⟨vs,e,_⟩:=g; exact no _ e (λ _ z=>nomatch z) (λ _ _ z=>(by cases z))
section
variable {o i:Expr} {es:List Expr} {to ti:DTE} {t:DTA} {pos':Pos}
def Zaj:List DV->Prop->Prop
 | [],P=>P
 | x :: r,P=>ZbD x (Zaj r P)
theorem Ck {K:Fj} {M:Mp} {H:Hp}:∀ {xs:List DV} {P:Prop},Zaj xs P->(∀ {vs:List V},JA K M H vs xs->Paired (VR0 K M H) vs xs) /\ P
 | [],P,h=>⟨λ q=>by cases q; exact .nil,h⟩
 | x :: r,P,h=>by
  obtain ⟨n,h2⟩:=OU (show ZbD x (Zaj r P) from h);obtain ⟨h3,h4⟩:=Ck (K:=K) (M:=M) (H:=H) h2;refine ⟨λ q=>?_,h4⟩;cases q with
  | cons a b=>exact .cons (Qd.zero a n) (h3 b)
end
section
variable {g:DTG} {tb:DTS} {body:List Stmt}
end
noncomputable def kvD (ps:List (Key × PyData)):PyData:=.dict (ps.map λ q=>(kD q.1,q.2))
theorem Cy {a b:Key} (h:kD a = kD b):a = b:=by
 cases a <;> cases b <;> first | (cases h; rfl) | (cases h)
theorem LM:∀ {kvs:List (Key × V)} {ds:List PyData} {ps:List (Key × PyData)},Dts K M H (kvs.map (·.2)) ds->(kvs.map λ kv=>kD kv.1).zip ds = ps.map (λ q=>(kD q.1,q.2))->KD K M H kvs ps
 | [],_,[],_,_=>.nil
 | [],_,_ :: _,_,h=>by simp at h
 | (k,v) :: kvs,_,[],.cons _ _,h=>by simp at h
 | (k,v) :: kvs,_,(k',d') :: ps,.cons h1 h2,h=>by
  rw [List.map_cons,List.map_cons,List.zip_cons_cons,List.cons.injEq,Prod.mk.injEq] at h;obtain ⟨⟨e1,e2⟩,e3⟩:=h;dsimp only at e1 e2;cases Cy e1;subst e2;exact .cons h1 (LM h2 e3)
theorem Dt.kv {ps:List (Key × PyData)} (h:Dt K M H v (kvD ps)):∃ a kvs,v = .ref a /\ M a = none /\ H a = some (.dK kvs) /\ KD K M H kvs ps:=by
 generalize e:kvD ps = d at h;cases h with
 | dK h0 h1 h2=>
  unfold kvD at e;rw [PyData.dict.injEq] at e;exact ⟨_,_,rfl,h0,h1,LM h2 e.symm⟩
 | @dT a kvs ds h0 h1 h2 h3=>
  unfold kvD at e;rw [PyData.dict.injEq] at e;cases kvs with
  | nil=>exact absurd rfl h3
  | cons kv kvs=>
   cases h2 with
   | cons h2 h4=>
    cases ps with
    | nil=>simp at e
    | cons q ps=>
     rw [List.map_cons,List.map_cons,List.zip_cons_cons,List.cons.injEq,Prod.mk.injEq] at e;obtain ⟨⟨e1,_⟩,_⟩:=e;obtain ⟨k,d⟩:=q;cases k <;> cases e1
 | dX h0 h1 h2 h3 h4 h5=>
  unfold kvD at e;rw [PyData.dict.injEq] at e;cases ps with
  | nil=>simp at e
  | cons q ps=>
   rw [List.map_cons,List.cons.injEq,Prod.mk.injEq] at e;obtain ⟨⟨e1,_⟩,_⟩:=e;obtain ⟨k,d⟩:=q;cases k with
   | inl i=>dsimp only [kD] at e1; subst e1; cases h4
   | inr i=>dsimp only [kD] at e1; subst e1; cases h4
 | _=>unfold kvD at e; cases e
section
variable {o f:Expr} {td tf:DTE} {p apos cpos:Pos}
end
section
variable {prog:Program} {E:Value->Shared->Prop} {κ:SortKind} {f:Nat->Keyed} {lt:Nat->Nat->Bool} {st:SortSt}
def Ans (prog:Program) (w:World) (A:Around) (s:Shared) (κ:SortKind) (f:Nat->Keyed) (lt:Nat->Nat->Bool) (n:Nat):Prop:=
 ∀ i j,i < n->j < n->∀ C:Bool->Shared->Prop,C (lt i j) s->wpAny (model prog w) A (keyLt' κ (f i).1 (f j).1) C (λ _ _=>False) s
theorem Kg (h:Ans prog w A s κ f lt n) (hk:kindOf st = κ) (hi:i < n) (hj:j < n) {Q:Option Bool->SortSt->Prop} (q:Q (some (lt i j)) st):wpS (model prog w) A E s (lt' (f i) (f j)) Q st:=by
 rw [lt'_eq];refine wpS_bind (wpS_get ?_);rw [hk];refine wpS_bind (wpS_lift (wpAny_attempt (wpAny_mono (h i j hi hj (λ b s'=>b = lt i j /\ s' = s) ⟨rfl,rfl⟩) (λ b s' z=>?_) λ _ _ z=>z.elim)));obtain ⟨rfl,rfl⟩:=z;exact ⟨rfl,wpS_pure q⟩
theorem ZC {arr:Array Keyed} {p:Array Nat} (e:arr = p.map f) (hi:i < p.size) {Q:Keyed->SortSt->Prop} (q:Q (f (at' p i)) st):wpS (model prog w) A E s (elem' arr i) Q st:=by
 rw [elem'_eq,e];have:(p.map f)[i]? = some (f (at' p i)):=by simp [at',hi]
 rw [this];exact wpS_pure q
theorem Zi {α:Type} {c:Prop} {dc:Decidable c} {x y:StateT SortSt Sem α} {Q:α->SortSt->Prop} (h1:c->wpS (model prog w) A E s x Q st) (h2:¬ c->wpS (model prog w) A E s y Q st):wpS (model prog w) A E s (if c then x else y) Q st:=by
 split
 ·exact h1 ‹_›
 ·exact h2 ‹_›
theorem FR {γ:Type} {X:Nat->Nat->StateT SortSt Sem γ} {Q:γ->SortSt->Prop} (R:Nat->Nat->Prop) {goal:Prop} (k:(∀ x y,R x y->wpS (model prog w) A E s (X x y) Q st)->goal) (h:∀ x y,R x y->wpS (model prog w) A E s (X x y) Q st):goal:=k h
noncomputable def Nd:Bool->Keyed->Array Keyed->Nat->Nat->Nat->StateT SortSt Sem (Option Nat):=sortPriv% PySem.Builtin.gallop
noncomputable def byd (lt:Nat->Nat->Bool) (left:Bool) (k:Nat) (p:Array Nat) (base i:Nat):Bool:=if left then lt (at' p (base + i)) k else !lt k (at' p (base + i))
theorem YL (h:Ans prog w A s κ f lt n) (hk:kindOf st = κ) {left:Bool} {k:Nat} {p:Array Nat} {arr:Array Keyed} (ea:arr = p.map f) (kn:k < n) (pn:∀ i,i < p.size->at' p i < n) (hi:base + i < p.size) {Q:Option Bool->SortSt->Prop} (q:Q (some (byd lt left k p base i)) st) :
  wpS (model prog w) A E s (do let x <- elem' arr (base + i); if left = true then lt' x (f k) else do let r <- lt' (f k) x; pure (r.map (!·))) Q st:=by
 refine wpS_bind (ZC ea hi ?_);unfold byd at q;cases left with
 | true=>rw [if_pos rfl] at q ⊢; exact Kg h hk (pn _ hi) kn q
 | false=>rw [if_neg Bool.false_ne_true] at q ⊢; exact wpS_bind (Kg h hk kn (pn _ hi) (wpS_pure q))
theorem Qm (h:Ans prog w A s κ f lt n) (hk:kindOf st = κ) {left:Bool} {k:Nat} {p:Array Nat} {arr:Array Keyed} (ea:arr = p.map f) {hint:Nat} (kn:k < n) (pn:∀ i,i < p.size->at' p i < n) (hb:base + m <= p.size) (hh:hint < m)
  (mono:∀ i j,i <= j->j < m->byd lt left k p base j = true->byd lt left k p base i = true) {Q:Option Nat->SortSt->Prop}
  (q:∀ r,r <= m->(∀ i,i < r->byd lt left k p base i = true)->(∀ i,r <= i->i < m->byd lt left k p base i = false)->Q (some r) st):wpS (model prog w) A E s (Nd left (f k) arr base m hint) Q st:=by
 have anti:∀ i j,i <= j->j < m->byd lt left k p base i = false->byd lt left k p base j = false:=λ i j h1 h2 h3=>by
  cases e:byd lt left k p base j with
  | false=>rfl
  | true=>rw [mono i j h1 h2 e] at h3; cases h3
 refine wpS_bind (YL h hk ea kn pn (by lia) ?_);apply FR (st:=st) λ lo hi=>lo <= hi /\ hi <= m /\ (∀ i,i < lo->byd lt left k p base i = true) /\ ∀ i,hi <= i->i < m->byd lt left k p base i = false
 ·intro go;dsimp only;cases hr:byd lt left k p base hint with
  | true=>
   rw [if_pos rfl]
   refine wpS_bind (wpS_mono (wpS_forRange (I:=λ x c st'=>st = st' /\ ∃ la ofs,c = (none,la,ofs) /\ x < ofs /\ la < ofs /\ hint + la < m /\ byd lt left k p base (hint + la) = true)
    (Q:=λ c st'=>st = st' /\ ∃ la ofs,c = (none,la,ofs) /\ la < ofs /\ hint + la < m /\ byd lt left k p base (hint + la) = true /\ (m - hint <= ofs \/ (hint + ofs < m /\ byd lt left k p base (hint + ofs) = false))) ?_ ?_ ⟨rfl,0,1,rfl,Nat.one_pos,Nat.one_pos,hh,hr⟩) ?_)
   ·rintro x _ _ _ hx ⟨rfl,la,ofs,rfl,h1,h2,h3,h4⟩
    by_cases g:ofs ≥ m - hint
    ·dsimp only;rw [if_pos g];exact wpS_pure ⟨rfl,la,ofs,rfl,h2,h3,h4,.inl g⟩
    ·have l:hint + ofs < m:=by lia
     dsimp only;rw [if_neg g];refine wpS_bind (YL h hk ea kn pn (by lia) ?_);dsimp only;cases hm:byd lt left k p base (hint + ofs) with
     | false=>exact wpS_pure ⟨rfl,la,ofs,rfl,h2,h3,h4,.inr ⟨l,hm⟩⟩
     | true=>exact wpS_pure ⟨rfl,ofs,2 * ofs + 1,rfl,by lia,by lia,l,hm⟩
   ·rintro _ _ ⟨rfl,la,ofs,rfl,h1,h2,h3,h4⟩;exact ⟨rfl,la,ofs,rfl,h2,h3,h4,.inl (by lia)⟩
   ·rintro _ _ ⟨rfl,la,ofs,rfl,h2,h3,h4,h5⟩;have z1:hint + la + 1 <= hint + min ofs (m - hint):=by lia
    have z2:hint + min ofs (m - hint) <= m:=by lia
    have z3:∀ i,i < hint + la + 1->byd lt left k p base i = true:=λ i hi=>mono _ _ (Nat.le_of_lt_succ hi) h3 h4;have z4:∀ i,hint + min ofs (m - hint) <= i->i < m->byd lt left k p base i = false:=λ i h6 h7=>by
     rcases h5 with z | ⟨z1,z2⟩
     ·lia
     ·exact anti (hint + ofs) i (by lia) h7 z2
    dsimp only;generalize hint + la + 1 = lo at z1 z3 ⊢;generalize hint + min ofs (m - hint) = hi at z1 z2 z4 ⊢;exact go lo hi ⟨z1,z2,z3,z4⟩
  | false=>
   rw [if_neg Bool.false_ne_true]
   refine wpS_bind (wpS_mono (wpS_forRange (I:=λ x c st'=>st = st' /\ ∃ la ofs,c = (none,la,ofs) /\ x < ofs /\ la < ofs /\ la <= hint /\ byd lt left k p base (hint - la) = false)
    (Q:=λ c st'=>st = st' /\ ∃ la ofs,c = (none,la,ofs) /\ la < ofs /\ la <= hint /\ byd lt left k p base (hint - la) = false /\ (hint + 1 <= ofs \/ (ofs <= hint /\ byd lt left k p base (hint - ofs) = true))) ?_ ?_ ⟨rfl,0,1,rfl,Nat.one_pos,Nat.one_pos,Nat.zero_le _,hr⟩) ?_)
   ·rintro x _ _ _ hx ⟨rfl,la,ofs,rfl,h1,h2,h3,h4⟩
    by_cases g:ofs ≥ hint + 1
    ·dsimp only;rw [if_pos g];exact wpS_pure ⟨rfl,la,ofs,rfl,h2,h3,h4,.inl g⟩
    ·have l:ofs <= hint:=by lia
     dsimp only;rw [if_neg g];refine wpS_bind (YL h hk ea kn pn (by lia) ?_);dsimp only;cases hm:byd lt left k p base (hint - ofs) with
     | true=>exact wpS_pure ⟨rfl,la,ofs,rfl,h2,h3,h4,.inr ⟨l,hm⟩⟩
     | false=>exact wpS_pure ⟨rfl,ofs,2 * ofs + 1,rfl,by lia,by lia,l,hm⟩
   ·rintro _ _ ⟨rfl,la,ofs,rfl,h1,h2,h3,h4⟩;exact ⟨rfl,la,ofs,rfl,h2,h3,h4,.inl (by lia)⟩
   ·rintro _ _ ⟨rfl,la,ofs,rfl,h2,h3,h4,h5⟩;refine go _ _ ⟨?_,?_,λ i hi=>?_,λ i h6 h7=>anti _ _ h6 h7 h4⟩
    ·show hint + 1 - min ofs (hint + 1) <= hint - la;lia
    ·show hint - la <= m;lia
    ·have hi:i < hint + 1 - min ofs (hint + 1):=hi
     rcases h5 with z | ⟨z1,z2⟩
     ·lia
     ·exact mono i (hint - ofs) (by lia) (by lia) z2
 rintro lo hi ⟨g1,g2,g4,g5⟩
 refine wpS_bind (wpS_mono (wpS_forRange (I:=λ x c st'=>st = st' /\ ∃ lo hi,c = (none,lo,hi) /\ lo <= hi /\ hi <= m /\ hi - lo + x <= m /\ (∀ i,i < lo->byd lt left k p base i = true) /\ (∀ i,hi <= i->i < m->byd lt left k p base i = false))
  (Q:=λ c st'=>st = st' /\ ∃ lo hi,c = (none,lo,hi) /\ hi <= lo /\ hi <= m /\ (∀ i,i < lo->byd lt left k p base i = true) /\ (∀ i,hi <= i->i < m->byd lt left k p base i = false)) ?_ ?_ ⟨rfl,lo,hi,rfl,g1,g2,by lia,g4,g5⟩) ?_)
 ·rintro x _ _ _ hx ⟨rfl,lo,hi,rfl,g1,g2,g3,g4,g5⟩;refine Zi (λ g=>wpS_pure ⟨rfl,lo,hi,rfl,g,g2,g4,g5⟩) λ g=>?_;have g6:lo < hi:=Nat.lt_of_not_le g;have l1:lo + (hi - lo) / 2 < hi:=by lia
  have l2:=Nat.lt_of_lt_of_le l1 g2;refine wpS_bind (YL h hk ea kn pn (by lia) ?_);dsimp only;cases hm:byd lt left k p base (lo + (hi - lo) / 2) with
  | true=>exact wpS_pure ⟨rfl,_,_,rfl,l1,g2,by lia,λ i hi=>mono _ _ (Nat.le_of_lt_succ hi) l2 hm,g5⟩
  | false=>exact wpS_pure ⟨rfl,_,_,rfl,Nat.le_add_right _ _,Nat.le_of_lt l2,by lia,g4,λ i h6 h7=>anti _ _ h6 h7 hm⟩
 ·rintro _ _ ⟨rfl,lo,hi,rfl,g1,g2,g3,g4,g5⟩;exact ⟨rfl,lo,hi,rfl,by lia,g2,g4,g5⟩
 ·rintro _ _ ⟨rfl,lo,hi,rfl,g2,g3,g4,g5⟩;exact wpS_pure (q hi g3 (λ i hi=>g4 i (Nat.lt_of_lt_of_le hi g2)) g5)
end
section
variable {lt:Nat->Nat->Bool}
structure Mg (lt:Nat->Nat->Bool) (po ra rb tot:List Nat):Prop where
 perm:(po ++ (ra ++ rb)).Perm tot
 up:po.Pairwise (Le lt)
 lo:∀ x ∈ po,∀ y,y ∈ ra \/ y ∈ rb->Le lt x y
variable {po ra rb tot:List Nat} {x:Nat}
theorem Mg.swap (h:Mg lt po ra rb tot):Mg lt po rb ra tot:=⟨(List.Perm.append_left po List.perm_append_comm).trans h.perm,h.up,λ x hx y hy=>h.lo x hx y hy.symm⟩
theorem Mg.take (o:Ord lt) (h:Mg lt po (x :: ra) rb tot) (ha:(x :: ra).Pairwise (Le lt)) (hb:rb.Pairwise (Le lt)) (hx:∀ z l,rb = z :: l->Le lt x z):Mg lt (po ++ [x]) ra rb tot:=by
 refine ⟨?_,?_,λ y hy z hz=>?_⟩
 ·have e:po ++ [x] ++ (ra ++ rb) = po ++ (x :: ra ++ rb):=by simp
  rw [e];exact h.perm
 ·rw [List.pairwise_append];refine ⟨h.up,List.pairwise_singleton _ _,λ a ha' b hb'=>?_⟩;rw [List.mem_singleton.mp hb'];exact h.lo a ha' x (.inl (.head _))
 ·rcases List.mem_append.mp hy with hy | hy
  ·exact h.lo y hy z (hz.imp (λ q=>.tail _ q) id)
  ·rw [List.mem_singleton.mp hy]
   rcases hz with hz | hz
   ·exact List.rel_of_pairwise_cons ha hz
   ·cases rb with
    | nil=>cases hz
    | cons c l=>
     have h1:=hx c l rfl
     rcases List.mem_cons.mp hz with rfl | hz
     ·exact h1
     ·exact o.tran _ _ _ h1 (List.rel_of_pairwise_cons hb hz)
theorem Mg.fin (h:Mg lt po ra [] tot) (ha:ra.Pairwise (Le lt)):(po ++ ra).Perm tot /\ (po ++ ra).Pairwise (Le lt):=by
 refine ⟨?_,?_⟩
 ·have:=h.perm
  rwa [List.append_nil] at this
 ·rw [List.pairwise_append];exact ⟨h.up,ha,λ a h1 b h2=>h.lo a h1 b (.inl h2)⟩
theorem Mg.last (h:Mg lt po [x] rb tot) (hb:rb.Pairwise (Le lt)) (hx:∀ y ∈ rb,Le lt y x):(po ++ rb ++ [x]).Perm tot /\ (po ++ rb ++ [x]).Pairwise (Le lt):=by
 refine ⟨?_,?_⟩
 ·rw [List.append_assoc];exact (List.Perm.append_left po List.perm_append_comm).trans h.perm
 ·rw [List.pairwise_append,List.pairwise_append];refine ⟨⟨h.up,hb,λ a h1 b h2=>h.lo a h1 b (.inr h2)⟩,List.pairwise_singleton _ _,λ a h1 b h2=>?_⟩;rw [List.mem_singleton.mp h2]
  rcases List.mem_append.mp h1 with h1 | h1
  ·exact h.lo a h1 x (.inl (.head _))
  ·exact hx a h1
theorem Jq {p:Array Nat} (h:i < p.size):p.toList.drop i = at' p i :: p.toList.drop (i + 1):=by
 rw [List.drop_eq_getElem_cons (by simpa using h)];simp [at',h]
theorem Oc (o:Ord lt) {p:Array Nat} (hp:p.toList.Pairwise (Le lt)) (hij:i <= j) (hj:j < p.size):Le lt (at' p i) (at' p j):=by
 by_cases e:i = j
 ·rw [e];exact o.refl _
 ·have:=List.pairwise_iff_getElem.mp hp i j (by simp; lia) (by simpa using hj) (by lia);have h1:i < p.size:=by lia
  simpa [at',h1,hj] using this
end
section
variable {f:Nat->Keyed} {lt:Nat->Nat->Bool} {pa pb:Array Nat} {out:Array Keyed} {ia ib k:Nat}
def ML (f:Nat->Keyed) (lt:Nat->Nat->Bool) (pa pb:Array Nat) (out:Array Keyed) (ia ib:Nat):Prop:=∃ po:Array Nat,out = po.map f /\ Mg lt po.toList (pa.toList.drop ia) (pb.toList.drop ib) (pa.toList ++ pb.toList)
def Mgd (f:Nat->Keyed) (lt:Nat->Nat->Bool) (pa pb:Array Nat) (r:Array Keyed):Prop:=∃ q:Array Nat,r = q.map f /\ q.toList.Perm (pa.toList ++ pb.toList) /\ q.toList.Pairwise (Le lt)
theorem W7 {p:Array Nat} {a:Array Keyed} (e:a = p.map f) (i j:Nat):a.extract i j = (p.extract i j).map f:=by
 rw [e];simp
theorem ML.U9 (o:Ord lt) (h:ML f lt pa pb out ia ib) (sa:pa.toList.Pairwise (Le lt)) (sb:pb.toList.Pairwise (Le lt)) (hi:ia < pa.size) (hx:ib < pb.size->Le lt (at' pa ia) (at' pb ib)):ML f lt pa pb (out.push (f (at' pa ia))) (ia + 1) ib:=by
 obtain ⟨po,rfl,g⟩:=h;rw [Jq hi] at g;refine ⟨po.push (at' pa ia),by simp,?_⟩;rw [Array.toList_push];refine g.take o (by rw [<- Jq hi]; exact sa.drop) sb.drop λ z l e=>?_
 by_cases hb:ib < pb.size
 ·rw [Jq hb] at e;cases e;exact hx hb
 ·rw [List.drop_eq_nil_of_le (by simpa using hb)] at e;cases e
theorem ML.Gd (o:Ord lt) (h:ML f lt pa pb out ia ib) (sa:pa.toList.Pairwise (Le lt)) (sb:pb.toList.Pairwise (Le lt)) (hi:ib < pb.size) (hx:ia < pa.size->Le lt (at' pb ib) (at' pa ia)):ML f lt pa pb (out.push (f (at' pb ib))) ia (ib + 1):=by
 obtain ⟨po,rfl,g⟩:=h;rw [Jq hi] at g;refine ⟨po.push (at' pb ib),by simp,?_⟩;rw [Array.toList_push];refine (g.swap.take o (by rw [<- Jq hi]; exact sb.drop) sa.drop λ z l e=>?_).swap
 by_cases hb:ia < pa.size
 ·rw [Jq hb] at e;cases e;exact hx hb
 ·rw [List.drop_eq_nil_of_le (by simpa using hb)] at e;cases e
theorem W0 {p:Array Nat} {a:Array Keyed} (e:a = p.map f) {k:Nat} (h:i + k < p.size) (out:Array Keyed):out ++ a.extract i (i + (k + 1)) = (out ++ a.extract i (i + k)).push (f (at' p (i + k))):=by
 subst e;apply Array.toList_inj.mp;simp only [Array.toList_append,Array.toList_push,Array.toList_extract,Array.toList_map,List.append_assoc,List.extract_eq_take_drop]
 congr 1
 rw [show i + (k + 1) - i = k + 1 by lia,show i + k - i = k by lia,List.take_succ]
 congr 1
 simp [at',h]
theorem ML.Cc (o:Ord lt) {a:Array Keyed} (ea:a = pa.map f) (h:ML f lt pa pb out ia ib) (sa:pa.toList.Pairwise (Le lt)) (sb:pb.toList.Pairwise (Le lt)) (hx:∀ i,i < k->ib < pb.size->Le lt (at' pa (ia + i)) (at' pb ib)):ia + k <= pa.size->ML f lt pa pb (out ++ a.extract ia (ia + k)) (ia + k) ib:=by
 induction k with
 | zero=>intro _; rw [show a.extract ia (ia + 0) = #[] by apply Array.toList_inj.mp; simp [List.extract_eq_take_drop],Array.append_empty]; exact h
 | succ k ih=>
  intro hk;rw [W0 ea (by lia)];exact (ih (λ i hi=>hx i (by lia)) (by lia)).U9 o sa sb (by lia) (hx k (by lia))
theorem ML.Bn (o:Ord lt) {b:Array Keyed} (eb:b = pb.map f) (h:ML f lt pa pb out ia ib) (sa:pa.toList.Pairwise (Le lt)) (sb:pb.toList.Pairwise (Le lt)) (hx:∀ i,i < k->ia < pa.size->Le lt (at' pb (ib + i)) (at' pa ia)):ib + k <= pb.size->ML f lt pa pb (out ++ b.extract ib (ib + k)) ia (ib + k):=by
 induction k with
 | zero=>intro _; rw [show b.extract ib (ib + 0) = #[] by apply Array.toList_inj.mp; simp [List.extract_eq_take_drop],Array.append_empty]; exact h
 | succ k ih=>
  intro hk;rw [W0 eb (by lia)];exact (ih (λ i hi=>hx i (by lia)) (by lia)).Gd o sa sb (by lia) (hx k (by lia))
theorem YR {p:Array Nat} {a:Array Keyed} (e:a = p.map f) (i:Nat):a.extract i a.size = (p.extract i p.size).map f /\ (p.extract i p.size).toList = p.toList.drop i:=by
 subst e;refine ⟨by simp,?_⟩;rw [Array.toList_extract,List.extract_eq_take_drop,List.take_of_length_le (by simp)]
theorem ML.done {a b:Array Keyed} (ea:a = pa.map f) (eb:b = pb.map f) (h:ML f lt pa pb out ia ib) (sa:pa.toList.Pairwise (Le lt)) (sb:pb.toList.Pairwise (Le lt)) (he:pb.size <= ib \/ pa.size <= ia):Mgd f lt pa pb (out ++ a.extract ia a.size ++ b.extract ib b.size):=by
 obtain ⟨po,rfl,g⟩:=h;obtain ⟨e1,e2⟩:=YR ea ia;obtain ⟨e3,e4⟩:=YR eb ib;refine ⟨po ++ pa.extract ia pa.size ++ pb.extract ib pb.size,by rw [e1,e3,Array.map_append,Array.map_append],?_⟩;rw [Array.toList_append,Array.toList_append,e2,e4]
 rcases he with he | he
 ·rw [List.drop_eq_nil_of_le (show pb.toList.length <= ib by simpa using he)] at g ⊢;rw [List.append_nil];exact g.fin sa.drop
 ·rw [List.drop_eq_nil_of_le (show pa.toList.length <= ia by simpa using he)] at g ⊢;rw [List.append_nil];exact g.swap.fin sb.drop
theorem ML.last {a b:Array Keyed} (ea:a = pa.map f) (eb:b = pb.map f) (h:ML f lt pa pb out ia ib) (sb:pb.toList.Pairwise (Le lt)) (hi:ia + 1 = pa.size) (hx:∀ y ∈ pb.toList,Le lt y (at' pa ia)):Mgd f lt pa pb (out ++ b.extract ib b.size ++ a.extract ia a.size):=by
 obtain ⟨po,rfl,g⟩:=h;obtain ⟨e1,e2⟩:=YR ea ia;obtain ⟨e3,e4⟩:=YR eb ib;refine ⟨po ++ pb.extract ib pb.size ++ pa.extract ia pa.size,by rw [e1,e3,Array.map_append,Array.map_append],?_⟩;have e5:pa.toList.drop ia = [at' pa ia]:=by rw [Jq (by lia),List.drop_eq_nil_of_le (show pa.toList.length <= ia + 1 by simp; lia)]
 rw [Array.toList_append,Array.toList_append,e2,e4,e5];rw [e5] at g;exact g.last sb.drop λ y hy=>hx y (List.mem_of_mem_drop hy)
end
section
variable {prog:Program} {E:Value->Shared->Prop} {κ:SortKind} {f:Nat->Keyed} {lt:Nat->Nat->Bool} {st:SortSt}
structure Sm (st st':SortSt):Prop where
 kd:kindOf st' = kindOf st
 ar:arrOf st' = arrOf st
 pd:pendingOf st' = pendingOf st
 fl:failedOf st' = failedOf st
theorem Sm.refl {st:SortSt}:Sm st st:=⟨rfl,rfl,rfl,rfl⟩
theorem Sm.trans {a b c:SortSt} (h:Sm a b) (k:Sm b c):Sm a c:=⟨k.kd.trans h.kd,k.ar.trans h.ar,k.pd.trans h.pd,k.fl.trans h.fl⟩
noncomputable def Zan:Nat->StateT SortSt Sem Unit:=sortPriv% PySem.Builtin.setMinGallop
theorem VS {g:Nat} {Q:Unit->SortSt->Prop} (q:∀ st',Sm st st'->Q () st'):wpS (model prog w) A E s (Zan g) Q st:=wpS_modify (q _ ⟨rfl,rfl,rfl,rfl⟩)
theorem Uy {γ:Type} {X:Nat->StateT SortSt Sem γ} {Q:γ->SortSt->Prop} {goal:Prop} (k:(∀ m st',Sm st st'->wpS (model prog w) A E s (X m) Q st')->goal) (h:∀ m st',Sm st st'->wpS (model prog w) A E s (X m) Q st'):goal:=k h
theorem J3 {γ:Type} {X:Array Keyed->Nat->StateT SortSt Sem γ} {Q:γ->SortSt->Prop} (R:Array Keyed->Nat->Prop) {goal:Prop} (k:(∀ o i,R o i->wpS (model prog w) A E s (X o i) Q st)->goal) (h:∀ o i,R o i->wpS (model prog w) A E s (X o i) Q st):goal:=k h
noncomputable def Hu:Array Keyed->Array Keyed->StateT SortSt Sem (Array Keyed):=sortPriv% PySem.Builtin.mergeLo
variable {pa pb:Array Nat}
theorem Sa (o:Ord lt) (sa:pa.toList.Pairwise (Le lt)) {k:Nat} (hb:base + m <= pa.size):∀ i j,i <= j->j < m->byd lt false k pa base j = true->byd lt false k pa base i = true:=λ i j h1 h2 h3=>by
 unfold byd at h3 ⊢;rw [if_neg (by decide)] at h3 ⊢;have e:Le lt (at' pa (base + j)) k:=by simpa [Le] using h3
 have:=o.tran _ _ _ (Oc o sa (i:=base + i) (j:=base + j) (Nat.add_le_add_left h1 _) (Nat.lt_of_lt_of_le (Nat.add_lt_add_left h2 _) hb)) e
 simpa [Le] using this
theorem Zaa (o:Ord lt) (sb:pb.toList.Pairwise (Le lt)) {k:Nat} (hb:base + m <= pb.size):∀ i j,i <= j->j < m->byd lt true k pb base j = true->byd lt true k pb base i = true:=λ i j h1 h2 h3=>by
 unfold byd at h3 ⊢;rw [if_pos (by rfl)] at h3 ⊢;cases e:lt (at' pb (base + i)) k with
 | true=>rfl
 | false=>
  have e1:Le lt k (at' pb (base + i)):=e;have:=o.tran _ _ _ e1 (Oc o sb (i:=base + i) (j:=base + j) (Nat.add_le_add_left h1 _) (Nat.lt_of_lt_of_le (Nat.add_lt_add_left h2 _) hb));rw [show lt (at' pb (base + j)) k = false from this] at h3;cases h3
theorem OQ {k:Nat} {p:Array Nat} (o:Ord lt) (h:byd lt true k p base i = true):Le lt (at' p (base + i)) k:=o.asym _ _ (by simpa [byd] using h)
theorem X0 {k:Nat} {p:Array Nat} (h:byd lt true k p base i = false):Le lt k (at' p (base + i)):=by simpa [byd,Le] using h
theorem G5 {k:Nat} {p:Array Nat} (h:byd lt false k p base i = true):Le lt (at' p (base + i)) k:=by simpa [byd,Le] using h
theorem GX {k:Nat} {p:Array Nat} (o:Ord lt) (h:byd lt false k p base i = false):Le lt k (at' p (base + i)):=o.asym _ _ (by simpa [byd] using h)
theorem Le.not {x y:Nat} (h:¬ lt x y = true):Le lt y x:=by simpa [Le] using h
theorem Dk (e:m = n) (h:i < n) (c:¬ (i + 1 == m) = true):i + 1 < n:=Nat.lt_of_le_of_ne h λ z=>c (beq_iff_eq.mpr (z.trans e.symm))
structure Mc (prog:Program) (w:World) (A:Around) (s:Shared) (κ:SortKind) (f:Nat->Keyed) (lt:Nat->Nat->Bool) (n:Nat) (pa pb:Array Nat) (a b:Array Keyed):Prop where
 h:Ans prog w A s κ f lt n
 o:Ord lt
 ea:a = pa.map f
 eb:b = pb.map f
 an:∀ i,i < pa.size->at' pa i < n
 bn:∀ i,i < pb.size->at' pb i < n
 sa:pa.toList.Pairwise (Le lt)
 sb:pb.toList.Pairwise (Le lt)
 a1:0 < pa.size
 b1:0 < pb.size
variable {a b out:Array Keyed} {ia ib z:Nat} {γ:Type} {X Y:Keyed->StateT SortSt Sem γ} {Q:γ->SortSt->Prop}
theorem Mc.za (M:Mc prog w A s κ f lt n pa pb a b):a.size = pa.size:=by rw [M.ea]; exact Array.size_map
theorem Mc.zb (M:Mc prog w A s κ f lt n pa pb a b):b.size = pb.size:=by rw [M.eb]; exact Array.size_map
def LoI (f:Nat->Keyed) (lt:Nat->Nat->Bool) (pa pb:Array Nat) (z:Nat) (out:Array Keyed) (ia ib:Nat):Prop:=ML f lt pa pb out ia ib /\ (ia + 1 < pa.size /\ ib < pb.size) /\ z <= ia + ib
theorem LoI.no {z:Nat} (h:LoI f lt pa pb z out ia ib):z < pa.size + pb.size:=Nat.lt_of_le_of_lt h.2.2 (Nat.add_lt_add (Nat.lt_of_succ_lt h.2.1.1) h.2.1.2)
theorem LoI.le {z z':Nat} (h:LoI f lt pa pb z out ia ib) (e:z' <= z):LoI f lt pa pb z' out ia ib:=⟨h.1,h.2.1,Nat.le_trans e h.2.2⟩
theorem Mc.TN (M:Mc prog w A s κ f lt n pa pb a b) (i:LoI f lt pa pb z out ia ib) (hx:Le lt (at' pb ib) (at' pa ia)) (hX:Mgd f lt pa pb (out.push (f (at' pb ib)) ++ a.extract ia a.size ++ b.extract (ib + 1) b.size)->wpS (model prog w) A E s (X (f (at' pb ib))) Q st)
  (hY:LoI f lt pa pb (z + 1) (out.push (f (at' pb ib))) ia (ib + 1)->wpS (model prog w) A E s (Y (f (at' pb ib))) Q st):wpS (model prog w) A E s (elem' b ib >>= λ x=>if (ib + 1 == b.size) = true then X x else Y x) Q st:=by
 have m:=i.1.Gd M.o M.sa M.sb i.2.1.2 λ _=>hx;exact wpS_bind (ZC M.eb i.2.1.2 (Zi (λ c=>hX (m.done M.ea M.eb M.sa M.sb (.inl (by rw [beq_iff_eq.mp c,M.zb]; exact Nat.le_refl _)))) λ c=>hY ⟨m,⟨i.2.1.1,Dk M.zb i.2.1.2 c⟩,Nat.succ_le_succ i.2.2⟩))
theorem Mc.RR (M:Mc prog w A s κ f lt n pa pb a b) (hl:∀ y ∈ pb.toList,Le lt y (at' pa (pa.size - 1))) (i:LoI f lt pa pb z out ia ib) (hx:Le lt (at' pa ia) (at' pb ib)) (hX:Mgd f lt pa pb (out.push (f (at' pa ia)) ++ b.extract ib b.size ++ a.extract (ia + 1) a.size)->wpS (model prog w) A E s (X (f (at' pa ia))) Q st)
  (hY:LoI f lt pa pb (z + 1) (out.push (f (at' pa ia))) (ia + 1) ib->wpS (model prog w) A E s (Y (f (at' pa ia))) Q st):wpS (model prog w) A E s (elem' a ia >>= λ x=>if (ia + 1 + 1 == a.size) = true then X x else Y x) Q st:=by
 have l:=Nat.lt_of_succ_lt i.2.1.1;have m:=i.1.U9 M.o M.sa M.sb l λ _=>hx;refine wpS_bind (ZC M.ea l (Zi (λ c=>hX ?_) λ c=>hY ⟨m,⟨Dk M.za i.2.1.1 c,i.2.1.2⟩,by rw [Nat.add_right_comm]; exact Nat.succ_le_succ i.2.2⟩));have c:=(beq_iff_eq.mp c).trans M.za;exact m.last M.ea M.eb M.sb c (by rw [show ia + 1 = pa.size - 1 from Nat.eq_sub_of_add_eq c]; exact hl)
set_option maxHeartbeats 4000000 in
theorem Wy (M:Mc prog w A s κ f lt n pa pb a b) (hk:kindOf st = κ) (hf:Le lt (at' pb 0) (at' pa 0)) (hl:∀ y ∈ pb.toList,Le lt y (at' pa (pa.size - 1))) {Q:Array Keyed->SortSt->Prop} (q:∀ r st',Sm st st'->Mgd f lt pa pb r->Q r st'):wpS (model prog w) A E s (Hu a b) Q st:=by
 have m0:ML f lt pa pb #[f (at' pb 0)] 0 1:=ML.Gd (out:=#[]) (ia:=0) (ib:=0) M.o ⟨#[],by simp,⟨by simp,by simp,λ x hx=>nomatch hx⟩⟩ M.sa M.sb M.b1 λ _=>hf;have za:=M.za;have zb:=M.zb;have zz:∀ {x:Nat} {o:Array Keyed} {i j:Nat},¬ LoI f lt pa pb (x + max 0 (a.size + b.size)) o i j:=λ h=>absurd (h.le (Nat.le_add_left _ _)).no (by lia);refine wpS_bind (wpS_lift (wpAny_rule ⟨rfl,wpS_bind (ZC M.eb M.b1 (Zi (λ c=>wpS_pure (q _ _ Sm.refl (m0.done M.ea M.eb M.sa M.sb (.inl (by rw [beq_iff_eq.mp c,zb]; exact Nat.le_refl _))))) λ c=>Zi (λ c2=>?_) λ c2=>wpS_bind (wpS_get (wpS_bind (wpS_mono (wpS_forRange (I:=λ x c st'=>Sm st st' /\ c.1 = none /\ LoI f lt pa pb (0 + x) c.2.1 c.2.2.1 c.2.2.2.1) (Q:=λ c st'=>Sm st st' /\ ∃ r,c.1 = some r /\ Mgd f lt pa pb r) ?_ ?_ ⟨Sm.refl,rfl,m0,⟨Dk za M.a1 c2,Dk zb M.b1 c⟩,Nat.zero_le _⟩) ?_)))))⟩))
 ·have c:=(beq_iff_eq.mp c2).trans za;exact wpS_pure (q _ _ Sm.refl (m0.last M.ea M.eb M.sb c (by rw [show 0 = pa.size - 1 from Nat.eq_sub_of_add_eq c]; exact hl)))
 ·rintro x c st1 _ hx ⟨hs,e1,i1⟩
  refine wpS_bind (wpS_mono (wpS_forRange (I:=λ y c st'=>st1 = st' /\ c.1 = none /\ LoI f lt pa pb (x + y) c.2.1 c.2.2.1 c.2.2.2.1)
   (Q:=λ c st'=>st1 = st' /\ ((∃ r,c.1 = some r /\ Mgd f lt pa pb r) \/ (c.1 = none /\ LoI f lt pa pb x c.2.1 c.2.2.1 c.2.2.2.1))) ?_ ?_ ⟨rfl,rfl,i1.le (by lia)⟩) ?_)
  ·rintro y c _ _ hy ⟨rfl,e2,i2⟩;have l:=Nat.lt_of_succ_lt i2.2.1.1;refine wpS_bind (ZC M.eb i2.2.1.2 (wpS_bind (ZC M.ea l (wpS_bind (Kg M.h (hs.kd.trans hk) (M.bn _ i2.2.1.2) (M.an _ l) (Zi (λ hw=>M.TN i2 (M.o.asym _ _ hw) (λ m=>wpS_pure ⟨rfl,.inl ⟨_,rfl,m⟩⟩) λ i3=>?_) λ hw=>M.RR hl i2 (Le.not hw) (λ m=>wpS_pure ⟨rfl,.inl ⟨_,rfl,m⟩⟩) λ i3=>?_))))))
   all_goals exact Zi (λ _=>wpS_pure ⟨rfl,.inr ⟨rfl,i3.le (Nat.le_add_right x (y + 1))⟩⟩) λ _=>wpS_pure ⟨rfl,rfl,i3⟩
  ·rintro c _ ⟨rfl,e2,i2⟩;exact (zz i2).elim
  ·rintro ⟨c1,c⟩ _ ⟨rfl,⟨r,e2,hr⟩ | ⟨e2,i2⟩⟩
   ·cases (show c1 = _ from e2);exact wpS_pure ⟨hs,r,rfl,hr⟩
   ·cases (show c1 = _ from e2)
    refine wpS_bind (wpS_lift (wpAny_rule ⟨rfl,wpS_bind (wpS_mono (wpS_forRange (I:=λ y c st'=>Sm st st' /\ c.1 = none /\ LoI f lt pa pb (x + y) c.2.1 c.2.2.1 c.2.2.2.1)
     (Q:=λ c st'=>Sm st st' /\ ((∃ r,c.1 = some r /\ Mgd f lt pa pb r) \/ (c.1 = none /\ LoI f lt pa pb (0 + (x + 1)) c.2.1 c.2.2.1 c.2.2.2.1))) ?_ ?_ ⟨hs,rfl,i2⟩) ?_)⟩))
    ·rintro y ⟨_,out,ka,kb,mg2,ac,bc⟩ st2 _ hy ⟨hs2,e2,m2,⟨g1,g2⟩,g3⟩;dsimp only at m2 g1 g2 g3 ⊢;clear i2 hs e2 i1 e1;apply Uy (st:=st2)
     ·intro go;refine Zi (λ _=>wpS_bind (VS λ st3 hs3=>?_)) λ _=>wpS_bind (VS λ st3 hs3=>?_)
      ·generalize mg2 - 1 = m;exact go m st3 hs3
      ·exact go mg2 st3 hs3
     intro mg3 st3 hs3;have hk3:=hs3.kd.trans (hs2.kd.trans hk);have hs4:=hs2.trans hs3;refine wpS_bind (ZC M.eb g2 (wpS_bind (Qm M.h hk3 M.ea (M.bn _ g2) M.an (by lia) (by lia) (Sa M.o M.sa (by lia)) λ k k1 k2 k3=>?_)));have m4:=m2.Cc (k:=k) M.o M.ea M.sa M.sb (λ i hi _=>G5 (k2 i hi)) (by lia);have aft:ka + k < pa.size->Le lt (at' pb kb) (at' pa (ka + k)):=λ z=>GX M.o (k3 k (Nat.le_refl _) (by lia));apply J3 (st:=st3) (λ o i=>LoI f lt pa pb (x + y) o i kb /\ Le lt (at' pb kb) (at' pa i))
     ·intro go;refine Zi (λ c3=>Zi (λ c4=>?_) λ c4=>Zi (λ c5=>?_) λ c5=>?_) λ c3=>?_
      ·have c:=(beq_iff_eq.mp c4).trans za;exact wpS_pure ⟨hs4,.inl ⟨_,rfl,m4.last M.ea M.eb M.sb c (by rw [show ka + k = pa.size - 1 from Nat.eq_sub_of_add_eq c]; exact hl)⟩⟩
      ·exact wpS_pure ⟨hs4,.inl ⟨_,rfl,m4.done M.ea M.eb M.sa M.sb (.inr (by rw [beq_iff_eq.mp c5,za]; exact Nat.le_refl _))⟩⟩
      ·have c5:ka + k < pa.size:=Nat.lt_of_le_of_ne (by lia) λ z=>c5 (beq_iff_eq.mpr (z.trans za.symm));have aT:=aft c5;have iT:LoI f lt pa pb (x + y) (out ++ a.extract ka (ka + k)) (ka + k) kb:=⟨m4,⟨Dk za c5 c4,g2⟩,Nat.le_trans g3 (Nat.add_le_add_right (Nat.le_add_right ka k) kb)⟩
       generalize out ++ a.extract ka (ka + k) = o2 at iT ⊢;generalize ka + k = i2 at iT aT ⊢;exact go o2 i2 ⟨iT,aT⟩
      ·cases Nat.eq_zero_of_not_pos c3;exact go out ka ⟨⟨m2,⟨g1,g2⟩,g3⟩,aft (Nat.lt_of_succ_lt g1)⟩
     clear m2 g1 g2 g3 k1 k2 k3 m4 aft;rintro o2 k4 ⟨iT,aT⟩;refine M.TN iT aT (λ m=>wpS_pure ⟨hs4,.inl ⟨_,rfl,m⟩⟩) λ ⟨m5,⟨g1,g2⟩,g3⟩=>wpS_bind (ZC M.ea (Nat.lt_of_succ_lt g1) (wpS_bind (Qm M.h hk3 M.eb (M.an _ (Nat.lt_of_succ_lt g1)) M.bn (by lia) (by lia) (Zaa M.o M.sb (by lia)) λ j j1 j2 j3=>?_)));have m6:=m5.Bn (k:=j) M.o M.eb M.sa M.sb (λ i hi _=>OQ M.o (j2 i hi)) (by lia);have b6:=λ z:kb + 1 + j < pb.size=>X0 (j3 j (Nat.le_refl _) (by lia));apply J3 (st:=st3) (λ o i=>LoI f lt pa pb (x + y + 1) o k4 i /\ Le lt (at' pa k4) (at' pb i))
     ·intro go;refine Zi (λ c3=>Zi (λ c4=>?_) λ c4=>?_) λ c3=>?_
      ·exact wpS_pure ⟨hs4,.inl ⟨_,rfl,m6.done M.ea M.eb M.sa M.sb (.inl (by rw [beq_iff_eq.mp c4,zb]; exact Nat.le_refl _))⟩⟩
      ·have c5:kb + 1 + j < pb.size:=Nat.lt_of_le_of_ne (by lia) λ z=>c4 (beq_iff_eq.mpr (z.trans zb.symm));have aT:=b6 c5;have iT:LoI f lt pa pb (x + y + 1) (o2.push (f (at' pb kb)) ++ b.extract (kb + 1) (kb + 1 + j)) k4 (kb + 1 + j):=⟨m6,⟨g1,c5⟩,Nat.le_trans g3 (Nat.add_le_add_left (Nat.le_add_right (kb + 1) j) k4)⟩
       generalize o2.push (f (at' pb kb)) ++ b.extract (kb + 1) (kb + 1 + j) = o3 at iT ⊢;generalize kb + 1 + j = i2 at iT aT ⊢;exact go o3 i2 ⟨iT,aT⟩
      ·cases Nat.eq_zero_of_not_pos c3;exact go _ _ ⟨⟨m5,⟨g1,g2⟩,g3⟩,b6 g2⟩
     rintro o3 j4 ⟨i6,a6⟩;exact M.RR hl i6 a6 (λ m=>wpS_pure ⟨hs4,.inl ⟨_,rfl,m⟩⟩) λ i7=>Zi (λ _=>wpS_pure ⟨hs4,.inr ⟨rfl,i7.le (by lia)⟩⟩) λ _=>wpS_pure ⟨hs4,rfl,i7.le (Nat.le_succ _)⟩
    ·rintro c _ ⟨_,e2,i2⟩;exact (zz i2).elim
    ·rintro ⟨c1,c⟩ st2 ⟨hs2,⟨r,e2,hr⟩ | ⟨e2,i2⟩⟩
     ·cases (show c1 = _ from e2);exact wpS_pure ⟨hs2,r,rfl,hr⟩
     ·cases (show c1 = _ from e2);exact wpS_bind (VS λ st3 hs3=>wpS_pure ⟨hs2.trans hs3,rfl,i2⟩)
 ·rintro c st1 ⟨hs,e1,i1⟩;exact (zz i1).elim
 ·rintro ⟨c1,c⟩ st1 ⟨hs,r,e1,hr⟩;cases (show c1 = _ from e1);exact wpS_pure (q r st1 hs hr)
end
noncomputable def flp (lt:Nat->Nat->Bool) (x y:Nat):Bool:=lt y x
theorem Ord.flp {lt:Nat->Nat->Bool} (o:Ord lt):Ord (flp lt):=⟨λ a b h=>o.asym b a h,λ a b c h1 h2=>o.tran c b a h2 h1⟩
section
variable {f:Nat->Keyed} {lt:Nat->Nat->Bool} {pa pb:Array Nat} {out:Array Keyed} {na nb k:Nat}
theorem Vp {l:List Nat} (h:l.Pairwise (Le lt)):l.reverse.Pairwise (Le (flp lt)):=by
 rw [List.pairwise_reverse];exact h
theorem G8 {l:List Nat} (h:l.Pairwise (Le (flp lt))):l.reverse.Pairwise (Le lt):=by
 rw [List.pairwise_reverse];exact h
theorem Vj {p:Array Nat} (h:i < p.size):(p.toList.take (i + 1)).reverse = at' p i :: (p.toList.take i).reverse:=by
 rw [List.take_succ];simp [at',h]
def MH (f:Nat->Keyed) (lt:Nat->Nat->Bool) (pa pb:Array Nat) (out:Array Keyed) (na nb:Nat):Prop:=∃ po:Array Nat,out = po.map f /\ Mg (flp lt) po.toList (pa.toList.take na).reverse (pb.toList.take nb).reverse (pa.toList ++ pb.toList)
theorem MH.U9 (o:Ord lt) (h:MH f lt pa pb out (na + 1) nb) (sa:pa.toList.Pairwise (Le lt)) (sb:pb.toList.Pairwise (Le lt)) (hi:na < pa.size) (hz:nb <= pb.size) (hx:0 < nb->Le lt (at' pb (nb - 1)) (at' pa na)):MH f lt pa pb (out.push (f (at' pa na))) na nb:=by
 obtain ⟨po,rfl,g⟩:=h;rw [Vj hi] at g;refine ⟨po.push (at' pa na),by simp,?_⟩;rw [Array.toList_push];refine g.take o.flp (by rw [<- Vj hi]; exact Vp sa.take) (Vp sb.take) λ z l e=>?_;cases nb with
 | zero=>cases e
 | succ nb=>
  rw [Vj (by lia)] at e;cases e;exact hx (by lia)
theorem MH.Gd (o:Ord lt) (h:MH f lt pa pb out na (nb + 1)) (sa:pa.toList.Pairwise (Le lt)) (sb:pb.toList.Pairwise (Le lt)) (hi:nb < pb.size) (hz:na <= pa.size) (hx:0 < na->Le lt (at' pa (na - 1)) (at' pb nb)):MH f lt pa pb (out.push (f (at' pb nb))) na nb:=by
 obtain ⟨po,rfl,g⟩:=h;rw [Vj hi] at g;refine ⟨po.push (at' pb nb),by simp,?_⟩;rw [Array.toList_push];refine (g.swap.take o.flp (by rw [<- Vj hi]; exact Vp sb.take) (Vp sa.take) λ z l e=>?_).swap;cases na with
 | zero=>cases e
 | succ na=>
  rw [Vj (by lia)] at e;cases e;exact hx (by lia)
theorem MH.ZaM (o:Ord lt) (h:MH f lt pa pb out na nb) (sa:pa.toList.Pairwise (Le lt)) (sb:pb.toList.Pairwise (Le lt)) (h0:1 <= na) (hi:na <= pa.size) (hz:nb <= pb.size) (hx:0 < nb->Le lt (at' pb (nb - 1)) (at' pa (na - 1))):MH f lt pa pb (out.push (f (at' pa (na - 1)))) (na - 1) nb:=by
 obtain ⟨z,rfl⟩:∃ z,na = z + 1:=⟨na - 1,by lia⟩
 exact h.U9 o sa sb (by lia) hz hx
theorem MH.Zay (o:Ord lt) (h:MH f lt pa pb out na nb) (sa:pa.toList.Pairwise (Le lt)) (sb:pb.toList.Pairwise (Le lt)) (h0:1 <= nb) (hi:nb <= pb.size) (hz:na <= pa.size) (hx:0 < na->Le lt (at' pa (na - 1)) (at' pb (nb - 1))):MH f lt pa pb (out.push (f (at' pb (nb - 1)))) na (nb - 1):=by
 obtain ⟨z,rfl⟩:∃ z,nb = z + 1:=⟨nb - 1,by lia⟩
 exact h.Gd o sa sb (by lia) hz hx
theorem G0 {p:Array Nat} {a:Array Keyed} (e:a = p.map f) {k:Nat} (h:i + k < p.size + 1) (hk:0 < k) (out:Array Keyed):out ++ (a.extract i (i + k)).reverse = (out ++ (a.extract (i + 1) (i + k)).reverse).push (f (at' p i)):=by
 subst e;apply Array.toList_inj.mp;simp only [Array.toList_append,Array.toList_push,Array.toList_extract,Array.toList_map,Array.toList_reverse,List.append_assoc,List.extract_eq_take_drop]
 congr 1
 rw [show i + k - i = (i + k - (i + 1)) + 1 by lia,List.drop_eq_getElem_cons (show i < (List.map f p.toList).length by simp; lia),List.take_succ_cons,List.reverse_cons];have h1:i < p.size:=by lia
 simp [at',h1]
theorem WB {a:Array Keyed} (out:Array Keyed):out ++ (a.extract i i).reverse = out:=by
 apply Array.toList_inj.mp;simp [List.extract_eq_take_drop]
theorem MH.Cc (o:Ord lt) {a:Array Keyed} (ea:a = pa.map f) (sa:pa.toList.Pairwise (Le lt)) (sb:pb.toList.Pairwise (Le lt)) (hz:nb <= pb.size) {r:Nat} (h:MH f lt pa pb out (r + k) nb):(∀ i,r <= i->i < r + k->0 < nb->Le lt (at' pb (nb - 1)) (at' pa i))->r + k <= pa.size->MH f lt pa pb (out ++ (a.extract r (r + k)).reverse) r nb:=by
 induction k generalizing r with
 | zero=>intro _ _; rw [Nat.add_zero,WB]; exact h
 | succ k ih=>
  intro hx hk;rw [G0 ea (by lia) (by lia)];refine MH.U9 o ?_ sa sb (by lia) hz (hx r (by lia) (by lia));have:=ih (r:=r + 1) (by rw [show r + 1 + k = r + (k + 1) by lia]; exact h) (λ i h1 h2=>hx i (by lia) (by lia)) (by lia)
  rwa [show r + 1 + k = r + (k + 1) by lia] at this
theorem MH.Bn (o:Ord lt) {b:Array Keyed} (eb:b = pb.map f) (sa:pa.toList.Pairwise (Le lt)) (sb:pb.toList.Pairwise (Le lt)) (hz:na <= pa.size) {r:Nat} (h:MH f lt pa pb out na (r + k)):(∀ i,r <= i->i < r + k->0 < na->Le lt (at' pa (na - 1)) (at' pb i))->r + k <= pb.size->MH f lt pa pb (out ++ (b.extract r (r + k)).reverse) na r:=by
 induction k generalizing r with
 | zero=>intro _ _; rw [Nat.add_zero,WB]; exact h
 | succ k ih=>
  intro hx hk;rw [G0 eb (by lia) (by lia)];refine MH.Gd o ?_ sa sb (by lia) hz (hx r (by lia) (by lia));have:=ih (r:=r + 1) (by rw [show r + 1 + k = r + (k + 1) by lia]; exact h) (λ i h1 h2=>hx i (by lia) (by lia)) (by lia)
  rwa [show r + 1 + k = r + (k + 1) by lia] at this
theorem MH.bA (o:Ord lt) {a:Array Keyed} (ea:a = pa.map f) (h:MH f lt pa pb out na nb) (sa:pa.toList.Pairwise (Le lt)) (sb:pb.toList.Pairwise (Le lt)) (hz:nb <= pb.size) {r:Nat} (hr:r <= na) (hn:na <= pa.size) (hx:∀ i,r <= i->i < na->0 < nb->Le lt (at' pb (nb - 1)) (at' pa i)):MH f lt pa pb (out ++ (a.extract r na).reverse) r nb:=by
 obtain ⟨k,rfl⟩:∃ k,na = r + k:=⟨na - r,by lia⟩
 exact MH.Cc o ea sa sb hz h hx hn
theorem MH.bB (o:Ord lt) {b:Array Keyed} (eb:b = pb.map f) (h:MH f lt pa pb out na nb) (sa:pa.toList.Pairwise (Le lt)) (sb:pb.toList.Pairwise (Le lt)) (hz:na <= pa.size) {r:Nat} (hr:r <= nb) (hn:nb <= pb.size) (hx:∀ i,r <= i->i < nb->0 < na->Le lt (at' pa (na - 1)) (at' pb i)):MH f lt pa pb (out ++ (b.extract r nb).reverse) na r:=by
 obtain ⟨k,rfl⟩:∃ k,nb = r + k:=⟨nb - r,by lia⟩
 exact MH.Bn o eb sa sb hz h hx hn
theorem Yz {p:Array Nat} {a:Array Keyed} (e:a = p.map f) (i:Nat):a.extract 0 i = (p.extract 0 i).map f /\ (p.extract 0 i).toList = p.toList.take i:=by
 subst e;refine ⟨by simp,?_⟩;rw [Array.toList_extract,List.extract_eq_take_drop];simp
theorem MH.done {a b:Array Keyed} (ea:a = pa.map f) (eb:b = pb.map f) (h:MH f lt pa pb out na nb) (sa:pa.toList.Pairwise (Le lt)) (sb:pb.toList.Pairwise (Le lt)) (he:na = 0 \/ nb = 0):Mgd f lt pa pb (a.extract 0 na ++ b.extract 0 nb ++ out.reverse):=by
 obtain ⟨po,rfl,g⟩:=h;obtain ⟨e1,e2⟩:=Yz ea na;obtain ⟨e3,e4⟩:=Yz eb nb;refine ⟨pa.extract 0 na ++ pb.extract 0 nb ++ po.reverse,by rw [e1,e3,Array.map_append,Array.map_append,Array.map_reverse],?_⟩;rw [Array.toList_append,Array.toList_append,e2,e4,Array.toList_reverse]
 rcases he with rfl | rfl
 ·have k:=g.swap.fin (Vp sb.take);have e:List.take 0 pa.toList ++ List.take nb pb.toList ++ po.toList.reverse = (po.toList ++ (List.take nb pb.toList).reverse).reverse:=by simp
  rw [e];exact ⟨(List.reverse_perm _).trans k.1,G8 k.2⟩
 ·have k:=g.fin (Vp sa.take);have e:List.take na pa.toList ++ List.take 0 pb.toList ++ po.toList.reverse = (po.toList ++ (List.take na pa.toList).reverse).reverse:=by simp
  rw [e];exact ⟨(List.reverse_perm _).trans k.1,G8 k.2⟩
theorem MH.first {a b:Array Keyed} (ea:a = pa.map f) (eb:b = pb.map f) (h:MH f lt pa pb out na 1) (sa:pa.toList.Pairwise (Le lt)) (b1:0 < pb.size) (hx:∀ y ∈ pa.toList,Le lt (at' pb 0) y):Mgd f lt pa pb (b.extract 0 1 ++ a.extract 0 na ++ out.reverse):=by
 obtain ⟨po,rfl,g⟩:=h;obtain ⟨e1,e2⟩:=Yz ea na;obtain ⟨e3,e4⟩:=Yz eb 1;refine ⟨pb.extract 0 1 ++ pa.extract 0 na ++ po.reverse,by rw [e1,e3,Array.map_append,Array.map_append,Array.map_reverse],?_⟩;rw [Array.toList_append,Array.toList_append,e2,e4,Array.toList_reverse];have e5:(pb.toList.take 1).reverse = [at' pb 0]:=by rw [Vj b1]; simp
 rw [e5] at g;have k:=g.swap.last (Vp sa.take) λ y hy=>hx y (List.mem_of_mem_take (List.mem_reverse.mp hy));have e:List.take 1 pb.toList ++ List.take na pa.toList ++ po.toList.reverse = (po.toList ++ (List.take na pa.toList).reverse ++ [at' pb 0]).reverse:=by
  rw [<- e5];simp
 rw [e];exact ⟨(List.reverse_perm _).trans k.1,G8 k.2⟩
end
section
variable {prog:Program} {E:Value->Shared->Prop} {κ:SortKind} {f:Nat->Keyed} {lt:Nat->Nat->Bool} {st:SortSt} {pa pb:Array Nat}
noncomputable def FX:Array Keyed->Array Keyed->StateT SortSt Sem (Array Keyed):=sortPriv% PySem.Builtin.mergeHi
variable {a b out:Array Keyed} {na nb z:Nat} {γ:Type} {X Y:Keyed->StateT SortSt Sem γ} {Q:γ->SortSt->Prop}
def HiI (f:Nat->Keyed) (lt:Nat->Nat->Bool) (pa pb:Array Nat) (z:Nat) (out:Array Keyed) (na nb:Nat):Prop:=MH f lt pa pb out na nb /\ ((1 <= na /\ na <= pa.size) /\ 2 <= nb /\ nb <= pb.size) /\ z + (na + nb) <= pa.size + pb.size
theorem HiI.le {z':Nat} (h:HiI f lt pa pb z out na nb) (e:z' <= z):HiI f lt pa pb z' out na nb:=⟨h.1,h.2.1,Nat.le_trans (Nat.add_le_add_right e _) h.2.2⟩
theorem HiI.no (h:HiI f lt pa pb z out na nb):z < pa.size + pb.size:=Nat.lt_of_lt_of_le (Nat.lt_add_of_pos_right (Nat.lt_of_lt_of_le h.2.1.1.1 (Nat.le_add_right _ _))) h.2.2
theorem ps {x:Nat} (c:¬ (x == 0) = true):1 <= x:=Nat.pos_of_ne_zero λ z=>c (beq_iff_eq.mpr z)
theorem Mc.ZaM (M:Mc prog w A s κ f lt n pa pb a b) (i:HiI f lt pa pb z out na nb) (hx:Le lt (at' pb (nb - 1)) (at' pa (na - 1))) (hX:Mgd f lt pa pb (a.extract 0 (na - 1) ++ b.extract 0 nb ++ (out.push (f (at' pa (na - 1)))).reverse)->wpS (model prog w) A E s (X (f (at' pa (na - 1)))) Q st)
  (hY:HiI f lt pa pb (z + 1) (out.push (f (at' pa (na - 1)))) (na - 1) nb->wpS (model prog w) A E s (Y (f (at' pa (na - 1)))) Q st):wpS (model prog w) A E s (elem' a (na - 1) >>= λ x=>if (na - 1 == 0) = true then X x else Y x) Q st:=by
 obtain ⟨m,⟨⟨a1,a2⟩,b1,b2⟩,g⟩:=i;have m:=m.ZaM M.o M.sa M.sb a1 a2 b2 λ _=>hx;exact wpS_bind (ZC M.ea (Nat.sub_one_lt_of_le a1 a2) (Zi (λ c=>hX (m.done M.ea M.eb M.sa M.sb (.inl (beq_iff_eq.mp c)))) λ c=>hY ⟨m,⟨⟨ps c,Nat.le_trans (Nat.sub_le _ _) a2⟩,b1,b2⟩,by lia⟩))
theorem Mc.Zay (M:Mc prog w A s κ f lt n pa pb a b) (hf:∀ y ∈ pa.toList,Le lt (at' pb 0) y) (i:HiI f lt pa pb z out na nb) (hx:Le lt (at' pa (na - 1)) (at' pb (nb - 1))) (hX:Mgd f lt pa pb (b.extract 0 (nb - 1) ++ a.extract 0 na ++ (out.push (f (at' pb (nb - 1)))).reverse)->wpS (model prog w) A E s (X (f (at' pb (nb - 1)))) Q st)
  (hY:HiI f lt pa pb (z + 1) (out.push (f (at' pb (nb - 1)))) na (nb - 1)->wpS (model prog w) A E s (Y (f (at' pb (nb - 1)))) Q st):wpS (model prog w) A E s (elem' b (nb - 1) >>= λ x=>if (nb - 1 == 1) = true then X x else Y x) Q st:=by
 obtain ⟨m,⟨⟨a1,a2⟩,b1,b2⟩,g⟩:=i;have m:=m.Zay M.o M.sa M.sb (Nat.le_of_succ_le b1) b2 a2 λ _=>hx;refine wpS_bind (ZC M.eb (Nat.sub_one_lt_of_le (Nat.le_of_succ_le b1) b2) (Zi (λ c=>hX ?_) λ c=>hY ⟨m,⟨⟨a1,a2⟩,?_,Nat.le_trans (Nat.sub_le _ _) b2⟩,by lia⟩))
 ·rw [beq_iff_eq.mp c] at m ⊢;exact m.first M.ea M.eb M.sa M.b1 hf
 ·have c:¬ nb - 1 = 1:=λ z=>c (beq_iff_eq.mpr z);lia
set_option maxHeartbeats 4000000 in
theorem Kt (M:Mc prog w A s κ f lt n pa pb a b) (hk:kindOf st = κ) (hf:∀ y ∈ pa.toList,Le lt (at' pb 0) y) (hl:Le lt (at' pb (pb.size - 1)) (at' pa (pa.size - 1))) {Q:Array Keyed->SortSt->Prop} (q:∀ r st',Sm st st'->Mgd f lt pa pb r->Q r st'):wpS (model prog w) A E s (FX a b) Q st:=by
 have a1:=M.a1;have za:=M.za;have zb:=M.zb;have m0:MH f lt pa pb #[f (at' pa (a.size - 1))] (a.size - 1) b.size:=by
  rw [za,zb];exact MH.U9 (out:=#[]) M.o ⟨#[],by simp,⟨by rw [Nat.sub_add_cancel a1,List.take_of_length_le (by simp),List.take_of_length_le (by simp)]; exact (List.reverse_perm pa.toList).append (List.reverse_perm pb.toList),by simp,λ x hx=>nomatch hx⟩⟩ M.sa M.sb (Nat.sub_one_lt_of_le a1 (Nat.le_refl _)) (Nat.le_refl _) λ _=>hl
 have zz:∀ {x:Nat} {o:Array Keyed} {i j:Nat},¬ HiI f lt pa pb (x + max 0 (a.size + b.size)) o i j:=λ h=>absurd (h.le (Nat.le_add_left _ _)).no (by lia);have b1:=M.b1;refine wpS_bind (wpS_lift (wpAny_rule ⟨rfl,wpS_bind (ZC M.ea (by lia) (Zi (λ c=>wpS_pure (q _ _ Sm.refl (m0.done M.ea M.eb M.sa M.sb (.inl (beq_iff_eq.mp c))))) λ c=>Zi (λ c2=>?_) λ c2=>wpS_bind (wpS_get (wpS_bind (wpS_mono (wpS_forRange (I:=λ x c st'=>Sm st st' /\ c.1 = none /\ HiI f lt pa pb (0 + x) c.2.2.2.1 c.2.1 c.2.2.1) (Q:=λ c st'=>Sm st st' /\ ∃ r,c.1 = some r /\ Mgd f lt pa pb r) ?_ ?_ ⟨Sm.refl,rfl,m0,⟨⟨ps c,?_⟩,?_⟩,?_⟩) ?_)))))⟩))
 ·have c:=beq_iff_eq.mp c2;rw [c] at m0;exact wpS_pure (q _ _ Sm.refl (c.symm ▸ m0.first M.ea M.eb M.sa b1 hf))
 ·rintro x c st1 _ hx ⟨hs,e1,i1⟩
  refine wpS_bind (wpS_mono (wpS_forRange (I:=λ y c st'=>st1 = st' /\ c.1 = none /\ HiI f lt pa pb (x + y) c.2.2.2.1 c.2.1 c.2.2.1)
   (Q:=λ c st'=>st1 = st' /\ ((∃ r,c.1 = some r /\ Mgd f lt pa pb r) \/ (c.1 = none /\ HiI f lt pa pb x c.2.2.2.1 c.2.1 c.2.2.1))) ?_ ?_ ⟨rfl,rfl,i1.le (by lia)⟩) ?_)
  ·rintro y c _ _ hy ⟨rfl,e2,i2⟩;have l1:=Nat.sub_one_lt_of_le i2.2.1.1.1 i2.2.1.1.2;have l2:=Nat.sub_one_lt_of_le (Nat.le_of_succ_le i2.2.1.2.1) i2.2.1.2.2;refine wpS_bind (ZC M.eb l2 (wpS_bind (ZC M.ea l1 (wpS_bind (Kg M.h (hs.kd.trans hk) (M.bn _ l2) (M.an _ l1) (Zi (λ hw=>M.ZaM i2 (M.o.asym _ _ hw) (λ m=>wpS_pure ⟨rfl,.inl ⟨_,rfl,m⟩⟩) λ i3=>?_) λ hw=>M.Zay hf i2 (Le.not hw) (λ m=>wpS_pure ⟨rfl,.inl ⟨_,rfl,m⟩⟩) λ i3=>?_))))))
   all_goals exact Zi (λ _=>wpS_pure ⟨rfl,.inr ⟨rfl,i3.le (Nat.le_add_right x (y + 1))⟩⟩) λ _=>wpS_pure ⟨rfl,rfl,i3⟩
  ·rintro c _ ⟨rfl,e2,i2⟩;exact (zz i2).elim
  ·rintro ⟨c1,c⟩ _ ⟨rfl,⟨r,e2,hr⟩ | ⟨e2,i2⟩⟩
   ·cases (show c1 = _ from e2);exact wpS_pure ⟨hs,r,rfl,hr⟩
   ·cases (show c1 = _ from e2)
    refine wpS_bind (wpS_lift (wpAny_rule ⟨rfl,wpS_bind (wpS_mono (wpS_forRange (I:=λ y c st'=>Sm st st' /\ c.1 = none /\ HiI f lt pa pb (x + y) c.2.2.2.1 c.2.1 c.2.2.1)
     (Q:=λ c st'=>Sm st st' /\ ((∃ r,c.1 = some r /\ Mgd f lt pa pb r) \/ (c.1 = none /\ HiI f lt pa pb (0 + (x + 1)) c.2.2.2.1 c.2.1 c.2.2.1))) ?_ ?_ ⟨hs,rfl,i2⟩) ?_)⟩))
    ·rintro y ⟨_,ka,kb,out,mg2,ac,bc⟩ st2 _ hy ⟨hs2,e2,m2,⟨⟨a2,a3⟩,b3,b2⟩,g5⟩;dsimp only at m2 a2 a3 b2 b3 g5 ⊢;clear i2 hs e2 i1 e1;apply Uy (st:=st2)
     ·intro go;refine Zi (λ _=>wpS_bind (VS λ st3 hs3=>?_)) λ _=>wpS_bind (VS λ st3 hs3=>?_)
      ·generalize mg2 - 1 = m;exact go m st3 hs3
      ·exact go mg2 st3 hs3
     intro mg3 st3 hs3;have hk3:=hs3.kd.trans (hs2.kd.trans hk);have hs4:=hs2.trans hs3;have l2:=Nat.sub_one_lt_of_le (Nat.le_of_succ_le b3) b2;refine wpS_bind (ZC M.eb l2 (wpS_bind (Qm M.h hk3 M.ea (M.bn _ l2) M.an (by lia) (by lia) (Sa M.o M.sa (by lia)) λ k k1 k2 k3=>?_)));have m4:=m2.bA (r:=k) M.o M.ea M.sa M.sb b2 k1 a3 λ i h1 h2 _=>Nat.zero_add i ▸ GX M.o (k3 i h1 h2);have aft:=λ z:1 <= k=>G5 (k2 (k - 1) (Nat.sub_one_lt_of_le z (Nat.le_refl _)));rw [Nat.zero_add] at aft;apply J3 (st:=st3) (λ o i=>HiI f lt pa pb (x + y) o i kb /\ Le lt (at' pa (i - 1)) (at' pb (kb - 1)))
     ·intro go;refine Zi (λ c3=>Zi (λ c4=>?_) λ c4=>?_) λ c3=>?_
      ·exact wpS_pure ⟨hs4,.inl ⟨_,rfl,m4.done M.ea M.eb M.sa M.sb (.inl (beq_iff_eq.mp c4))⟩⟩
      ·have iT:HiI f lt pa pb (x + y) (out ++ (a.extract k ka).reverse) k kb:=⟨m4,⟨⟨ps c4,Nat.le_trans k1 a3⟩,b3,b2⟩,Nat.le_trans (Nat.add_le_add_left (Nat.add_le_add_right k1 _) _) g5⟩
       have aT:=aft (ps c4);generalize out ++ (a.extract k ka).reverse = o2 at iT ⊢;generalize k = i2 at iT aT ⊢;exact go o2 i2 ⟨iT,aT⟩
      ·have kz:k = ka:=Nat.le_antisymm k1 (Nat.le_of_sub_eq_zero (Nat.eq_zero_of_not_pos c3));subst kz;exact go out k ⟨⟨m2,⟨⟨a2,a3⟩,b3,b2⟩,g5⟩,aft a2⟩
     clear m2 a2 a3 b2 b3 g5 k1 k2 k3 m4 aft l2;rintro o2 k4 ⟨iT,aT⟩;refine M.Zay hf iT aT (λ m=>wpS_pure ⟨hs4,.inl ⟨_,rfl,m⟩⟩) λ ⟨m5,⟨⟨a2,a3⟩,b3,b2⟩,g5⟩=>wpS_bind (ZC M.ea (Nat.sub_one_lt_of_le a2 a3) (wpS_bind (Qm M.h hk3 M.eb (M.an _ (Nat.sub_one_lt_of_le a2 a3)) M.bn (by lia) (by lia) (Zaa M.o M.sb (by lia)) λ j j1 j2 j3=>?_)));have m6:=m5.bB (r:=j) M.o M.eb M.sa M.sb a3 j1 b2 λ i h1 h2 _=>Nat.zero_add i ▸ X0 (j3 i h1 h2);have b6:=λ z:1 <= j=>OQ M.o (j2 (j - 1) (Nat.sub_one_lt_of_le z (Nat.le_refl _)));rw [Nat.zero_add] at b6;apply J3 (st:=st3) (λ o i=>HiI f lt pa pb (x + y + 1) o k4 i /\ Le lt (at' pb (i - 1)) (at' pa (k4 - 1)))
     ·intro go;refine Zi (λ c3=>Zi (λ c4=>?_) λ c4=>Zi (λ c5=>?_) λ c5=>?_) λ c3=>?_
      ·cases beq_iff_eq.mp c4;exact wpS_pure ⟨hs4,.inl ⟨_,rfl,m6.first M.ea M.eb M.sa b1 hf⟩⟩
      ·exact wpS_pure ⟨hs4,.inl ⟨_,rfl,m6.done M.ea M.eb M.sa M.sb (.inr (beq_iff_eq.mp c5))⟩⟩
      ·have c4:¬ j = 1:=λ z=>c4 (beq_iff_eq.mpr z);have iT:HiI f lt pa pb (x + y + 1) (o2.push (f (at' pb (kb - 1))) ++ (b.extract j (kb - 1)).reverse) k4 j:=⟨m6,⟨⟨a2,a3⟩,Nat.lt_of_le_of_ne (ps c5) (Ne.symm c4),Nat.le_trans j1 b2⟩,Nat.le_trans (Nat.add_le_add_left (Nat.add_le_add_left j1 _) _) g5⟩
       have aT:=b6 (ps c5);generalize o2.push (f (at' pb (kb - 1))) ++ (b.extract j (kb - 1)).reverse = o3 at iT ⊢;generalize j = i2 at iT aT ⊢;exact go o3 i2 ⟨iT,aT⟩
      ·have kz:j = kb - 1:=Nat.le_antisymm j1 (Nat.le_of_sub_eq_zero (Nat.eq_zero_of_not_pos c3));subst kz;exact go _ _ ⟨⟨m5,⟨⟨a2,a3⟩,b3,b2⟩,g5⟩,b6 (Nat.le_of_succ_le b3)⟩
     rintro o3 j4 ⟨i6,a6⟩;exact M.ZaM i6 a6 (λ m=>wpS_pure ⟨hs4,.inl ⟨_,rfl,m⟩⟩) λ i7=>Zi (λ _=>wpS_pure ⟨hs4,.inr ⟨rfl,i7.le (by lia)⟩⟩) λ _=>wpS_pure ⟨hs4,rfl,i7.le (Nat.le_succ _)⟩
    ·rintro c _ ⟨_,e2,i2⟩;exact (zz i2).elim
    ·rintro ⟨c1,c⟩ st2 ⟨hs2,⟨r,e2,hr⟩ | ⟨e2,i2⟩⟩
     ·cases (show c1 = _ from e2);exact wpS_pure ⟨hs2,r,rfl,hr⟩
     ·cases (show c1 = _ from e2);exact wpS_bind (VS λ st3 hs3=>wpS_pure ⟨hs2.trans hs3,rfl,i2⟩)
 ·rintro c st1 ⟨hs,e1,i1⟩;exact (zz i1).elim
 ·show a.size - 1 <= pa.size;lia
 ·have c2:¬ b.size = 1:=λ z=>c2 (beq_iff_eq.mpr z);show 2 <= b.size /\ b.size <= pb.size;lia
 ·show 0 + 0 + (a.size - 1 + b.size) <= _;lia
 ·rintro ⟨c1,c⟩ st1 ⟨hs,r,e1,hr⟩;cases (show c1 = _ from e1);exact wpS_pure (q r st1 hs hr)
end
section
variable {lt:Nat->Nat->Bool} {p:Array Nat} {lo:Nat}
def Sg (lt:Nat->Nat->Bool) (p:Array Nat) (lo m:Nat):Prop:=∀ i j,i <= j->j < m->Le lt (at' p (lo + i)) (at' p (lo + j))
abbrev Dg (lt:Nat->Nat->Bool) (p:Array Nat) (lo m:Nat):Prop:=Sg (flp lt) p lo m
def Bk (lt:Nat->Nat->Bool) (p:Array Nat) (lo a b:Nat):Prop:=∀ i j,a <= i->i < b->a <= j->j < b->Le lt (at' p (lo + i)) (at' p (lo + j))
theorem Sg.one (o:Ord lt):Sg lt p lo 1:=λ i j h1 h2=>by
 rw [show i = j by lia];exact o.refl _
theorem Sg.snoc (o:Ord lt) (h:Sg lt p lo m) (h1:1 <= m) (hl:Le lt (at' p (lo + m - 1)) (at' p (lo + m))):Sg lt p lo (m + 1):=λ i j hij hj=>by
 by_cases e:j = m
 ·subst e
  by_cases e2:i = j
  ·rw [e2];exact o.refl _
  ·have:=h i (j - 1) (by lia) (by lia);rw [show lo + (j - 1) = lo + j - 1 by lia] at this;exact o.tran _ _ _ this hl
 ·exact h i j hij (by lia)
theorem Sg.congr {p':Array Nat} (h:Sg lt p lo m) (e:∀ k,k < m->at' p' (lo + k) = at' p (lo + k)):Sg lt p' lo m:=λ i j hij hj=>by
 rw [e i (by lia),e j hj];exact h i j hij hj
theorem Sg.rev (h:Sg lt p lo m) (hz:lo + m <= p.size):Sg (flp lt) (kas_rev p lo (lo + m)) lo m:=λ i j hij hj=>by
 rw [VY hz,VY hz,if_pos (by lia),if_pos (by lia)];have:=h (m - 1 - j) (m - 1 - i) (by lia) (by lia)
 rwa [show lo + (m - 1 - i) = lo + (lo + m) - 1 - (lo + i) by lia,show lo + (m - 1 - j) = lo + (lo + m) - 1 - (lo + j) by lia] at this
theorem Dg.blk {a b:Nat} (h:Dg lt p lo m) (hb:Bk lt p lo a b) (hm:b <= m) (hab:a <= b) (hz:lo + m <= p.size):Dg lt (kas_rev p (lo + a) (lo + b)) lo m:=λ i j hij hj=>by
 have key:∀ k,k < m->∃ k',at' (kas_rev p (lo + a) (lo + b)) (lo + k) = at' p (lo + k') /\ k' < m /\ ((a <= k /\ k < b /\ a <= k' /\ k' < b) \/ (k' = k /\ ¬ (a <= k /\ k < b))):=λ k hk=>by
  rw [VY (by lia)]
  by_cases c:a <= k /\ k < b
  ·rw [if_pos (by lia)];exact ⟨a + b - 1 - k,by rw [show lo + a + (lo + b) - 1 - (lo + k) = lo + (a + b - 1 - k) by lia],by lia,.inl (by lia)⟩
  ·rw [if_neg (by lia)];exact ⟨k,rfl,hk,.inr ⟨rfl,c⟩⟩
 obtain ⟨i',e1,h1,h2⟩:=key i (by lia);obtain ⟨j',e2,h3,h4⟩:=key j hj;rw [e1,e2]
 by_cases c:i' <= j'
 ·exact h i' j' c h3
 ·exact hb j' i' (by lia) (by lia) (by lia) (by lia)
def Out (p p':Array Nat) (lo nrem:Nat):Prop:=∀ k,(k < lo \/ lo + nrem <= k)->at' p' k = at' p k
theorem Out.refl {nrem:Nat}:Out p p lo nrem:=λ _ _=>rfl
theorem Out.rev {p1:Array Nat} {nrem a b:Nat} (h:Out p p1 lo nrem) (ha:lo <= a) (hb:b <= lo + nrem) (hz:b <= p1.size):Out p (kas_rev p1 a b) lo nrem:=λ k hk=>by
 rw [VY hz,if_neg (by lia)];exact h k hk
end
section
variable {prog:Program} {E:Value->Shared->Prop} {κ:SortKind} {f:Nat->Keyed} {lt:Nat->Nat->Bool} {p:Array Nat} {pd:Array (Nat × Nat × Nat)} {g lo nrem:Nat}
noncomputable abbrev SS (κ:SortKind) (f:Nat->Keyed) (p:Array Nat) (pd:Array (Nat × Nat × Nat)) (g:Nat):SortSt:=SortSt.mk' κ (p.map f) pd g none
theorem Yd (h:Ans prog w A s κ f lt n) (hp:Pm n p) (hi:i < n) (hj:j < n) {Q:Option Bool->SortSt->Prop} (q:Q (some (lt (at' p i) (at' p j))) (SS κ f p pd g)):wpS (model prog w) A E s (ltAt' i j) Q (SS κ f p pd g):=by
 rw [ltAt'_eq];have hz:=hp.size;refine wpS_bind (wpS_get ?_);exact wpS_bind (ZC (p:=p) rfl (by lia) (wpS_bind (ZC (p:=p) rfl (by lia) (Kg h rfl (hp.below hi) (hp.below hj) q))))
theorem Yr {Q:Unit->SortSt->Prop} (q:Q () (SS κ f (kas_rev p i j) pd g)):wpS (model prog w) A E s (reverseSlice' i j) Q (SS κ f p pd g):=by
 rw [reverseSlice'_eq];refine wpS_modify ?_;have e1:mirror (p.map f) i j ((j - i) / 2) = (mirror p i j ((j - i) / 2)).map f:=kas_swaps_map f (λ k=>i + k) (λ k=>j - 1 - k) _ p;show Q () (SortSt.mk' κ (mirror (p.map f) i j ((j - i) / 2)) pd g none);rw [e1];exact q
theorem EJ {k l:Nat} {Q:Unit->SortSt->Prop} (q:Q () (SS κ f (bubble p k (k - l)) pd g)):wpS (model prog w) A E s (moveDown' k l) Q (SS κ f p pd g):=by
 rw [moveDown'_eq];refine wpS_modify ?_;have e1:bubble (p.map f) k (k - l) = (bubble p k (k - l)).map f:=kas_swaps_map f (λ i=>k - i) (λ i=>k - i - 1) _ p;show Q () (SortSt.mk' κ (bubble (p.map f) k (k - l)) pd g none);rw [e1];exact q
theorem WW {γ:Type} {X:StateT SortSt Sem γ} {Q:γ->SortSt->Prop} (R:Array Nat->Prop) {goal:Prop} (k:(∀ p',R p'->wpS (model prog w) A E s X Q (SS κ f p' pd g))->goal) (h:∀ p',R p'->wpS (model prog w) A E s X Q (SS κ f p' pd g)):goal:=k h
def CI (lt:Nat->Nat->Bool) (n:Nat) (p:Array Nat) (lo nrem:Nat) (p2:Array Nat) (x k:Nat):Prop:=Pm n p2 /\ Out p p2 lo nrem /\ (k + 1 <= x /\ x <= nrem) /\ Dg lt p2 lo x /\ Bk lt p2 lo (x - (k + 1)) x
theorem bk1 (o:Ord lt) {x:Nat}:Bk lt p lo (x - (0 + 1)) x:=λ i j _ _ _ _=>by
 rw [show i = j by lia];exact o.refl _
variable {p2:Array Nat} {x k:Nat}
theorem CI.flat (o:Ord lt) (hz:lo + nrem <= n) (hx:x <= m) (hm:m <= nrem) (d:Dg lt p2 lo m) (h:CI lt n p lo nrem p2 x k):CI lt n p lo nrem (kas_rev p2 (lo + x - (k + 1)) (lo + x)) m 0:=by
 obtain ⟨e1,e2,⟨e3,e4⟩,e5,e6⟩:=h;have z2:=e1.size;have e:lo + (x - (k + 1)) = lo + x - (k + 1):=by lia
 exact ⟨e1.rev _ _,e2.rev (by lia) (Nat.add_le_add_left e4 _) (by lia),⟨by lia,hm⟩,e ▸ Dg.blk d e6 hx (Nat.sub_le _ _) (by lia),bk1 o⟩
theorem CI.down (o:Ord lt) (h:CI lt n p lo nrem p2 x k) (l:x < nrem) (c:lt (at' p2 (lo + x)) (at' p2 (lo + x - 1)) = true):CI lt n p lo nrem p2 (x + 1) 0:=
 ⟨h.1,h.2.1,⟨Nat.succ_le_succ (Nat.zero_le _),l⟩,Sg.snoc o.flp h.2.2.2.1 (Nat.le_trans (Nat.le_add_left _ _) h.2.2.1.1) (o.asym _ _ c),bk1 o⟩
theorem CI.same (o:Ord lt) (h:CI lt n p lo nrem p2 x k) (l:x < nrem) (c:¬ lt (at' p2 (lo + x)) (at' p2 (lo + x - 1)) = true) (c2:¬ lt (at' p2 (lo + x - 1)) (at' p2 (lo + x)) = true):CI lt n p lo nrem p2 (x + 1) (k + 1):=by
 obtain ⟨e1,e2,⟨e3,e4⟩,e5,e6⟩:=h;refine ⟨e1,e2,⟨Nat.succ_le_succ e3,l⟩,Sg.snoc o.flp e5 (Nat.le_trans (Nat.le_add_left _ _) e3) (Le.not c2),λ i j a1 a2 a3 a4=>?_⟩;rw [Nat.add_sub_add_right] at a1 a3;have e:lo + x - 1 = lo + (x - 1):=by lia
 have le1:=e ▸ Le.not c;have le2:=e ▸ Le.not c2;have l1:x - (k + 1) <= x - 1:=by lia
 have l2:x - 1 < x:=by lia
 by_cases ci:i = x
 ·subst ci
  by_cases cj:j = i
  ·rw [cj];exact o.refl _
  ·exact o.tran _ _ _ le2 (e6 _ j l1 l2 a3 (by lia))
 ·by_cases cj:j = x
  ·subst cj;exact o.tran _ _ _ (e6 i _ a1 (by lia) l1 l2) le1
  ·exact e6 i j a1 (by lia) a3 (by lia)
theorem Li (h:Ans prog w A s κ f lt n) (o:Ord lt) (hp:Pm n p) (h1:1 <= m) (hm:m <= nrem) (hz:lo + nrem <= n) (sg:Sg lt p lo m) {F:Nat->Option (Option Nat) × Nat->StateT SortSt Sem (ForInStep (Option (Option Nat) × Nat))} {Q:Option (Option Nat) × Nat->SortSt->Prop}
  (hF:∀ x,x < nrem->∀ {R:ForInStep (Option (Option Nat) × Nat)->SortSt->Prop},(lt (at' p (lo + x)) (at' p (lo + x - 1)) = true->R (.done (none,x)) (SS κ f p pd g))->(¬ lt (at' p (lo + x)) (at' p (lo + x - 1)) = true->R (.yield (none,x + 1)) (SS κ f p pd g))->wpS (model prog w) A E s (F x (none,x)) R (SS κ f p pd g))
  (q:∀ m,1 <= m->m <= nrem->Sg lt p lo m->(m = nrem \/ lt (at' p (lo + m)) (at' p (lo + m - 1)) = true)->Q (none,m) (SS κ f p pd g)):wpS (model prog w) A E s (forIn [m:nrem] (none,m) F) Q (SS κ f p pd g):=by
 refine wpS_forRange (I:=λ x c st'=>SS κ f p pd g = st' /\ c = (none,x) /\ 1 <= x /\ x <= nrem /\ Sg lt p lo x) ?_ ?_ ⟨rfl,rfl,h1,hm,sg⟩
 ·rintro x _ _ _ hx ⟨rfl,rfl,x1,x2,x3⟩;exact hF x hx (λ c=>q x x1 x2 x3 (.inr c)) λ c=>⟨rfl,rfl,Nat.le_succ_of_le x1,hx,x3.snoc o x1 (Le.not c)⟩
 ·rintro _ _ ⟨rfl,rfl,x1,x2,x3⟩;exact q _ x1 x2 x3 (.inl (Nat.le_antisymm x2 (Nat.le_max_right _ _)))
set_option maxHeartbeats 4000000 in
theorem Cv (h:Ans prog w A s κ f lt n) (o:Ord lt) (hp:Pm n p) (h1:1 <= nrem) (hz:lo + nrem <= n) {Q:Option Nat->SortSt->Prop}
  (q:∀ m p',1 <= m->m <= nrem->Pm n p'->Out p p' lo nrem->Sg lt p' lo m->Q (some m) (SS κ f p' pd g)):wpS (model prog w) A E s (countRun' lo nrem) Q (SS κ f p pd g):=by
 have l1:∀ {x},x < nrem->lo + x < n:=λ h=>Nat.lt_of_lt_of_le (Nat.add_lt_add_left h _) hz;have l2:∀ {x},x < nrem->lo + x - 1 < n:=λ h=>Nat.lt_of_le_of_lt (Nat.sub_le _ _) (l1 h);refine wpS_bind (Li h o hp (Nat.le_refl 1) h1 hz (Sg.one o) (λ x hx _ r1 r2=>wpS_bind (Yd h hp (l1 hx) (l2 hx) (Zi (λ c=>wpS_pure (r1 c)) λ c=>wpS_pure (r2 c)))) λ m m1 m2 m3 m4=>Zi (λ c=>wpS_pure (q m p m1 m2 hp Out.refl m3)) λ c=>?_);have c:¬ m = nrem:=λ z=>c (beq_iff_eq.mpr z);have m5:lt (at' p (lo + m)) (at' p (lo + m - 1)) = true:=m4.resolve_left c;have m6:m < nrem:=Nat.lt_of_le_of_ne m2 c;have z1:=hp.size;clear m4;apply WW (pd:=pd) (g:=g) λ p'=>CI lt n p lo nrem p' (m + 1) 0
 ·intro go;refine Zi (λ c2=>wpS_bind (Yd h hp (by lia) (l2 m6) (Zi (λ c3=>wpS_pure (q m p m1 m2 hp Out.refl m3)) λ c3=>wpS_bind (Yr (go _ ?_))))) λ c2=>go _ ?_
  ·refine ⟨hp.rev _ _,Out.refl.rev (Nat.le_refl _) (Nat.add_le_add_left m2 _) (by lia),⟨Nat.succ_le_succ (Nat.zero_le _),m6⟩,Sg.snoc o.flp (m3.rev (by lia)) m1 ?_,bk1 o⟩;show Le lt _ _;rw [VY (by lia),VY (by lia),if_neg (by lia),if_pos (by lia),show lo + (lo + m) - 1 - (lo + m - 1) = lo by lia];exact o.tran _ _ _ (o.asym _ _ m5) (Le.not c3)
  ·cases (show m = 1 by lia);exact CI.down o (k:=0) ⟨hp,Out.refl,⟨Nat.le_refl _,h1⟩,Sg.one o.flp,bk1 o⟩ m6 m5
 intro p1 i1;refine wpS_bind (wpS_lift (wpAny_rule ⟨rfl,wpS_bind (wpS_mono (wpS_forRange (I:=λ x c st'=>∃ p2 k,SS κ f p2 pd g = st' /\ c = (none,x,k) /\ CI lt n p lo nrem p2 x k) (Q:=λ c st'=>∃ p2 x k,SS κ f p2 pd g = st' /\ c = (none,x,k) /\ CI lt n p lo nrem p2 x k) ?_ ?_ ⟨p1,0,rfl,rfl,i1⟩) ?_)⟩))
 ·rintro x _ _ _ hx ⟨p2,k,rfl,rfl,i2⟩;refine wpS_bind (Yd h i2.1 (l1 hx) (l2 hx) (Zi (λ c=>?_) λ c=>wpS_bind (Yd h i2.1 (l2 hx) (l1 hx) (Zi (λ c2=>wpS_pure ⟨p2,x,k,rfl,rfl,i2⟩) λ c2=>wpS_pure ⟨p2,k + 1,rfl,rfl,i2.same o hx c c2⟩))));have i3:=i2.down o hx c;exact Zi (λ c2=>wpS_bind (Yr (wpS_pure ⟨_,0,rfl,rfl,i2.flat o hz (Nat.le_succ _) hx i3.2.2.2.1⟩))) λ c2=>wpS_pure ⟨p2,0,rfl,rfl,i3⟩
 ·rintro _ _ ⟨p2,k,rfl,rfl,i2⟩;exact ⟨p2,_,k,rfl,rfl,i2⟩
 ·rintro _ _ ⟨p2,m5,k,rfl,rfl,i2⟩;apply WW (pd:=pd) (g:=g) λ p'=>∃ k,CI lt n p lo nrem p' m5 k
  ·intro go;exact Zi (λ c2=>wpS_bind (Yr (go _ ⟨_,i2.flat o hz (Nat.le_refl _) i2.2.2.1.2 i2.2.2.2.1⟩))) λ c2=>go _ ⟨_,i2⟩
  rintro p3 ⟨k3,e1,e2,⟨e3,e4⟩,e5,e6⟩;have z2:=e1.size;have n1:=Nat.le_trans (Nat.le_add_left _ _) e3;exact wpS_bind (Yr (wpS_bind (Li h o (e1.rev _ _) n1 e4 hz (e5.rev (by lia)) (λ x hx _ r1 r2=>wpS_bind (Yd h (e1.rev _ _) (l1 hx) (l2 hx) (Zi (λ c=>wpS_pure (r1 c)) λ c=>wpS_pure (r2 c)))) λ mm n1 n2 n3 _=>wpS_pure (q mm _ n1 n2 (e1.rev _ _) (e2.rev (Nat.le_refl _) (Nat.add_le_add_left e4 _) (by lia)) n3))))
end
section
variable {prog:Program} {E:Value->Shared->Prop} {κ:SortKind} {f:Nat->Keyed} {lt:Nat->Nat->Bool} {p:Array Nat} {pd:Array (Nat × Nat × Nat)} {g lo nrem:Nat}
set_option maxHeartbeats 4000000 in
theorem Gh (h:Ans prog w A s κ f lt n) (o:Ord lt) (hp:Pm n p) {ok:Nat} (h1:1 <= ok) (h2:ok <= nrem) (hz:lo + nrem <= n) (hs:Sg lt p lo ok) {Q:Bool->SortSt->Prop}
  (q:∀ p',Pm n p'->Out p p' lo nrem->Sg lt p' lo nrem->Q true (SS κ f p' pd g)):wpS (model prog w) A E s (binarySort' lo nrem ok) Q (SS κ f p pd g):=by
 refine wpS_bind (wpS_mono (wpS_forRange (I:=λ x c st'=>∃ p2,SS κ f p2 pd g = st' /\ c.1 = none /\ Pm n p2 /\ Out p p2 lo nrem /\ (1 <= x /\ x <= nrem) /\ Sg lt p2 lo x)
  (Q:=λ c st'=>∃ p2,SS κ f p2 pd g = st' /\ c.1 = none /\ Pm n p2 /\ Out p p2 lo nrem /\ Sg lt p2 lo nrem) ?_ ?_ ⟨p,rfl,rfl,hp,Out.refl,⟨by lia,by lia⟩,by rw [show max ok 1 = ok by lia]; exact hs⟩) ?_)
 ·rintro k ⟨c1,c2⟩ _ k0 hk ⟨p2,rfl,e0,e1,e2,⟨e3,e4⟩,e5⟩;have z2:=e1.size;dsimp only at e0 ⊢
  refine wpS_bind (wpS_mono (wpS_forRange (I:=λ x c st'=>SS κ f p2 pd g = st' /\ ∃ l r,c = (none,l,r) /\ l <= r /\ r <= k /\ r - l + x <= k /\ (∀ i,i < l->Le lt (at' p2 (lo + i)) (at' p2 (lo + k))) /\ (∀ i,r <= i->i < k->Le lt (at' p2 (lo + k)) (at' p2 (lo + i))))
   (Q:=λ c st'=>SS κ f p2 pd g = st' /\ ∃ l r,c = (none,l,r) /\ l <= k /\ (∀ i,i < l->Le lt (at' p2 (lo + i)) (at' p2 (lo + k))) /\ (∀ i,l <= i->i < k->Le lt (at' p2 (lo + k)) (at' p2 (lo + i)))) ?_ ?_ ⟨rfl,0,k,rfl,by lia,by lia,by lia,λ i z=>absurd z (by lia),λ i z1 z2=>absurd z1 (by lia)⟩) ?_)
  ·rintro x c _ _ hx ⟨rfl,l,r,rfl,g1,g2,g3,g4,g5⟩;dsimp only;refine Zi (λ c=>wpS_pure ⟨rfl,l,r,rfl,by lia,g4,λ i z1 z2=>g5 i (by lia) z2⟩) λ c=>wpS_bind (Yd h e1 (by lia) (by lia) ?_);dsimp only;refine Zi (λ c2=>wpS_pure ⟨rfl,_,_,rfl,by lia,by lia,by lia,g4,λ i z1 z2=>?_⟩) λ c2=>wpS_pure ⟨rfl,_,_,rfl,by lia,by lia,by lia,λ i z1=>?_,g5⟩
   ·exact o.tran _ _ _ (o.asym _ _ c2) (e5 _ _ z1 z2)
   ·exact o.tran _ _ _ (e5 _ _ (show i <= (l + r) / 2 by lia) (by lia)) (show Le lt _ _ by simpa [Le] using c2)
  ·rintro c _ ⟨rfl,l,r,rfl,g1,g2,g3,g4,g5⟩;exact ⟨rfl,l,r,rfl,by lia,g4,λ i z1 z2=>g5 i (by lia) z2⟩
  ·rintro c _ ⟨rfl,l,r,rfl,g1,g4,g5⟩;dsimp only;refine wpS_bind (EJ (wpS_pure ⟨_,rfl,rfl,e1.bub _ _,λ u hu=>?_,⟨by lia,by lia⟩,λ i j hij hj=>?_⟩))
   ·rw [Cs (by lia) (by lia),if_neg (by lia),if_neg (by lia)];exact e2 u hu
   ·rw [Cs (by lia) (by lia),Cs (by lia) (by lia)]
    by_cases c1:i = l
    ·rw [if_pos (by lia)]
     by_cases c2:j = l
     ·rw [if_pos (by lia)];exact o.refl _
     ·rw [if_neg (by lia),if_pos (by lia),show lo + j - 1 = lo + (j - 1) by lia];exact g5 _ (by lia) (by lia)
    ·rw [if_neg (by lia)]
     by_cases c3:l < i
     ·rw [if_pos (by lia),if_neg (by lia),if_pos (by lia),show lo + i - 1 = lo + (i - 1) by lia,show lo + j - 1 = lo + (j - 1) by lia];exact e5 _ _ (by lia) (by lia)
     ·rw [if_neg (by lia)]
      by_cases c2:j = l
      ·rw [if_pos (by lia)];exact g4 _ (by lia)
      ·rw [if_neg (by lia)]
       by_cases c4:l < j
       ·rw [if_pos (by lia),show lo + j - 1 = lo + (j - 1) by lia];exact e5 _ _ (by lia) (by lia)
       ·rw [if_neg (by lia)];exact e5 _ _ (by lia) (by lia)
 ·rintro ⟨c1,c2⟩ _ ⟨p2,rfl,e0,e1,e2,⟨e3,e4⟩,e5⟩;rw [show max (max ok 1) nrem = nrem by lia] at e5;exact ⟨p2,rfl,e0,e1,e2,e5⟩
 ·rintro ⟨c1,c2⟩ _ ⟨p2,rfl,e0,e1,e2,e5⟩;dsimp only at e0 ⊢;subst e0;exact wpS_pure (q p2 e1 e2 e5)
end
theorem W9 {α:Type} (b:Nat):∀ (L:List α) (k:Nat) (arr:Array α),b + k + L.length <= arr.size->((L.zipIdx k).foldl (λ a x=>a.setIfInBounds (b + x.2) x.1) arr).toList = arr.toList.take (b + k) ++ L ++ arr.toList.drop (b + k + L.length)
 | [],k,arr,_=>by simp
 | x :: L,k,arr,h=>by
  have h:b + k + (L.length + 1) <= arr.size:=h;rw [List.zipIdx_cons,List.foldl_cons,W9 b L (k + 1) _ (by simp; lia)];dsimp only;rw [Array.toList_setIfInBounds,List.take_set,List.drop_set_of_lt (by lia),show b + (k + 1) = b + k + 1 by lia,List.length_cons,show b + k + 1 + L.length = b + k + (L.length + 1) by lia];have e:(arr.toList.take (b + k + 1)).set (b + k) x = arr.toList.take (b + k) ++ [x]:=by
   rw [List.take_succ,List.getElem?_eq_getElem (by simp; lia),Option.toList_some];rw [List.set_append_right _ _ (by simp; lia)];simp [show min (b + k) arr.size = b + k by lia]
  rw [e];simp
section
variable {lt:Nat->Nat->Bool} {p q:Array Nat} {a b:Nat}
theorem QP (hb:b <= p.size) (hi:a + i < b):at' (p.extract a b) i = at' p (a + i):=by
 have h1:a + i < p.size:=by lia
 show (p.extract a b).getD i 0 = p.getD (a + i) 0;rw [Array.getD_eq_getD_getElem?,Array.getD_eq_getD_getElem?,Array.getElem?_extract,if_pos (by lia)]
theorem Lh (o:Ord lt) {lo:Nat} (h:Sg lt p lo m) (hz:lo + m <= p.size) (ha:lo <= a) (hb:b <= lo + m):(p.extract a b).toList.Pairwise (Le lt):=by
 rw [List.pairwise_iff_getElem];intro i j hi hj hij;have hi:i < min (b - a) (p.size - a):=by simpa using hi
 have hj:j < min (b - a) (p.size - a):=by simpa using hj
 have e:∀ k (hk:k < min (b - a) (p.size - a)),(p.extract a b).toList[k]'(by simpa using hk) = at' p (lo + (a - lo + k)):=λ k hk=>by
  have h1:a + k < p.size:=by lia
  rw [show lo + (a - lo + k) = a + k by lia];simp [at',h1]
 rw [e i hi,e j hj];exact h _ _ (by lia) (by lia)
noncomputable def MM (p q:Array Nat) (a:Nat):Array Nat:=(p.toList.take a ++ q.toList ++ p.toList.drop (a + q.size)).toArray
theorem Vx (h:a + q.size <= p.size) (x:Nat):at' (MM p q a) x = if x < a then at' p x else if x < a + q.size then at' q (x - a) else at' p x:=by
 have l1:(p.toList.take a).length = a:=by simp; lia
 unfold MM;have e:∀ (l:List Nat),at' l.toArray x = (l[x]?).getD 0:=λ l=>by simp [at']
 have e2:∀ (r:Array Nat) (y:Nat),at' r y = (r.toList[y]?).getD 0:=λ r y=>by simp [at']
 rw [e,e2 p,e2 q,List.append_assoc]
 by_cases c1:x < a
 ·rw [if_pos c1,List.getElem?_append_left (by lia),List.getElem?_take,if_pos c1]
 ·rw [if_neg c1,List.getElem?_append_right (by lia),l1]
  by_cases c2:x < a + q.size
  ·rw [if_pos c2,List.getElem?_append_left (by simp; lia)]
  ·rw [if_neg c2,List.getElem?_append_right (by simp; lia),List.getElem?_drop,Array.length_toList,show a + q.size + (x - a - q.size) = x by lia]
theorem BM (hm:a <= m) (hb:m <= b) (hz:b <= p.size) (hq:q.toList.Perm ((p.extract a m).toList ++ (p.extract m b).toList)) (hp:Pm n p):Pm n (MM p q a):=by
 have hl:q.size = b - a:=by
  have:=hq.length_eq;simp at this;lia
 refine Array.Perm.trans ?_ hp;rw [Array.perm_iff_toList_perm];unfold MM;have e1:(p.extract a m).toList ++ (p.extract m b).toList = (p.toList.drop a).take (b - a):=by
  rw [Array.toList_extract,Array.toList_extract,List.extract_eq_take_drop,List.extract_eq_take_drop,show b - a = (m - a) + (b - m) by lia,List.take_add,List.drop_drop,show a + (m - a) = m by lia]
 have e2:p.toList = p.toList.take a ++ ((p.toList.drop a).take (b - a) ++ p.toList.drop (a + (b - a))):=by
  rw [<- List.drop_drop,List.take_append_drop,List.take_append_drop]
 rw [hl]
 conv=>rhs; rw [e2]
 rw [List.append_assoc];rw [e1] at hq;exact List.Perm.append_left _ (List.Perm.append_right _ hq)
end
section
variable {lt:Nat->Nat->Bool} {p:Array Nat}
def Runs (lt:Nat->Nat->Bool) (p:Array Nat):List (Nat × Nat × Nat)->Nat->Nat->Prop
 | [],a,b=>a = b
 | x :: r,a,b=>x.1 = a /\ 1 <= x.2.1 /\ Sg lt p a x.2.1 /\ Runs lt p r (a + x.2.1) b
theorem Runs.app:∀ {l r:List (Nat × Nat × Nat)} {a c:Nat},Runs lt p (l ++ r) a c ↔ ∃ b,Runs lt p l a b /\ Runs lt p r b c
 | [],r,a,c=>⟨λ h=>⟨a,rfl,h⟩,λ ⟨b,h1,h2⟩=>by cases h1; exact h2⟩
 | x :: l,r,a,c=>by
  constructor
  ·rintro ⟨h1,h2,h3,h4⟩;obtain ⟨b,k1,k2⟩:=Runs.app.mp h4;exact ⟨b,⟨h1,h2,h3,k1⟩,k2⟩
  ·rintro ⟨b,⟨h1,h2,h3,h4⟩,k⟩;exact ⟨h1,h2,h3,Runs.app.mpr ⟨b,h4,k⟩⟩
theorem Runs.le:∀ {l:List (Nat × Nat × Nat)} {a b:Nat},Runs lt p l a b->a + l.length <= b
 | [],a,b,h=>by cases h; exact Nat.le_refl _
 | x :: l,a,b,h=>by
  have:=h.2.2.2.le;have:=h.2.1;rw [List.length_cons];lia
theorem Xu {r:Array Nat} {u:Nat} (hu:u < r.toList.length):r.toList[u] = at' r u:=by
 have h:u < r.size:=by simpa using hu
 simp [at',h]
theorem Sg.join (o:Ord lt) {a m1 m2:Nat} (h1:Sg lt p a m1) (h2:Sg lt p (a + m1) m2) (hl:1 <= m1->Le lt (at' p (a + (m1 - 1))) (at' p (a + m1))):Sg lt p a (m1 + m2):=λ i j hij hj=>by
 by_cases c1:j < m1
 ·exact h1 i j hij c1
 ·by_cases c2:i < m1
  ·have e1:=h1 i (m1 - 1) (by lia) (by lia);have e2:=h2 0 (j - m1) (by lia) (by lia);rw [show a + m1 + (j - m1) = a + j by lia,Nat.add_zero] at e2;exact o.tran _ _ _ (o.tran _ _ _ e1 (hl (by lia))) e2
  ·have e2:=h2 (i - m1) (j - m1) (by lia) (by lia)
   rwa [show a + m1 + (j - m1) = a + j by lia,show a + m1 + (i - m1) = a + i by lia] at e2
theorem SR (o:Ord lt) {k:Nat} (sg:Sg lt p base m):∀ i j,i <= j->j < m->byd lt false k p base j = true->byd lt false k p base i = true:=λ i j h1 h2 h3=>by
 have:=o.tran _ _ _ (sg i j h1 h2) (G5 h3)
 simpa [byd,Le] using this
theorem PJ (o:Ord lt) {k:Nat} (sg:Sg lt p base m):∀ i j,i <= j->j < m->byd lt true k p base j = true->byd lt true k p base i = true:=λ i j h1 h2 h3=>by
 cases e:byd lt true k p base i with
 | true=>rfl
 | false=>
  have:=o.tran _ _ _ (X0 e) (sg i j h1 h2);have e2:lt (at' p (base + j)) k = true:=by simpa [byd] using h3
  rw [show lt (at' p (base + j)) k = false from this] at e2;cases e2
theorem Sg.mrg (o:Ord lt) {sa na nb k:Nat} {q:Array Nat} (h1:Sg lt p sa na) (h2:Sg lt p (sa + na) nb) (hz:sa + na + nb <= p.size) (hk:k < na) (hj:1 <= j) (hj2:j <= nb) (k2:∀ i,i < k->Le lt (at' p (sa + i)) (at' p (sa + na))) (j3:∀ i,j <= i->i < nb->Le lt (at' p (sa + (na - 1))) (at' p (sa + na + i)))
  (hq:q.toList.Perm ((p.extract (sa + k) (sa + na)).toList ++ (p.extract (sa + na) (sa + na + j)).toList)) (sq:q.toList.Pairwise (Le lt)):Sg lt (MM p q (sa + k)) sa (na + nb):=by
 have zq:q.size = na - k + j:=by
  have:=hq.length_eq;simp at this;lia
 have mem:∀ t,t < q.size->(∃ u,k <= u /\ u < na /\ at' q t = at' p (sa + u)) \/ ∃ u,u < j /\ at' q t = at' p (sa + na + u):=λ t ht=>by
  have m1:at' q t ∈ q.toList:=by simp [at',ht]
  rcases List.mem_append.mp (hq.mem_iff.mp m1) with m2 | m2
  ·obtain ⟨u,hu,e⟩:=List.getElem_of_mem m2;have hu':u < na - k:=by simp at hu; lia
   refine .inl ⟨k + u,by lia,by lia,?_⟩;rw [<- e,Xu,QP (by lia) (by lia),Nat.add_assoc]
  ·obtain ⟨u,hu,e⟩:=List.getElem_of_mem m2;have hu':u < j:=by simp at hu; lia
   refine .inr ⟨u,by lia,?_⟩;rw [<- e,Xu,QP (by lia) (by lia)]
 have b0:∀ i u,i < k->u < nb->Le lt (at' p (sa + i)) (at' p (sa + na + u)):=λ i u hi hu=>o.tran _ _ _ (k2 i hi) (by have:=h2 0 u (by lia) hu; rwa [Nat.add_zero] at this);intro x y hxy hy;rw [Vx (by lia),Vx (by lia)]
 by_cases x1:x < k
 ·rw [if_pos (by lia)]
  by_cases y1:y < k
  ·rw [if_pos (by lia)];exact h1 x y hxy (by lia)
  ·rw [if_neg (by lia)]
   by_cases y2:sa + y < sa + k + q.size
   ·rw [if_pos y2]
    rcases mem (sa + y - (sa + k)) (by lia) with ⟨u,u1,u2,e⟩ | ⟨u,u1,e⟩
    ·rw [e];exact h1 x u (by lia) u2
    ·rw [e];exact b0 x u x1 (by lia)
   ·rw [if_neg y2];have:=b0 x (y - na) x1 (by lia)
    rwa [show sa + na + (y - na) = sa + y by lia] at this
 ·rw [if_neg (by lia)];have y1:¬ sa + y < sa + k:=by lia
  by_cases x2:sa + x < sa + k + q.size
  ·rw [if_pos x2,if_neg y1]
   by_cases y2:sa + y < sa + k + q.size
   ·rw [if_pos y2];exact Oc o sq (by lia) (by lia)
   ·rw [if_neg y2]
    rcases mem (sa + x - (sa + k)) (by lia) with ⟨u,u1,u2,e⟩ | ⟨u,u1,e⟩
    ·rw [e];have:=o.tran _ _ _ (h1 u (na - 1) (by lia) (by lia)) (j3 (y - na) (by lia) (by lia))
     rwa [show sa + na + (y - na) = sa + y by lia] at this
    ·rw [e];have:=h2 u (y - na) (by lia) (by lia)
     rwa [show sa + na + (y - na) = sa + y by lia] at this
  ·rw [if_neg x2,if_neg y1,if_neg (by lia)];have:=h2 (x - na) (y - na) (by lia) (by lia)
   rwa [show sa + na + (y - na) = sa + y by lia,show sa + na + (x - na) = sa + x by lia] at this
theorem Runs.congr {p':Array Nat}:∀ {l:List (Nat × Nat × Nat)} {a b:Nat},Runs lt p l a b->(∀ k,a <= k->k < b->at' p' k = at' p k)->Runs lt p' l a b
 | [],a,b,h,_=>h
 | x :: l,a,b,h,e=>by
  have hl:=h.2.2.2.le;exact ⟨h.1,h.2.1,h.2.2.1.congr λ k hk=>e _ (by lia) (by lia),h.2.2.2.congr λ k h1 h2=>e k (by lia) h2⟩
end
section
variable {prog:Program} {E:Value->Shared->Prop} {κ:SortKind} {f:Nat->Keyed} {lt:Nat->Nat->Bool} {p:Array Nat} {pd:Array (Nat × Nat × Nat)} {g:Nat}
theorem Oj {x:SortSt} {st:SortSt} {Q:PUnit->SortSt->Prop} (q:Q ⟨⟩ x):wpS (model prog w) A E s (set x:StateT SortSt Sem PUnit) Q st:=by
 unfold wpS;rw [StateT.run_set];exact wpAny_pure ⟨rfl,q⟩
theorem DX {l1 l2:List (Nat × Nat × Nat)} {x y z:Nat × Nat × Nat} (ep:pd.toList = l1 ++ x :: y :: l2):((pd.setIfInBounds l1.length z).eraseIdxIfInBounds (l1.length + 1)).toList = l1 ++ z :: l2:=by
 have hz:pd.size = l1.length + (l2.length + 1 + 1):=by rw [<- Array.length_toList,ep]; simp
 unfold Array.eraseIdxIfInBounds;rw [dif_pos (by simp; lia),Array.toList_eraseIdx,Array.toList_setIfInBounds,ep,List.set_append_right _ _ (Nat.le_refl _),Nat.sub_self,List.set_cons_zero,List.eraseIdx_append_of_length_le (by lia)];simp
theorem Hb {p q:Array Nat} {a:Nat} (h:a + q.size <= p.size):List.foldl (λ r x=>r.setIfInBounds (a + x.2) x.1) (p.map f) (q.map f).toList.zipIdx = (MM p q a).map f:=by
 apply Array.toList_inj.mp;rw [W9 a _ 0 _ (by simpa using h)];unfold MM;simp
set_option maxHeartbeats 4000000 in
theorem Ve (h:Ans prog w A s κ f lt n) (o:Ord lt) (hp:Pm n p) {l1 l2:List (Nat × Nat × Nat)} {sa na pa sb nb pb hi:Nat} (ep:pd.toList = l1 ++ (sa,na,pa) :: (sb,nb,pb) :: l2) (hr:Runs lt p pd.toList 0 hi) (hn:hi <= n) {Q:Bool->SortSt->Prop}
  (q:∀ p' pd' g',Pm n p'->(∀ k,hi <= k->at' p' k = at' p k)->Runs lt p' pd'.toList 0 hi->pd'.toList = l1 ++ (sa,na + nb,pa) :: l2->Q true (SS κ f p' pd' g')):wpS (model prog w) A E s (mergeAt' l1.length) Q (SS κ f p pd g):=by
 have e1:pd[l1.length]? = some (sa,na,pa):=by rw [<- Array.getElem?_toList,ep]; simp
 have e2:pd[l1.length + 1]? = some (sb,nb,pb):=by rw [<- Array.getElem?_toList,ep]; simp
 have epd:=DX (z:=(sa,na + nb,pa)) ep;have hz:=hp.size;rw [ep] at hr;obtain ⟨b1,r1,e3,n1,g1,e4,n2,g2,r2⟩:=Runs.app.mp hr;dsimp only at e3 n1 g1 e4 n2 g2 r2;subst e3;subst e4;have hl:=r2.le;refine wpS_bind (wpS_get ?_);dsimp only;rw [e1,e2];dsimp only;refine wpS_bind (Oj ?_);generalize (pd.setIfInBounds l1.length (sa,na + nb,pa)).eraseIdxIfInBounds (l1.length + 1) = pd' at epd ⊢;refine wpS_bind (ZC rfl (by lia) (wpS_bind (Qm h rfl rfl (hp.below (by lia)) (λ i hi=>hp.below (by lia)) (by lia) (by lia) (SR o g1) λ k k1 k2 k3=>?_)));dsimp only;have same:∀ {g'},Sg lt p sa (na + nb)->Q true (SS κ f p pd' g'):=λ {g'} sg=>q p pd' g' hp (λ _ _=>rfl) (by rw [epd]; exact Runs.app.mpr ⟨sa,r1,rfl,by dsimp only; lia,sg,by dsimp only; rw [<- Nat.add_assoc]; exact r2⟩) epd;refine Zi (λ c=>?_) λ c=>?_
 ·have c:=beq_iff_eq.mp c;exact wpS_pure (same (g1.join o g2 λ _=>G5 (k2 (na - 1) (by lia))))
 have c:¬ na - k = 0:=λ z=>c (beq_iff_eq.mpr z);refine wpS_bind (ZC rfl (by lia) (wpS_bind (Qm h rfl rfl (hp.below (by lia)) (λ i hi=>hp.below (by lia)) (by lia) (by lia) (PJ o g2) λ j j1 j2 j3=>?_)));dsimp only;refine Zi (λ c2=>?_) λ c2=>?_
 ·have c2:=beq_iff_eq.mp c2;refine wpS_pure (same (g1.join o g2 λ _=>?_));have:=X0 (j3 0 (by lia) (by lia))
  rwa [show sa + k + (na - k) - 1 = sa + (na - 1) by lia] at this
 have c2:¬ j = 0:=λ z=>c2 (beq_iff_eq.mpr z);have zx:(p.extract (sa + k) (sa + na)).size = na - k:=by simp; lia
 have zy:(p.extract (sa + na) (sa + na + j)).size = j:=by simp; lia
 have lo1:∀ i,k + i < na->Le lt (at' p (sa + na + 0)) (at' p (sa + k + i)):=λ i hi=>by
  have:=GX o (k3 (k + i) (by lia) hi)
  rwa [show sa + (k + i) = sa + k + i by lia] at this
 have lo2:∀ y ∈ (p.extract (sa + k) (sa + na)).toList,Le lt (at' p (sa + na + 0)) y:=λ y hy=>by
  obtain ⟨u,hu,rfl⟩:=List.getElem_of_mem hy;have hu':u < na - k:=by rw [Array.length_toList,zx] at hu; exact hu
  rw [Xu,QP (by lia) (by lia)];exact lo1 u (by lia)
 have byd_t':∀ {u},u < j->Le lt (at' p (sa + na + u)) (at' p (sa + (na - 1))):=λ {u} hu=>by
  have:=OQ o (j2 u hu)
  rwa [show sa + k + (na - k) - 1 = sa + (na - 1) by lia] at this
 have hi1:∀ y ∈ (p.extract (sa + na) (sa + na + j)).toList,Le lt y (at' p (sa + (na - 1))):=λ y hy=>by
  obtain ⟨u,hu,rfl⟩:=List.getElem_of_mem hy;have hu':u < j:=by rw [Array.length_toList,zy] at hu; exact hu
  rw [Xu,QP (by lia) (by lia)];exact byd_t' hu'
 have M:Mc prog w A s κ f lt n (p.extract (sa + k) (sa + na)) (p.extract (sa + na) (sa + na + j)) ((p.map f).extract (sa + k) (sa + na)) ((p.map f).extract (sa + na) (sa + na + j)):=
  ⟨h,o,W7 rfl _ _,W7 rfl _ _,λ i hi=>by rw [zx] at hi; rw [QP (by lia) (by lia)]; exact hp.below (by lia),λ i hi=>by rw [zy] at hi; rw [QP (by lia) (by lia)]; exact hp.below (by lia),Lh o g1 (by lia) (by lia) (by lia),Lh o g2 (by lia) (by lia) (by lia),by lia,by lia⟩
 have fin:∀ r st',Sm (SS κ f p pd' g) st'->Mgd f lt (p.extract (sa + k) (sa + na)) (p.extract (sa + na) (sa + na + j)) r->Q true (SortSt.mk' (kindOf st') (List.foldl (λ r x=>r.setIfInBounds (sa + k + x.2) x.1) (arrOf st') r.toList.zipIdx) (pendingOf st') (gallopOf st') (failedOf st')):=by
  rintro _ st' hs ⟨q',rfl,hq1,hq2⟩;have zq:q'.size = na - k + j:=by
   have:=hq1.length_eq;rw [List.length_append,Array.length_toList,Array.length_toList,Array.length_toList,zx,zy] at this;exact this
  rw [hs.kd,hs.ar,hs.pd,hs.fl];show Q true (SortSt.mk' κ (List.foldl (λ r x=>r.setIfInBounds (sa + k + x.2) x.1) (p.map f) (q'.map f).toList.zipIdx) pd' (gallopOf st') none);rw [Hb (by lia)];refine q _ pd' _ (BM (by lia) (by lia) (by lia) hq1 hp) (λ u hu=>?_) ?_ epd
  ·rw [Vx (by lia),if_neg (by lia),if_neg (by lia)]
  ·rw [epd];refine Runs.app.mpr ⟨sa,r1.congr λ u u1 u2=>?_,rfl,by dsimp only; lia,Sg.mrg o g1 g2 (by lia) (by lia) (by lia) j1 (λ i hi=>G5 (k2 i hi)) (λ i h1 h2=>?_) hq1 hq2,(show Runs lt _ l2 (sa + (na + nb)) hi from (Nat.add_assoc sa na nb ▸ r2).congr λ u u1 u2=>?_)⟩
   ·rw [Vx (by lia),if_pos (by lia)]
   ·have:=X0 (j3 i h1 h2)
    rwa [show sa + k + (na - k) - 1 = sa + (na - 1) by lia] at this
   ·rw [Vx (by lia),if_neg (by lia),if_neg (by lia)]
 refine Zi (λ c3=>wpS_bind (Wy M rfl ?_ ?_ λ r st' hs hr'=>?_)) λ c3=>wpS_bind (Kt M rfl ?_ ?_ λ r st' hs hr'=>?_)
 ·rw [QP (by lia) (by lia),QP (by lia) (by lia)];exact lo1 0 (by lia)
 ·intro y hy;rw [zx,QP (by lia) (by lia),show sa + k + (na - k - 1) = sa + (na - 1) by lia];exact hi1 y hy
 rotate_left
 ·intro y hy;rw [QP (by lia) (by lia)];exact lo2 y hy
 ·rw [zx,zy,QP (by lia) (by lia),QP (by lia) (by lia),show sa + k + (na - k - 1) = sa + (na - 1) by lia];exact byd_t' (by lia)
 all_goals
  refine wpS_bind (wpS_modify (wpS_bind (wpS_get (wpS_pure ?_))));have e:(failedOf st').isNone = true:=by rw [hs.fl]; rfl
  have:=fin r st' hs hr';rw [<- e] at this;exact this
end
theorem Runs.mod {lt:Nat->Nat->Bool} {p:Array Nat} {c:Nat}:∀ {l:List (Nat × Nat × Nat)} {i a b:Nat},Runs lt p l a b->Runs lt p (l.modify i λ x=>(x.1,x.2.1,c)) a b
 | [],i,a,b,h=>by simpa using h
 | x :: l,0,a,b,h=>h
 | x :: l,i + 1,a,b,h=>⟨h.1,h.2.1,h.2.2.1,Runs.mod h.2.2.2⟩
theorem LZ {α:Type} {l:List α} {i:Nat} (h:i + 1 < l.length):∃ l1 x y l2,l = l1 ++ x :: y :: l2 /\ l1.length = i:=by
 refine ⟨l.take i,l[i],l[i + 1],l.drop (i + 2),?_,by simp; lia⟩;rw [<- List.drop_eq_getElem_cons,<- List.drop_eq_getElem_cons,List.take_append_drop]
theorem Zbu {lt:Nat->Nat->Bool} {p:Array Nat} (h:Sg lt p 0 n) (hz:p.size = n):p.toList.Pairwise (Le lt):=by
 rw [List.pairwise_iff_getElem];intro i j hi hj hij;rw [Xu,Xu];have:=h i j (by lia) (by rw [Array.length_toList] at hj; lia)
 rwa [Nat.zero_add,Nat.zero_add] at this
section
variable {prog:Program} {E:Value->Shared->Prop} {κ:SortKind} {f:Nat->Keyed} {lt:Nat->Nat->Bool} {p:Array Nat} {g:Nat}
theorem Eo {pd:Array (Nat × Nat × Nat)} {γ:Type} {X:Nat->StateT SortSt Sem γ} {Q:γ->SortSt->Prop} (R:Nat->Array Nat->Prop) {goal:Prop} (k:(∀ m p',R m p'->wpS (model prog w) A E s (X m) Q (SS κ f p' pd g))->goal) (h:∀ m p',R m p'->wpS (model prog w) A E s (X m) Q (SS κ f p' pd g)):goal:=k h
def Wt (κ:SortKind) (f:Nat->Keyed) (lt:Nat->Nat->Bool) (n hi:Nat) (st:SortSt):Prop:=∃ p pd g,SS κ f p pd g = st /\ Pm n p /\ Runs lt p pd.toList 0 hi /\ hi <= n
set_option maxHeartbeats 4000000 in
theorem D6 (h:Ans prog w A s κ f lt n) (o:Ord lt) (hp:Pm n p) (h2:2 <= n) {Q:Unit->SortSt->Prop} (q:∀ p' pd' g',Pm n p'->p'.toList.Pairwise (Le lt)->Q () (SS κ f p' pd' g')):wpS (model prog w) A E s sortRuns' Q (SS κ f p #[] g):=by
 have hz:(arrOf (SS κ f p #[] g)).size = n:=by
  show (p.map f).size = n;rw [Array.size_map,hp.size]
 refine wpS_bind (wpS_get ?_);dsimp only;rw [show (p.map f).size = n from hz];refine wpS_bind (wpS_mono (wpS_forRange (I:=λ x c st'=>c.1 = none /\ x <= c.2 /\ Wt κ f lt n c.2 st') (Q:=λ c st'=>c.1 = none /\ Wt κ f lt n n st') ?_ ?_ ⟨rfl,Nat.le_refl _,p,#[],g,rfl,hp,(by exact (rfl:(0:Nat) = 0)),Nat.zero_le _⟩) ?_)
 ·rintro x ⟨c1,lo⟩ _ _ hx ⟨e1,l1,p,pd,g,rfl,hp,hr,hl⟩;dsimp only at e1 l1 hl hr ⊢;have push:∀ {p:Array Nat} {pd:Array (Nat × Nat × Nat)} {g mm:Nat},Runs lt p pd.toList 0 lo->Pm n p->Sg lt p lo mm->1 <= mm->lo + mm <= n->Wt κ f lt n (lo + mm) (SortSt.mk' κ (p.map f) (pd.push (lo,mm,0)) g none):=λ {p pd g mm} r q s m1 m2=>
   ⟨p,_,g,rfl,q,by rw [Array.toList_push]; exact Runs.app.mpr ⟨lo,r,rfl,m1,s,rfl⟩,m2⟩
  refine Zi (λ c=>?_) λ c=>?_
  ·have e:lo = n:=by lia
   exact wpS_pure ⟨rfl,p,pd,g,rfl,hp,by rw [<- e]; exact hr,Nat.le_refl _⟩
  refine wpS_bind (Cv h o hp (by lia) (by lia) λ m p2 m1 m2 p2p o2 s2=>?_);have r2:Runs lt p2 pd.toList 0 lo:=hr.congr λ k _ hk=>o2 k (.inl hk);dsimp only;apply Eo (pd:=pd) (g:=g) λ mm p6=>Pm n p6 /\ Runs lt p6 pd.toList 0 lo /\ Sg lt p6 lo mm /\ 1 <= mm /\ lo + mm <= n
  ·intro go;refine Zi (λ c2=>wpS_bind (wpS_lift (wpAny_rule ⟨rfl,?_⟩))) λ c2=>?_;have c3:m < minRun' n n 0:=c2;generalize emm:min (n - lo) (minRun' n n 0) = mm;have emm':min (n - lo) ((sortPriv% PySem.Builtin.minRun) n n 0) = mm:=emm;rw [emm'];exact wpS_bind (Gh h o p2p m1 (by lia) (by lia) s2 λ p6 q6 o6 s6=>Zi (λ z=>absurd z (by decide)) λ _=>go mm p6 ⟨q6,r2.congr λ k _ hk=>o6 k (.inl hk),s6,by lia,by lia⟩);exact go m p2 ⟨p2p,r2,s2,m1,by lia⟩
  clear r2 s2 p2p o2 m1 m2;rintro mm p6 ⟨p2,r2,s2,m1,m2⟩;refine wpS_bind (wpS_get ?_);dsimp only;cases eb:pd.back? with
  | none=>exact wpS_bind (wpS_modify (wpS_pure ⟨rfl,by dsimp only; lia,push r2 p2 s2 m1 (by lia)⟩))
  | some z=>
   obtain ⟨s1,n1,z1⟩:=z;dsimp only;refine wpS_bind (wpS_mono (wpS_forRange (I:=λ x c st'=>c.1 = none /\ ∃ p pd g,SS κ f p pd g = st' /\ Pm n p /\ Runs lt p pd.toList 0 lo /\ Sg lt p lo mm) (Q:=λ c st'=>c.1 = none /\ ∃ p pd g,SS κ f p pd g = st' /\ Pm n p /\ Runs lt p pd.toList 0 lo /\ Sg lt p lo mm) ?_ (λ _ _ z=>z) ⟨rfl,_,_,_,rfl,p2,r2,s2⟩) ?_)
   ·rintro y ⟨d1,d2⟩ _ _ hy ⟨f1,p3,pd3,g3,rfl,p4,r4,s4⟩;dsimp only at f1 ⊢;refine wpS_bind (wpS_get ?_);dsimp only
    by_cases two:pd3.size > 1
    ·rw [if_pos two];obtain ⟨l1,⟨sa,na,pa⟩,⟨sb,nb,pb⟩,l2,e5,e6⟩:=LZ (l:=pd3.toList) (i:=pd3.size - 2) (by rw [Array.length_toList]; lia);have e7:pd3[pd3.size - 2]? = some (sa,na,pa):=by rw [<- e6,<- Array.getElem?_toList,e5]; simp
     rw [e7];dsimp only;refine Zi (λ _=>wpS_pure ⟨rfl,_,_,_,rfl,p4,r4,s4⟩) λ _=>wpS_bind ?_;rw [<- e6];refine Ve h o p4 e5 r4 hl λ p5 pd5 g5 a1 a2 a3 _=>?_;refine Zi (λ z=>absurd z (by decide)) λ _=>wpS_pure ⟨rfl,_,_,_,rfl,a1,a3,s4.congr λ k _=>a2 _ (by lia)⟩
    ·rw [if_neg two];exact wpS_pure ⟨rfl,_,_,_,rfl,p4,r4,s4⟩
   ·rintro ⟨d1,d2⟩ _ ⟨f1,p3,pd3,g3,rfl,p4,r4,s4⟩;dsimp only at f1 ⊢;subst f1;dsimp only;refine wpS_bind (wpS_modify (wpS_bind (wpS_modify (wpS_pure ⟨rfl,by dsimp only; lia,push (pd:=pd3.modify (pd3.size - 1) λ x=>(x.1,x.2.1,_)) ?_ p4 s4 m1 (by lia)⟩))));rw [Array.toList_modify];exact r4.mod
 ·rintro ⟨c1,lo⟩ _ ⟨e1,l1,p,pd,g,rfl,hp,hr,hl⟩;dsimp only at e1 l1 hl hr ⊢;have e:lo = n:=by lia
  exact ⟨e1,p,pd,g,rfl,hp,by rw [<- e]; exact hr,Nat.le_refl _⟩
 ·rintro ⟨c1,lo⟩ _ ⟨e1,p,pd,g,rfl,hp,hr,hl⟩;dsimp only at e1 ⊢;subst e1;dsimp only;refine wpS_bind (wpS_mono (wpS_forRange (I:=λ x c st'=>c.1 = none /\ ∃ p pd g,SS κ f p pd g = st' /\ Pm n p /\ Runs lt p pd.toList 0 n /\ pd.size + x <= n) (Q:=λ c st'=>c.1 = none /\ ∃ p pd g,SS κ f p pd g = st' /\ Pm n p /\ Runs lt p pd.toList 0 n /\ pd.size <= 1) ?_ ?_ ⟨rfl,p,pd,g,rfl,hp,hr,by have:=hr.le; rw [Array.length_toList] at this; lia⟩) ?_)
  ·rintro y ⟨d1,d2⟩ _ _ hy ⟨f1,p3,pd3,g3,rfl,p4,r4,s4⟩;dsimp only at f1 ⊢;refine wpS_bind (wpS_get ?_);dsimp only;refine Zi (λ c=>wpS_pure ⟨rfl,p3,pd3,g3,rfl,p4,r4,c⟩) λ c=>?_;have go:∀ i,i + 1 < pd3.size->wpS (model prog w) A E s (mergeAt' i) (λ b st'=>b = true /\ ∃ p pd g,SS κ f p pd g = st' /\ Pm n p /\ Runs lt p pd.toList 0 n /\ pd.size + (y + 1) <= n) (SS κ f p3 pd3 g3):=λ i hi=>by
    obtain ⟨l1,⟨sa,na,pa⟩,⟨sb,nb,pb⟩,l2,e5,e6⟩:=LZ (l:=pd3.toList) (i:=i) (by rw [Array.length_toList]; lia);rw [<- e6];refine Ve h o p4 e5 r4 (Nat.le_refl _) λ p5 pd5 g5 a1 a2 a3 a4=>⟨rfl,p5,pd5,g5,rfl,a1,a3,?_⟩;have z1:=congrArg List.length a4;have z2:=congrArg List.length e5;simp at z1 z2;lia
   refine wpS_bind (wpS_mono (go _ ?_) λ b st' hb=>?_)
   ·repeat' split
    all_goals lia
   ·obtain ⟨rfl,hb⟩:=hb;exact Zi (λ z=>absurd z (by decide)) λ _=>wpS_pure ⟨rfl,hb⟩
  ·rintro ⟨d1,d2⟩ _ ⟨f1,p3,pd3,g3,rfl,p4,r4,s4⟩;exact ⟨f1,p3,pd3,g3,rfl,p4,r4,by lia⟩
  ·rintro ⟨d1,d2⟩ _ ⟨f1,p3,pd3,g3,rfl,p4,r4,s4⟩;dsimp only at f1 ⊢;subst f1;dsimp only;refine wpS_pure (q _ _ _ p4 ?_);rw [<- Array.length_toList] at s4;generalize pd3.toList = L at r4 s4
   match L,r4,s4 with
   | [],r4,_=>exact absurd (show (0:Nat) = n from r4) (by lia)
   | [x],r4,_=>
    obtain ⟨_,_,sg,e⟩:=r4;have e:0 + x.2.1 = n:=e;rw [Nat.zero_add] at e;rw [e] at sg;exact Zbu sg p4.size
   | _ :: _ :: _,_,z=>exact absurd z (by simp)
end
mutual
noncomputable def pln:PyData->Bool
 | .int _=>true
 | .str _=>true
 | .tuple l=>Vs l
 | _=>false
noncomputable def Vs:List PyData->Bool
 | []=>true
 | d :: l=>pln d && Vs l
end
mutual
noncomputable def ZL:PyData->PyData->Bool
 | .int _,.int _=>true
 | .str _,.str _=>true
 | .tuple a,.tuple b=>ZF a b
 | _,_=>false
noncomputable def ZF:List PyData->List PyData->Bool
 | a :: l,b :: r=>if PyData.eqv a b then ZF l r else ZL a b
 | _,_=>true
end
mutual
noncomputable def ltD:PyData->PyData->Bool
 | .int i,.int j=>decide (i < j)
 | .str s,.str t=>decide (s.cps.toList < t.cps.toList)
 | .tuple a,.tuple b=>Js a b
 | _,_=>false
noncomputable def Js:List PyData->List PyData->Bool
 | a :: l,b :: r=>if PyData.eqv a b then Js l r else ltD a b
 | [],_ :: _=>true
 | _,[]=>false
end
theorem ZN (h:Vs (d :: l) = true):pln d = true /\ Vs l = true:=by
 rw [Vs,Bool.and_eq_true] at h;exact h
theorem Bf {s t:Str} (h:s.cps.toList = t.cps.toList):s = t:=by
 obtain ⟨⟨a⟩⟩:=s;obtain ⟨⟨b⟩⟩:=t;cases h;rfl
mutual
theorem KY:∀ (a b:PyData),pln a = true->pln b = true->PyData.eqv a b = true->a = b
 | .int i,b,_,hb,h=>by
  cases b with
  | int j=>rw [PyData.eqv] at h; rw [beq_iff_eq.mp h]
  | bool _=>simp [pln] at hb
  | _=>rw [PyData.eqv] at h; cases h
 | .str s,b,_,hb,h=>by
  cases b with
  | str t=>rw [PyData.eqv] at h; rw [beq_iff_eq.mp h]
  | _=>rw [PyData.eqv] at h; cases h
 | .tuple l,b,ha,hb,h=>by
  cases b with
  | tuple r=>
   rw [pln] at ha hb;rw [PyData.eqv] at h;rw [W8 l r ha hb h]
  | _=>rw [PyData.eqv] at h; cases h
 | .none,_,ha,_,_=>by simp [pln] at ha
 | .bool _,_,ha,_,_=>by simp [pln] at ha
 | .list _,_,ha,_,_=>by simp [pln] at ha
 | .dict _,_,ha,_,_=>by simp [pln] at ha
theorem W8:∀ (l r:List PyData),Vs l = true->Vs r = true->PyData.eqvAll l r = true->l = r
 | [],[],_,_,_=>rfl
 | [],_ :: _,_,_,h=>by rw [PyData.eqvAll] at h; cases h
 | _ :: _,[],_,_,h=>by rw [PyData.eqvAll] at h; cases h
 | a :: l,b :: r,ha,hb,h=>by
  rw [PyData.eqvAll,Bool.and_eq_true] at h;rw [KY a b (ZN ha).1 (ZN hb).1 h.1,W8 l r (ZN ha).2 (ZN hb).2 h.2]
end
mutual
theorem J4:∀ (a:PyData),pln a = true->PyData.eqv a a = true
 | .int i,_=>by rw [PyData.eqv]; exact beq_self_eq_true i
 | .str s,_=>by rw [PyData.eqv]; exact beq_self_eq_true s
 | .tuple l,h=>by rw [pln] at h; rw [PyData.eqv]; exact Xf l h
 | .none,h=>by simp [pln] at h
 | .bool _,h=>by simp [pln] at h
 | .list _,h=>by simp [pln] at h
 | .dict _,h=>by simp [pln] at h
theorem Xf:∀ (l:List PyData),Vs l = true->PyData.eqvAll l l = true
 | [],_=>by rw [PyData.eqvAll]
 | a :: l,h=>by rw [PyData.eqvAll,J4 a (ZN h).1,Xf l (ZN h).2]; rfl
end
theorem Bx {a b:PyData} (ha:pln a = true) (hb:pln b = true) (h:a ≠ b):PyData.eqv a b = false:=by
 cases e:PyData.eqv a b with
 | false=>rfl
 | true=>exact absurd (KY a b ha hb e) h
theorem QE {a:PyData} {r:List PyData} (ha:pln a = true):Js (a :: l) (a :: r) = Js l r:=by rw [Js,J4 a ha,if_pos rfl]
theorem Qf {a b:PyData} {r:List PyData} (ha:pln a = true) (hb:pln b = true) (h:a ≠ b):Js (a :: l) (b :: r) = ltD a b:=by rw [Js,Bx ha hb h,if_neg (by decide)]
theorem Vm {a:PyData} {r:List PyData} (ha:pln a = true):ZF (a :: l) (a :: r) = ZF l r:=by rw [ZF,J4 a ha,if_pos rfl]
theorem Jy {a b:PyData} {r:List PyData} (ha:pln a = true) (hb:pln b = true) (h:a ≠ b):ZF (a :: l) (b :: r) = ZL a b:=by rw [ZF,Bx ha hb h,if_neg (by decide)]
mutual
theorem Jw:∀ (a b:PyData),pln a = true->pln b = true->ltD a b = true->ltD b a = false
 | .int i,b,_,_,h=>by
  cases b with
  | int j=>rw [ltD] at h ⊢; have:=of_decide_eq_true h; exact decide_eq_false (by lia)
  | _=>simp [ltD] at h
 | .str s,b,_,_,h=>by
  cases b with
  | str t=>rw [ltD] at h ⊢; have:=of_decide_eq_true h; exact decide_eq_false λ z=>absurd (List.lt_trans this z) (List.lt_irrefl _)
  | _=>simp [ltD] at h
 | .tuple l,b,ha,hb,h=>by
  cases b with
  | tuple r=>
   rw [pln] at ha hb;rw [ltD] at h ⊢;exact XJ l r ha hb h
  | _=>simp [ltD] at h
 | .none,_,ha,_,_=>by simp [pln] at ha
 | .bool _,_,ha,_,_=>by simp [pln] at ha
 | .list _,_,ha,_,_=>by simp [pln] at ha
 | .dict _,_,ha,_,_=>by simp [pln] at ha
theorem XJ:∀ (l r:List PyData),Vs l = true->Vs r = true->Js l r = true->Js r l = false
 | [],[],_,_,h=>by rw [Js] at h; cases h
 | [],_ :: _,_,_,_=>by rw [Js]
 | _ :: _,[],_,_,h=>by rw [Js] at h; cases h
 | a :: l,b :: r,ha,hb,h=>by
  have a1:=ZN ha;have b1:=ZN hb
  by_cases e:a = b
  ·subst e;rw [QE a1.1] at h ⊢;exact XJ l r a1.2 b1.2 h
  ·rw [Qf a1.1 b1.1 e] at h;rw [Qf b1.1 a1.1 (Ne.symm e)];exact Jw a b a1.1 b1.1 h
end
mutual
theorem Y0:∀ (a b:PyData),pln a = true->pln b = true->ZL a b = true->ltD a b = false->ltD b a = false->a = b
 | .int i,b,_,_,c,h,k=>by
  cases b with
  | int j=>
   rw [ltD] at h k;have:=of_decide_eq_false h;have:=of_decide_eq_false k;rw [show i = j by lia]
  | _=>simp [ZL] at c
 | .str s,b,_,_,c,h,k=>by
  cases b with
  | str t=>
   rw [ltD] at h k;rw [Bf (List.le_antisymm (List.not_lt.mp (of_decide_eq_false k)) (List.not_lt.mp (of_decide_eq_false h)))]
  | _=>simp [ZL] at c
 | .tuple l,b,ha,hb,c,h,k=>by
  cases b with
  | tuple r=>
   rw [pln] at ha hb;rw [ltD] at h k;rw [ZL] at c;rw [WO l r ha hb c h k]
  | _=>simp [ZL] at c
 | .none,_,ha,_,_,_,_=>by simp [pln] at ha
 | .bool _,_,ha,_,_,_,_=>by simp [pln] at ha
 | .list _,_,ha,_,_,_,_=>by simp [pln] at ha
 | .dict _,_,ha,_,_,_,_=>by simp [pln] at ha
theorem WO:∀ (l r:List PyData),Vs l = true->Vs r = true->ZF l r = true->Js l r = false->Js r l = false->l = r
 | [],[],_,_,_,_,_=>rfl
 | [],_ :: _,_,_,_,h,_=>by rw [Js] at h; cases h
 | _ :: _,[],_,_,_,_,h=>by rw [Js] at h; cases h
 | a :: l,b :: r,ha,hb,c,h,k=>by
  have a1:=ZN ha;have b1:=ZN hb
  by_cases e:a = b
  ·subst e;rw [QE a1.1] at h k;rw [Vm a1.1] at c;rw [WO l r a1.2 b1.2 c h k]
  ·rw [Qf a1.1 b1.1 e] at h;rw [Qf b1.1 a1.1 (Ne.symm e)] at k;rw [Jy a1.1 b1.1 e] at c;exact absurd (Y0 a b a1.1 b1.1 c h k) e
end
mutual
theorem YQ:∀ (a b c:PyData),pln a = true->pln b = true->pln c = true->ZL a b = true->ZL b c = true->ZL a c = true->ltD b a = false->ltD c b = false->ltD c a = false
 | .int i,b,c,_,_,_,k1,k2,_,h1,h2=>by
  cases b with
  | int j=>
   cases c with
   | int k=>
    rw [ltD] at h1 h2 ⊢;have:=of_decide_eq_false h1;have:=of_decide_eq_false h2;exact decide_eq_false (by lia)
   | _=>simp [ZL] at k2
  | _=>simp [ZL] at k1
 | .str s,b,c,_,_,_,k1,k2,_,h1,h2=>by
  cases b with
  | str t=>
   cases c with
   | str u=>
    rw [ltD] at h1 h2 ⊢;exact decide_eq_false (List.not_lt.mpr (List.le_trans (List.not_lt.mp (of_decide_eq_false h1)) (List.not_lt.mp (of_decide_eq_false h2))))
   | _=>simp [ZL] at k2
  | _=>simp [ZL] at k1
 | .tuple x,b,c,ha,hb,hc,k1,k2,k3,h1,h2=>by
  cases b with
  | tuple y=>
   cases c with
   | tuple z=>
    rw [pln] at ha hb hc;rw [ZL] at k1 k2 k3;rw [ltD] at h1 h2 ⊢;exact XZ x y z ha hb hc k1 k2 k3 h1 h2
   | _=>simp [ZL] at k2
  | _=>simp [ZL] at k1
 | .none,_,_,ha,_,_,_,_,_,_,_=>by simp [pln] at ha
 | .bool _,_,_,ha,_,_,_,_,_,_,_=>by simp [pln] at ha
 | .list _,_,_,ha,_,_,_,_,_,_,_=>by simp [pln] at ha
 | .dict _,_,_,ha,_,_,_,_,_,_,_=>by simp [pln] at ha
theorem XZ:∀ (x y z:List PyData),Vs x = true->Vs y = true->Vs z = true->ZF x y = true->ZF y z = true->ZF x z = true->Js y x = false->Js z y = false->Js z x = false
 | [],_,z,_,_,_,_,_,_,_,_=>by cases z <;> rw [Js]
 | _ :: _,[],_,_,_,_,_,_,_,h,_=>by rw [Js] at h; cases h
 | _ :: _,_ :: _,[],_,_,_,_,_,_,_,h=>by rw [Js] at h; cases h
 | a :: x,b :: y,c :: z,ha,hb,hc,k1,k2,k3,h1,h2=>by
  have a1:=ZN ha;have b1:=ZN hb;have c1:=ZN hc
  by_cases e1:a = b
  ·subst e1;rw [QE a1.1] at h1;rw [Vm a1.1] at k1
   by_cases e2:a = c
   ·subst e2;rw [QE a1.1] at h2 ⊢;rw [Vm a1.1] at k2 k3;exact XZ x y z a1.2 b1.2 c1.2 k1 k2 k3 h1 h2
   ·rw [Qf c1.1 a1.1 (Ne.symm e2)] at h2 ⊢;exact h2
  ·rw [Qf b1.1 a1.1 (Ne.symm e1)] at h1;rw [Jy a1.1 b1.1 e1] at k1
   by_cases e2:b = c
   ·subst e2;rw [Qf b1.1 a1.1 (Ne.symm e1)];exact h1
   ·rw [Qf c1.1 b1.1 (Ne.symm e2)] at h2;rw [Jy b1.1 c1.1 e2] at k2
    by_cases e3:a = c
    ·subst e3;exact absurd (Y0 a b a1.1 b1.1 k1 h2 h1) e1
    ·rw [Qf c1.1 a1.1 (Ne.symm e3)];rw [Jy a1.1 c1.1 e3] at k3;exact YQ a b c a1.1 b1.1 c1.1 k1 k2 k3 h1 h2
end
def LtA (A:Around) (s:Shared) (y x:Value) (b:Bool):Prop:=∀ (prog:Program) (w:World) (E:Value->Shared->Prop) (Q:Value->Shared->Prop),Q (.bool b) s->wpAny (model prog w) A (richCompare .Lt y x) Q E s
inductive Dn (A:Around) (s:Shared):List Value->List Value->Bool->Prop
 | nn:Dn A s [] [] false
 | nc {x:Value} {ws:List Value}:Dn A s [] (x :: ws) true
 | cn {y:Value} {vs:List Value}:Dn A s (y :: vs) [] false
 | eq {y x:Value} {vs ws:List Value} {b:Bool}:SeqAt.EqAt A s y x true->Dn A s vs ws b->Dn A s (y :: vs) (x :: ws) b
 | ne {y x:Value} {vs ws:List Value} {b:Bool}:SeqAt.EqAt A s y x false->LtA A s y x b->Dn A s (y :: vs) (x :: ws) b
section
open PySem.SeqAt
open PySem.AutoSeq1 (wpAny_loadPart')
open PySem.MeetsSeq PySem.MeetsSeq2 PySem.MeetsSeq3
theorem XQ (l b:Addr) (items items2:Array Value) (n n2:Nat) (dd dd2:Option Addr) (sl sl2:Array (Option Value)) (k:Bool) :
  Meets (Builtin.«tuple.__lt__» ⟨[.ref l,.ref b],[]⟩)
   (λ A R s=>s.heap.get? l = some { cls:=.type "tuple",dict:=dd,data:=.seq items n,slots:=sl } /\ s.heap.get? b = some { cls:=.type "tuple",dict:=dd2,data:=.seq items2 n2,slots:=sl2 } /\
    Dn A.in1 s items.toList items2.toList k /\ R (.ok (.ret (.bool k))) s):=
 .of_wp λ prog w A R s h=>by
  obtain ⟨hp,g,d,tk,os⟩:=s; obtain ⟨hl,hb,hx,h⟩:=h;have f2:=AutoSeq1.sub_tuple_tuple
  wp_walk using wpAny_loadPart' hl,wpAny_loadPart' hb,wpAny_forIn_list _ (λ rest b s'=>b.1 = none /\ s' = ⟨hp,g,d,tk,os⟩ /\ ∃ (vs ws:List Value),rest = vs.zip ws /\ Dn A.in1 ⟨hp,g,d,tk,os⟩ vs ws k /\ vs.length + items2.size = ws.length + items.size) _
  case turn=>
   rintro ⟨y,x⟩ rest b s' ⟨hb',rfl,vs,ws,hz,hvw,hlen⟩;cases hvw with
   | nn=>cases hz
   | nc=>cases hz
   | cn=>cases hz
   | eq he hr=>
    rw [List.zip_cons_cons] at hz
    injection hz with hyx hrest
    injection hyx with hy hx
    subst hy hx;refine wpAny_bind (he prog w _ _ ?_)
    wp_walk
    exact ⟨rfl,rfl,_,_,hrest,hr,by simp only [List.length_cons] at hlen; lia⟩
   | ne he hr=>
    rw [List.zip_cons_cons] at hz
    injection hz with hyx hrest
    injection hyx with hy hx
    subst hy hx;refine wpAny_bind (he prog w _ _ ?_);have hri:=hr prog w
    wp_walk using hri
    exact ⟨_,rfl,by simpa using h⟩
  case fin=>
   rintro ⟨b1,b2⟩ s' ⟨hb',rfl,vs,ws,hz,hvw,hlen⟩;simp only at hb';subst hb';have hv:k = decide (items.size < items2.size):=by
    cases hvw with
    | nn=>exact (decide_eq_false (by simp only [List.length_nil] at hlen; lia)).symm
    | nc=>exact (decide_eq_true (by simp only [List.length_nil,List.length_cons] at hlen; lia)).symm
    | cn=>exact (decide_eq_false (by simp only [List.length_nil,List.length_cons] at hlen; lia)).symm
    | eq _ _=>rw [List.zip_cons_cons] at hz; cases hz
    | ne _ _=>rw [List.zip_cons_cons] at hz; cases hz
   rw [hv] at h
   wp_walk
   exact ⟨_,rfl,by simpa [Builtin.Tuple.tupleCompareSizes] using h⟩
  case h=>
   exact ⟨rfl,rfl,items.toList,items2.toList,rfl,hx,by simp; lia⟩
end
theorem LtA.tup {l:Addr} {items items2:Array Value} {k:Bool} (hl:IsTup s.heap l items) (hb:IsTup s.heap b items2) (hx:Dn A.in1 s items.toList items2.toList k) (hu:A.units < cLine):LtA A s (.ref l) (.ref b) k:=λ prog w E Q h=>by
 obtain ⟨⟨cls,dd,data,sl⟩,ho,hc,n,hd⟩:=id hl;obtain ⟨⟨cls2,dd2,data2,sl2⟩,ho2,hc2,n2,hd2⟩:=id hb;simp only at hc hd hc2 hd2;subst hc hd hc2 hd2;exact richCompare_meets_room (op:=.Lt) ⟨_,ho,rfl⟩ ⟨_,ho2,rfl⟩ PySem.F.slot_tuple_lt PySem.F.entry_tuple_lt (PySem.F.args_tuple_lt_2 _ _) (XQ l b items items2 n n2 dd dd2 sl sl2 k)
  ⟨ho,ho2,hx,show Value.bool k ≠ Value.notImplemented /\ Q (.bool k) s from ⟨(λ x=>nomatch x),h⟩⟩ hu
theorem in1_units (A:Around):A.in1.units = A.units + 1:=rfl
mutual
theorem XC:∀ (da db:PyData) (A:Around) (s:Shared) (a b:Value) (as bs:List Addr),Reads s.heap a da as->Reads s.heap b db bs->da.canLay0 = true->db.canLay0 = true->ZL da db = true->A.units + min da.depth db.depth < cLine->LtA A s a b (ltD da db)
 | .int i,db,A,s,a,b,as,bs,ra,rb,_,_,c,hu=>by
  cases db with
  | int j=>
   cases ra;cases rb;rw [ltD];exact λ prog w E Q h=>lt_int h
  | _=>simp [ZL] at c
 | .str x,db,A,s,a,b,as,bs,ra,rb,_,_,c,hu=>by
  cases db with
  | str j=>
   cases ra;cases rb;rw [ltD];exact λ prog w E Q h=>lt_str h
  | _=>simp [ZL] at c
 | .tuple xs,db,A,s,a,b,as,bs,ra,rb,ca,cb,c,hu=>by
  cases db with
  | tuple ys=>
   cases ra with
   | tuple ho hc hd hr=>
    cases rb with
    | tuple ho2 hc2 hd2 hr2=>
     rw [PyData.canLay0] at ca cb;rw [PyData.depth,PyData.depth] at hu;rw [ZL] at c;rw [ltD];refine LtA.tup ⟨_,ho,hc,_,hd⟩ ⟨_,ho2,hc2,_,hd2⟩ (Jd xs ys A.in1 s _ _ _ _ hr hr2 ca cb c ?_) (by lia);rw [in1_units];lia
  | _=>simp [ZL] at c
 | .none,_,_,_,_,_,_,_,_,_,_,_,c,_=>by simp [ZL] at c
 | .bool _,_,_,_,_,_,_,_,_,_,_,_,c,_=>by simp [ZL] at c
 | .list _,_,_,_,_,_,_,_,_,_,_,_,c,_=>by simp [ZL] at c
 | .dict _,_,_,_,_,_,_,_,_,_,_,_,c,_=>by simp [ZL] at c
theorem Jd:∀ (xs ys:List PyData) (A:Around) (s:Shared) (vs ws:List Value) (as bs:List Addr),ReadsAll s.heap vs xs as->ReadsAll s.heap ws ys bs->PyData.canLayAll0 xs = true->PyData.canLayAll0 ys = true->ZF xs ys = true->A.units + min (PyData.depthAll xs) (PyData.depthAll ys) < cLine->Dn A s vs ws (Js xs ys)
 | [],[],A,s,vs,ws,as,bs,ra,rb,_,_,_,_=>by
  cases ra;cases rb;rw [Js];exact .nn
 | [],y :: ys,A,s,vs,ws,as,bs,ra,rb,_,_,_,_=>by
  cases ra;cases rb;rw [Js];exact .nc
 | x :: xs,[],A,s,vs,ws,as,bs,ra,rb,_,_,_,_=>by
  cases ra;cases rb;rw [Js];exact .cn
 | x :: xs,y :: ys,A,s,vs,ws,as,bs,ra,rb,ca,cb,c,hu=>by
  cases ra with
  | cons r1 r2=>
   cases rb with
   | cons q1 q2=>
    rw [PyData.canLayAll0,Bool.and_eq_true] at ca cb;rw [PyData.depthAll,PyData.depthAll] at hu;rw [ZF] at c;have he:=SeqAt.eqAt_reads x y A s _ _ _ _ r1 q1 ca.1 cb.1 (by omega);rw [Js];cases e:PyData.eqv x y with
    | true=>
     rw [e] at he;rw [e,if_pos rfl] at c;rw [if_pos rfl];exact .eq he (Jd xs ys A s _ _ _ _ r2 q2 ca.2 cb.2 c (by omega))
    | false=>
     rw [e] at he;rw [e,if_neg (by decide)] at c;rw [if_neg (by decide)];exact .ne he (XC x y A s _ _ _ _ r1 q1 ca.1 cb.1 c (by omega))
end
section
variable {prog:Program} {E:Value->Shared->Prop} {lt:Nat->Nat->Bool}
theorem VG {kd:SortKind} (o:Ord lt) {vs:List Value} {c:Nat} {P:PySem.Fin->Shared->Prop} (gx:s.heap.get? a = some (seqObj "list" vs.toArray c)) (few:vs.length <= sizeLine)
  (kind:2 <= vs.length->∀ h1:Heap,(∀ b u,b ≠ a->s.heap.get? b = some u->h1.get? b = some u)->∀ R:SortKind->Shared->Prop,R kd { s with heap:=h1 }->wpAny (model prog w) A (keyKind' vs.toArray) R E { s with heap:=h1 })
  (ask:∀ h1:Heap,(∀ b u,b ≠ a->s.heap.get? b = some u->h1.get? b = some u)->∀ i j,i < vs.length->j < vs.length->∀ C:Bool->Shared->Prop,C (lt i j) { s with heap:=h1 } ->
   wpAny (model prog w) A (keyLt' kd (vs.getD i Value.none) (vs.getD j Value.none)) C (λ _ _=>False) { s with heap:=h1 })
  (fin:∀ q:Array Nat,Pm vs.length q->q.toList.Pairwise (Le lt)->P (.done (.ret .none)) { s with heap:=sortedHeap s.heap a vs (Yk vs q) }):wpAny (model prog w) A (Builtin.«list.sort» ⟨[.ref a],[]⟩) P E s:=by
 rw [list_sort_plain];have la:a < s.heap.objs.size:=Heap.lt_size gx;have line:vs.toArray.size <= sizeLine:=by rw [List.size_toArray]; exact few
 obtain ⟨e1,g1⟩:∃ e1,(s.heap.update a (Obj.mapSeq λ _=>(#[]:Array Value))).get? a = some (seqObj "list" #[] e1):=⟨_,get?_update_seq gx λ _=>#[]⟩
 have g6:(((s.heap.update a (Obj.mapSeq λ _=>(#[]:Array Value))).push (seqObj "tuple" vs.toArray 0)).push (seqObj "list" #[] 0)).get? a = some (seqObj "list" #[] e1):=Heap.get?_push_of_some _ (Heap.get?_push_of_some _ g1);have keep:∀ b u,b ≠ a->s.heap.get? b = some u->(((s.heap.update a (Obj.mapSeq λ _=>(#[]:Array Value))).push (seqObj "tuple" vs.toArray 0)).push (seqObj "list" #[] 0)).get? b = some u:=λ b u hb e=>
  Heap.get?_push_of_some _ (Heap.get?_push_of_some _ (by rw [Heap.get?_update_ne _ _ _ _ hb]; exact e))
 refine wpAny_bind (listItems_at gx rfl (wpAny_bind (listUpdate_at gx rfl (wpAny_bind (seqEpoch_at g1 rfl (wpAny_bind (wpAny_newTuple (wpAny_bind (wpAny_newList (wpAny_holding ?_) (Nat.zero_le _))) (by simpa using line))))) line (Nat.zero_le _))));show wpAny (model prog w) A _ P E { s with heap:=((s.heap.update a (Obj.mapSeq λ _=>(#[]:Array Value))).push (seqObj "tuple" vs.toArray 0)).push (seqObj "list" #[] 0) };dsimp only;have osz:∀ q,Pm vs.length q->(Yk vs q).size <= sizeLine + 1:=λ q hq=>by
  have:=hq.size;rw [List.size_toArray,List.length_map,Array.length_toList];lia
 by_cases two:vs.toArray.size < 2
 ·have pm:Pm vs.length (List.range vs.length).toArray:=Array.Perm.refl _
  have f:=fin _ pm (by
   have z:(List.range vs.length).length < 2:=by simpa using two
   show (List.range vs.length).Pairwise (Le lt);generalize List.range vs.length = L at z
   match L,z with
   | [],_=>exact .nil
   | [x],_=>exact List.pairwise_singleton _ _
   | _ :: _ :: _,z=>exact absurd z (by simp))
  rw [GD] at f;have es:(vs.toArray.zip vs.toArray).map (·.2) = vs.toArray:=by
   apply Array.toList_inj.mp;rw [Array.toList_map,Array.toList_zip];exact List.map_snd_zip (Nat.le_refl _)
  rw [if_pos two,if_pos two]
  refine wpAny_bind (wpAny_pure (by
   rw [StateT.run_pure];refine wpAny_bind (wpAny_pure ?_);dsimp only;refine wpAny_bind (seqEpoch_at g6 rfl (wpAny_bind (listUpdate_at g6 rfl ?_ (Nat.zero_le _) ?_)))
   ·simp only [bne_self_eq_false,Bool.false_eq_true,if_false];refine wpAny_pure ?_;show P _ { s with heap:=sortedHeap s.heap a vs ((vs.toArray.zip vs.toArray).map (·.2)) };rw [es];exact f
   ·show ((vs.toArray.zip vs.toArray).map (·.2)).size <= _;rw [es]
    exact Nat.le_succ_of_le line))
 ·rw [if_neg two,if_neg two];have two':2 <= vs.length:=by simpa using two
  refine wpAny_bind (kind two' _ keep _ ?_);have ans:Ans prog w A { s with heap:=((s.heap.update a (Obj.mapSeq λ _=>(#[]:Array Value))).push (seqObj "tuple" vs.toArray 0)).push (seqObj "list" #[] 0) } kd (kas_item (vs.toArray.zip vs.toArray)) lt vs.length:=λ i j hi hj C hC=>by
   have ei:=kat_item (ks:=vs) (vs:=vs) rfl i;have ej:=kat_item (ks:=vs) (vs:=vs) rfl j;rw [ei,ej];exact ask _ keep i j hi hj C hC
  have run:=D6 (E:=E) (p:=(List.range vs.length).toArray) (g:=7) ans o (Array.Perm.refl _) two' (Q:=λ _ st'=>∃ p:Array Nat,Pm vs.length p /\ p.toList.Pairwise (Le lt) /\ arrOf st' = p.map (kas_item (vs.toArray.zip vs.toArray)) /\ failedOf st' = none) λ p' pd' g' a b=>⟨p',a,b,rfl,rfl⟩;have est:SS kd (kas_item (vs.toArray.zip vs.toArray)) (List.range vs.length).toArray #[] 7 = SortSt.mk' kd (vs.toArray.zip vs.toArray) #[] 7 none:=by
   have e:=kas_range (vs.toArray.zip vs.toArray);rw [show (vs.toArray.zip vs.toArray).size = vs.length by simp] at e;show SortSt.mk' kd ((List.toArray (List.range vs.length)).map (kas_item (vs.toArray.zip vs.toArray))) #[] 7 none = _;rw [e]
  rw [est] at run;refine wpAny_bind (wpAny_mono run ?_ λ _ _ z=>z);rintro ⟨⟨⟩,st'⟩ s' ⟨rfl,p,pm,pu,har,hf⟩;dsimp only at har hf ⊢;have es:(arrOf st').map (·.2) = Yk vs p:=kat_snds rfl har;refine wpAny_bind (seqEpoch_at g6 rfl (wpAny_bind (listUpdate_at g6 rfl ?_ (Nat.zero_le _) ?_)))
  ·rw [hf];simp only [bne_self_eq_false,Bool.false_eq_true,if_false];refine wpAny_pure ?_;show P _ { s with heap:=sortedHeap s.heap a vs ((arrOf st').map (·.2)) };rw [es];exact fin p pm pu
  ·show ((arrOf st').map (·.2)).size <= _;rw [es];exact osz p pm
theorem D9 {kd:SortKind} (o:Ord lt) {l:Addr} {vs:List Value} {Q:Value->Shared->Prop} (gl:s.heap.IsList l vs.toArray) (few:vs.length <= sizeLine)
  (kind:2 <= vs.length->∀ h1:Heap,(∀ b u,s.heap.get? b = some u->h1.get? b = some u)->∀ (E':Value->Shared->Prop) (R:SortKind->Shared->Prop),R kd { s with heap:=h1 }->wpAny (model prog w) A.in1.in1 (keyKind' vs.toArray) R E' { s with heap:=h1 })
  (ask:∀ h1:Heap,(∀ b u,s.heap.get? b = some u->h1.get? b = some u)->∀ i j,i < vs.length->j < vs.length->∀ C:Bool->Shared->Prop,C (lt i j) { s with heap:=h1 } ->
   wpAny (model prog w) A.in1.in1 (keyLt' kd (vs.getD i Value.none) (vs.getD j Value.none)) C (λ _ _=>False) { s with heap:=h1 })
  (fin:∀ q:Array Nat,Pm vs.length q->q.toList.Pairwise (Le lt)->Q (.ref (s.heap.objs.size + 1)) { s with heap:=sortedAll s.heap vs (Yk vs q) }):wpAny (model prog w) A (call (.builtin "sorted") [.ref l]) Q E s:=by
 have line:=few;have hz:((s.heap.push (seqObj "list" #[] 0)).update s.heap.objs.size (Obj.mapSeq (· ++ vs.toArray))).objs.size = s.heap.objs.size + 1:=(Heap.size_update _ _ _).trans (size_push' _ _);have g0:(((s.heap.push (seqObj "list" #[] 0)).update s.heap.objs.size (Obj.mapSeq (· ++ vs.toArray))).push (seqObj "list" vs.toArray 0)).get? (s.heap.objs.size + 1) = some (seqObj "list" vs.toArray 0):=hz ▸ Heap.get?_push_size _ rfl;have old:∀ b u,s.heap.get? b = some u->b ≠ s.heap.objs.size + 1 /\ (((s.heap.push (seqObj "list" #[] 0)).update s.heap.objs.size (Obj.mapSeq (· ++ vs.toArray))).push (seqObj "list" vs.toArray 0)).get? b = some u:=λ b u e=>by
  have hb:=Heap.lt_size e;refine ⟨Nat.ne_of_lt (Nat.lt_succ_of_lt hb),Heap.get?_push_of_some _ ?_⟩;rw [Heap.get?_update_ne _ _ _ _ (Nat.ne_of_lt hb)];exact Heap.get?_push_of_some _ e
 refine Calls.call_function_entry kind_sorted plain_sorted entry_sorted (args_sorted1 _) ?_;unfold Builtin.«sorted»;refine wpAny_bind (m:=checkCount "sorted" 1 1 _) (wpAny_pure (wpAny_bind (collect_list gl (wpAny_bind (wpAny_newList ?_ line)) line)));show wpAny _ _ _ _ _ { s with heap:=((s.heap.push (seqObj "list" #[] 0)).update s.heap.objs.size (Obj.mapSeq (· ++ vs.toArray))).push (seqObj "list" vs.toArray 0) };rw [hz];refine wpAny_bind (wpAny_holding (wpAny_call_entry slot_list_sort ⟨_,g0,rfl⟩ entry_list_sort ?_ (args_list_sort _)));refine VG (kd:=kd) (s:={ s with heap:=((s.heap.push (seqObj "list" #[] 0)).update s.heap.objs.size (Obj.mapSeq (· ++ vs.toArray))).push (seqObj "list" vs.toArray 0) }) o g0 few (λ h2 h1 k R hR=>?_) (λ h1 k i j hi hj C hC=>?_) λ q pm pu=>⟨_,rfl,wpAny_pure ⟨_,rfl,fin q pm pu⟩⟩
 ·exact kind h2 h1 (λ b u e=>k b u (old b u e).1 (old b u e).2) _ R hR
 ·exact ask h1 (λ b u e=>k b u (old b u e).1 (old b u e).2) i j hi hj C hC
end
inductive Kn:List PyData->Prop
 | int {ds:List PyData}:(∀ d ∈ ds,∃ i,d = .int i)->Kn ds
 | str {ds:List PyData}:(∀ d ∈ ds,∃ s,d = .str s)->Kn ds
 | tint {ds:List PyData}:(∀ d ∈ ds,∃ i l,d = .tuple (.int i :: l))->Kn ds
 | tstr {ds:List PyData}:(∀ d ∈ ds,∃ s l,d = .tuple (.str s :: l))->Kn ds
 | ttup {ds:List PyData}:(∀ d ∈ ds,∃ m l,d = .tuple (.tuple m :: l))->Kn ds
structure Q0 (ds:List PyData):Prop where
 few:ds.length <= sizeLine
 kn:Kn ds
 pl:∀ d ∈ ds,pln d = true /\ d.canLay0 = true /\ d.depth <= 64
 cm:∀ d ∈ ds,∀ e ∈ ds,ZL d e = true
noncomputable def ltI (ds:List PyData) (i j:Nat):Bool:=match ds[i]?,ds[j]? with
 | some a,some b=>ltD a b
 | some _,none=>true
 | _,_=>false
theorem Uo {a b:PyData} (ha:ds[i]? = some a) (hb:ds[j]? = some b):ltI ds i j = ltD a b:=by
 unfold ltI;rw [ha,hb]
theorem Gp (h:Q0 ds):Ord (ltI ds):=by
 refine ⟨λ a b k=>?_,λ a b c h1 h2=>?_⟩
 ·unfold ltI at k ⊢;cases ea:ds[a]? with
  | none=>rw [ea] at k; cases eb:ds[b]? <;> rw [eb] at k <;> cases k
  | some x=>
   cases eb:ds[b]? with
   | none=>rfl
   | some y=>
    rw [ea,eb] at k;exact Jw x y (h.pl x (List.mem_of_getElem? ea)).1 (h.pl y (List.mem_of_getElem? eb)).1 k
 ·unfold Le ltI at h1 h2 ⊢;cases ea:ds[a]? with
  | none=>
   cases eb:ds[b]? with
   | none=>cases ec:ds[c]? with
    | none=>rfl
    | some z=>rw [eb,ec] at h2; cases h2
   | some y=>rw [ea,eb] at h1; cases h1
  | some x=>
   cases ec:ds[c]? with
   | none=>rfl
   | some z=>
    cases eb:ds[b]? with
    | none=>rw [eb,ec] at h2; cases h2
    | some y=>
     rw [ea,eb] at h1;rw [eb,ec] at h2;have mx:=List.mem_of_getElem? ea;have my:=List.mem_of_getElem? eb;have mz:=List.mem_of_getElem? ec;exact YQ x y z (h.pl x mx).1 (h.pl y my).1 (h.pl z mz).1 (h.cm x mx y my) (h.cm y my z mz) (h.cm x mx z mz) h1 h2
section
variable {prog:Program} {E:Value->Shared->Prop}
theorem Wo {b fin k:Bool} {Q:Bool->Shared->Prop}:∀ {vs ws:List Value} {i:Nat},Dn A s vs ws k->(b && i == 0) = false->(vs.length < ws.length ↔ fin = true)->Q k s->KatLex prog w A b fin Q (vs.zip ws) i s
 | _,_,i,.nn,hb,hf,q=>by
  have e:fin = false:=by cases fin with | false=>rfl | true=>exact absurd (hf.mpr rfl) (by simp)
  rw [e];exact kat_nil q
 | _,_,i,.nc,hb,hf,q=>by
  have e:fin = true:=hf.mp (by simp);rw [e];exact kat_nil q
 | _,_,i,.cn,hb,hf,q=>by
  have e:fin = false:=by cases fin with | false=>rfl | true=>exact absurd (hf.mpr rfl) (by simp)
  rw [e];exact kat_nil q
 | _,_,i,.eq he hr,hb,hf,q=>kat_cons (he prog w _ _ (kat_yes (Wo hr (by cases b <;> simp) (by simpa using hf) q)))
 | _,_,i,.ne he hr,hb,hf,q=>by
  refine kat_cons (he prog w _ _ (kat_no ?_));rw [hb];exact kat_one _ _ (hr prog w _ _ q)
theorem CY {fin:Bool} {Q:Bool->Shared->Prop} {v:Value} {vs ws:List Value} {x y:PyData} {xs ys:List PyData} {as bs cs ds:List Addr} (hxy:(∃ i j,x = .int i /\ y = .int j) \/ ∃ a b,x = .str a /\ y = .str b) (r1:Reads s.heap v x as) (q1:Reads s.heap u y bs) (r2:ReadsAll s.heap vs xs cs) (q2:ReadsAll s.heap ws ys ds)
  (ca:PyData.canLayAll0 (x :: xs) = true) (cb:PyData.canLayAll0 (y :: ys) = true) (c:ZF (x :: xs) (y :: ys) = true) (hu:A.units + min (PyData.depthAll (x :: xs)) (PyData.depthAll (y :: ys)) < cLine) (hf:(v :: vs).length < (u :: ws).length ↔ fin = true) (q:Q (Js (x :: xs) (y :: ys)) s) :
  KatLex prog w A true fin Q ((v :: vs).zip (u :: ws)) 0 s:=by
 rw [PyData.canLayAll0,Bool.and_eq_true] at ca cb;rw [PyData.depthAll,PyData.depthAll] at hu;rw [ZF] at c;rw [Js] at q;have he:=SeqAt.eqAt_reads x y A s _ _ _ _ r1 q1 ca.1 cb.1 (by lia);refine kat_cons (he prog w _ _ ?_);cases e:PyData.eqv x y with
 | true=>
  rw [e,if_pos rfl] at c q;exact kat_yes (Wo (Jd xs ys A s _ _ _ _ r2 q2 ca.2 cb.2 c (by lia)) (by simp) (by simpa using hf) q)
 | false=>
  rw [e,if_neg (by decide)] at q;refine kat_no ?_
  rcases hxy with ⟨i,j,rfl,rfl⟩ | ⟨a,b,rfl,rfl⟩
  ·cases r1;cases q1;rw [ltD] at q;exact oneLt_int q
  ·cases r1;cases q1;rw [ltD] at q;exact oneLt_str q
end
theorem ReadsAll.at:∀ {vs:List Value} {ds:List PyData} {as:List Addr},ReadsAll h vs ds as->∀ {i:Nat} {d:PyData},ds[i]? = some d->∃ bs,Reads h (vs.getD i Value.none) d bs
 | _,_,_,.nil,i,d,e=>by simp at e
 | _,_,_,.cons r1 r2,0,d,e=>by
  cases e;exact ⟨_,r1⟩
 | _,_,_,.cons r1 r2,i + 1,d,e=>by
  obtain ⟨bs,q⟩:=ReadsAll.at r2 (i:=i) (d:=d) (by simpa using e);exact ⟨bs,by simpa using q⟩
theorem Jz {v:Value} {as:List Addr} (r:Reads h v (.tuple l) as):∃ (a:Addr) (o:Obj) (xs:Array Value) (n:Nat) (bs:List Addr),v = .ref a /\ h.get? a = some o /\ o.cls = .type "tuple" /\ o.data = .seq xs n /\ ReadsAll h xs.toList l bs:=by
 cases r with
 | tuple h1 h2 h3 h4=>exact ⟨_,_,_,_,_,rfl,h1,h2,h3,h4⟩
theorem JB {xs:Array Value} {x:PyData} {bs:List Addr} (r:ReadsAll h xs.toList (x :: l) bs):∃ v vs as cs,xs.toList = v :: vs /\ xs[0]? = some v /\ Reads h v x as /\ ReadsAll h vs l cs:=by
 generalize e:xs.toList = L at r;cases r with
 | cons r1 r2=>exact ⟨_,_,_,_,rfl,by rw [<- Array.getElem?_toList,e]; rfl,r1,r2⟩
theorem kat_tups {T:Value} {P:PyData->Prop} (hP:∀ v x as,Reads h v x as->P x->∀ M:Model,Looks M h (typeOf v) T):∀ {vs:List Value} {ds:List PyData} {as:List Addr},ReadsAll h vs ds as->(∀ d ∈ ds,∃ x l,d = .tuple (x :: l) /\ P x)->∃ fs,KatTups h vs fs /\ fs.length = vs.length /\ ∀ v ∈ fs,∀ M:Model,Looks M h (typeOf v) T
 | _,_,_,.nil,_=>⟨[],.nil,rfl,λ v hv=>nomatch hv⟩
 | _,_,_,.cons r1 r2,hd=>by
  obtain ⟨fs,i1,i2,i3⟩:=kat_tups hP r2 λ d hm=>hd d (List.mem_cons_of_mem _ hm);obtain ⟨x,l,rfl,hx⟩:=hd _ List.mem_cons_self;obtain ⟨a,o,xs,n,bs,rfl,h1,h2,h3,h4⟩:=Jz r1;obtain ⟨v,vs',as',cs,e1,e2,e3,e4⟩:=JB h4;refine ⟨v :: fs,.cons h1 h2 h3 e2 i1,by simp [i2],λ u hu=>?_⟩
  rcases List.mem_cons.mp hu with rfl | hu
  ·exact hP _ _ _ e3 hx
  ·exact i3 u hu
section
variable {prog:Program}
theorem Xj {vs:List Value} {as:List Addr} (r:ReadsAll h vs ds as) (hi:i < vs.length):∃ d bs,ds[i]? = some d /\ Reads h (vs.getD i Value.none) d bs:=by
 have n:=SeqAt.ReadsAll.length _ _ _ r;obtain ⟨bs,q⟩:=ReadsAll.at r (i:=i) (d:=ds[i]) (by simp [show i < ds.length by omega]);exact ⟨_,bs,by simp [show i < ds.length by omega],q⟩
theorem P8 (h:Q0 ds) {vs:List Value} (hu:A.units + 64 < cLine) :
  ∃ kd:SortKind,∀ (s:Shared) (as:List Addr),ReadsAll s.heap vs ds as->(2 <= vs.length->∀ (E':Value->Shared->Prop) (R:SortKind->Shared->Prop),R kd s->wpAny (model prog w) A (keyKind' vs.toArray) R E' s) /\
   ∀ i j,i < vs.length->j < vs.length->∀ C:Bool->Shared->Prop,C (ltI ds i j) s->wpAny (model prog w) A (keyLt' kd (vs.getD i Value.none) (vs.getD j Value.none)) C (λ _ _=>False) s:=by
 have one:∀ (T:Value) (P:PyData->Prop),(T != Value.type "tuple") = true->(T == T) = true->(∀ d ∈ ds,P d)->(∀ h v x as,Reads h v x as->P x->∀ M:Model,Looks M h (typeOf v) T)->(∀ (s:Shared) v u x y as bs (C:Bool->Shared->Prop),Reads s.heap v x as->Reads s.heap u y bs->P x->P y->C (ltD x y) s->wpAny (model prog w) A (keyLt' oneType' v u) C (λ _ _=>False) s) ->
   ∃ kd:SortKind,∀ (s:Shared) (as:List Addr),ReadsAll s.heap vs ds as->(2 <= vs.length->∀ (E':Value->Shared->Prop) (R:SortKind->Shared->Prop),R kd s->wpAny (model prog w) A (keyKind' vs.toArray) R E' s) /\
    ∀ i j,i < vs.length->j < vs.length->∀ C:Bool->Shared->Prop,C (ltI ds i j) s->wpAny (model prog w) A (keyLt' kd (vs.getD i Value.none) (vs.getD j Value.none)) C (λ _ _=>False) s:=by
  intro T P t1 t2 hd hP hl;refine ⟨oneType',λ s as r=>⟨λ h2 E' R hR=>kas_kind (T:=T) h2 (λ v hv=>?_) t1 t2 hR,λ i j hi hj C hC=>?_⟩⟩
  ·obtain ⟨i,hi,rfl⟩:=List.getElem_of_mem hv;obtain ⟨d,bs,e1,e2⟩:=Xj r hi;have e3:vs.getD i Value.none = vs[i]:=by simp [hi]
   rw [e3] at e2;exact hP _ _ _ _ e2 (hd d (List.mem_of_getElem? e1)) _
  ·obtain ⟨d,bs,e1,e2⟩:=Xj r hi;obtain ⟨d',bs',e1',e2'⟩:=Xj r hj;rw [Uo e1 e1'] at hC;exact hl s _ _ _ _ _ _ C e2 e2' (hd d (List.mem_of_getElem? e1)) (hd d' (List.mem_of_getElem? e1')) hC
 have tup:∀ (T:Value) (P:PyData->Prop),(T == T) = true->(∀ d ∈ ds,∃ x l,d = .tuple (x :: l) /\ P x)->(∀ h v x as,Reads h v x as->P x->∀ M:Model,Looks M h (typeOf v) T) ->
   ((T != Value.type "tuple") = true->∀ x y,P x->P y->(∃ i j,x = PyData.int i /\ y = .int j) \/ ∃ a b,x = .str a /\ y = .str b) ->
   ∃ kd:SortKind,∀ (s:Shared) (as:List Addr),ReadsAll s.heap vs ds as->(2 <= vs.length->∀ (E':Value->Shared->Prop) (R:SortKind->Shared->Prop),R kd s->wpAny (model prog w) A (keyKind' vs.toArray) R E' s) /\
    ∀ i j,i < vs.length->j < vs.length->∀ C:Bool->Shared->Prop,C (ltI ds i j) s->wpAny (model prog w) A (keyLt' kd (vs.getD i Value.none) (vs.getD j Value.none)) C (λ _ _=>False) s:=by
  intro T P t2 hd hP hxy;refine ⟨tuples' (T != Value.type "tuple"),λ s as r=>⟨λ h2 E' R hR=>?_,λ i j hi hj C hC=>?_⟩⟩
  ·obtain ⟨fs,k1,k2,k3⟩:=kat_tups (hP s.heap) r hd;exact kat_kind (T:=T) k1 (by omega) (λ v hv=>k3 v hv _) t2 hR
  ·obtain ⟨d,bs,e1,e2⟩:=Xj r hi;obtain ⟨d',bs',e1',e2'⟩:=Xj r hj;rw [Uo e1 e1'] at hC;have m1:=List.mem_of_getElem? e1;have m2:=List.mem_of_getElem? e1';obtain ⟨x,l,rfl,px⟩:=hd d m1;obtain ⟨y,l',rfl,py⟩:=hd d' m2;have c:=h.cm _ m1 _ m2;have p1:=h.pl _ m1;have p2:=h.pl _ m2;rw [PyData.canLay0,PyData.depth] at p1 p2;rw [ZL] at c;rw [ltD] at hC;obtain ⟨a,o,xs,nn,cs,ea,h1,h2,h3,h4⟩:=Jz e2;obtain ⟨a',o',xs',nn',cs',ea',h1',h2',h3',h4'⟩:=Jz e2';rw [ea,ea'];have z1:=SeqAt.ReadsAll.length _ _ _ h4;have z2:=SeqAt.ReadsAll.length _ _ _ h4';refine kat_lt h1 h3 h1' h3' ?_;have fz:xs.toList.length < xs'.toList.length ↔ decide (xs.size < xs'.size) = true:=by rw [decide_eq_true_eq,Array.length_toList,Array.length_toList]
   cases et:(T != Value.type "tuple") with
   | false=>exact Wo (Jd _ _ A s _ _ _ _ h4 h4' p1.2.1 p2.2.1 c (by omega)) rfl fz hC
   | true=>
    obtain ⟨v,vs1,as1,cs1,f1,f2,f3,f4⟩:=JB h4;obtain ⟨v',vs1',as1',cs1',f1',f2',f3',f4'⟩:=JB h4';rw [f1,f1'] at fz ⊢;exact CY (hxy et x y px py) f3 f3' f4 f4' p1.2.1 p2.2.1 c (by omega) fz hC
 rcases h.kn with hd | hd | hd | hd | hd
 ·refine one (.type "int") (λ d=>∃ i,d = .int i) rfl rfl hd (λ h v x as r ⟨i,e⟩ M=>?_) λ s v u x y as bs C r1 r2 ⟨i,e⟩ ⟨j,e'⟩ hC=>?_
  ·subst e;cases r;exact .now
  ·subst e e';cases r1;cases r2;rw [ltD] at hC;exact kat_lt_int hC
 ·refine one (.type "str") (λ d=>∃ i,d = .str i) rfl rfl hd (λ h v x as r ⟨i,e⟩ M=>?_) λ s v u x y as bs C r1 r2 ⟨i,e⟩ ⟨j,e'⟩ hC=>?_
  ·subst e;cases r;exact .now
  ·subst e e';cases r1;cases r2;rw [ltD] at hC;exact kas_lt_str hC
 ·refine tup (.type "int") (λ d=>∃ i,d = .int i) rfl (λ d m=>by obtain ⟨i,l,e⟩:=hd d m; exact ⟨_,l,e,i,rfl⟩) (λ h v x as r ⟨i,e⟩ M=>?_) λ _ x y ⟨i,e⟩ ⟨j,e'⟩=>.inl ⟨i,j,e,e'⟩;subst e;cases r;exact .now
 ·refine tup (.type "str") (λ d=>∃ i,d = .str i) rfl (λ d m=>by obtain ⟨i,l,e⟩:=hd d m; exact ⟨_,l,e,i,rfl⟩) (λ h v x as r ⟨i,e⟩ M=>?_) λ _ x y ⟨i,e⟩ ⟨j,e'⟩=>.inr ⟨i,j,e,e'⟩;subst e;cases r;exact .now
 ·refine tup (.type "tuple") (λ d=>∃ i,d = .tuple i) rfl (λ d m=>by obtain ⟨i,l,e⟩:=hd d m; exact ⟨_,l,e,i,rfl⟩) (λ h v x as r ⟨i,e⟩ M=>?_) λ z=>absurd z (by decide);subst e;obtain ⟨a,o,xs,nn,cs,rfl,h1,h2,h3,h4⟩:=Jz r;exact h2 ▸ (Looks.ld h1).andThen .now
end
def Rk (K:Fj):List V->Hp->VK->Prop:=λ xs H Q=>∃ (p:Addr) (M:Mp) (vs:List V) (ds:List PyData),xs = [.ref p] /\ SqL K H p vs /\ Dts K M H vs ds /\ Q0 ds /\
 ∀ q:Array Nat,Pm ds.length q->q.toList.Pairwise (Le (ltI ds))->∀ l,H l = none->Q (.ref l) (upd H l (.lst (q.toList.map λ i=>vs.getD i .non)))
theorem X4 {kk:Nat} (hr:QS kk X.A):VM X (.builtin "sorted") (Rk X.K):=by
 intro pins s Z H xs us Q I r h;obtain ⟨p,M,vs,ds,rfl,hq,hd,ok,q⟩:=h;obtain ⟨u,rfl,rx⟩:=vals1 r;cases rx;obtain ⟨its,rv,pl,_⟩:=I.list hq;have n1:=rv.length;have n2:=hd.length;obtain ⟨as,ra,_⟩:=Dts.reads I hd rv;have hu:X.A.in1.in1.units + 64 < cLine:=by
  have:=hr.un;rw [in1_units,in1_units];lia
 obtain ⟨kd,ask⟩:=P8 (prog:=X.prog) (w:=X.w) (A:=X.A.in1.in1) ok (vs:=its) hu;have some_:∀ i,i < its.length->its[i]? = some (its.getD i Value.none):=λ i hi=>by simp [hi]
 refine D9 (kd:=kd) (Gp ok) pl.isList (by have:=ok.few; lia) (λ two h1 kp E' R hR=>?_) (λ h1 kp i j hi hj C hC=>?_) λ q' pm pu=>?_
 ·exact (ask { s with heap:=h1 } as (ReadsAll.keeps kp ra)).1 two E' R hR
 ·exact (ask { s with heap:=h1 } as (ReadsAll.keeps kp ra)).2 i j hi hj C hC
 ·obtain ⟨e,he⟩:=sortedAll_at s.heap its (Yk its q');have hn:H (s.heap.objs.size + 1) = none:=I.hok.fresh (Nat.le_succ _);have el:its.length = ds.length:=by lia
  rw [el] at pm;have hz:=pm.size;refine ⟨.ref (s.heap.objs.size + 1),_,I.laid (t':=s.toks) (a:=s.heap.objs.size + 1) (o:=.lst (q'.toList.map λ i=>vs.getD i .non)) (λ _ _=>sortedAll_old) (Nat.le_succ _) ?_,rfl,q q' pm pu _ hn⟩;refine ⟨?_,q'.toList.map λ i=>its.getD i Value.none,e,?_,he⟩
  ·rw [List.length_map,Array.length_toList];have:=ok.few;lia
  ·have go:∀ l:List Nat,(∀ i ∈ l,i < its.length)->Vals (l.map λ i=>vs.getD i V.non) (l.map λ i=>its.getD i Value.none):=λ l=>by
    induction l with
    | nil=>intro _; exact .nil
    | cons i l ih=>
     intro hl;have hi:=hl i List.mem_cons_self;have hi1:i < vs.length:=by lia
     obtain ⟨u,eu,ru⟩:=rv.get (i:=i) (x:=vs[i]) (by simp [hi1]);refine .cons ?_ (ih λ j hj=>hl j (List.mem_cons_of_mem _ hj));have x1:vs.getD i V.non = vs[i]:=by simp [hi1]
     have x2:its.getD i Value.none = u:=by have:=some_ i hi; rw [eu] at this; exact (Option.some.inj this).symm
     show L2.RelV (vs.getD i V.non) (its.getD i Value.none);rw [x1,x2];exact ru
   refine go _ λ i hi=>?_;obtain ⟨k,hk,rfl⟩:=List.getElem_of_mem hi;rw [Xu,el];exact pm.below (by rw [Array.length_toList] at hk; lia)
def leD (a b:PyData):Prop:=ltD b a = false
def Dm:D1:=λ xs M Φ=>on1 xs λ x=>onK x M λ ds=>Q0 ds /\ ∀ ds':List PyData,ds'.Perm ds->ds'.Pairwise leD->Φ (.dat (.list ds')) M
theorem Df:type_of% @Dm.eq_1:=λ _ _ _=>qI
theorem UK {kk:Nat} (hr:QS kk X.A):JX X (.builtin "sorted") Dm:=by
 refine ⟨_,X4 hr,λ vs H xs M Φ Q r rv h k=>?_⟩;replace h:=ZU h;obtain ⟨x,rfl,h⟩:=h;replace h:=X6 h;obtain ⟨ds,hx,ok,q⟩:=h;replace hx:OH x M ds:=hx;obtain ⟨v,rfl,h1⟩:=Paired.one rv;obtain ⟨a,ys,rfl,g1,g2⟩:=hx.sq r h1;refine ⟨a,M,ys,ds,rfl,g1,g2,ok,λ p pm pu l hl=>?_⟩;have hz:=pm.size;have pl:p.toList.Perm (List.range ds.length):=by
  have:=Array.perm_iff_toList_perm.mp pm
  simpa using this
 have go:∀ l:List Nat,(∀ i ∈ l,i < ds.length)->Dts X.K M H (l.map λ i=>ys.getD i V.non) (l.map λ i=>ds.getD i PyData.none):=λ l=>by
  induction l with
  | nil=>intro _; exact .nil
  | cons i l ih=>
   intro hl;have hi:=hl i List.mem_cons_self;obtain ⟨v,ev,dv⟩:=g2.get (i:=i) (d:=ds[i]) (by simp [hi]);refine .cons ?_ (ih λ j hj=>hl j (List.mem_cons_of_mem _ hj));show Dt X.K M H (ys.getD i V.non) (ds.getD i PyData.none);rw [List.getD_eq_getElem?_getD,List.getD_eq_getElem?_getD,ev,List.getElem?_eq_getElem hi];exact dv
 have mem:∀ i ∈ p.toList,i < ds.length:=λ i hi=>by
  have:=pl.mem_iff.mp hi
  simpa using this
 refine k.dat (r.new hl) (Step.new hl) (Dt.Jh r hl (go _ mem)) (q _ ?_ ?_)
 ·have:=pl.map λ i=>ds.getD i PyData.none
  rwa [map_range] at this
 ·rw [List.pairwise_map];refine List.Pairwise.imp_of_mem ?_ pu;intro i j hi hj hij;have i1:=mem i hi;have j1:=mem j hj;have e:=Uo (ds:=ds) (i:=j) (j:=i) (a:=ds.getD j PyData.none) (b:=ds.getD i PyData.none) (by simp [j1]) (by simp [i1]);unfold leD;rw [<- e];exact hij
def VO (h:Heap) (d:Addr) (ks:List Value) (ep:Nat):Prop:=∃ o es,h.get? d = some o /\ o.ExactDict /\ o.data = .dict es ep /\ es.toList.map (·.key) = ks
section
variable {E:Value->Shared->Prop} {d it:Addr} {ks:List Value} {ep:Nat}
theorem VO.ty (h:VO s.heap d ks ep):s.TypeIs (.ref d) "dict" := let ⟨o,_,ho,hx,_⟩:=h; ⟨o,ho,hx.1⟩
theorem FL {Q:Value->Shared->Prop} (hd:(d == sysModules) = false) (hm:VO s.heap d ks ep)
  (hQ:Q (.ref s.heap.objs.size) { s with heap:=s.heap.push { cls:=.type "dict_keyiterator",data:=.fields #[.ref d,.int 0 0,.int ks.length 0,.int ep 0] } }):wpAny (model P w) A (pyIter (.ref d)) Q E s:=by
 obtain ⟨o,es,ho,hc,hdat,hk⟩:=id hm;have hT:=hm.ty;refine wpAny_pyIter_slot hT PySem.F.slot_dict_iter (wpAny_call_entry PySem.F.slot_dict_iter hT PySem.F.entry_dict_iter ?_ (PySem.F.args_dict_iter_1 _)); unfold Builtin.«dict.__iter__»; refine wpAny_bind ?_; unfold Builtin.Dict.dictSlotNone;refine wpAny_bind (wpAny_notOrdered_dict hT ?_); show wpAny _ _ (pure (Value.ref d)) _ _ s; refine wpAny_pure ?_; show wpAny _ _ (Builtin.Dict.showsAll d >>= _) _ _ s; unfold Builtin.Dict.showsAll;rw [if_neg (by rw [hd]; exact Bool.false_ne_true)]; refine wpAny_bind (wpAny_pure ?_); refine wpAny_bind (wpAny_dictEntries ho hdat ?_); refine wpAny_bind (wpAny_dictEpoch ho hdat ?_);have hsz:es.size = ks.length:=by rw [<- hk]; simp
 refine wpAny_bind (wpAny_newObj_type (wpAny_pure ⟨_,rfl, "dict_keyiterator",_,⟨_,Heap.get?_push_size _ rfl,rfl⟩,PySem.F.slot_dict_keyiterator_next.lookup,?_⟩)); simpa [rawInt,hsz] using hQ
theorem Hw {k:Value} {Q:Option Value->Shared->Prop} (hit:s.heap.IsKeyIter it d i ks.length ep) (hm:VO s.heap d ks ep) (hx:ks[i]? = some k)
  (hQ:∀ h',h'.IsKeyIter it d (i + 1) ks.length ep->Heap.SameBut it s.heap h'->Q (some k) { s with heap:=h' }):wpAny (model P w) A (pyNext (.ref it)) Q E s:=by
 obtain ⟨o,ho,hc,hd⟩:=id hit; obtain ⟨od,es,hod,hcd,hdd,hk⟩:=id hm; unfold pyNext;refine wpAny_bind (wpAny_attempt (wpAny_callSpecial?_slot (name:=Str.ofString "__next__") hit.typeIs PySem.F.slot_dict_keyiterator_next (wpAny_call_entry PySem.F.slot_dict_keyiterator_next hit.typeIs PySem.F.entry_dict_keyiterator_next ?_ (PySem.F.args_dict_keyiterator_next_1 _)))); refine wpAny_bind (wpAny_pure ?_); refine wpAny_bind ?_; refine wpAny_bind ?_
 first | refine wpAny_bind (wpAny_typeNameOfWhole_keyiter hit.typeIs (wpAny_pure ?_)); skip | refine wpAny_bind (wpAny_typeNameOf_keyiter hit.typeIs (wpAny_pure ?_)); skip
 refine wpAny_bind (wpAny_fieldsOf ho hd ?_); have hown:Builtin.Dict_items.ownsTuple "dict_keyiterator" = false:=by decide
 simp only [hown,Bool.false_eq_true,if_false]; show wpAny _ _ (if (Value.ref d == Value.none) = true then _ else _) _ _ s; rw [if_neg (show ¬ ((Value.ref d == Value.none) = true) from Bool.false_ne_true)]; refine wpAny_bind (wpAny_pure ?_); refine wpAny_bind (wpAny_dictEntries hod hdd ?_);have hsz:es.size = ks.length:=by rw [<- hk]; simp
 rw [if_neg (by rw [hsz]; simp)]; refine wpAny_bind (wpAny_pure ?_); refine wpAny_bind (wpAny_dictEpoch hod hdd ?_); rw [if_neg (by simp)]; refine wpAny_pure ?_;have hlt':i < es.size:=by
  rw [hsz];exact (List.getElem?_eq_some_iff.mp hx).1
 have ek:es[i].key = k:=by
  rw [<- hk,List.getElem?_map,Array.getElem?_toList,Array.getElem?_eq_getElem hlt'] at hx;exact Option.some.inj hx
 simp only [show ¬ ((i:Int) < 0) from by lia,if_false,Int.toNat_natCast,Array.getElem?_eq_getElem hlt']; refine wpAny_bind ?_
 first | refine wpAny_bind (wpAny_typeNameOfWhole_keyiter hit.typeIs (wpAny_pure ?_)); skip | refine wpAny_bind (wpAny_typeNameOf_keyiter hit.typeIs (wpAny_pure ?_)); skip
 refine wpAny_bind (wpAny_isOneOf_keyiter hit.typeIs ?_); show wpAny _ _ (setField (.ref it) 1 (rawInt ((i:Int) + 1)) >>= _) _ _ s; refine wpAny_bind (wpAny_setField ho hd (by simp) ?_);have hit':(s.heap.update it (Obj.mapFields (·.setIfInBounds 1 (rawInt ((i:Int) + 1))))).IsKeyIter it d (i + 1) ks.length ep:=⟨_,Heap.get?_update_self _ ho (Obj.isFreed_of_fields (Obj.data_mapFields hd _)),(Obj.cls_mapFields ..).trans hc,by rw [Obj.data_mapFields hd]; simp [rawInt]⟩
 refine wpAny_bind (wpAny_holding ?_); refine wpAny_bind (wpAny_isOneOf_keyiter (s:={ s with heap:=s.heap.update it (Obj.mapFields (·.setIfInBounds 1 (rawInt ((i:Int) + 1)))) }) hit'.typeIs ?_);show wpAny _ _ (pure es[i].key) _ _ _; rw [ek];exact wpAny_pure (wpAny_pure ⟨_,rfl,wpAny_pure (hQ _ hit' (Heap.SameBut.update ..))⟩)
end
section
variable {E:Value->Shared->Prop} {d it:Addr} {ks:List Value} {ep:Nat}
theorem N2 {Q:Option Value->Shared->Prop} (hh:A.handled = none) (hit:s.heap.IsKeyIter it d i ks.length ep) (hm:VO s.heap d ks ep) (hx:ks[i]? = none) (hQ:∀ h',Heap.ExtBut it s.heap h'->Q none { s with heap:=h' }):wpAny (model P w) A (pyNext (.ref it)) Q E s:=by
 obtain ⟨o,ho,hc,hd⟩:=id hit; obtain ⟨od,es,hod,hcd,hdd,hk⟩:=id hm; unfold pyNext;refine wpAny_bind (wpAny_attempt (wpAny_callSpecial?_slot (name:=Str.ofString "__next__") hit.typeIs PySem.F.slot_dict_keyiterator_next (wpAny_call_entry PySem.F.slot_dict_keyiterator_next hit.typeIs PySem.F.entry_dict_keyiterator_next ?_ (PySem.F.args_dict_keyiterator_next_1 _)))); refine wpAny_bind (wpAny_pure ?_); refine wpAny_bind ?_; refine wpAny_bind ?_
 first | refine wpAny_bind (wpAny_typeNameOfWhole_keyiter hit.typeIs (wpAny_pure ?_)); skip | refine wpAny_bind (wpAny_typeNameOf_keyiter hit.typeIs (wpAny_pure ?_)); skip
 refine wpAny_bind (wpAny_fieldsOf ho hd ?_); have hown:Builtin.Dict_items.ownsTuple "dict_keyiterator" = false:=by decide
 simp only [hown,Bool.false_eq_true,if_false]; show wpAny _ _ (if (Value.ref d == Value.none) = true then _ else _) _ _ s; rw [if_neg (show ¬ ((Value.ref d == Value.none) = true) from Bool.false_ne_true)]; refine wpAny_bind (wpAny_pure ?_); refine wpAny_bind (wpAny_dictEntries hod hdd ?_);have hsz:es.size = ks.length:=by rw [<- hk]; simp
 rw [if_neg (by rw [hsz]; simp)]; refine wpAny_bind (wpAny_pure ?_); refine wpAny_bind (wpAny_dictEpoch hod hdd ?_); rw [if_neg (by simp)]; refine wpAny_pure ?_;have hge:es.size <= i:=by rw [hsz]; exact List.getElem?_eq_none_iff.mp hx
 simp only [show ¬ ((i:Int) < 0) from by lia,if_false,Int.toNat_natCast,Array.getElem?_eq_none hge]; refine wpAny_bind ?_
 first | refine wpAny_bind (wpAny_typeNameOfWhole_keyiter hit.typeIs (wpAny_pure ?_)); skip | refine wpAny_bind (wpAny_typeNameOf_keyiter hit.typeIs (wpAny_pure ?_)); skip
 show wpAny _ _ (setField (.ref it) 0 .none >>= _) _ _ s; refine wpAny_bind (wpAny_setField ho hd (by simp) ?_); show wpAny _ _ (newExc (.type "StopIteration") [] >>= _) _ _ _; refine wpAny_bind ?_; simp only [newExc,newTuple]; refine wpAny_bind (wpAny_newObj_type ?_ (by size_fits));refine wpAny_bind (m:=firstArgMember _ _) (wpAny_of_eq (a:=Value.none) (by first | rfl | (simp only [firstArgMember]; rfl)) ?_); refine wpAny_newObj_type ?_ (by size_fits); simp only [raiseNew]; refine wpAny_bind (wpAny_handled ?_); rw [show A.in1.handled = none from hh];refine wpAny_bind (wpAny_pure (wpAny_throw ?_)); refine wpAny_bind (wpAny_isInstance (T := "StopIteration") (b:=true) ⟨_,Heap.get?_push_size _ rfl,rfl⟩ isSubtype_stop ?_); exact wpAny_pure (hQ _ (((Heap.SameBut.update ..).extBut.push _).push _))
end
theorem KT.at:∀ {kvs:List (List Key × V)} {xs:List (List Key × Addr × Value)},KT H kvs xs->kvs.map (·.1) = xs.map (·.1) /\ ∀ {i:Nat} {x:List Key × Addr × Value},xs[i]? = some x->H x.2.1 = some (.tup (x.1.map kV))
 | _,_,.nil=>⟨rfl,λ e=>by simp at e⟩
 | _,_,.cons h t=>by
  obtain ⟨e1,e2⟩:=KT.at t;refine ⟨by rw [List.map_cons,List.map_cons,e1,h.1],λ {i x} e=>?_⟩;cases i with
  | zero=>
   cases e;rw [<- h.1];exact h.2.1
  | succ i=>exact e2 (i:=i) (by simpa using e)
section
variable {l:Expr} {tl:TE}
end
noncomputable def tkD (k:List Key):PyData:=.tuple (k.map kD)
theorem Uk:∀ k:List Key,Dts K M H (k.map kV) (k.map kD)
 | []=>.nil
 | x :: k=>.cons (S4 x) (Uk k)
theorem ZbY (r:Zz K M H) {k:List Key} (h:H b = some (.tup (k.map kV))):Dt K M H (.ref b) (tkD k):=.tup (.inl ⟨BU r (.inl h),.inl h⟩) (Uk k)
theorem FN:Slot "dict" "__len__" "dict.__len__" := .of (owner := "dict") (n := "__len__") (by rw [typeLookup_type,builtinLookup_eq_fast]; kernel_rfl) (by walk_at "k") (by walk_at "k") (by walk_at "k") (by first | exact .inl (by walk_at "k") | exact .inr (by walk_at "k")) (by rw [isSubtype_type]; kernel_rfl)
theorem YU:isSubtype (.type "dict") (.type "dict") = pure true:=by rw [isSubtype_type]; kernel_rfl
section
variable {E:Value->Shared->Prop}
theorem Bg {ks:List Value} {ep:Nat} (hh:A.handled = none) (it d:Addr) (hd:d ≠ it):Walks P w A it [it,d] [it] ks.length (λ i v=>ks[i]? = some v) (λ i h=>h.IsKeyIter it d i ks.length ep /\ VO h d ks ep) where
 sub:=λ b hb=>by simp at hb; simp [hb]
 frame:=λ i h h' ⟨⟨o,g,r⟩,o',es,g',r'⟩ hk=>⟨⟨o,hk it (by simp) _ g,r⟩,o',es,hk d (by simp) _ g',r'⟩
 item:=λ i s Q E hi ⟨h1,h2⟩ hQ=>Hw h1 h2 (k:=ks[i]) (List.getElem?_eq_getElem hi) λ h' st sb=>by
  obtain ⟨o,es,g,r⟩:=h2;exact hQ _ h' s.toks (List.getElem?_eq_getElem hi) ⟨st,o,es,(sb.2 d hd).trans g,r⟩ λ b o hb q=>(sb.2 b λ e=>hb (by simp [e])).trans q
 done:=λ s Q E ⟨h1,h2⟩ hQ=>N2 hh h1 h2 (List.getElem?_eq_none (Nat.le_refl _)) λ h' eb=>hQ h' s.toks λ b o hb q=>eb b o (λ e=>hb (by simp [e])) q
 self:=λ i s Q E ⟨h1,_⟩ hQ=>wpAny_pyIter_keyiter h1 hQ
theorem Ks {d:Addr} {ks:List Value} {ep:Nat} {Q:List Value->Shared->Prop} (hh:A.handled = none) (hs:(d == sysModules) = false) (hm:VO s.heap d ks ep) (hz:ks.length <= sizeLine)
    (hQ:∀ s':Shared,s'.gens = s.gens->s'.os = s.os->s.toks <= s'.toks->(∀ b o,s.heap.get? b = some o->s'.heap.get? b = some o)->Q ks s'):wpAny (model P w) A (collect (.ref d)) Q E s:=by
  obtain ⟨o,es,g,hx,hd,hk⟩:=id hm;have lt:d < s.heap.objs.size:=Heap.lt_size g;unfold collect;refine wpAny_bind (wpAny_runValue (codeAny_builtin PySem.F.entry_proto_collect ?_)); rw [Around.under_plainId PySem.F.plain_proto_collect _];show wpAny _ A.in1 (newList [] >>= λ l=>again (.builtin "list.__iadd__" ⟨[l,.ref d],[]⟩)) _ _ s;refine wpAny_bind (wpAny_newObj_type (wpAny_pure ⟨plainId_quiet PySem.F.plain_list_iadd _,codeAny_builtin PySem.F.entry_list_iadd ?_⟩)); rw [Around.under_plainId PySem.F.plain_list_iadd _];show wpAny _ A.in1 (Builtin.List.listExtendWith (.ref s.heap.objs.size) (.ref d) (.ref s.heap.objs.size)) _ _ _;have g1:(s.heap.push { cls:=.type "list",data:=.seq ([]:List Value).toArray }).get? d = some o:=Heap.get?_push_of_some _ g;have hm1:VO (s.heap.push { cls:=.type "list",data:=.seq ([]:List Value).toArray }) d ks ep:=⟨o,es,g1,hx,hd,hk⟩
  have hTy:Shared.TypeIs { s with heap:=s.heap.push { cls:=.type "list",data:=.seq ([]:List Value).toArray } } (.ref d) "dict" := ⟨o,g1,hx.1⟩
  unfold Builtin.List.listExtendWith;refine wpAny_bind (wpAny_typeOf hTy ?_);have h1:Builtin.List.listSameRef (.ref s.heap.objs.size) (.ref d) = false:=by simp [Builtin.List.listSameRef]; exact λ e=>absurd e (Nat.ne_of_gt lt)
  simp only [h1,show (Value.type "dict" == Value.type "list") = false by decide,show (Value.type "dict" == Value.type "tuple") = false by decide,Bool.or_false,Bool.false_eq_true,if_false];refine wpAny_bind (FL hs hm1 ?_);have szp:(s.heap.push { cls:=.type "list",data:=.seq ([]:List Value).toArray }).objs.size = s.heap.objs.size + 1:=size_push' _ _;generalize hI:(Shared.heap { s with heap:=s.heap.push { cls:=.type "list",data:=.seq ([]:List Value).toArray } }).objs.size = it;have hI:it = s.heap.objs.size + 1:=by rw [<- hI]; exact szp
  generalize hH:((s.heap.push { cls:=.type "list",data:=.seq ([]:List Value).toArray }).push { cls:=.type "dict_keyiterator",data:=.fields #[.ref d,.int 0 0,.int ks.length 0,.int ep 0] }:Heap) = h2;have k2:∀ b o,s.heap.get? b = some o->h2.get? b = some o:=λ b o e=>by rw [<- hH]; exact Heap.get?_push_of_some _ (Heap.get?_push_of_some _ e)
  have gN:h2.get? s.heap.objs.size = some { cls:=.type "list",data:=.seq ([]:List Value).toArray }:=by rw [<- hH]; exact Heap.get?_push_of_some _ (Heap.get?_push_size _ rfl)
  have st0:h2.IsKeyIter it d 0 ks.length ep:=⟨_,by rw [<- hH,hI,<- szp]; exact Heap.get?_push_size _ rfl,rfl,rfl⟩
  have hTy2:Shared.TypeIs { s with heap:=h2 } (.ref d) "dict" := ⟨o,k2 d o g,hx.1⟩
  refine wpAny_bind (wpAny_holding ?_);unfold Builtin.List.listLengthHint;refine wpAny_bind (wpAny_specialOf hTy2 FN.lookup ?_)
  (generalize hid:("dict.__len__" : String) = id0; (fail_if_success (clear hid id0)); wp_delta; rw [show splitId id0 = some ("dict", "__len__") from by subst hid; decide +kernel]; subst hid)
  refine wpAny_bind (wpAny_isInstance (b:=true) hTy2 YU ?_);rw [if_neg (by decide)]; dsimp only;rw [if_pos (by walk_at "k")];refine wpAny_bind (wpAny_typeOf hTy2 (wpAny_pure ?_));have nN:s.heap.objs.size ∉ [it,d]:=λ hm=>by
    simp at hm
    rcases hm with e | e
    · lia
    · exact absurd e (Nat.ne_of_gt lt)
  have W:=(Bg (P:=P) (w:=w) (A:=A.in1) (ks:=ks) (ep:=ep) hh it d λ e=>absurd (show s.heap.objs.size + 1 < s.heap.objs.size from by rw [<- hI,<- e]; exact lt) (by lia))
  have g2:=Heap.get?_update_self (Obj.mapSeq (·.push Value.none)) gN rfl;have g3:=Heap.get?_update_self (Obj.mapSeq (·.pop)) g2 rfl;have oth:∀ b o,b ≠ s.heap.objs.size->h2.get? b = some o->((h2.update s.heap.objs.size (Obj.mapSeq (·.push Value.none))).update s.heap.objs.size (Obj.mapSeq (·.pop))).get? b = some o:=
    λ b o hb e=>(Heap.get?_update_other _ _ (Ne.symm hb)).trans ((Heap.get?_update_other _ _ (Ne.symm hb)).trans e)
  have fin:∀ (h3:Heap) (c:Nat),(∀ b o,b ≠ s.heap.objs.size->h2.get? b = some o->h3.get? b = some o)->h3.get? s.heap.objs.size = some { cls:=.type "list",dict:=none,data:=.seq #[] c,slots:=#[] } ->
      ∀ R:Result->Shared->Prop,(∀ s' c',(∀ b o,s.heap.get? b = some o->s'.heap.get? b = some o)->s'.gens = s.gens->s'.os = s.os->s.toks <= s'.toks->s'.heap.get? s.heap.objs.size = some { cls:=.type "list",dict:=none,data:=.seq ks.toArray c',slots:=#[] }->R (.ok (.ret (.ref s.heap.objs.size))) s') ->
      codeAny (model P w) A (.builtin "list.extend.loop" ⟨[.ref s.heap.objs.size,.ref it,.ref s.heap.objs.size],[]⟩) R { s with heap:=h3 }:=λ h3 c k3 gg R hR=>by
    refine codeAny_extend_loopS W.toS hz _ nN _ ks.length 0 _ _ _ rfl (Nat.zero_le _) (W.frame 0 h2 _ ⟨st0,o,es,k2 d o g,hx,hd,hk⟩ λ b hb o e=>k3 b o (λ q=>nN (q ▸ hb)) e) gg (ItemsOf.nil _) λ s' acc c hm hS' hacc=>?_;have eL:acc.toList = ks:=by
      refine List.ext_getElem? λ j=>?_
      by_cases hj:j < acc.size
      · rw [Array.getElem?_toList,Array.getElem?_eq_getElem hj]
        exact (hacc.2 j _ (Array.getElem?_eq_getElem hj)).symm
      · rw [List.getElem?_eq_none (by rw [Array.length_toList]; lia),List.getElem?_eq_none (by rw [<- hacc.1]; lia)]
    have eA:acc = ks.toArray:=by rw [<- eL]
    rw [eA] at hS';refine hR s' c (λ b o q=>?_) hm.gens hm.os hm.toks hS';have bl:b < s.heap.objs.size:=Heap.lt_size q;refine hm.heap b o (λ hb=>?_) (k3 b o (Nat.ne_of_lt bl) (k2 b o q))
    rcases List.mem_cons.mp hb with e | e
    · exact absurd e (Nat.ne_of_lt bl)
    · rw [List.mem_singleton.mp e] at bl
      exact absurd (show s.heap.objs.size + 1 < s.heap.objs.size from by rw [<- hI]; exact bl) (by lia)
  first
    | (rw [if_pos (by walk_at "k")]
       refine wpAny_bind (wpAny_rule (wpAny_bind ?_));show wpAny _ A.in1 (updateSeq s.heap.objs.size (·.push .none) >>= λ _=>updateSeq s.heap.objs.size (·.pop)) _ _ _;refine wpAny_bind (wpAny_updateSeq gN rfl (wpAny_updateSeq g2 rfl ?_));refine wpAny_pure ⟨plainId_quiet PySem.F.plain_extend_loop _,fin _ _ oth g3 _ λ s' c' a1 a2 a3 a4 a5=>?_⟩;show wpAny _ A (load s.heap.objs.size >>= _) _ _ s'
       exact wpAny_bind (wpAny_load a5 (wpAny_pure (hQ s' a2 a3 a4 a1))))
    | (rw [if_neg (by walk_at "k")]
       refine wpAny_pure ⟨plainId_quiet PySem.F.plain_extend_loop _,fin _ _ (λ _ _ _ e=>e) gN _ λ s' c' a1 a2 a3 a4 a5=>?_⟩;show wpAny _ A (load s.heap.objs.size >>= _) _ _ s'
       exact wpAny_bind (wpAny_load a5 (wpAny_pure (hQ s' a2 a3 a4 a1))))
theorem Gm {kd:SortKind} {lt:Nat->Nat->Bool} (o:Ord lt) {d:Addr} {ks:List Value} {ep:Nat} {Q:Value->Shared->Prop} (hh:A.handled = none) (hs:(d == sysModules) = false) (hm:VO s.heap d ks ep) (few:ks.length <= sizeLine)
  (kind:2 <= ks.length->∀ (s1:Shared),(∀ b u,s.heap.get? b = some u->s1.heap.get? b = some u)->∀ (E':Value->Shared->Prop) (R:SortKind->Shared->Prop),R kd s1->wpAny (model P w) A.in1.in1 (keyKind' ks.toArray) R E' s1)
  (ask:∀ (s1:Shared),(∀ b u,s.heap.get? b = some u->s1.heap.get? b = some u)->∀ i j,i < ks.length->j < ks.length->∀ C:Bool->Shared->Prop,C (lt i j) s1->wpAny (model P w) A.in1.in1 (keyLt' kd (ks.getD i Value.none) (ks.getD j Value.none)) C (λ _ _=>False) s1)
  (fin:∀ (q:Array Nat) (s1:Shared) (h':Heap) (e:Nat),Pm ks.length q->q.toList.Pairwise (Le lt)->s1.gens = s.gens->s1.os = s.os->(∀ b o,s.heap.get? b = some o->s1.heap.get? b = some o)->(∀ b o,s1.heap.get? b = some o->h'.get? b = some o)->h'.get? s1.heap.objs.size = some (seqObj "list" (Yk ks q) e)->Q (.ref s1.heap.objs.size) { s1 with heap:=h' }) :
  wpAny (model P w) A (call (.builtin "sorted") [.ref d]) Q E s:=by
 refine Calls.call_function_entry kind_sorted plain_sorted entry_sorted (args_sorted1 _) ?_; unfold Builtin.«sorted»;refine wpAny_bind (m:=checkCount "sorted" 1 1 _) (wpAny_pure (wpAny_bind (Ks (by exact hh) hs hm few λ s1 a3 a4 a5 a6=>wpAny_bind (wpAny_newList ?_ few))));have hoL:(s1.heap.push (seqObj "list" ks.toArray 0)).get? s1.heap.objs.size = some (seqObj "list" ks.toArray 0):=Heap.get?_push_size _ rfl;have old:∀ b u,s.heap.get? b = some u->b ≠ s1.heap.objs.size /\ (s1.heap.push (seqObj "list" ks.toArray 0)).get? b = some u:=λ b u e=>⟨Nat.ne_of_lt (Heap.lt_size (a6 b u e)),Heap.get?_push_of_some _ (a6 b u e)⟩;show wpAny _ _ _ _ _ { s1 with heap:=s1.heap.push (seqObj "list" ks.toArray 0) };refine wpAny_bind (wpAny_holding (wpAny_call_entry slot_list_sort ⟨_,hoL,rfl⟩ entry_list_sort ?_ (args_list_sort _)));refine VG (kd:=kd) (s:={ s1 with heap:=s1.heap.push (seqObj "list" ks.toArray 0) }) o hoL few (λ h2 h1 k R hR=>?_) (λ h1 k i j hi hj C hC=>?_) λ q pm pu=>⟨_,rfl,wpAny_pure ⟨_,rfl,?_⟩⟩
 ·exact kind h2 { s1 with heap:=h1 } (λ b u e=>k b u (old b u e).1 (old b u e).2) _ R hR
 ·exact ask { s1 with heap:=h1 } (λ b u e=>k b u (old b u e).1 (old b u e).2) i j hi hj C hC
 ·obtain ⟨e,he⟩:=Of s1.heap ks (Yk ks q);exact fin q s1 _ e pm pu a3 a4 a6 (λ b o q=>EZ q) he
end
theorem KT.reads {Z:L2.St} (I:L2.Inv X pins Z H s):∀ {kvs:List (List Key × V)} {xs:List (List Key × Addr × Value)},KT H kvs xs->ReadsAll s.heap (xs.map λ x=>Value.ref x.2.1) (xs.map λ x=>tkD x.1) []
 | _,_,.nil=>.nil
 | _,_,.cons (b:=q) h t=>by
  obtain ⟨its,r,⟨o,ho,hc,n,hd⟩,_⟩:=I.tuple (SqT.of (K:=X.K) h.2.1);rw [List.map_cons,List.map_cons];refine .cons (as:=[]) (bs:=[]) ?_ (KT.reads I t);have e:tkD q.1 = .tuple (q.1.map kD):=rfl;rw [e,<- h.1];exact .tuple ho hc hd (by simpa using Wz r)
def T6 (K:Fj):List V->Hp->VK->Prop:=λ xs H Q=>∃ (p:Addr) (kvs:List (List Key × V)),xs = [.ref p] /\ Rd H p (.dT kvs) /\ Q0 ((kvs.map (·.1)).map tkD) /\
 ∀ (q:Array Nat) (bs:List Addr),Pm kvs.length q->q.toList.Pairwise (Le (ltI ((kvs.map (·.1)).map tkD)))->(∀ i k,(kvs.map (·.1))[i]? = some k->H (bs.getD i 0) = some (.tup (k.map kV)))->∀ l,H l = none->Q (.ref l) (upd H l (.lst (q.toList.map λ i=>.ref (bs.getD i 0))))
theorem X9 {kk:Nat} (hr:QS kk X.A):VM X (.builtin "sorted") (T6 X.K):=by
 intro pins s Z H xs us Q I r h;obtain ⟨p,kvs,rfl,hq,ok,q⟩:=h;obtain ⟨u,rfl,rx⟩:=vals1 r;cases rx;obtain ⟨hz,hs,ys,rel,o,es,ep,ho,hx,hd,he,hn⟩:=(show Qe X.prog X.w H s.heap p (.dT kvs) from MC I.hok hq)
 obtain ⟨k1,k2⟩:=KT.at rel;have rd:=KT.reads I rel;rw [show (ys.map λ x=>tkD x.1) = (kvs.map (·.1)).map tkD by rw [k1,List.map_map]; rfl] at rd;have raw:VO s.heap p (ys.map λ x=>Value.ref x.2.1) ep:=⟨o,es,ho,hx,hd,by rw [he,List.map_map]; rfl⟩
 have n1:ys.length = kvs.length:=by have:=congrArg List.length k1; simpa using this.symm
 have hu:X.A.in1.in1.units + 64 < cLine:=by
  have:=hr.un;rw [in1_units,in1_units];lia
 obtain ⟨kd,ask⟩:=P8 (prog:=X.prog) (w:=X.w) (A:=X.A.in1.in1) ok (vs:=ys.map λ x=>Value.ref x.2.1) hu;refine Gm (kd:=kd) (Gp ok) hr.hd hs raw (by rw [List.length_map]; lia) (λ two s1 kp E' R hR=>?_) (λ s1 kp i j hi hj C hC=>?_) λ q' s1 h' e pm pu b1 b2 b3 b4 b5=>?_
 ·exact (ask s1 [] (ReadsAll.keeps kp rd)).1 two E' R hR
 ·exact (ask s1 [] (ReadsAll.keeps kp rd)).2 i j hi hj C hC
 ·rw [List.length_map,n1] at pm;have hz':=pm.size;have I3:L2.Inv X pins Z H s1:=I.Rq (ch:=[]) b2 (Un.kept b3) (I.hok.kept b3) (by rw [b1]; exact I.bare) (λ _ z=>nomatch z);have hn':H s1.heap.objs.size = none:=I3.hok.fresh (Nat.le_refl _);have at2:∀ i,i < ys.length->(ys.map λ x=>x.2.1).getD i 0 = ys[i]!.2.1 /\ (ys.map λ x=>Value.ref x.2.1).getD i Value.none = .ref ((ys.map λ x=>x.2.1).getD i 0):=λ i hi=>by simp [hi]
  refine ⟨.ref s1.heap.objs.size,_,I3.laid (t':=s1.toks) (a:=s1.heap.objs.size) (o:=.lst (q'.toList.map λ i=>.ref ((ys.map λ x=>x.2.1).getD i 0))) b4 (Nat.le_refl _) ⟨?_,(Yk (ys.map λ x=>Value.ref x.2.1) q').toList,e,?_,b5⟩,rfl,q q' (ys.map λ x=>x.2.1) pm pu (λ i k ek=>?_) _ hn'⟩
  ·rw [List.length_map,Array.length_toList];lia
  ·have go:∀ l:List Nat,(∀ i ∈ l,i < ys.length)->Vals (l.map λ i=>V.ref ((ys.map λ x=>x.2.1).getD i 0)) (l.map λ i=>(ys.map λ x=>Value.ref x.2.1).getD i Value.none):=λ l=>by
    induction l with
    | nil=>intro _; exact .nil
    | cons i l ih=>
     intro hl;refine .cons ?_ (ih λ j hj=>hl j (List.mem_cons_of_mem _ hj));exact (at2 i (hl i List.mem_cons_self)).2
   refine go _ λ i hi=>?_;obtain ⟨k,hk,rfl⟩:=List.getElem_of_mem hi;rw [Xu,n1];exact pm.below (by rw [Array.length_toList] at hk; lia)
  ·rw [k1,List.getElem?_map] at ek;cases ey:ys[i]? with
   | none=>rw [ey] at ek; cases ek
   | some y=>
    rw [ey] at ek;cases ek;have:=k2 ey;rw [List.getD_eq_getElem?_getD,List.getElem?_map,ey];exact this
def OW (rd:Option OO->(List (List Key)->Prop)->Prop):D1:=λ xs M Φ=>on1 xs λ x=>onO x λ l=>rd (M l) λ ks=>Q0 (ks.map tkD) /\ ∀ ds':List PyData,ds'.Perm (ks.map tkD)->ds'.Pairwise leD->Φ (.dat (.list ds')) M
theorem UT {rd:Option OO->(List (List Key)->Prop)->Prop} (hd:∀ {M:Mp} {H:Hp} {l:Addr} {P:List (List Key)->Prop},Zz X.K M H->rd (M l) P->∃ kvs,Rd H l (.dT kvs) /\ P (kvs.map (·.1))) {kk:Nat} (hr:QS kk X.A):JX X (.builtin "sorted") (OW rd):=by
 refine ⟨_,X9 hr,λ vs H xs M Φ Q r rv h k=>?_⟩;replace h:=ZU h;obtain ⟨x,rfl,h⟩:=h;replace h:=ZM h;obtain ⟨l,rfl,h⟩:=h;obtain ⟨v,rfl,h1⟩:=Paired.one rv;cases (show v = .ref l from h1);obtain ⟨kvs,g1,ok,q⟩:=hd r h;refine ⟨l,kvs,rfl,g1,ok,λ p bs pm pu hb a ha=>?_⟩;have hz:=pm.size;have pl:p.toList.Perm (List.range kvs.length):=by
  have:=Array.perm_iff_toList_perm.mp pm
  simpa using this
 have mem:∀ i ∈ p.toList,i < kvs.length:=λ i hi=>by
  have:=pl.mem_iff.mp hi
  simpa using this
 have go:∀ L:List Nat,(∀ i ∈ L,i < kvs.length)->Dts X.K M H (L.map λ i=>V.ref (bs.getD i 0)) (L.map λ i=>((kvs.map (·.1)).map tkD).getD i PyData.none):=λ L=>by
  induction L with
  | nil=>intro _; exact .nil
  | cons i L ih=>
   intro hl;have hi:=hl i List.mem_cons_self;refine .cons ?_ (ih λ j hj=>hl j (List.mem_cons_of_mem _ hj));have e:((kvs.map (·.1)).map tkD).getD i PyData.none = tkD (kvs[i]).1:=by simp [hi]
   show Dt X.K M H (V.ref (bs.getD i 0)) (((kvs.map (·.1)).map tkD).getD i PyData.none);rw [e];exact ZbY r (hb i _ (by simp [hi]))
 refine k.dat (r.new ha) (Step.new ha) (Dt.Jh r ha (go _ mem)) (q _ ?_ ?_)
 ·have:=pl.map λ i=>((kvs.map (·.1)).map tkD).getD i PyData.none;rw [show kvs.length = ((kvs.map (·.1)).map tkD).length by simp,map_range] at this;exact this
 ·rw [List.pairwise_map];refine List.Pairwise.imp_of_mem ?_ pu;intro i j hi hj hij;have i1:=mem i hi;have j1:=mem j hj;have e:=Uo (ds:=(kvs.map (·.1)).map tkD) (i:=j) (j:=i) (a:=((kvs.map (·.1)).map tkD).getD j PyData.none) (b:=((kvs.map (·.1)).map tkD).getD i PyData.none) (by simp [j1]) (by simp [i1]);unfold leD;rw [<- e];exact hij
section
variable {es:List Expr} {t:DTA} {x1:Nat} {pos':Pos} {o i:Expr} {to ti:DTE}
theorem Mxs.of0:∀ {vs:List V} {xs:List DV},Paired (VR0 K M H) vs xs->Mxs K M H vs xs
 | _,_,.nil=>.nil
 | _,_,.cons (b:=.dat d) h t=>.dat h (Mxs.of0 t)
 | _,_,.cons (b:=.own b) h t=>by
  cases (show _ = V.ref b from h);exact .own (Mxs.of0 t)
 | _,_,.cons (b:=.ty n) h t=>h.elim
 | _,_,.cons (b:=.mix ys) h t=>.mix h (Mxs.of0 t)
def Zah (t:DTA):DTE:=λ Δ M Φ=>t Δ M λ xs M1=>Zaj xs (Nat.ble xs.length 100 = true /\ Φ (.mix xs) M1)
theorem OF:type_of% @Zah.eq_1:=λ _ _ _ _=>qI
theorem O0 (h:DA X es t):DE X (.Tuple es x1 pos) (Zah t):=by
 obtain ⟨u,p,q⟩:=h;refine ⟨_,Lg p,λ Z H Δ M Φ Q r e h k=>?_⟩;refine q Z H Δ M _ _ r e h λ vs H1 xs M1 r1 st rv hx=>?_;obtain ⟨hz,hl,hx⟩:=Ck (K:=X.K) (M:=M1) (H:=H1) hx;have hlen:vs.length = xs.length:=Paired.length rv;have hl':=Nat.le_of_ble_eq_true hl;refine ⟨by rw [hlen,sizeLine_eq]; lia,λ a ha=>?_⟩;have st2:Step M1 H1 M1 (upd H1 a (.tup vs)):=Step.new ha;exact k _ _ (.mix xs) _ (r1.new ha) (st.trans st2) (show Mx _ _ _ _ _ from .mk (r1.tracked ha) Z5 (Mxs.of0 (Paired.Nn (hz rv) λ _ _ z=>z.step st2))) hx
end
theorem cO {k k':Nat} {ps:List Str} {S:DSp} {es:List Expr} {t:DTA} {p pos:Pos} (O:Own X.K X.mg x st ps f fd) (F:Q7 X.prog X.w X.K X.mg X.base CX0 k f fd ps (lift X.K S)) (hr:QS k' X.A) (ha:DA X (e :: es) t)
  (hl:autoParam (k <= k') zz10._auto_1) (hg:autoParam (Gl X x) zz11._auto_1) (hdb:autoParam ((x == ("__debug__" : Str)) = false) zz1._auto_1) (he:autoParam (starEach (e :: es) X.env = (false,eval e X.env) :: starEach es X.env) zz3._auto_1) (hpl:autoParam ((backTo pos (starEach es X.env)).any (·.1) = false) zz3._auto_1):DE X (.Call (.Name x p) (e :: es) [] pos) (O1 S t):=
 Nw F (hr.mono hl) hg O.m O.F.kp O.b Zco ha hdb he hpl
section
variable {prog:Program} {E:Value->Shared->Prop} {KK:Type} [DecidableEq KK] {knd:HeapKind prog w KK}
theorem KC {d:Addr} {xs:List (KK × Addr × Value)} {k:KK} {v:Value} {Q:Value->Shared->Prop} (hu:knd.room A) (hkey:knd.is s.heap k a) (hm:s.heap.DictOfH knd d xs) (hsz:xs.length <= sizeLine)
  (h1:∀ p,atKey xs k = some p->Q p.2 { s with toks:=s.toks + knd.draws k })
  (h2:atKey xs k = none->∀ h',h'.DictOfH knd d (xs ++ [(k,a,v)])->Heap.SameBut d s.heap h'->Q v { s with heap:=h',toks:=s.toks + knd.draws k }) :
  wpAny (model prog w) A (dictSetDefault d (.ref a) v) Q E s:=by
 obtain ⟨o,es,ep,ho,hc,hd,he,his,hn⟩:=hm;unfold dictSetDefault
 try with_reducible refine wpAny_holding ?_
 refine wpAny_bind (knd.pyHash hu hkey (wpAny_bind (wpAny_dictFind_heap (s:={ s with toks:=s.toks + knd.draws k }) hu hkey ho hd he his hn (λ hno=>?_) λ j p hj=>?_)))
 ·have hnot:k ∉ xs.map (·.1):=not_mem_keys_of_get hno
  refine wpAny_bind (wpAny_rule (wpAny_bind (wpAny_updateDictKeys (hz:=by rw [size_of_entries he]; exact hsz) (s:={ s with toks:=s.toks + knd.draws k }) ho hd (wpAny_pure (h2 (atKey_none_of_get hno) _ ⟨_,_,ep + 1,Heap.get?_update_self _ ho (Obj.isFreed_of_dict (Obj.data_mapDictKeys hd _)),
   hc.mapDictKeys _,Obj.data_mapDictKeys hd _,by simp [he,entryOfKey],λ x hx=>?_,?_⟩ (Heap.SameBut.update ..))))))
  ·rcases List.mem_append.mp hx with hx | hx
   ·exact knd.keeps (his x hx) ho hd (Heap.SameBut.update ..)
   ·cases List.mem_singleton.mp hx;exact knd.keeps hkey ho hd (Heap.SameBut.update ..)
  ·rw [List.map_append,List.nodup_append];refine ⟨hn,by simp,λ x hx y hy=>?_⟩;cases List.mem_singleton.mp hy;exact λ e=>hnot (by rw [show k = x from e.symm]; exact hx)
 ·refine wpAny_bind (wpAny_dictEntries (s:={ s with toks:=s.toks + knd.draws k }) ho hd ?_);rw [entry_at he j,hj];exact wpAny_bind (wpAny_rule (wpAny_pure (h1 p (atKey_of_get hn hj))))
end
section
variable {o f:Expr} {td ty tx:TE} {apos cpos:Pos}
def NO (td ty tx:TE):TE:=λ Z H Q=>td Z H λ x H1=>∃ a,x = .ref a /\ IsD H1 a /\ ty Z H1 λ y H2=>tx Z H2 λ z H3=>∃ kvs k b,H3 a = some (.dT kvs) /\ y = .ref b /\ H3 b = some (.tup (k.map kV)) /\ kvs.length < sizeLine /\
 (∀ v,JZ kvs k = some v->Q v H3) /\ (JZ kvs k = none->Q z (upd H3 a (.dT (kvs ++ [(k,z)]))))
theorem C1 (hu:X.A.units + 1 < cLine) (ho:PE X o td) (he:PE X e ty) (hf:PE X f tx) (m:M2 X o "setdefault" apos e f cpos):PE X (.Call (.Attribute o "setdefault" apos) [e,f] [] cpos) (NO td ty tx):=by
 intro pins s Z H Q I h;refine wpAny_Call_method m.base m.few m.line PySem.F.plainAttrs_dict PySem.F.slot_dict_setdefault PySem.F.type_dict_setdefault (thn (ho pins s Z H _ I h) λ u s1 ⟨x,H1,I1,rx,a,ex,d,q1⟩=>?_);subst ex;obtain rfl:u = Value.ref a:=rx;obtain ⟨t1,t2,_⟩:=Tq I1 d;refine ⟨t1,t2,?_⟩;rw [m.trees]
 refine Calls.callWith_builtin rfl (Calls.evalArgs_plain (Calls.spliced_cons (thn (he pins s1 Z H1 _ I1 q1) λ iv s2 ⟨y,H2,I2,ry,q2⟩=>
  Calls.spliced_cons (thn (hf pins s2 Z H2 _ I2 q2) λ fv s3 ⟨z,H3,I3,rz,kvs,k,b,ha,ey,hb,hl,q3,q4⟩=>Calls.spliced_nil ?_))))
 subst ey;cases (show iv = Value.ref b from ry);obtain ⟨z1,hd,xs,rel,dd⟩:=Zba I3.hok ha;have n1:xs.length = kvs.length:=(Paired.length rel).symm;refine wpAny_call_entry PySem.F.slot_dict_setdefault dd.typeIs PySem.F.entry_dict_setdefault ?_ (PySem.F.args_dict_setdefault_3 _ _ _);unfold Builtin.«dict.setdefault»;refine wpAny_bind ?_;unfold Builtin.Dict.keyAndDefault;refine wpAny_bind (wpAny_notOrdered_dict dd.typeIs ?_);show wpAny _ _ (pure (a,Value.ref b,some fv)) _ _ s3;refine wpAny_pure ?_;show wpAny _ _ (if (a == sysModules) = true then _ else (dictSetDefault a (.ref b) fv >>= _)) _ _ s3;rw [if_neg (by rw [hd]; exact Bool.false_ne_true)];have rv:=rel.val k;refine wpAny_bind (KC (tupleKind_room_in1 hu) (GI I3.hok hb) dd (by rw [n1]; exact Nat.le_of_lt hl) (λ p hp=>wpAny_pure ⟨_,rfl,?_⟩) λ hn h' dd' hs=>wpAny_pure ⟨_,rfl,?_⟩)
 ·rw [hp] at rv;cases ev:JZ kvs k with
  | none=>rw [ev] at rv; exact rv.elim
  | some v=>rw [ev] at rv; exact ⟨v,H3,I3.tok _,rv,q3 v ev⟩
 ·rw [hn] at rv;have hv:JZ kvs k = none:=by
   cases ev:JZ kvs k with
   | none=>rfl
   | some v=>rw [ev] at rv; exact rv.elim
  obtain ⟨q,es,ep,hq,h2,h3,h4,_,h5⟩:=dd';refine ⟨z,_,Br (ob:=.dT (kvs ++ [(k,z)])) I3 (by rw [ha]; exact True.intro) hs ⟨q,hq⟩ ⟨?_,hd,_,KT.keeps (Paired.snoc rel ⟨rfl,hb,rz⟩) λ c ys ec=>?_,q,es,ep,hq,h2,h3,h4,h5⟩,rz,q4 hv⟩
  ·rw [List.length_append,List.length_singleton];exact hl
  ·rw [ZE (ZbA ec ha (λ z=>nomatch z))];exact ec
end
noncomputable def dvT (ps:List (List Key × PyData)) (k:List Key):Option PyData:=(ps.find? λ kv=>decide (kv.1 = k)).map (·.2)
def MK (o:Option OO) (P:List (List Key × PyData)->Prop):Prop:=match o with | some (.dtv ps)=>P ps | _=>False
theorem C4 (ps:List (List Key × PyData)) (P:List (List Key × PyData)->Prop):MK (some (.dtv ps)) P = P ps:=qI
theorem Ba {o:Option OO} {P:List (List Key × PyData)->Prop} (h:MK o P):∃ ps,o = some (.dtv ps) /\ P ps:=by
 unfold MK at h
 split at h
 ·exact ⟨_,rfl,h⟩
 ·exact h.elim
noncomputable abbrev kDV (k:List Key):DV:=.mix (k.map λ a=>.dat (kD a))
theorem K2:∀ {k:List Key} {vs:List V},Mxs K M H vs (k.map λ a=>DV.dat (kD a))->vs = k.map kV
 | [],_,h=>by cases h; rfl
 | .inl i :: k,_,h=>by cases h with | dat h1 h2=>cases h1; rw [K2 h2]; rfl
 | .inr x :: k,_,h=>by cases h with | dat h1 h2=>cases h1; rw [K2 h2]; rfl
theorem P6 {k:List Key} (h:Qd K M H v (kDV k)):∃ b,v = .ref b /\ H b = some (.tup (k.map kV)):=by
 cases (show Mx K M H v _ from h) with
 | mk h1 h2 h3=>exact ⟨_,rfl,by rw [<- K2 h3]; exact h2⟩
theorem W3 (k:List Key):∀ {kvs:List (List Key × V)} {ps:List (List Key × PyData)},kvs.map (·.1) = ps.map (·.1)->Dts K M H (kvs.map (·.2)) (ps.map (·.2))->(JZ kvs k = none /\ dvT ps k = none) \/ ∃ v d,JZ kvs k = some v /\ dvT ps k = some d /\ Dt K M H v d
 | [],[],_,_=>.inl ⟨rfl,rfl⟩
 | [],_ :: _,h,_=>by simp at h
 | _ :: _,[],h,_=>by simp at h
 | (k1,v) :: kvs,(k2,d) :: ps,h,hd=>by
  rw [List.map_cons,List.map_cons,List.cons.injEq] at h;cases (show k1 = k2 from h.1);cases hd with
  | cons h1 h2=>
   unfold JZ dvT
   by_cases e:k1 = k
   ·rw [List.find?_cons_of_pos (by simpa using e),List.find?_cons_of_pos (by simpa using e)];exact .inr ⟨v,d,rfl,rfl,h1⟩
   ·rw [List.find?_cons_of_neg (by simpa using e),List.find?_cons_of_neg (by simpa using e)];exact W3 k h.2 h2
section
variable {o f i:Expr} {td ty tx:DTE} {apos cpos:Pos}
def CA:DTE:=λ _ M Φ=>∀ p,M p = none->Φ (.own p) (Zu M p (.dtv []))
theorem GJ:type_of% @CA.eq_1:=λ _ _ _=>qI
theorem Dl:DE X (.Dict [] [] pos) CA:=
 ⟨_,HB,λ _ _ _ _ _ _ r _ h k p hp=>k _ _ (.own p) _ (r.Uz (o:=.dtv []) (Step.QO hp) ⟨[],Z5,rfl,.nil⟩) (Step.QO hp) rfl (h p (r.tracked hp))⟩
def GH (td ty tx:DTE):DTE:=λ Δ M Φ=>td Δ M λ x M1=>onO x λ l=>MK (M1 l) λ _=>ty Δ M1 λ y M2=>tx Δ M2 λ z M3=>onD z λ d=>MK (M3 l) λ ps=>∃ k,y = kDV k /\ ps.length < sizeLine /\
 (∀ d',dvT ps k = some d'->Φ (.dat d') M3) /\ (dvT ps k = none->Φ (.dat d) (Zu M3 l (.dtv (ps ++ [(k,d)]))))
theorem BI:type_of% @GH.eq_1:=λ _ _ _ _ _ _=>qI
theorem Ca {k:Nat} (hr:QS k X.A) (ho:DE X o td) (he:DE X e ty) (hf:DE X f tx) (m:autoParam (M2 X o "setdefault" apos e f cpos) zz12._auto_1):DE X (.Call (.Attribute o "setdefault" apos) [e,f] [] cpos) (GH td ty tx):=by
 obtain ⟨t1,p1,q1⟩:=ho;obtain ⟨t2,p2,q2⟩:=he;obtain ⟨t3,p3,q3⟩:=hf;refine ⟨_,C1 (by have:=hr.un; lia) p1 p2 p3 m,λ Z H Δ M Φ Q r er h kk=>?_⟩;refine q1 Z H Δ M _ _ r er h λ v H1 x M1 r1 st1 rv hx=>?_;replace hx:=ZM hx;obtain ⟨l,rfl,hx⟩:=hx;replace hx:=Ba hx;obtain ⟨ps0,hm0,hx⟩:=hx;obtain ⟨kvs0,g0,_⟩:=(show OOk X.K M1 H1 l (.dtv ps0) from r1.ok l _ hm0)
 refine ⟨l,rv,.inr ⟨kvs0,.inl g0⟩,?_⟩;refine q2 Z H1 Δ M1 _ _ r1 (er.step st1) hx λ w H2 y M2 r2 st2 ry hy=>?_;refine q3 Z H2 Δ M2 _ _ r2 (er.step (st1.trans st2)) hy λ u H3 z M3 r3 st3 rz hz=>?_;replace hz:=ZY hz;obtain ⟨d,rfl,hz⟩:=hz;replace hz:=Ba hz;obtain ⟨ps,hm,key,rfl,hl,c1,c2⟩:=hz;obtain ⟨b,rfl,hb⟩:=P6 (Qd.step ry st3);obtain ⟨kvs,g1,g2,g3⟩:=(show OOk X.K M3 H3 l (.dtv ps) from r3.ok l _ hm)
 have n1:kvs.length = ps.length:=by have:=congrArg List.length g2; simpa using this
 have stA:=st1.trans (st2.trans st3);refine ⟨kvs,key,b,g1,rfl,hb,by rw [n1]; exact hl,λ v' hv=>?_,λ hv=>?_⟩
 ·rcases W3 key g2 g3 with ⟨e1,_⟩ | ⟨v2,d2,e1,e2,e3⟩
  ·rw [e1] at hv;cases hv
  ·rw [hv] at e1;cases e1;exact kk _ _ (.dat d2) _ r3 stA e3 (c1 d2 e2)
 ·rcases W3 key g2 g3 with ⟨_,e2⟩ | ⟨v2,d2,e1,_⟩
  ·have st5:Step M3 H3 (Zu M3 l (.dtv (ps ++ [(key,d)]))) (upd H3 l (.dT (kvs ++ [(key,u)]))):=Step.V6 hm;refine kk _ _ (.dat d) _ (r3.Uz st5 ⟨_,Z5,?_,?_⟩) (stA.trans st5) (Dt.step st5 rz) (c2 e2)
   ·rw [List.map_append,List.map_append,g2];rfl
   ·rw [List.map_append,List.map_append];exact (g3.step st5).append (.cons (Dt.step st5 rz) .nil)
  ·rw [hv] at e1;cases e1
def OV (o:Option OO) (P:List (List Key × PyData)->Prop):Prop:=match o with | some (.dtv ps)=>P ps | some (.fdt _ ps)=>P ps | _=>False
theorem WR (ps:List (List Key × PyData)) (P:List (List Key × PyData)->Prop):OV (some (.dtv ps)) P = P ps:=qI
theorem BB {l:Addr} {P:List (List Key × PyData)->Prop} (r:Zz K M H) (h:OV (M l) P):∃ ps kvs,P ps /\ Rd H l (.dT kvs) /\ kvs.map (·.1) = ps.map (·.1) /\ Dts K M H (kvs.map (·.2)) (ps.map (·.2)):=by
 cases e:M l with
 | none=>rw [e] at h; exact h.elim
 | some u=>
  rw [e] at h;cases u with
  | dtv ps=>obtain ⟨kvs,g1,g2,g3⟩:=(show OOk K M H l (.dtv ps) from r.ok l _ e); exact ⟨ps,kvs,h,.inl g1,g2,g3⟩
  | fdt o ps=>obtain ⟨kvs,g1,g2,g3⟩:=(show OOk K M H l (.fdt o ps) from r.ok l _ e); exact ⟨ps,kvs,h,.inr ⟨o,g1⟩,g2,g3⟩
  | _=>exact h.elim
def Zb1 (K:Fj) (td ty:TE):TE:=λ Z H Q=>td Z H λ x H1=>ty Z H1 λ y H2=>∃ a b kvs k v,x = .ref a /\ y = .ref b /\ Rd H2 a (.dT kvs) /\ SqT K H2 b (k.map kV) /\ JZ kvs k = some v /\ Q v H2
theorem Om {td ty:TE} (hu:X.A.units + 1 < cLine) (ho:PE X o td) (hi:PE X i ty) (hs:NF i):PE X (.Subscript o i pos) (Zb1 X.K td ty):=by
 intro pins s Z H Q I h;refine Kz PySem.F.slot_dict_getitem.lookup hs (thn (ho pins s Z H _ I h) λ u s1 ⟨x,H1,I1,rx,q1⟩=>thn (hi pins s1 Z H1 _ I1 q1) λ iv s2 ⟨y,H2,I2,ry,a,b,kvs,k,v,ex,ey,g,hb,hv,q2⟩=>?_);subst ex ey;obtain rfl:u = Value.ref a:=rx;obtain rfl:iv = Value.ref b:=ry;obtain ⟨z,hd,xs,rel,dd⟩:=BL I2.hok g;obtain ⟨w',hw,rw'⟩:=BY.some_of (v:=v) (o:=(atKey xs k).map (·.2)) (by rw [<- hv]; exact rel.val k);obtain ⟨p,hp,hp2⟩:=Option.map_eq_some_iff.mp hw;refine ⟨dd.typeIs,wpAny_getItem_heap (tupleKind_room_in1 hu) (SM I2 hb) dd hp ?_⟩;rw [hp2];exact ⟨v,H2,I2.tok _,rw',q2⟩
def SN (td ti:DTE):DTE:=λ Δ M Φ=>td Δ M λ x M1=>ti Δ M1 λ y M2=>onO x λ l=>OV (M2 l) λ ps=>∃ k d,y = .dat (tkD k) /\ dvT ps k = some d /\ Φ (.dat d) M2
theorem N8:type_of% @SN.eq_1:=λ _ _ _ _ _=>qI
theorem Wu:∀ {K:Fj} {M:Mp} {H:Hp} {k:List Key} {vs:List V},Dts K M H vs (k.map kD)->vs = k.map kV
 | _,_,_,[],_,h=>by cases h; rfl
 | _,_,_,.inl i :: k,_,h=>by cases h with | cons h1 h2=>cases h1; rw [Wu h2]; rfl
 | _,_,_,.inr x :: k,_,h=>by cases h with | cons h1 h2=>cases h1; rw [Wu h2]; rfl
theorem MG {k:Nat} {ti:DTE} (hr:QS k X.A) (ho:DE X o td) (hi:DE X i ti) (hs:autoParam (NF i) zz6._auto_1):DE X (.Subscript o i pos) (SN td ti):=by
 obtain ⟨t1,p1,q1⟩:=ho;obtain ⟨t2,p2,q2⟩:=hi;refine ⟨_,Om (by have:=hr.un; lia) p1 p2 hs,λ Z H Δ M Φ Q r e h kk=>?_⟩;refine q1 Z H Δ M _ _ r e h λ v H1 x M1 r1 st1 rv hx=>?_;refine q2 Z H1 Δ M1 _ _ r1 (e.step st1) hx λ w H2 y M2 r2 st2 rw2 hy=>?_;replace hy:=ZM hy;obtain ⟨l,rfl,hy⟩:=hy;obtain ⟨ps,kvs,⟨key,d,rfl,hd,q⟩,g1,g2,g3⟩:=BB r2 hy;cases (show v = .ref l from rv);obtain ⟨b,xs,rfl,h1,h2⟩:=Qd.tup (ds:=key.map kD) rw2;rw [Wu h2] at h1
 rcases W3 key g2 g3 with ⟨_,c⟩ | ⟨u,d',c1,c2,du⟩
 ·rw [hd] at c;cases c
 ·rw [hd] at c2;cases c2;exact ⟨l,b,kvs,key,u,rfl,rfl,g1,h1.sq,c1,kk.dat r2 (st1.trans st2) du q⟩
def C7:D1:=λ xs M Φ=>on1 xs λ x=>onO x λ l=>OV (M l) λ ps=>Q0 ((ps.map (·.1)).map tkD) /\ ∀ ds':List PyData,ds'.Perm ((ps.map (·.1)).map tkD)->ds'.Pairwise leD->Φ (.dat (.list ds')) M
theorem GZ:type_of% @C7.eq_1:=λ _ _ _=>qI
theorem Ge {kk:Nat} (hr:QS kk X.A):JX X (.builtin "sorted") C7:=UT (rd:=λ (o:Option OO) (P:List (List Key)->Prop)=>OV o λ (ps:List (List Key × PyData))=>P (ps.map (λ x:List Key × PyData=>x.1))) (λ r h=>by
 obtain ⟨ps,kvs,q,g1,g2,_⟩:=BB r h
 exact ⟨kvs,g1,by rw [g2]; exact q⟩) hr
end
section
def NA:V->List V->Hp->VK->Prop:=λ x vs H Q=>∃ l xs i y,x = .ref l /\ vs = [.int i,y] /\ H l = some (.lst xs) /\ 0 <= i /\ i <= (xs.length:Int) /\ xs.length < sizeLine /\ Q .non (upd H l (.lst (xs.take i.toNat ++ y :: xs.drop i.toNat)))
theorem CB:MtM X "list.insert" NA:=by
 intro pins s Z H x vs v us Q I rx rv h;obtain ⟨l,xs,i,y,rfl,rfl,hH,i0,i1,hz,q⟩:=h;cases rx;obtain ⟨a,u,rfl,ra,ru⟩:=rv.two;obtain ⟨t,rfl⟩:=ra;obtain ⟨z,its,n,r,hl,e⟩:=I.ZaN hH;have zl:=sizeLine_eq;have ln:xs.length = its.length:=r.length;have fits:¬ (!Builtin.List.listFitsIndex i) = true:=by
  unfold Builtin.List.listFitsIndex;simp;lia
 refine call_meets F.slot_list_insert ⟨_,e,rfl⟩ F.entry_list_insert (F.args_list_insert_3 _ _ _) (PySem.AutoListH.list_insert_list_int_val_1 l its.toArray n i t u fits (by rw [List.size_toArray]; lia)) ⟨e,?_⟩;refine ⟨.non,_,I.ZbJ (its':=its.take i.toNat ++ u :: its.drop i.toNat) hH e ?_ ((r.take _).append (.cons ru (r.drop _))) ?_,rfl,q⟩
 ·apply Array.toList_inj.mp;rw [if_neg (by lia),show min i.toNat its.toArray.size = i.toNat by rw [List.size_toArray]; lia];simp [List.extract_eq_take_drop];exact List.take_of_length_le (by simp)
 ·rw [List.length_append,List.length_take,List.length_cons,List.length_drop];lia
variable {o f:Expr} {to tf:DTE} {apos cpos:Pos}
def Ce (to te tf:DTE):DTE:=λ Δ M Φ=>to Δ M λ x M1=>onO x λ l=>QG (M1 l) λ _=>te Δ M1 λ y M2=>tf Δ M2 λ z M3=>onI y λ i=>onD z λ d=>QG (M3 l) λ ds=>(0 <= i /\ i <= ds.length) /\ ds.length < sizeLine /\ Φ (.dat .none) (Zu M3 l (.lst (ds.take i.toNat ++ d :: ds.drop i.toNat)))
theorem BJ:type_of% @Ce.eq_1:=λ _ _ _ _ _ _=>qI
theorem Xh (ho:DE X o to) (he:DE X e te) (hf:DE X f tf) (hbase:autoParam (attributeBase o "insert" X.env (eval o X.env) = eval o X.env) zz3._auto_1)
  (hfew:((backTo cpos (starEach [e,f] X.env)).all (λ x=>!x.1) && (backToKw cpos (keywordEach [] X.env)).all (λ x=>x.1.isSome)
   && decide ([e,f].length + ([]:List Keyword).length + (if ([]:List Keyword).isEmpty then 0 else 1) < 30)) = true:=by rfl)
  (hline:autoParam ((apos.endLine == cpos.line) = true) zz3._auto_1) (hs:autoParam (starEach [e,f] X.env = (false,eval e X.env) :: starEach [f] X.env) zz3._auto_1) (hs2:autoParam (starEach [f] X.env = (false,eval f X.env) :: starEach [] X.env) zz3._auto_1) (hplain:autoParam ((backTo cpos (starEach [f] X.env)).any (·.1) = false) zz3._auto_1) :
  DE X (.Call (.Attribute o "insert" apos) [e,f] [] cpos) (Ce to te tf):=by
 obtain ⟨t1,p1,q1⟩:=ho;obtain ⟨t2,p2,q2⟩:=he;obtain ⟨t3,p3,q3⟩:=hf;refine ⟨_,OJ PySem.F.plainAttrs_list PySem.F.slot_list_insert PySem.F.type_list_insert CB p1 (VF p2 (VF p3 WE hs2) hs) hbase hfew hline hs hplain,λ Z H Δ M Φ Q r er h k=>?_⟩;refine q1 Z H Δ M _ _ r er h λ v H1 x M1 r1 st rv hx=>?_;replace hx:=ZM hx;obtain ⟨l,rfl,hx⟩:=hx;replace hx:=Qq hx;obtain ⟨oo,ho,hx⟩:=hx;cases (show v = .ref l from rv);have ty:tyV X.K "list" (.ref l) H1:=by
  obtain ⟨vs,g1,_⟩:=r1.ls l oo ho;exact .inl ⟨rfl,vs,SqL.of g1⟩
 refine ⟨ty,q2 Z H1 Δ M1 _ _ r1 (er.step st) hx λ w H2 y M2 r2 st2 ry hy=>q3 Z H2 Δ M2 _ _ r2 (er.step (st.trans st2)) hy λ u H3 z M3 r3 st3 rz hz=>?_⟩;replace hz:=ZS hz;obtain ⟨i,rfl,hz⟩:=hz;replace hz:=ZY hz;obtain ⟨d,rfl,hz⟩:=hz;replace hz:=Qq hz;obtain ⟨ds,hm,⟨i0,i1⟩,hl,hz⟩:=hz;cases (show w = .int i from Qd.int ry);obtain ⟨vs,g1,g2⟩:=r3.ls l ds hm;have st4:Step M3 H3 (Zu M3 l (.lst (ds.take i.toNat ++ d :: ds.drop i.toNat))) (upd H3 l (.lst (vs.take i.toNat ++ u :: vs.drop i.toNat))):=Step.V6 hm;refine ⟨l,vs,i,u,rfl,rfl,g1,i0,by rw [g2.length]; exact i1,by rw [g2.length]; exact hl,?_⟩;exact k.dat (r3.Vb st4 ((g2.take _).append (.cons rz (g2.drop _)))) (st.trans (st2.trans (st3.trans st4))) Dt.non hz
end
noncomputable def HY (d e:PyData):Bool:=ZL d e && (d.canLay0 && e.canLay0 && Nat.ble (min d.depth e.depth) 64)
theorem Ts (hu:X.A.units + 64 < cLine):OpR X (compareOp .Lt) (λ x y H Q=>∃ M d e,Dt X.K M H x d /\ Dt X.K M H y e /\ HY d e = true /\ Q (.bl (ltD d e)) H):=by
 intro pins s Z H x y v u Q I rx ry h;obtain ⟨M,d,e,h1,h2,ok,q⟩:=h;unfold HY at ok;simp only [Bool.and_eq_true,Nat.ble_eq] at ok;obtain ⟨as,ra,_⟩:=h1.reads I rx;obtain ⟨bs,rb,_⟩:=h2.reads I ry;exact XC d e X.A s v u as bs ra rb ok.2.1.1 ok.2.1.2 ok.1 (by lia) X.prog X.w X.xe _ ⟨.bl _,H,I,rfl,q⟩
def Tu:D2:=λ x y M Φ=>onD x λ d=>onD y λ e=>HY d e = true /\ Φ (.dat (.bool (ltD d e))) M
theorem Pt:type_of% @Tu.eq_1:=λ _ _ _ _=>qI
theorem Lu {k:Nat} (hr:QS k X.A):OpD X (compareOp .Lt) Tu:=
 ⟨_,Ts hr.units,λ v u H x y M Φ Q r rv ru h k=>by
  obtain ⟨d,e1,h⟩:=ZY h;obtain ⟨e,e2,h⟩:=ZY h;subst e1 e2
  exact ⟨M,d,e,rv,ru,h.1,k.dat r Step.refl (Dt.bl _) h.2⟩⟩
def GEs (w:World):List DictEntry->List (Str × Int)->Prop
 | [],[]=>True
 | e :: es,p :: ps=>(∃ t u,e = ⟨hashStr w p.1,.str p.1 t,.int p.2 u⟩) /\ GEs w es ps
 | _,_=>False
def Zbw (w:World) (K:Fj) (a:Addr) (kvs:List (Str × Int)):Prop:=∃ es ep,K.lookup a = some { cls:=.type "dict",data:=.dict es ep } /\ GEs w es.toList kvs
theorem UD:∀ {es:List DictEntry} {kvs:List (Str × Int)},GEs w es kvs->∀ e ∈ es,∃ k,(Zy P w).is k e.key = true /\ e.hash = (Zy P w).hash k
 | [],_,_,e,he=>nomatch he
 | x :: es,p :: ps,h,e,he=>by
  rcases List.mem_cons.mp he with rfl | he
  ·obtain ⟨t,u,rfl⟩:=h.1;exact ⟨.inr p.1,QK P w p.1 t,rfl⟩
  ·exact UD h.2 e he
theorem Uw {s:Str} {n:Int}:∀ {es:List DictEntry} {kvs:List (Str × Int)},GEs w es kvs->kvs.lookup s = some n->∃ e u,es.find? (λ e=>(Zy P w).is (.inr s) e.key) = some e /\ e.val = .int n u
 | [],[],_,e=>by simp at e
 | x :: es,(k,m) :: ps,h,e=>by
  obtain ⟨t,u,rfl⟩:=h.1
  by_cases c:s = k
  ·subst c;rw [List.lookup_cons_self] at e;cases e;exact ⟨_,u,List.find?_cons_of_pos (by exact QK P w s t),rfl⟩
  ·rw [List.lookup_cons,beq_eq_false_iff_ne.mpr c] at e;obtain ⟨e',u',h1,h2⟩:=Uw h.2 e;refine ⟨e',u',?_,h2⟩;rw [List.find?_cons_of_neg (λ z=>c ?_)]
   ·exact h1
   ·have:=(Zy P w).inj _ _ _ z (QK P w k t);cases this;rfl
section
variable {i:Expr} {ti:TE} {pn:Pos} {kvs:List (Str × Int)}
def ZaZ (kvs:List (Str × Int)) (ti:TE):TE:=λ Z H Q=>ti Z H λ y H1=>∃ s n,y = .str s /\ kvs.lookup s = some n /\ Q (.int n) H1
theorem MR (hg:Gl X x) (hm:X.mg x = some (.ref a)) (ht:Zbw X.w X.K a kvs) (hi:PE X i ti) (hs:NF i) (hd:autoParam ((x == ("__debug__" : Str)) = false) zz1._auto_1):PE X (.Subscript (.Name x pn) i pos) (ZaZ kvs ti):=by
 intro pins s Z H Q I h;refine Kz PySem.F.slot_dict_getitem.lookup hs (thn (NB (v:=.ref a) hg hm rfl hd pins s Z H (λ y H1=>y = .ref a /\ H1 = H) I ⟨rfl,rfl⟩) λ u s1 ⟨y,H1,I1,ry,e1,e2⟩=>?_);subst e1 e2;obtain rfl:u = Value.ref a:=ry;refine thn (hi pins s1 Z H1 _ I1 h) λ iv s2 ⟨y,H2,I2,ry,s0,n,ey,hn,q⟩=>?_;subst ey;obtain ⟨es,ep,ho,hes⟩:=ht;have hk:=I2.kIn a _ ho;obtain ⟨e',u',f1,f2⟩:=Uw (P:=X.prog) hes hn;have mp:s2.heap.MapOf (Zy X.prog X.w) a (λ k=>findBy (Zy X.prog X.w).is es k):=⟨_,es,ep,hk,⟨rfl,rfl,by simp⟩,rfl,λ e he=>UD hes e (Array.mem_toList_iff.mpr he),λ _=>rfl⟩
 refine ⟨mp.typeIs,wpAny_getItem_of (k:=Sum.inr s0) (Fh (k:=Sum.inr s0) ry) mp (v:=.int n u') ?_ ⟨.int n,H2,I2.tok _,⟨u',rfl⟩,q⟩⟩;show (es.find? λ e=>(Zy X.prog X.w).is (.inr s0) e.key).map (·.val) = _;rw [<- Array.find?_toList,f1];exact congrArg some f2
def Zag (kvs:List (Str × Int)) (ti:DTE):DTE:=λ Δ M Φ=>ti Δ M λ y M1=>onS y λ s=>∃ n,kvs.lookup s = some n /\ Φ (.dat (.int n)) M1
theorem MV:type_of% @Zag.eq_1:=λ _ _ _ _ _=>qI
theorem Pc {ti:DTE} (hg:Gl X x) (hm:X.mg x = some (.ref a)) (ht:Zbw X.w X.K a kvs) (hi:DE X i ti) (hs:autoParam (NF i) zz6._auto_1) (hd:autoParam ((x == ("__debug__" : Str)) = false) zz1._auto_1):DE X (.Subscript (.Name x pn) i pos) (Zag kvs ti):=by
 obtain ⟨t2,p2,q2⟩:=hi;refine ⟨_,MR hg hm ht p2 hs hd,λ Z H Δ M Φ Q r e h k=>?_⟩;refine q2 Z H Δ M _ _ r e h λ w H2 y M2 r2 st2 rw2 hy=>?_;replace hy:=Qc hy;obtain ⟨s,rfl,n,hn,q⟩:=hy;cases rw2.str;exact ⟨s,n,rfl,hn,k.dat r2 st2 (Dt.int n) q⟩
end
end DL
namespace My
open DL
set_option maxHeartbeats 8000000
noncomputable def top (i:Nat):Stmt:=PySem.Challenge.pw_landsentered_k19_which_count_in_order.main.body.getD i (.Pass ⟨0,0,0,0⟩)
noncomputable abbrev Q8:Stmt:=top 2
noncomputable abbrev JJ:Stmt:=top 3
noncomputable abbrev Gz:Stmt:=top 5
noncomputable abbrev CT:Stmt:=top 6
noncomputable abbrev s_same:Stmt:=top 7
noncomputable abbrev Y2:Stmt:=top 8
noncomputable abbrev Jm:Stmt:=top 9
noncomputable abbrev VD:Stmt:=top 10
noncomputable abbrev QZ:Stmt:=top 11
noncomputable abbrev KG:Stmt:=top 12
noncomputable abbrev Ut:Stmt:=top 13
noncomputable abbrev GR:Stmt:=top 14
noncomputable abbrev Vv:Stmt:=top 15
noncomputable abbrev YY:Stmt:=top 16
noncomputable abbrev GP:Stmt:=top 17
noncomputable abbrev Yw:Stmt:=top 18
noncomputable abbrev Q2:Stmt:=top 19
noncomputable abbrev Oe:Stmt:=top 20
noncomputable abbrev Mu:Stmt:=top 21
theorem Jr:ZA ["tellings", "counting", "telling"] ["tellings"] (Zf Q8):=by walk_at "s"
theorem Wv:ZA ["telling"] ["telling"] (Zf JJ):=by walk_at "s"
theorem Jk:ZA ["_law_pen", "_law_many", "_law_at", "_law_cell", "_law_one", "_law_two", "_law_digit"] ["_law_pen", "_law_many"] (Zf Gz):=by walk_at "s"
theorem YD:ZA ["_law_pen", "_law_many", "_law_found", "_law_k"] ["_law_pen", "_law_many"] (Zf CT):=by walk_at "s"
theorem Nr:ZA ["_law_found", "_law_due_here"] ["_law_found", "_law_due_here"] (Zf s_same):=by walk_at "s"
theorem Qu:ZA ["_law_pen", "_law_most", "_law_low", "_law_found", "_law_k", "_law_wide_here", "_law_first", "_law_last"] ["_law_pen", "_law_most"] (Zf Y2):=by walk_at "s"
theorem Qa:ZA ["_law_boxes_here", "_law_by", "_law_off", "_law_found", "_law_low", "_law_high", "_law_first"] ["_law_boxes_here", "_law_by", "_law_off"] (Zf Jm):=by walk_at "s"
theorem Ja:ZA ["_law_pen", "_law_by", "_law_off"] ["_law_pen"] (Zf VD):=by walk_at "s"
theorem Ql:ZA ["_law_pen", "_law_many", "_law_letters", "_law_words", "_law_base", "_law_start", "_law_manner", "_law_long", "_law_at", "_law_signs"] ["_law_pen", "_law_many"] (Zf QZ):=by walk_at "s"
theorem Qv:ZA ["_law_pen", "_law_far", "_law_begin", "_law_span", "_law_things", "_law_lands", "_law_by", "_law_off"] ["_law_pen"] (Zf KG):=by walk_at "s"
theorem Dq:ZA ["_law_pen", "_law_world_here", "_law_by"] ["_law_pen", "_law_world_here"] (Zf Ut):=by walk_at "s"
theorem Jp:ZA ["_law_pen", "_law_world_here", "_law_time", "_law_lands", "_law_by", "_law_outer", "_law_boxes_here", "_law_wobble", "_law_name"] ["_law_pen", "_law_world_here", "_law_time"] (Zf GR):=by walk_at "s"
theorem Jc:ZA ["_law_pen", "_law_world_here", "_law_kind", "_law_time", "_law_thing"] ["_law_pen", "_law_world_here"] (Zf Vv):=by walk_at "s"
theorem J9:ZA ["_law_pen", "_law_some", "_law_found", "_law_one"] ["_law_pen", "_law_some"] (Zf YY):=by walk_at "s"
theorem Yo:ZA ["_law_pen", "_law_world_here", "_law_telling_here", "_law_way", "_law_x", "_law_y"] ["_law_pen", "_law_world_here", "_law_telling_here"] (Zf GP):=by walk_at "s"
theorem Jb:ZA ["_law_pen", "_law_world_here", "_law_many", "_law_found", "_law_k", "_law_kind"] ["_law_pen", "_law_world_here"] (Zf Yw):=by walk_at "s"
theorem Qj:ZA ["_law_one", "_law_other", "_law_ranks", "_law_mine", "_law_his"] ["_law_one", "_law_other"] (Zf Q2):=by walk_at "s"
theorem Ju:ZA ["_law_tellings", "_law_ranks", "_law_row", "_law_one", "_law_found", "_law_at", "_law_here"] ["_law_tellings"] (Zf Oe):=by walk_at "s"
theorem Ji:ZA ["_law_script", "_law_pen", "_law_world_here", "_law_tellings", "_law_due_here", "_law_others", "_law_handed", "_law_kept", "_law_again", "_law_found"] ["_law_script"] (Zf Mu):=by walk_at "s"
theorem Cq:bootBuiltins "abs" = some (.builtin "abs"):=by walk_at "k"
theorem QN:bootBuiltins "len" = some (.builtin "len"):=by walk_at "k"
theorem YI:bootBuiltins "repr" = some (.builtin "repr"):=by walk_at "k"
theorem Xb:bootBuiltins "sorted" = some (.builtin "sorted"):=by walk_at "k"
theorem PQ:bootBuiltins "str" = some (.type "str"):=by walk_at "k"
theorem J6:bootBuiltins "tuple" = some (.type "tuple"):=by walk_at "k"
set_option genInjectivity false in
structure Tx (w:World) (K:Fj) (mg:Str->Option Value) where
 Ye:Addr
 V8:FuncData
 JK:Own K mg "in_order" Q8 ["tellings"] Ye V8
 V5:Addr
 VR:FuncData
 VU:Own K mg "place_of" JJ ["telling"] V5 VR
 L4:Addr
 Ma:FuncData
 Zo:Own K mg "_law_take" Gz ["_law_pen", "_law_many"] L4 Ma
 LN:Addr
 HU:FuncData
 X3:Own K mg "_law_wide" CT ["_law_pen", "_law_many"] LN HU
 La:Addr
 Lj:FuncData
 Lm:Own K mg "_law_same" s_same ["_law_found", "_law_due_here"] La Lj
 Co:Addr
 Dj:FuncData
 CC:Own K mg "_law_boxes" Y2 ["_law_pen", "_law_most"] Co Dj
 Vf:Addr
 Vd:FuncData
 VC:Own K mg "_law_stretched" Jm ["_law_boxes_here", "_law_by", "_law_off"] Vf Vd
 Xa:Addr
 XY:FuncData
 XX:Own K mg "_law_stretch" VD ["_law_pen"] Xa XY
 CN:Addr
 Bc:FuncData
 Wg:Own K mg "_law_names" QZ ["_law_pen", "_law_many"] CN Bc
 GW:Addr
 B2:FuncData
 Dc:Own K mg "_law_world" KG ["_law_pen"] GW B2
 Lv:Addr
 LJ:FuncData
 LF:Own K mg "_law_spot" Ut ["_law_pen", "_law_world_here"] Lv LJ
 LW:Addr
 Mf:FuncData
 Kj:Own K mg "_law_land" GR ["_law_pen", "_law_world_here", "_law_time"] LW Mf
 Kf:Addr
 Xc:FuncData
 Xm:Own K mg "_law_telling" Vv ["_law_pen", "_law_world_here"] Kf Xc
 Us:Addr
 Up:FuncData
 Ue:Own K mg "_law_turned" YY ["_law_pen", "_law_some"] Us Up
 L8:Addr
 Ld:FuncData
 L7:Own K mg "_law_near" GP ["_law_pen", "_law_world_here", "_law_telling_here"] L8 Ld
 G4:Addr
 Gq:FuncData
 G2:Own K mg "_law_drawn" Yw ["_law_pen", "_law_world_here"] G4 Gq
 JS:Addr
 JV:FuncData
 JQ:Own K mg "_law_goes_ahead" Q2 ["_law_one", "_law_other"] JS JV
 RY:Addr
 PB:FuncData
 PK:Own K mg "_law_due" Oe ["_law_tellings"] RY PB
 Sy:Addr
 P4:FuncData
 o_law:Own K mg "law" Mu ["_law_script"] Sy P4
 Pq:mg "abs" = none
 JY:mg "len" = none
 Qz:mg "range" = none
 WH:mg "repr" = none
 Ub:mg "sorted" = none
 ZbT:mg "str" = none
 YZ:mg "tuple" = none
 DC:Addr
 MY:mg "RANKS" = some (.ref DC)
 Mj:Zbw w K DC [(Str.ofString "land",0),(Str.ofString "drop",0),(Str.ofString "free",1),(Str.ofString "spot",2)]
local macro_rules | `(tactic| walk_at "hd")=>`(tactic| (subst_vars; (try dsimp only); refine DL.Hf λ R hR=>?_))
local macro_rules | `(tactic| walk_at "h")=>`(tactic| (walk_at "hd"; walk_at "rk"))
noncomputable def gp (a b a' b':Int):Int:=max 0 (max (a' - b) (a - b'))
noncomputable def btw (x y X Y x' y' X' Y':Int):Int:=max (gp x X x' X') (gp y Y y' Y')
structure B4 where
 x:Int
 y:Int
 X:Int
 Y:Int
noncomputable def bD (b:B4):PyData:=.tuple [.tuple [.int b.x,.int b.y],.tuple [.int b.X,.int b.Y]]
noncomputable def Qb (a b:B4):Int:=btw a.x a.y a.X a.Y b.x b.y b.X b.Y
noncomputable def okB (b:B4):Bool:=decide (b.x <= b.X) && decide (b.y <= b.Y)
noncomputable def Y5 (f ox oy:Int) (b:B4):B4:=⟨b.x * f + ox,b.y * f + oy,b.X * f + f - 1 + ox,b.Y * f + f - 1 + oy⟩
noncomputable def toB:PyData->B4
 | .tuple [.tuple [.int x,.int y],.tuple [.int X,.int Y]]=>⟨x,y,X,Y⟩
 | _=>⟨0,0,0,0⟩
def onX (x:DV) (P:B4->Prop):Prop:=∃ b,x = .dat (bD b) /\ P b
theorem Uq (b:B4) (P:B4->Prop):onX (.dat (bD b)) P = P b:=propext ⟨λ ⟨c,e,h⟩=>by
 rw [DV.dat.injEq] at e;rw [show b = c from congrArg toB e]
 exact h,λ h=>⟨b,rfl,h⟩⟩
theorem Ht (x y X Y:Int) (P:B4->Prop):onX (.dat (.tuple [.tuple [.int x,.int y],.tuple [.int X,.int Y]])) P = P ⟨x,y,X,Y⟩:=Uq ⟨x,y,X,Y⟩ P
theorem Hm (b:B4) (P:List PyData->Prop):onT (.dat (bD b)) P = P [.tuple [.int b.x,.int b.y],.tuple [.int b.X,.int b.Y]]:=qI
theorem YB:∀ bs:List B4,(bs.map bD).map toB = bs
 | []=>rfl
 | b :: bs=>by rw [List.map_cons,List.map_cons,YB bs]; rfl
def ZaH (x:DV) (P:List B4->Prop):Prop:=∃ bs,x = .dat (.tuple (bs.map bD)) /\ P bs
def ZaJ (x:DV) (P:List B4->Prop):Prop:=∃ bs,x = .dat (.list (bs.map bD)) /\ P bs
theorem NI {x:DV} {P:List B4->Prop} (h:ZaJ x P):∃ bs,x = .dat (.list (bs.map bD)) /\ P bs:=h
theorem JC {as bs:List B4} (h:as.map bD = bs.map bD):as = bs:=by
 rw [<- YB as,h,YB]
theorem Mz (bs:List B4) (P:List B4->Prop):ZaH (.dat (.tuple (bs.map bD))) P = P bs:=propext ⟨λ ⟨cs,e,h⟩=>by
 rw [DV.dat.injEq,PyData.tuple.injEq] at e;rw [JC e]
 exact h,λ h=>⟨bs,rfl,h⟩⟩
theorem Ny (bs:List B4) (P:List B4->Prop):ZaJ (.dat (.list (bs.map bD))) P = P bs:=propext ⟨λ ⟨cs,e,h⟩=>by
 rw [DV.dat.injEq,PyData.list.injEq] at e;rw [JC e]
 exact h,λ h=>⟨bs,rfl,h⟩⟩
noncomputable def J1:PyData->Bool
 | .int _=>true
 | _=>false
noncomputable def Z0:PyData->Bool
 | .int i=>decide (-999999999999 <= i) && decide (i <= 999999999999)
 | _=>false
noncomputable def Lz:PyData->Bool
 | .tuple [a,b]=>J1 a && J1 b
 | _=>false
noncomputable def Vn:PyData->Bool
 | .tuple [a,b]=>Z0 a && Z0 b
 | _=>false
noncomputable def WT:PyData->Bool
 | .tuple [a,b]=>Vn a && (Vn b && okB (toB (.tuple [a,b])))
 | _=>false
noncomputable def chB:List B4->Bool
 | a :: b :: l=>decide (Qb a b <= 1) && chB (b :: l)
 | _=>true
noncomputable def Jv:PyData->Bool
 | .tuple ds=>(decide (1 <= ds.length) && decide (ds.length <= 6)) && (ds.all WT && chB (ds.map toB))
 | _=>false
noncomputable def Zbo (c:Nat):Bool:=decide (97 <= c) && decide (c <= 122)
noncomputable def Qn:PyData->Bool
 | .str s=>(decide (1 <= s.length) && decide (s.length <= 8)) && s.cps.toList.all Zbo
 | _=>false
noncomputable def Kp:PyData->Bool
 | .str s=>decide (s.length <= 1000)
 | _=>true
noncomputable def VI:PyData->Bool
 | .int i=>decide (0 <= i) && decide (i <= 1000000000000)
 | _=>false
noncomputable def G6:PyData->Bool
 | .int i=>decide (0 <= i) && decide (i <= 999999999999)
 | _=>false
noncomputable def RG:List PyData->Bool
 | [o,s,v]=>(isS o (Str.ofString "") || Qn o) && (Jv s && G6 v)
 | _=>false
noncomputable def SI:List PyData->Bool
 | [s]=>Vn s
 | _=>false
noncomputable def JG (k:PyData) (l:List PyData):Bool:=
 if isS k (Str.ofString "land") = true then RG l else if isS k (Str.ofString "spot") = true then SI l else l.isEmpty && (isS k (Str.ofString "drop") || isS k (Str.ofString "free"))
noncomputable def Z9:PyData->Bool
 | .tuple (k :: t :: n :: l)=>VI t && (Qn n && JG k l)
 | _=>false
noncomputable def Za2:PyData->Bool
 | .tuple ds=>ds.all Kp
 | _=>true
def spW:DSp:=λ xs M Φ=>on1 xs λ x=>onD x λ d=>Φ (.dat (.bool (J1 d))) M
def ZdK:DSp:=λ xs M Φ=>on1 xs λ x=>onD x λ d=>Φ (.dat (.bool (Z0 d))) M
def Zdr:DSp:=λ xs M Φ=>on1 xs λ x=>onD x λ d=>Φ (.dat (.bool (Lz d))) M
def Zdz:DSp:=λ xs M Φ=>on1 xs λ x=>onD x λ d=>Φ (.dat (.bool (Vn d))) M
def Zdt:DSp:=λ xs M Φ=>on1 xs λ x=>onD x λ d=>Φ (.dat (.bool (WT d))) M
def NR:DSp:=λ xs M Φ=>on1 xs λ x=>onD x λ d=>Φ (.dat (.bool (Jv d))) M
def spT:DSp:=λ xs M Φ=>on1 xs λ x=>onD x λ d=>Φ (.dat (.bool (VI d))) M
def Zbz:DSp:=λ xs M Φ=>on1 xs λ x=>onD x λ d=>Φ (.dat (.bool (G6 d))) M
def spN:DSp:=λ xs M Φ=>on1 xs λ x=>onD x λ d=>Kp d = true /\ Φ (.dat (.bool (Qn d))) M
def Zdo:DSp:=λ xs M Φ=>on1 xs λ x=>onD x λ d=>Kp d = true /\ Φ (.dat (.bool (isS d (Str.ofString "") || Qn d))) M
def S7:DSp:=λ xs M Φ=>on1 xs λ x=>onD x λ d=>Za2 d = true /\ Φ (.dat (.bool (Z9 d))) M
def ZbN:DSp:=λ xs M Φ=>on1 xs λ x=>onX x λ b=>Φ (.dat (.bool (okB b))) M
def Zck:DSp:=λ xs M Φ=>on3 xs λ x y z=>onX x λ a=>onX y λ b=>onI z λ i=>(i = 0 \/ i = 1) /\ Φ (.dat (.int (if i = 0 then gp a.x a.X b.x b.X else gp a.y a.Y b.y b.Y))) M
def CS:DSp:=λ xs M Φ=>on2 xs λ x y=>onX x λ a=>onX y λ b=>Φ (.dat (.int (Qb a b))) M
def Nl:DSp:=λ xs M Φ=>on1 xs λ x=>ZaH x λ bs=>bs.length <= 6 /\ Φ (.dat (.bool (chB bs))) M
section
variable {base:Heap}
def Zbp (o:OO):Prop:=∃ (ns:List Int) (i b:Int),0 <= i /\ o = .lst [.list (ns.map PyData.int),.int i,.int b]
def Pen (M:Mp) (p:Addr):Prop:=∃ o,Zbp o /\ M p = some o
theorem Pen.Zu (h:Zbp o):Pen (Zu M p o) p:=⟨o,h,Zv⟩
theorem Pen.ne (h:Pen M p) (hq:M q = none):p ≠ q:=λ e=>by
 obtain ⟨o,_,ho⟩:=h;rw [e,hq] at ho;cases ho
theorem Pen.put (h:Pen M p) (hq:p ≠ q):Pen (DL.Zu M q o) p:=by
 obtain ⟨o',h1,h2⟩:=h;exact ⟨o',h1,by rw [ZT hq]; exact h2⟩
theorem Pen.del (h:Pen M p) (hq:p ≠ q):Pen (DL.Jj M q) p:=by
 obtain ⟨o',h1,h2⟩:=h;exact ⟨o',h1,by rw [Yy hq]; exact h2⟩
def Zcy (x:DV) (P:List Int->Prop):Prop:=∃ ns,x = .dat (.list (ns.map PyData.int)) /\ P ns
theorem Vh:∀ {as bs:List Int},as.map PyData.int = bs.map PyData.int->as = bs
 | [],[],_=>rfl
 | [],_ :: _,h=>by simp at h
 | _ :: _,[],h=>by simp at h
 | a :: as,b :: bs,h=>by
  rw [List.map_cons,List.map_cons,List.cons.injEq,PyData.int.injEq] at h;rw [h.1,Vh h.2]
theorem Nc (bs:List Int) (P:List Int->Prop):Zcy (.dat (.list (bs.map PyData.int))) P = P bs:=propext ⟨λ ⟨cs,e,h⟩=>by
 rw [DV.dat.injEq,PyData.list.injEq] at e;rw [Vh e]
 exact h,λ h=>⟨bs,rfl,h⟩⟩
theorem tab {l:List Int} {r:Int} (P:Int->Prop) (h0:0 <= r) (h1:r < l.length) (hl:∀ w ∈ l,P w) {Q:PyData->Prop} (k:∀ w,P w->Q (.int w)):Ke (l.map PyData.int) r Q:=by
 obtain ⟨w,hw,e⟩:=Ox h0 h1;exact QF e (k w (hl w hw))
def Fr (p:Addr) (M M':Mp):Prop:=Pen M' p /\ ∀ a,a ≠ p->M a ≠ none->M' a = M a
theorem Fr.refl (h:Pen M p):Fr p M M:=⟨h,λ _ _ _=>rfl⟩
theorem Fr.trans {M1 M2:Mp} (h:Fr p M M1) (k:Fr p M1 M2):Fr p M M2:=⟨k.1,λ a ha hn=>by
 have e:=h.2 a ha hn;rw [<- e]
 exact k.2 a ha (by rw [e]; exact hn)⟩
theorem Fr.Zu (h:Zbp o):Fr p M (Zu M p o):=⟨Pen.Zu h,λ a ha _=>ZT ha⟩
theorem Fr.own (h:Fr p M M') (hq:M q = some o) (hne:q ≠ p):M' q = some o:=by
 rw [h.2 q hne (by rw [hq]; exact Option.some_ne_none _)];exact hq
theorem Fr.new (h:Fr p M M') (hq:M q = none) (hne:q ≠ p):Fr p M (DL.Zu M' q o):=⟨h.1.put (Ne.symm hne),λ a ha hn=>by
 rw [ZT (λ e=>hn (by rw [e]; exact hq))]
 exact h.2 a ha hn⟩
def LH:DSp:=λ xs M Φ=>on2 xs λ x y=>onO x λ p=>onI y λ m=>(0 < m /\ m < 10 ^ 60) /\ Pen M p /\ ∀ r M',0 <= r->r < m->Fr p M M'->Φ (.dat (.int r)) M'
theorem Eh:type_of% @LH.eq_1:=λ _ _ _=>qI
theorem Pen.get (h:Pen M p):∃ (ns:List Int) (i b:Int),0 <= i /\ M p = some (.lst [.list (ns.map PyData.int),.int i,.int b]):=by
 obtain ⟨o,⟨ns,i,b,hi,eo⟩,hp⟩:=h;exact ⟨ns,i,b,hi,by rw [hp,eo]⟩
def H4:DSp:=λ xs M Φ=>on2 xs λ x y=>onO x λ p=>onI y λ m=>(0 < m /\ m < 10 ^ 60) /\ Pen M p /\ ∀ r M',0 <= r->r < m->Fr p M M'->Φ (.dat (.int r)) M'
theorem HC:type_of% @H4.eq_1:=λ _ _ _=>qI
def Z2 (s:Str):Prop:=(1 <= s.length /\ s.length <= 8) /\ ∀ c ∈ s.cps.toList,97 <= c /\ c <= 122
def Nml (n:Nat) (ss:List Str):Prop:=(1 <= ss.length /\ ss.length <= n) /\ ∀ s ∈ ss,Z2 s
def Grb (n:Int) (b:B4):Prop:=(b.x <= b.X /\ b.y <= b.Y) /\ (-(4 * n) <= b.x /\ b.X <= 15 + 4 * n) /\ (-(4 * n) <= b.y /\ b.Y <= 15 + 4 * n)
def Grd (bs:List B4):Prop:=(1 <= bs.length /\ bs.length <= 6) /\ chB bs = true /\ ∀ b ∈ bs,Grb 5 b
def Frm (f ox oy:Int):Prop:=(1 <= f /\ f <= 10000000000) /\ (-100000000000 <= ox /\ ox <= 100000000000) /\ (-100000000000 <= oy /\ oy <= 100000000000)
noncomputable def OL (f ox oy bg sp:Int) (ts ls:List Str):OO:=.dkv [(.inr (Str.ofString "by"),.int f),(.inr (Str.ofString "off"),.tuple [.int ox,.int oy]),(.inr (Str.ofString "begin"),.int bg),(.inr (Str.ofString "span"),.int sp),(.inr (Str.ofString "things"),.list (ts.map PyData.str)),(.inr (Str.ofString "lands"),.list (ls.map PyData.str))]
def Wd (M:Mp) (q:Addr):Prop:=∃ f ox oy bg sp ts ls,M q = some (OL f ox oy bg sp ts ls) /\ Frm f ox oy /\ (0 <= bg /\ bg <= 999999999992) /\ (1 <= sp /\ sp <= 9) /\ Nml 4 ts /\ Nml 5 ls
theorem Wd.fr (h:Wd M q) (k:Fr p M M') (hne:q ≠ p):Wd M' q:=by
 obtain ⟨f,ox,oy,bg,sp,ts,ls,hq,hh⟩:=h;exact ⟨f,ox,oy,bg,sp,ts,ls,k.own hq hne,hh⟩
def Sh (x:Int):Prop:=-999999999999 <= x /\ x <= 999999999999
def Gr:DSp:=λ xs M Φ=>on2 xs λ x y=>onO x λ p=>onI y λ m=>(1 <= m /\ m <= 8) /\ Pen M p /\ ∀ (ss:List Str) (M':Mp),ss.length = m.toNat->(∀ s ∈ ss,Z2 s)->Fr p M M'->Φ (.dat (.list (ss.map PyData.str))) M'
theorem G7:type_of% @Gr.eq_1:=λ _ _ _=>qI
def Gv:DSp:=λ xs M Φ=>on2 xs λ x y=>onO x λ p=>onI y λ m=>(1 <= m /\ m <= 6) /\ Pen M p /\ ∀ bs M',Grd bs->Fr p M M'->Φ (.dat (.list (bs.map bD))) M'
theorem Bj:type_of% @Gv.eq_1:=λ _ _ _=>qI
def Vt:DSp:=λ xs M Φ=>on3 xs λ x y z=>ZaJ x λ bs=>onI y λ f=>onP z λ ox oy=>Grd bs /\ Φ (.dat (.tuple ((bs.map (Y5 f ox oy)).map bD))) M
theorem Yq:type_of% @Vt.eq_1:=λ _ _ _=>qI
def Xd:DSp:=λ xs M Φ=>on1 xs λ x=>onO x λ p=>Pen M p /\ ∀ f ox oy M',Frm f ox oy->Fr p M M'->Φ (.dat (.tuple [.int f,.tuple [.int ox,.int oy]])) M'
theorem KH:type_of% @Xd.eq_1:=λ _ _ _=>qI
def B7:DSp:=λ xs M Φ=>on1 xs λ x=>onO x λ p=>Pen M p /\ ∀ q M',Wd M' q->q ≠ p->Fr p M M'->Φ (.own q) M'
theorem BF:type_of% @B7.eq_1:=λ _ _ _=>qI
def Lw:DSp:=λ xs M Φ=>on2 xs λ x y=>onO x λ p=>onO y λ q=>Wd M q /\ q ≠ p /\ Pen M p /\ ∀ u v M',Sh u->Sh v->Fr p M M'->Φ (.dat (.tuple [.int u,.int v])) M'
theorem Ef:type_of% @Lw.eq_1:=λ _ _ _=>qI
noncomputable def RX (t:Int) (nm ou:Str) (bs:List B4) (wb:Int):PyData:=.tuple [.str (Str.ofString "land"),.int t,.str nm,.str ou,.tuple (bs.map bD),.int wb]
def LK:DSp:=λ xs M Φ=>on3 xs λ x y z=>onO x λ p=>onO y λ q=>onI z λ t=>Wd M q /\ q ≠ p /\ Pen M p /\
 ∀ nm ou bs f ox oy wb M',Z2 nm->(ou = Str.ofString "" \/ Z2 ou)->Grd bs->Frm f ox oy->(0 <= wb /\ wb <= 30000000000)->Fr p M M'->Φ (.dat (RX t nm ou (bs.map (Y5 f ox oy)) wb)) M'
theorem Hv:type_of% @LK.eq_1:=λ _ _ _=>qI
theorem Z2.is {s:Str} (h:Z2 s):Qn (.str s) = true:=by
 show ((decide (1 <= s.length) && decide (s.length <= 8)) && s.cps.toList.all Zbo) = true;rw [decide_eq_true h.1.1,decide_eq_true h.1.2];exact List.all_eq_true.mpr λ c hc=>by unfold Zbo; rw [decide_eq_true (h.2 c hc).1,decide_eq_true (h.2 c hc).2]; rfl
def ZaC (s:Str):Prop:=∃ c,s = ⟨#[c]⟩ /\ 97 <= c /\ c <= 122
theorem abc:(Str.ofString "abcdefghijklmnopqrstuvwxyz").cps.toList = (List.range 26).map λ k=>97 + k:=by walk_at "k"
theorem GU:(Str.ofString "abcdefghijklmnopqrstuvwxyz").length = 26:=by walk_at "k"
theorem LB {i:Int} (h0:0 <= i) (h1:i < 26):∃ c,L2.atI (Str.ofString "abcdefghijklmnopqrstuvwxyz").cps.toList i = some c /\ 97 <= c /\ c <= 122:=by
 obtain ⟨k,rfl⟩:=Int.eq_ofNat_of_zero_le h0;refine ⟨97 + k,?_,by lia,by lia⟩;rw [abc];refine JE ?_;rw [List.getElem?_map,List.getElem?_range (by lia)];rfl
theorem XU:∀ {ss:List Str},(∀ s ∈ ss,ZaC s)->((ss.map (·.cps.toList)).flatten).length = ss.length /\ ∀ c ∈ (ss.map (·.cps.toList)).flatten,97 <= c /\ c <= 122
 | [],_=>⟨rfl,λ c hc=>(nomatch hc)⟩
 | s :: ss,h=>by
  obtain ⟨c,rfl,hc⟩:=h s List.mem_cons_self;obtain ⟨i1,i2⟩:=XU λ t ht=>h t (List.mem_cons_of_mem _ ht);rw [List.map_cons,List.flatten_cons,W6];refine ⟨by rw [List.length_append,i1,List.length_cons]; simp; lia,λ d hd=>?_⟩
  rcases List.mem_append.mp hd with hd | hd
  ·rw [List.mem_singleton.mp hd];exact hc
  ·exact i2 d hd
theorem Cj {ss:List Str} (h8:ss.length = 8) (h:∀ s ∈ ss,ZaC s):(Txt.join (Str.ofString "") ss).length = 8 /\ ∀ c ∈ (Txt.join (Str.ofString "") ss).cps.toList,97 <= c /\ c <= 122:=by
 obtain ⟨i1,i2⟩:=XU h;rw [<- str_len,DL.join_list];exact ⟨by lia,i2⟩
theorem tabS {l:List Str} {r:Int} (P:Str->Prop) (h0:0 <= r) (h1:r < l.length) (hl:∀ s ∈ l,P s) {Q:PyData->Prop} (k:∀ s,P s->Q (.str s)):Ke (l.map PyData.str) r Q:=by
 obtain ⟨n,rfl⟩:=Int.eq_ofNat_of_zero_le h0;have hn:n < l.length:=by lia
 refine QF (d:=.str l[n]) (JE (by rw [List.getElem?_map,List.getElem?_eq_getElem hn]; rfl)) (k _ (hl _ (List.getElem_mem hn)))
theorem Dh:∀ s ∈ (["land", "drop", "free", "spot", "comes", "goes", "in", "out", "stays", "wait", "none", "a", "z"]:List Str),Z2 s:=by
 unfold Z2
 decide +kernel
def Nms (i:Nat) (acc:List PyData):Prop:=∃ ss:List Str,acc = ss.map PyData.str /\ ss.length = i /\ ∀ s ∈ ss,Z2 s
theorem Nms.snoc {acc:List PyData} {s:Str} (h:Nms i acc) (hs:Z2 s):Nms (i + 1) (acc ++ [.str s]):=by
 obtain ⟨ss,rfl,hl,ha⟩:=h;refine ⟨ss ++ [s],by rw [List.map_append]; rfl,by rw [List.length_append,hl]; rfl,λ t ht=>?_⟩
 rcases List.mem_append.mp ht with ht | ht
 ·exact ha t ht
 ·rw [List.mem_singleton.mp ht];exact hs
theorem Fr.fresh (h:Fr p M M') (hq:M' q = none):M q = none:=by
 cases e:M q with
 | none=>rfl
 | some o=>
  have hn:q ≠ p:=Ne.symm (h.1.ne hq);rw [h.own e hn] at hq;cases hq
theorem Fr.gone (h:Fr p M M') (hq:M q = none) (hne:q ≠ p):Fr p M (DL.Jj M' q):=⟨h.1.del (Ne.symm hne),λ a ha hn=>by
 rw [Yy (λ e=>hn (by rw [e]; exact hq))]
 exact h.2 a ha hn⟩
theorem WV:∀ (l:List B4) (b c:B4),chB (l ++ [b,c]) = (chB (l ++ [b]) && decide (Qb b c <= 1))
 | [],b,c=>by
  show (decide (Qb b c <= 1) && true) = (true && decide (Qb b c <= 1))
  rw [Bool.and_true,Bool.true_and]
 | [a],b,c=>by
  show (decide (Qb a b <= 1) && (decide (Qb b c <= 1) && true)) = ((decide (Qb a b <= 1) && true) && decide (Qb b c <= 1))
  rw [Bool.and_true,Bool.and_true]
 | a :: a' :: l,b,c=>by
  have ih:=WV (a' :: l) b c;show (decide (Qb a a' <= 1) && chB (a' :: l ++ [b,c])) = ((decide (Qb a a' <= 1) && chB (a' :: l ++ [b])) && decide (Qb b c <= 1))
  rw [ih,Bool.and_assoc]
theorem MJ {a b a' b':Int} (h1:a' - b <= 1) (h2:a - b' <= 1):gp a b a' b' <= 1:=by
 unfold gp;lia
theorem DY {a b:B4} (h1:b.x - a.X <= 1) (h2:a.x - b.X <= 1) (h3:b.y - a.Y <= 1) (h4:a.y - b.Y <= 1):Qb a b <= 1:=Int.max_le.mpr ⟨MJ h1 h2,MJ h3 h4⟩
theorem U0 (k:Key) (d:PyData) (ps:List (Key × PyData)):Qx ((k,d) :: ps) k = some d:=by
 unfold Qx;rw [List.find?_cons_of_pos (by simp)];rfl
theorem Jo {k k':Key} (d:PyData) (ps:List (Key × PyData)) (h:k' ≠ k):Qx ((k',d) :: ps) k = Qx ps k:=by
 unfold Qx;rw [List.find?_cons_of_neg (by simpa using h)]
theorem JI {ps:List (Key × PyData)} {k:Key} (e:Qx ps k = some d) (Q:PyData->Prop):(Ga (some (.dkv ps)) λ ps=>∃ d,Qx ps k = some d /\ Q d) = Q d:=propext ⟨λ ⟨d',e',h⟩=>by
 rw [e,Option.some.injEq] at e';rw [e']
 exact h,λ h=>⟨d,e,h⟩⟩
theorem ZcG (f ox oy bg sp:Int) (ts ls:List Str) (Q:PyData->Prop):(Ga (some (OL f ox oy bg sp ts ls)) λ ps=>∃ d,Qx ps (.inr (Str.ofString "by")) = some d /\ Q d) = Q (.int f):=JI (U0 _ _ _) Q
theorem Pe (f ox oy bg sp:Int) (ts ls:List Str) (Q:PyData->Prop):(Ga (some (OL f ox oy bg sp ts ls)) λ ps=>∃ d,Qx ps (.inr (Str.ofString "off")) = some d /\ Q d) = Q (.tuple [.int ox,.int oy]):=JI ((Jo _ _ (by walk_at "k")).trans (U0 _ _ _)) Q
theorem N3 (f ox oy bg sp:Int) (ts ls:List Str) (Q:PyData->Prop):(Ga (some (OL f ox oy bg sp ts ls)) λ ps=>∃ d,Qx ps (.inr (Str.ofString "begin")) = some d /\ Q d) = Q (.int bg):=JI ((Jo _ _ (by walk_at "k")).trans ((Jo _ _ (by walk_at "k")).trans (U0 _ _ _))) Q
theorem RT (f ox oy bg sp:Int) (ts ls:List Str) (Q:PyData->Prop):(Ga (some (OL f ox oy bg sp ts ls)) λ ps=>∃ d,Qx ps (.inr (Str.ofString "span")) = some d /\ Q d) = Q (.int sp):=JI ((Jo _ _ (by walk_at "k")).trans ((Jo _ _ (by walk_at "k")).trans ((Jo _ _ (by walk_at "k")).trans (U0 _ _ _)))) Q
theorem HA (f ox oy bg sp:Int) (ts ls:List Str) (Q:PyData->Prop):(Ga (some (OL f ox oy bg sp ts ls)) λ ps=>∃ d,Qx ps (.inr (Str.ofString "things")) = some d /\ Q d) = Q (.list (ts.map PyData.str)):=JI ((Jo _ _ (by walk_at "k")).trans ((Jo _ _ (by walk_at "k")).trans ((Jo _ _ (by walk_at "k")).trans ((Jo _ _ (by walk_at "k")).trans (U0 _ _ _))))) Q
theorem GK (f ox oy bg sp:Int) (ts ls:List Str) (Q:PyData->Prop):(Ga (some (OL f ox oy bg sp ts ls)) λ ps=>∃ d,Qx ps (.inr (Str.ofString "lands")) = some d /\ Q d) = Q (.list (ls.map PyData.str)):=JI ((Jo _ _ (by walk_at "k")).trans ((Jo _ _ (by walk_at "k")).trans ((Jo _ _ (by walk_at "k")).trans ((Jo _ _ (by walk_at "k")).trans ((Jo _ _ (by walk_at "k")).trans (U0 _ _ _)))))) Q
theorem K6 {a f lo hi:Int} (h1:lo <= a) (h2:a <= hi) (hf:1 <= f):lo * f <= a * f /\ a * f <= hi * f:=⟨Int.mul_le_mul_of_nonneg_right h1 (by lia),Int.mul_le_mul_of_nonneg_right h2 (by lia)⟩
theorem Lx (n:Nat) (ls:List Str):(List.replicate n [PyData.str (Str.ofString "")]).flatten ++ ls.map PyData.str = (List.replicate n (Str.ofString "") ++ ls).map PyData.str:=by
 rw [List.map_append,List.map_replicate]
 congr 1
 induction n with
 | zero=>rfl
 | succ n ih=>rw [List.replicate_succ,List.flatten_cons,ih]; rfl
theorem SE {x f r2:Int} (h0:0 <= x) (h3:x <= 3) (hf:1 <= f /\ f <= 10000000000) (hr:r2 = 1 \/ r2 = 2):0 <= x * f / r2 /\ x * f / r2 <= 30000000000:=by
 have e:=K6 h0 h3 hf.1
 rcases hr with rfl | rfl <;> lia
structure Pl (k n:Nat) (d:PyData):Prop where
 s:d.showable = true
 nd:d.hasDict = false
 nl:ZO d = false
 dp:d.depth <= k
 z:cost d <= n
structure Pls (k n:Nat) (l:List PyData):Prop where
 s:PyData.showableAll l = true
 nd:PyData.hasDictAll l = false
 nl:Zr l = false
 dp:PyData.depthAll l <= k
 z:Z7 l <= n
structure Od (k n:Nat) (d:PyData):Prop where
 s:d.showable = true
 m:(d.hasDict && ZO d) = false
 dp:d.depth <= k
 z:cost d <= n
theorem Pl.od {k:Nat} (h:Pl k n d):Od k n d:=⟨h.s,by rw [h.nd]; rfl,h.dp,h.z⟩
theorem Od.le {k k' n':Nat} (h:Od k n d) (hk:k <= k') (hn:n <= n'):Od k' n' d:=⟨h.s,h.m,Nat.le_trans h.dp hk,Nat.le_trans h.z hn⟩
theorem Pl.le {k k' n':Nat} (h:Pl k n d) (hk:k <= k') (hn:n <= n'):Pl k' n' d:=⟨h.s,h.nd,h.nl,Nat.le_trans h.dp hk,Nat.le_trans h.z hn⟩
theorem Pls.nil:Pls 0 0 []:=⟨by simp [PyData.showableAll],by simp [PyData.hasDictAll],by simp [Zr],by simp [PyData.depthAll],by simp [Z7]⟩
theorem Pls.cons {k k':Nat} (h:Pl k n d) (t:Pls k' m l):Pls (max k k') (n + 2 + m) (d :: l):=
 ⟨by simp only [PyData.showableAll,h.s,t.s,Bool.and_self],by simp only [PyData.hasDictAll,h.nd,t.nd,Bool.or_self],by simp only [Zr,h.nl,t.nl,Bool.or_self],
  by simp only [PyData.depthAll]; have:=h.dp; have:=t.dp; lia,by simp only [Z7]; have:=h.z; have:=t.z; lia⟩
theorem Pls.le {k k' n':Nat} (h:Pls k n l) (hk:k <= k') (hn:n <= n'):Pls k' n' l:=⟨h.s,h.nd,h.nl,Nat.le_trans h.dp hk,Nat.le_trans h.z hn⟩
theorem Pls.all {k n m:Nat}:∀ {l:List PyData},l.length <= m->(∀ d ∈ l,Pl k n d)->Pls k ((n + 2) * m) l
 | [],_,_=>Pls.nil.le (Nat.zero_le _) (Nat.zero_le _)
 | d :: l,hm,h=>by
  obtain ⟨m,rfl⟩:∃ m',m = m' + 1:=⟨m - 1,by rw [List.length_cons] at hm; lia⟩
  refine (Pls.cons (h d List.mem_cons_self) (Pls.all (m:=m) (by rw [List.length_cons] at hm; lia) λ e he=>h e (List.mem_cons_of_mem _ he))).le (by lia) ?_;rw [Nat.mul_succ];lia
theorem Pls.app {k n m:Nat}:∀ {l l':List PyData},Pls k n l->Pls k m l'->Pls k (n + m) (l ++ l')
 | [],l',_,h=>h.le (Nat.le_refl _) (by lia)
 | d :: l,l',g,h=>by
  have gs:=g.s;have gd:=g.nd;have gl:=g.nl;have gp:=g.dp;have gz:=g.z;simp only [PyData.showableAll,Bool.and_eq_true] at gs;simp only [PyData.hasDictAll,Bool.or_eq_false_iff] at gd;simp only [Zr,Bool.or_eq_false_iff] at gl;simp only [PyData.depthAll] at gp;simp only [Z7] at gz;have t:=Pls.app (k:=k) (l:=l) (n:=n - (cost d + 2)) ⟨gs.2,gd.2,gl.2,by lia,by lia⟩ h;exact (Pls.cons (k:=k) (d:=d) ⟨gs.1,gd.1,gl.1,by lia,Nat.le_refl _⟩ t).le (by lia) (by lia)
theorem Pl.tup {k:Nat} (h:Pls k n l):Pl (k + 1) (n + 3) (.tuple l):=
 ⟨by simp only [PyData.showable.eq_6,h.s],by simp only [PyData.hasDict,h.nd],by simp only [ZO,h.nl],by simp only [PyData.depth]; have:=h.dp; lia,by simp only [cost]; have:=h.z; lia⟩
theorem Od.lst {k:Nat} (h:Pls k n l):Od (k + 1) (n + 2) (.list l):=
 ⟨by simp only [PyData.showable,h.s],by simp only [PyData.hasDict,h.nd]; rfl,by simp only [PyData.depth]; have:=h.dp; lia,by simp only [cost]; have:=h.z; lia⟩
theorem Od.dct:Od 1 2 (.dict []):=⟨by simp [PyData.showable,PyData.showableKv],by simp [ZO,QJ],by simp [PyData.depth,PyData.depthKv],by simp [cost,Yb]⟩
theorem Od.tup {k a b:Nat} {e:PyData}:∀ {l l':List PyData},Pls k a l->Od k n e->Pls k b l'->PyData.showableAll (l ++ e :: l') = true /\ PyData.hasDictAll (l ++ e :: l') = e.hasDict /\ Zr (l ++ e :: l') = ZO e /\ PyData.depthAll (l ++ e :: l') <= k /\ Z7 (l ++ e :: l') <= a + (n + 2 + b)
 | [],l',g,h,g'=>by
  have:=g'.dp;have:=h.dp;have:=g'.z;have:=h.z;refine ⟨?_,?_,?_,?_,?_⟩
  ·simp only [List.nil_append,PyData.showableAll,h.s,g'.s,Bool.and_self]
  ·simp only [List.nil_append,PyData.hasDictAll,g'.nd,Bool.or_false]
  ·simp only [List.nil_append,Zr,g'.nl,Bool.or_false]
  ·simp only [List.nil_append,PyData.depthAll]; lia
  ·simp only [List.nil_append,Z7]; lia
 | d :: l,l',g,h,g'=>by
  have gs:=g.s;have gd:=g.nd;have gl:=g.nl;have gp:=g.dp;have gz:=g.z;simp only [PyData.showableAll,Bool.and_eq_true] at gs;simp only [PyData.hasDictAll,Bool.or_eq_false_iff] at gd;simp only [Zr,Bool.or_eq_false_iff] at gl;simp only [PyData.depthAll] at gp;simp only [Z7] at gz;obtain ⟨t1,t2,t3,t4,t5⟩:=Od.tup (l:=l) (a:=a - (cost d + 2)) ⟨gs.2,gd.2,gl.2,by lia,by lia⟩ h g';refine ⟨?_,?_,?_,?_,?_⟩
  ·simp only [List.cons_append,PyData.showableAll,gs.1,t1,Bool.and_self]
  ·simp only [List.cons_append,PyData.hasDictAll,gd.1,t2,Bool.false_or]
  ·simp only [List.cons_append,Zr,gl.1,t3,Bool.false_or]
  ·simp only [List.cons_append,PyData.depthAll]; lia
  ·simp only [List.cons_append,Z7]; lia
theorem Od.put {k a b:Nat} {e:PyData} {l':List PyData} (g:Pls k a l) (h:Od k n e) (g':Pls k b l'):Od (k + 1) (a + (n + 2 + b) + 3) (.tuple (l ++ e :: l')):=by
 obtain ⟨t1,t2,t3,t4,t5⟩:=Od.tup g h g';exact ⟨by simp only [PyData.showable.eq_6,t1],by simp only [PyData.hasDict,ZO,t2,t3,h.m],by simp only [PyData.depth]; lia,by simp only [cost]; lia⟩
theorem Zao {i:Int} (h:-(10 ^ 60) <= i /\ i <= 10 ^ 60):Pl 0 1921 (.int i):=⟨Mid.show ⟨by lia,by lia⟩,by simp [PyData.hasDict],by simp [ZO],by simp [PyData.depth],by simp [cost]⟩
theorem ZcU {s:Str} (h:∀ c ∈ s.cps.toList,c < 16 ^ 8) (hn:s.length <= n):Pl 0 (10 * n + 2) (.str s):=⟨by simp [PyData.showable],by simp [PyData.hasDict],by simp [ZO],by simp [PyData.depth],by
 simp only [cost];have:=StrLaws.reprText_len s h
 lia⟩
theorem DZ (t:String):∀ c ∈ (Str.ofString t).cps.toList,c < 16 ^ 8:=by
 intro c hc;rw [PySem.Str.ofString_eq_toList] at hc;simp at hc;obtain ⟨a,_,rfl⟩:=hc;have h:=a.valid;show a.val.toNat < 16 ^ 8;unfold UInt32.isValidChar Nat.isValidChar at h;lia
theorem Ei (t:String) (hn:(Str.ofString t).length <= n):Pl 0 (10 * n + 2) (.str (Str.ofString t)):=ZcU (DZ t) hn
theorem pNm {s:Str} (h:Z2 s):Pl 0 82 (.str s):=ZcU (n:=8) (λ c hc=>by have:=h.2 c hc; lia) h.1.2
theorem fn {Q:PyData->Prop}:∀ d ∈ ([]:List PyData),Q d:=λ _ h=>(nomatch h)
structure Thg (d:PyData):Prop where
 t:Kp d = true
 o:Od 20 90000 d
theorem Od.th {k:Nat} (h:Od k n d) (t:Kp d = true) (hk:autoParam (k <= 20) zz1._auto_1) (hn:autoParam (n <= 90000) zz1._auto_1):Thg d:=⟨t,h.le hk hn⟩
theorem Pl.th {k:Nat} (h:Pl k n d) (t:Kp d = true) (hk:autoParam (k <= 20) zz1._auto_1) (hn:autoParam (n <= 90000) zz1._auto_1):Thg d:=h.od.th t hk hn
def Sb (bs:List B4):Prop:=(1 <= bs.length /\ bs.length <= 6) /\ chB bs = true /\ ∀ b ∈ bs,okB b = true /\ (Sh b.x /\ Sh b.y) /\ (Sh b.X /\ Sh b.Y)
def Sj (w:Str) (l:List PyData):Prop:=w = Str.ofString "land" /\ ∃ (ou:Str) (bs:List B4) (wb:Int),l = [.str ou,.tuple (bs.map bD),.int wb] /\ (ou = Str.ofString "" \/ Z2 ou) /\ Sb bs /\ (0 <= wb /\ wb <= 30000000000)
def RB (w:Str) (l:List PyData):Prop:=w = Str.ofString "spot" /\ ∃ u v:Int,l = [.tuple [.int u,.int v]] /\ Sh u /\ Sh v
def Su (w:Str) (l:List PyData):Prop:=(w = Str.ofString "drop" \/ w = Str.ofString "free") /\ l = []
def Tel (ds:List PyData):Prop:=∃ (w:Str) (t:Int) (nm:Str) (l:List PyData),ds = .str w :: .int t :: .str nm :: l /\ (0 <= t /\ t <= 1000000000000) /\ Z2 nm /\ (Sj w l \/ RB w l \/ Su w l)
def Gw (M M':Mp):Prop:=∀ a,M a ≠ none->M' a = M a
theorem Gw.refl:Gw M M:=λ _ _=>rfl
theorem Gw.trans {M1 M2:Mp} (h:Gw M M1) (k:Gw M1 M2):Gw M M2:=λ a ha=>by
 rw [k a (by rw [h a ha]; exact ha),h a ha]
theorem Gw.new (h:Gw M M') (hq:M' q = none):Gw M (Zu M' q o):=λ a ha=>by
 have e:=h a ha;rw [ZT (λ z=>ha (by rw [<- e,z]; exact hq)),e]
theorem Gw.wd (h:Gw M M') (hw:Wd M q):Wd M' q:=by
 obtain ⟨f,ox,oy,bg,sp,ts,ls,hq,hh⟩:=hw;exact ⟨f,ox,oy,bg,sp,ts,ls,by rw [h q (by rw [hq]; exact Option.some_ne_none _)]; exact hq,hh⟩
def Knd (w:Str) (l:List PyData):Prop:=Sj w l \/ RB w l \/ Su w l
theorem Zcu:isS (.str (Str.ofString "spot")) (Str.ofString "spot") = true:=by walk_at "k"
theorem ZbB:isS (.str (Str.ofString "land")) (Str.ofString "spot") = false /\ isS (.str (Str.ofString "land")) (Str.ofString "drop") = false /\ isS (.str (Str.ofString "land")) (Str.ofString "free") = false:=by walk_at "k"
theorem ZcE:isS (.str (Str.ofString "spot")) (Str.ofString "drop") = false /\ isS (.str (Str.ofString "spot")) (Str.ofString "free") = false:=by walk_at "k"
theorem Zcd:isS (.str (Str.ofString "drop")) (Str.ofString "drop") = true /\ isS (.str (Str.ofString "free")) (Str.ofString "drop") = false /\ isS (.str (Str.ofString "free")) (Str.ofString "free") = true:=by walk_at "k"
theorem Lb {a b a' b' f o:Int} (hf:1 <= f) (h:gp a b a' b' <= 1):gp (a * f + o) (b * f + f - 1 + o) (a' * f + o) (b' * f + f - 1 + o) <= 1:=by
 have h1:a' - b <= 1:=by unfold gp at h; lia
 have h2:a - b' <= 1:=by unfold gp at h; lia
 have e1:a' * f <= (b + 1) * f:=Int.mul_le_mul_of_nonneg_right (by lia) (by lia);have e2:a * f <= (b' + 1) * f:=Int.mul_le_mul_of_nonneg_right (by lia) (by lia);rw [Int.add_mul,Int.one_mul] at e1 e2;exact MJ (by lia) (by lia)
theorem LS {f ox oy:Int} (hf:1 <= f):∀ bs:List B4,chB bs = true->chB (bs.map (Y5 f ox oy)) = true
 | [],_=>rfl
 | [_],_=>rfl
 | a :: b :: l,h=>by
  have h':decide (Qb a b <= 1) = true /\ chB (b :: l) = true:=Bool.and_eq_true_iff.mp h;show (decide (Qb (Y5 f ox oy a) (Y5 f ox oy b) <= 1) && chB ((b :: l).map (Y5 f ox oy))) = true;rw [LS hf (b :: l) h'.2];have k:=Int.max_le.mp (of_decide_eq_true h'.1);rw [decide_eq_true (show Qb (Y5 f ox oy a) (Y5 f ox oy b) <= 1 from Int.max_le.mpr ⟨Lb hf k.1,Lb hf k.2⟩)];rfl
theorem KA {bs:List B4} {f ox oy:Int} (h:Grd bs) (hf:Frm f ox oy):Sb (bs.map (Y5 f ox oy)):=by
 obtain ⟨⟨f1,f2⟩,hx,hy⟩:=hf;refine ⟨by rw [List.length_map]; exact h.1,LS f1 bs h.2.1,λ c hc=>?_⟩;obtain ⟨b,hb,rfl⟩:=List.mem_map.mp hc;obtain ⟨⟨g1,g2⟩,⟨g3,g4⟩,g5,g6⟩:=h.2.2 b hb;have a1:=K6 (a:=b.x) (lo:=-20) (hi:=35) (by lia) (by lia) f1;have a2:=K6 (a:=b.y) (lo:=-20) (hi:=35) (by lia) (by lia) f1;have a3:=K6 (a:=b.X) (lo:=-20) (hi:=35) (by lia) (by lia) f1;have a4:=K6 (a:=b.Y) (lo:=-20) (hi:=35) (by lia) (by lia) f1;have c1:b.x * f <= b.X * f:=Int.mul_le_mul_of_nonneg_right g1 (by lia);have c2:b.y * f <= b.Y * f:=Int.mul_le_mul_of_nonneg_right g2 (by lia);unfold Y5 okB Sh;dsimp only;refine ⟨?_,⟨⟨by lia,by lia⟩,by lia,by lia⟩,⟨by lia,by lia⟩,by lia,by lia⟩;rw [decide_eq_true (show b.x * f + ox <= b.X * f + f - 1 + ox by lia),decide_eq_true (show b.y * f + oy <= b.Y * f + f - 1 + oy by lia)];rfl
theorem Wd.put {g:Addr} (h:Wd M q) (hq:q ≠ g):Wd (DL.Zu M g o) q:=by
 obtain ⟨f,ox,oy,bg,sp,ts,ls,h1,hh⟩:=h;exact ⟨f,ox,oy,bg,sp,ts,ls,by rw [ZT hq]; exact h1,hh⟩
theorem Wd.del {g:Addr} (h:Wd M q) (hq:q ≠ g):Wd (DL.Jj M g) q:=by
 obtain ⟨f,ox,oy,bg,sp,ts,ls,h1,hh⟩:=h;exact ⟨f,ox,oy,bg,sp,ts,ls,by rw [Yy hq]; exact h1,hh⟩
def XR:DSp:=λ xs M Φ=>on2 xs λ x y=>onO x λ p=>onO y λ q=>Wd M q /\ q ≠ p /\ Pen M p /\ ∀ D M',Tel D->Fr p M M'->Φ (.dat (.tuple D)) M'
theorem Ku:type_of% @XR.eq_1:=λ _ _ _=>qI
inductive Tl where
 | land (t:Int) (nm ou:Str) (bs:List B4) (wb:Int)
 | spot (t:Int) (nm:Str) (u v:Int)
 | off (w:Str) (t:Int) (nm:Str)
noncomputable def tlD:Tl->PyData
 | .land t nm ou bs wb=>.tuple [.str (Str.ofString "land"),.int t,.str nm,.str ou,.tuple (bs.map bD),.int wb]
 | .spot t nm u v=>.tuple [.str (Str.ofString "spot"),.int t,.str nm,.tuple [.int u,.int v]]
 | .off w t nm=>.tuple [.str w,.int t,.str nm]
def ZbG (t:Int) (nm:Str):Prop:=(0 <= t /\ t <= 1000000000000) /\ Z2 nm
def ZbQ:Tl->Prop
 | .land t nm ou bs wb=>ZbG t nm /\ (ou = Str.ofString "" \/ Z2 ou) /\ Sb bs /\ (0 <= wb /\ wb <= 30000000000)
 | .spot t nm u v=>ZbG t nm /\ Sh u /\ Sh v
 | .off w t nm=>ZbG t nm /\ (w = Str.ofString "drop" \/ w = Str.ofString "free")
theorem Tz {D:List PyData} (h:Tel D):∃ x,ZbQ x /\ .tuple D = tlD x:=by
 obtain ⟨w,t,nm,l,rfl,ht,hn,⟨rfl,ou,bs,wb,rfl,ho,hs,hw⟩ | ⟨rfl,u,v,rfl,hu,hv⟩ | ⟨hw,rfl⟩⟩:=h
 ·exact ⟨.land t nm ou bs wb,⟨⟨ht,hn⟩,ho,hs,hw⟩,rfl⟩
 ·exact ⟨.spot t nm u v,⟨⟨ht,hn⟩,hu,hv⟩,rfl⟩
 ·exact ⟨.off w t nm,⟨⟨ht,hn⟩,hw⟩,rfl⟩
theorem VJ {α:Type} {P:α->Prop} {a b:α} (ha:P a) (hb:P b):∀ p ∈ [a,b],P p:=λ p hp=>by
 rcases List.mem_cons.mp hp with rfl | hp
 ·exact ha
 ·rw [List.mem_singleton.mp hp];exact hb
def LQ (x:DV) (P:Tl->Prop):Prop:=∃ t,x = .dat (tlD t) /\ P t
def U8 (x:DV) (P:List Tl->Prop):Prop:=∃ ts:List Tl,x = .dat (.list (ts.map tlD)) /\ P ts
theorem YS:∀ {l:List PyData} {n:Nat},(∀ d ∈ l,d.canLay0 = true /\ d.depth <= n)->PyData.canLayAll0 l = true /\ PyData.depthAll l <= n
 | [],_,_=>by simp [PyData.canLayAll0,PyData.depthAll]
 | d :: l,n,h=>by
  have h1:=h d (.head _);have h2:=YS (l:=l) (n:=n) λ d hd=>h d (.tail _ hd);rw [PyData.canLayAll0,PyData.depthAll,h1.1,h2.1];exact ⟨rfl,by have:=h1.2; have:=h2.2; lia⟩
theorem JH (h:∀ d ∈ l,d.canLay0 = true /\ d.depth <= n):(PyData.tuple l).canLay0 = true /\ (PyData.tuple l).depth <= n + 1:=by
 obtain ⟨a,b⟩:=YS h;rw [PyData.canLay0,PyData.depth];exact ⟨a,by lia⟩
theorem J7 {s:Str} (h:Z2 s):(PyData.str s).canLay0 = true:=by
 show s.cps.all (λ c=>decide (c < 0x110000)) = true;rw [<- Array.all_toList];exact List.all_eq_true.mpr λ c hc=>decide_eq_true (by have:=h.2 c hc; lia)
theorem JD (i:Int) (n:Nat):(PyData.int i).canLay0 = true /\ (PyData.int i).depth <= n:=by simp [PyData.canLay0,PyData.depth]
theorem WJ (u v:Int):(PyData.tuple [.int u,.int v]).canLay0 = true /\ (PyData.tuple [.int u,.int v]).depth <= 1:=JH (n:=0) (VJ (JD u 0) (JD v 0))
noncomputable def wdT:Tl->Str
 | .land _ _ _ _ _=>Str.ofString "land"
 | .spot _ _ _ _=>Str.ofString "spot"
 | .off w _ _=>w
noncomputable def tmT:Tl->Int
 | .land t _ _ _ _=>t
 | .spot t _ _ _=>t
 | .off _ t _=>t
noncomputable def nmT:Tl->Str
 | .land _ n _ _ _=>n
 | .spot _ n _ _=>n
 | .off _ _ n=>n
noncomputable def Vo:Tl->List PyData
 | .land _ _ ou bs wb=>[.str ou,.tuple (bs.map bD),.int wb]
 | .spot _ _ u v=>[.tuple [.int u,.int v]]
 | .off _ _ _=>[]
theorem Z6 (x:Tl):tlD x = .tuple (.str (wdT x) :: .int (tmT x) :: .str (nmT x) :: Vo x):=by cases x <;> rfl
noncomputable def rkW (w:Str):Int:=if w = Str.ofString "free" then 1 else if w = Str.ofString "spot" then 2 else 0
noncomputable def plT (x:Tl):List Key:=[.inl (tmT x),.inl (rkW (wdT x)),.inr (nmT x)]
def ZaO (w:Str):Prop:=w = Str.ofString "land" \/ w = Str.ofString "drop" \/ w = Str.ofString "free" \/ w = Str.ofString "spot"
def TlK:Tl->Prop
 | .off w _ _=>w = Str.ofString "drop" \/ w = Str.ofString "free"
 | _=>True
theorem VE {x:Tl} (h:TlK x):ZaO (wdT x):=by
 cases x with
 | land=>exact .inl rfl
 | spot=>exact .inr (.inr (.inr rfl))
 | off w t n=>exact h.elim (λ e=>.inr (.inl e)) λ e=>.inr (.inr (.inl e))
theorem Q1:∀ l:List PyData,(∀ d ∈ l,pln d = true)->Vs l = true
 | [],_=>by rw [Vs]
 | d :: l,h=>by rw [Vs,h d (.head _),Q1 l λ e he=>h e (.tail _ he)]; rfl
theorem LC (u v:Int):pln (.tuple [.int u,.int v]) = true:=by simp [pln,Vs]
theorem BN (b:B4):pln (bD b) = true:=by simp [bD,pln,Vs]
theorem QA (x:Tl):pln (tlD x) = true:=by
 have hb:∀ bs:List B4,Vs (bs.map bD) = true:=λ bs=>Q1 _ λ d hd=>by
  obtain ⟨b,_,rfl⟩:=List.mem_map.mp hd;exact BN b
 cases x <;> simp [tlD,pln,Vs,hb]
theorem Qo (k:List Key):pln (tkD k) = true:=by
 unfold tkD;rw [pln];refine Q1 _ λ d hd=>?_;obtain ⟨a,_,rfl⟩:=List.mem_map.mp hd;cases a <;> simp [kD,pln]
theorem J2:∀ {a b:List PyData},(∀ x ∈ a,∀ y ∈ b,ZL x y = true)->ZF a b = true
 | [],_,_=>by rw [ZF]; simp
 | _ :: _,[],_=>by rw [ZF]; simp
 | x :: a,y :: b,h=>by
  rw [ZF]
  split
  ·exact J2 λ u hu v hv=>h u (.tail _ hu) v (.tail _ hv)
  ·exact h x (.head _) y (.head _)
theorem ZQ {x y:PyData} {r:List PyData} (px:pln x = true) (py:pln y = true) (h:ZL x y = true) (k:x = y->ZF l r = true):ZF (x :: l) (y :: r) = true:=by
 rw [ZF]
 split
 ·rename_i e;exact k (KY x y px py e)
 ·exact h
theorem Xp (i j:Int):ZL (.int i) (.int j) = true:=by rw [ZL]
theorem WZ (i j:Str):ZL (.str i) (.str j) = true:=by rw [ZL]
theorem Vr {a b:List PyData} (h:ZF a b = true):ZL (.tuple a) (.tuple b) = true:=by rw [ZL]; exact h
theorem WM {a b:List PyData} (ha:∀ x ∈ a,∃ i,x = .int i) (hb:∀ x ∈ b,∃ i,x = .int i):ZL (.tuple a) (.tuple b) = true:=Vr (J2 λ x hx y hy=>by
 obtain ⟨i,rfl⟩:=ha x hx;obtain ⟨j,rfl⟩:=hb y hy
 exact Xp i j)
theorem Yh (u v:Int):∀ x ∈ [PyData.int u,PyData.int v],∃ i,x = .int i:=VJ ⟨u,rfl⟩ ⟨v,rfl⟩
theorem Zat (a b:B4):ZL (bD a) (bD b) = true:=Vr (J2 λ x hx y hy=>by
 have h1:∀ c:B4,∀ x ∈ [PyData.tuple [.int c.x,.int c.y],PyData.tuple [.int c.X,.int c.Y]],∃ u v:Int,x = .tuple [.int u,.int v]:=λ c=>VJ ⟨_,_,rfl⟩ ⟨_,_,rfl⟩;obtain ⟨u,v,rfl⟩:=h1 a x hx;obtain ⟨u',v',rfl⟩:=h1 b y hy
 exact WM (Yh _ _) (Yh _ _))
theorem Be:Str.ofString "land" ≠ Str.ofString "spot" /\ Str.ofString "land" ≠ Str.ofString "drop" /\ Str.ofString "land" ≠ Str.ofString "free" /\ Str.ofString "spot" ≠ Str.ofString "drop" /\ Str.ofString "spot" ≠ Str.ofString "free" /\ Str.ofString "drop" ≠ Str.ofString "free" := by walk_at "k"
theorem WG {a b:Tl} (ha:TlK a) (hb:TlK b) (e:wdT a = wdT b):ZF (Vo a) (Vo b) = true:=by
 obtain ⟨n1,n2,n3,n4,n5,_⟩:=Be;cases a with
 | land t n ou bs wb=>
  cases b with
  | land t' n' ou' bs' wb'=>
   refine ZQ (by simp [pln]) (by simp [pln]) (WZ _ _) λ _=>ZQ (QA (.land t n ou bs wb) |> λ h=>?_) ?_ (Vr (J2 λ x hx y hy=>?_)) λ _=>ZQ (by simp [pln]) (by simp [pln]) (Xp _ _) λ _=>by rw [ZF]; simp
   ·rw [pln];exact Q1 _ λ d hd=>by obtain ⟨b,_,rfl⟩:=List.mem_map.mp hd; exact BN b
   ·rw [pln];exact Q1 _ λ d hd=>by obtain ⟨b,_,rfl⟩:=List.mem_map.mp hd; exact BN b
   ·obtain ⟨p,_,rfl⟩:=List.mem_map.mp hx;obtain ⟨q,_,rfl⟩:=List.mem_map.mp hy;exact Zat p q
  | spot=>exact absurd e n1
  | off w t' n'=>exact (hb.elim (λ z=>absurd (e.trans z) n2) λ z=>absurd (e.trans z) n3)
 | spot t n u v=>
  cases b with
  | land=>exact absurd e.symm n1
  | spot t' n' u' v'=>exact ZQ (LC _ _) (LC _ _) (WM (Yh _ _) (Yh _ _)) λ _=>by rw [ZF]; simp
  | off w t' n'=>exact (hb.elim (λ z=>absurd (e.trans z) n4) λ z=>absurd (e.trans z) n5)
 | off w t n=>
  show ZF [] _ = true;rw [ZF];simp
theorem C9 {a b:Tl} (ha:TlK a) (hb:TlK b):ZL (tlD a) (tlD b) = true:=by
 rw [Z6,Z6];refine Vr (ZQ (by simp [pln]) (by simp [pln]) (WZ _ _) λ e=>ZQ (by simp [pln]) (by simp [pln]) (Xp _ _) λ _=>ZQ (by simp [pln]) (by simp [pln]) (WZ _ _) λ _=>WG ha hb ?_)
 injection e
theorem WX (a b:Tl):ZL (tkD (plT a)) (tkD (plT b)) = true:=
 Vr (ZQ (by simp [kD,pln]) (by simp [kD,pln]) (Xp _ _) λ _=>ZQ (by simp [kD,pln]) (by simp [kD,pln]) (Xp _ _) λ _=>ZQ (by simp [kD,pln]) (by simp [kD,pln]) (WZ _ _) λ _=>by simp [ZF])
theorem Cy:∀ {a b:Key},kD a = kD b->a = b
 | .inl i,.inl j,h=>by injection h with h; rw [h]
 | .inr i,.inr j,h=>by injection h with h; rw [h]
 | .inl i,.inr j,h=>nomatch h
 | .inr i,.inl j,h=>nomatch h
theorem Ws {a b:List Key} (h:tkD a = tkD b):a = b:=by
 injection h with h
 exact List.map_inj_right (λ _ _=>Cy) |>.mp h
noncomputable def kA (x:Tl):PyData:=.tuple [tkD (plT x),tlD x]
theorem Ko (x:Tl):pln (kA x) = true:=by simp [kA,pln,Vs,Qo,QA]
theorem B9 {a b:Tl} (ha:TlK a) (hb:TlK b):ZL (kA a) (kA b) = true:=Vr (ZQ (Qo _) (Qo _) (WX a b) λ _=>ZQ (QA _) (QA _) (C9 ha hb) λ _=>by simp [ZF])
theorem YO (h:pln d = true):ltD d d = false:=by
 cases e:ltD d d with
 | false=>rfl
 | true=>have:=Jw d d h h e; rw [e] at this; cases this
theorem YH {a b:Tl} (h:plT a = plT b):ltD (kA a) (kA b) = ltD (tlD a) (tlD b):=by
 unfold kA;rw [h,ltD,QE (Qo _)]
 by_cases e:tlD a = tlD b
 ·rw [e,QE (QA _),YO (QA b),Js]
 ·exact Qf (QA _) (QA _) e
theorem YC {a b:Tl} (h:plT a ≠ plT b):ltD (kA a) (kA b) = ltD (tkD (plT a)) (tkD (plT b)):=by
 unfold kA;rw [ltD];exact Qf (Qo _) (Qo _) λ e=>h (Ws e)
noncomputable def ltP (a b:Tl):Bool:=ltD (tkD (plT a)) (tkD (plT b))
theorem Bz {a b:Tl} (h:plT a ≠ plT b) (k:ltP b a = false):ltP a b = true:=by
 cases e:ltP a b with
 | true=>rfl
 | false=>exact absurd (Ws (Y0 _ _ (Qo _) (Qo _) (WX a b) e k)) h
theorem Ha {a b:Tl} (h:ltP a b = true):ltP b a = false:=Jw _ _ (Qo _) (Qo _) h
theorem BP {a b:Tl} (h:plT a = plT b):ltP a b = false:=by unfold ltP; rw [h]; exact YO (Qo _)
structure Due (ts R:List Tl):Prop where
 up:R.Pairwise λ a b=>ltP a b = true
 mem:∀ x ∈ R,x ∈ ts
 lo:∀ x ∈ R,∀ y ∈ ts,plT y = plT x->ltD (tlD y) (tlD x) = false
 all:∀ y ∈ ts,∃ x ∈ R,plT x = plT y
theorem HW {α:Type} {lt:α->α->Bool} (as:∀ a b,lt a b = true->lt b a = false):∀ {l r:List α},l.Pairwise (λ a b=>lt a b = true)->r.Pairwise (λ a b=>lt a b = true)->(∀ x,x ∈ l ↔ x ∈ r)->l = r
 | [],[],_,_,_=>rfl
 | [],b :: r,_,_,h=>nomatch (h b).mpr (.head _)
 | a :: l,[],_,_,h=>nomatch (h a).mp (.head _)
 | a :: l,b :: r,hl,hr,h=>by
  have ir:∀ a,lt a a = false:=λ a=>by
   cases e:lt a a with
   | false=>rfl
   | true=>have:=as a a e; rw [e] at this; cases this
  have e:a = b:=by
   rcases List.mem_cons.mp ((h a).mp (.head _)) with e | m1
   ·exact e
   ·rcases List.mem_cons.mp ((h b).mpr (.head _)) with e | m2
    ·exact e.symm
    ·have:=as _ _ (List.rel_of_pairwise_cons hl m2);rw [List.rel_of_pairwise_cons hr m1] at this;cases this
  subst e;have go:∀ {l r:List α},(a :: l).Pairwise (λ a b=>lt a b = true)->(∀ x,x ∈ a :: l->x ∈ a :: r)->∀ x,x ∈ l->x ∈ r:=λ hl h x hx=>by
   rcases List.mem_cons.mp (h x (.tail _ hx)) with e | m
   ·have:=List.rel_of_pairwise_cons hl hx;rw [e,ir] at this;cases this
   ·exact m
  rw [HW as hl.of_cons hr.of_cons λ x=>⟨go hl (λ y=>(h y).mp) x,go hr (λ y=>(h y).mpr) x⟩]
theorem GC {a b:Tl} (ha:TlK a) (hb:TlK b) (h:tlD a = tlD b):a = b:=by
 have h0:=h;rw [Z6,Z6] at h
 injection h with h
 injection h with h1 h
 injection h with h2 h
 injection h with h3 h
 injection h1 with h1
 injection h2 with h2
 injection h3 with h3
 obtain ⟨n1,n2,n3,n4,n5,_⟩:=Be;cases a with
 | land t n ou bs wb=>
  cases b with
  | land t' n' ou' bs' wb'=>
   injection h with g1 g
   injection g with g2 g
   injection g with g3 _
   injection g1 with g1
   injection g2 with g2
   injection g3 with g3
   rw [show t = t' from h2,show n = n' from h3,g1,JC g2,g3]
  | spot=>exact absurd h1 n1
  | off w t' n'=>exact (hb.elim (λ z=>absurd (h1.trans z) n2) λ z=>absurd (h1.trans z) n3)
 | spot t n u v=>
  cases b with
  | land=>exact absurd h1.symm n1
  | spot t' n' u' v'=>
   injection h with g _
   injection g with g
   injection g with g1 g
   injection g with g2 _
   injection g1 with g1
   injection g2 with g2
   rw [show t = t' from h2,show n = n' from h3,g1,g2]
  | off w t' n'=>exact (hb.elim (λ z=>absurd (h1.trans z) n4) λ z=>absurd (h1.trans z) n5)
 | off w t n=>
  cases b with
  | land=>exact (ha.elim (λ z=>absurd (h1.symm.trans z) n2) λ z=>absurd (h1.symm.trans z) n3)
  | spot=>exact (ha.elim (λ z=>absurd (h1.symm.trans z) n4) λ z=>absurd (h1.symm.trans z) n5)
  | off w' t' n'=>rw [show w = w' from h1,show t = t' from h2,show n = n' from h3]
theorem Due.sub {ts R R':List Tl} (hk:∀ x ∈ ts,TlK x) (h:Due ts R) (k:Due ts R'):∀ x,x ∈ R->x ∈ R':=λ x hx=>by
 obtain ⟨y,hy,e⟩:=k.all x (h.mem x hx);have e2:=Y0 _ _ (QA x) (QA y) (C9 (hk x (h.mem x hx)) (hk y (k.mem y hy))) (k.lo y hy x (h.mem x hx) e.symm) (h.lo x hx y (k.mem y hy) e);rw [GC (hk x (h.mem x hx)) (hk y (k.mem y hy)) e2];exact hy
theorem Due.uniq {ts R R':List Tl} (hk:∀ x ∈ ts,TlK x) (h:Due ts R) (k:Due ts R'):R = R':=HW (lt:=ltP) (λ _ _=>Ha) h.up k.up λ x=>⟨h.sub hk k x,k.sub hk h x⟩
theorem Due.congr {ts ts' R:List Tl} (h:Due ts R) (e:∀ x,x ∈ ts ↔ x ∈ ts'):Due ts' R:=⟨h.up,λ x hx=>(e x).mp (h.mem x hx),λ x hx y hy=>h.lo x hx y ((e y).mpr hy),λ y hy=>h.all y ((e y).mpr hy)⟩
theorem Due.self {ts R:List Tl} (h:Due ts R):Due R R:=⟨h.up,λ _ hx=>hx,λ x hx y hy=>h.lo x hx y (h.mem y hy),λ y hy=>⟨y,hy,rfl⟩⟩
theorem Due.nil:Due [] []:=⟨.nil,λ _ h=>(nomatch h),λ _ h=>(nomatch h),λ _ h=>(nomatch h)⟩
theorem Due.old {ts R:List Tl} {x y:Tl} (h:Due ts R) (hy:y ∈ R) (e:plT y = plT x) (hx:∀ z ∈ ts,ltD (kA x) (kA z) = false):Due (ts ++ [x]) R:=by
 refine ⟨h.up,λ z hz=>List.mem_append_left _ (h.mem z hz),λ z hz u hu ez=>?_,λ u hu=>?_⟩
 ·rcases List.mem_append.mp hu with hu | hu
  ·exact h.lo z hz u hu ez
  ·rw [List.mem_singleton.mp hu] at ez ⊢;rw [<- YH ez];exact hx z (h.mem z hz)
 ·rcases List.mem_append.mp hu with hu | hu
  ·exact h.all u hu
  ·rw [List.mem_singleton.mp hu];exact ⟨y,hy,e⟩
theorem Due.new {ts R:List Tl} {x:Tl} (h:Due ts R) (ne:∀ z ∈ R,plT z ≠ plT x) (hx:∀ z ∈ ts,ltD (kA x) (kA z) = false):Due (ts ++ [x]) (R ++ [x]):=by
 refine ⟨?_,λ z hz=>?_,λ z hz u hu ez=>?_,λ u hu=>?_⟩
 ·rw [List.pairwise_append];refine ⟨h.up,List.pairwise_singleton _ _,λ z hz u hu=>?_⟩;rw [List.mem_singleton.mp hu];have:=hx z (h.mem z hz);rw [YC (Ne.symm (ne z hz))] at this;exact Bz (ne z hz) this
 ·rcases List.mem_append.mp hz with hz | hz
  ·exact List.mem_append_left _ (h.mem z hz)
  ·exact List.mem_append_right _ hz
 ·rcases List.mem_append.mp hz with hz | hz
  ·rcases List.mem_append.mp hu with hu | hu
   ·exact h.lo z hz u hu ez
   ·rw [List.mem_singleton.mp hu] at ez;exact absurd ez.symm (ne z hz)
  ·rw [List.mem_singleton.mp hz] at ez ⊢
   rcases List.mem_append.mp hu with hu | hu
   ·obtain ⟨v,hv,ev⟩:=h.all u hu;exact absurd (ev.trans ez) (ne v hv)
   ·rw [List.mem_singleton.mp hu];exact YO (QA x)
 ·rcases List.mem_append.mp hu with hu | hu
  ·obtain ⟨v,hv,ev⟩:=h.all u hu;exact ⟨v,List.mem_append_left _ hv,ev⟩
  ·rw [List.mem_singleton.mp hu];exact ⟨x,List.mem_append_right _ (.head _),rfl⟩
theorem Due.last {ts R:List Tl} {x y:Tl} (h:Due ts (R ++ [y])) (e:plT y ≠ plT x) (hx:∀ z ∈ ts,ltD (kA x) (kA z) = false):∀ z ∈ R ++ [y],plT z ≠ plT x:=λ z hz ez=>by
 rcases List.mem_append.mp hz with m | m
 ·have u:=(List.pairwise_append.mp h.up).2.2 z m y (.head _);have:=hx y (h.mem y (List.mem_append_right _ (.head _)));rw [YC (Ne.symm e)] at this;unfold ltP at u;rw [ez,this] at u;cases u
 ·rw [List.mem_singleton.mp m] at ez;exact e ez
def G3:DSp:=λ xs M Φ=>on1 xs λ x=>LQ x λ t=>TlK t /\ Φ (kDV (plT t)) M
theorem Cp:type_of% @G3.eq_1:=λ _ _ _=>qI
def TlS (t:Tl):Prop:=TlK t /\ (tlD t).canLay0 = true /\ (tlD t).depth <= 5
def Xw:DSp:=λ xs M Φ=>on1 xs λ x=>U8 x λ ts=>ts.length <= 16777216 /\ (∀ t ∈ ts,TlS t) /\ ∀ R q,Due ts R->M q = none->Φ (.own q) (Zu M q (.lst (R.map tlD)))
theorem K0:type_of% @Xw.eq_1:=λ _ _ _=>qI
theorem NN {w:Str} (h:ZaO w):List.lookup w [(Str.ofString "land",(0:Int)),(Str.ofString "drop",0),(Str.ofString "free",1),(Str.ofString "spot",2)] = some (rkW w):=by
 rcases h with rfl | rfl | rfl | rfl <;> decide +kernel
theorem FV {ts:List Tl} (hl:ts.length <= 16777216) (h:∀ t ∈ ts,TlS t):Q0 (ts.map tlD):=by
 refine ⟨by rw [List.length_map,sizeLine_eq]; exact hl,.tstr λ d hd=>?_,λ d hd=>?_,λ d hd e he=>?_⟩
 ·obtain ⟨t,_,rfl⟩:=List.mem_map.mp hd;exact ⟨_,_,Z6 t⟩
 ·obtain ⟨t,m,rfl⟩:=List.mem_map.mp hd;exact ⟨QA t,(h t m).2.1,Nat.le_trans (h t m).2.2 (by decide)⟩
 ·obtain ⟨t,m,rfl⟩:=List.mem_map.mp hd;obtain ⟨u,n,rfl⟩:=List.mem_map.mp he;exact C9 (h t m).1 (h u n).1
theorem YN {α β:Type} {f:α->β}:∀ {l:List β} {m:List α},l.Perm (m.map f)->∃ m':List α,l = m'.map f /\ m'.Perm m
 | [],m,h=>by
  have:=h.length_eq;cases m with
  | nil=>exact ⟨[],rfl,.nil⟩
  | cons=>simp at this
 | a :: l,m,h=>by
  obtain ⟨x,hx,rfl⟩:=List.mem_map.mp (h.mem_iff.mp (.head _));obtain ⟨s,t,rfl⟩:=List.append_of_mem hx
  have h2:(f x :: l).Perm (f x :: (s ++ t).map f):=h.trans (by
   rw [List.map_append,List.map_cons,List.map_append]
   exact List.perm_middle)
  obtain ⟨m',e,p⟩:=YN (List.Perm.cons_inv h2);exact ⟨x :: m',by rw [e,List.map_cons],(p.cons x).trans List.perm_middle.symm⟩
structure Tbl (S:List Tl) (ps:List (List Key × PyData)):Prop where
 nd:(ps.map (·.1)).Nodup
 get:∀ k ∈ ps.map (·.1),∃ x ∈ S,plT x = k /\ dvT ps k = some (tlD x) /\ ∀ y ∈ S,plT y = k->ltD (tlD y) (tlD x) = false
 all:∀ x ∈ S,plT x ∈ ps.map (·.1)
theorem Tbl.nil:Tbl [] []:=⟨.nil,λ _ h=>(nomatch h),λ _ h=>(nomatch h)⟩
theorem HQ {ps:List (List Key × PyData)} {k:List Key} (h:dvT ps k = none):k ∉ ps.map (·.1):=λ m=>by
 obtain ⟨p,hp,rfl⟩:=List.mem_map.mp m;unfold dvT at h;rw [Option.map_eq_none_iff,List.find?_eq_none] at h;exact h p hp (by simp)
theorem Fz {ps:List (List Key × PyData)} {k:List Key} (h:dvT ps k = some d):k ∈ ps.map (·.1):=by
 unfold dvT at h;obtain ⟨p,hp,_⟩:=Option.map_eq_some_iff.mp h;exact List.mem_map.mpr ⟨p,List.mem_of_find?_eq_some hp,by simpa using List.find?_some hp⟩
theorem Sz {ps:List (List Key × PyData)} {k k':List Key} (m:k ∈ ps.map (·.1)):dvT (ps ++ [(k',d)]) k = dvT ps k:=by
 unfold dvT;rw [List.find?_append];obtain ⟨p,hp,rfl⟩:=List.mem_map.mp m;cases e:ps.find? λ kv=>decide (kv.1 = p.1) with
 | none=>rw [List.find?_eq_none] at e; exact absurd (decide_eq_true rfl) (e p hp)
 | some q=>rfl
theorem Pk {ps:List (List Key × PyData)} {k:List Key} (m:k ∉ ps.map (·.1)):dvT (ps ++ [(k,d)]) k = some d:=by
 unfold dvT;rw [List.find?_append,List.find?_eq_none.mpr λ p hp=>by simpa using λ e:p.1 = k=>m (List.mem_map.mpr ⟨p,hp,e⟩),Option.none_or,List.find?_cons_of_pos (by simp)];rfl
theorem Tbl.old {S:List Tl} {ps:List (List Key × PyData)} {x:Tl} (h:Tbl S ps) (m:plT x ∈ ps.map (·.1)) (hx:∀ z ∈ S,ltD (tlD x) (tlD z) = false):Tbl (S ++ [x]) ps:=by
 refine ⟨h.nd,λ k hk=>?_,λ y hy=>?_⟩
 ·obtain ⟨y,hy,e,g,lo⟩:=h.get k hk;refine ⟨y,List.mem_append_left _ hy,e,g,λ z hz ez=>?_⟩
  rcases List.mem_append.mp hz with hz | hz
  ·exact lo z hz ez
  ·rw [List.mem_singleton.mp hz];exact hx y hy
 ·rcases List.mem_append.mp hy with hy | hy
  ·exact h.all y hy
  ·rw [List.mem_singleton.mp hy];exact m
theorem Tbl.new {S:List Tl} {ps:List (List Key × PyData)} {x:Tl} (h:Tbl S ps) (m:plT x ∉ ps.map (·.1)) (hx:∀ z ∈ S,ltD (tlD x) (tlD z) = false):Tbl (S ++ [x]) (ps ++ [(plT x,tlD x)]):=by
 refine ⟨?_,λ k hk=>?_,λ y hy=>?_⟩
 ·rw [List.map_append,List.nodup_append];refine ⟨h.nd,by simp,λ a ha b hb=>?_⟩;rw [List.mem_singleton.mp hb];exact λ e=>m (by rw [show plT x = a from e.symm]; exact ha)
 ·by_cases c:k ∈ ps.map (·.1)
  ·rw [Sz c];obtain ⟨y,hy,e,g,lo⟩:=h.get k c;refine ⟨y,List.mem_append_left _ hy,e,g,λ z hz ez=>?_⟩
   rcases List.mem_append.mp hz with hz | hz
   ·exact lo z hz ez
   ·rw [List.mem_singleton.mp hz];exact hx y hy
  ·rw [List.map_append] at hk;have e:plT x = k:=(List.mem_singleton.mp ((List.mem_append.mp hk).resolve_left c)).symm;subst e;rw [Pk c];refine ⟨x,List.mem_append_right _ (.head _),rfl,rfl,λ z hz ez=>?_⟩
   rcases List.mem_append.mp hz with hz | hz
   ·exact absurd (h.all z hz) (by rw [ez]; exact c)
   ·rw [List.mem_singleton.mp hz];exact YO (QA x)
 ·rw [List.map_append]
  rcases List.mem_append.mp hy with hy | hy
  ·exact List.mem_append_left _ (h.all y hy)
  ·rw [List.mem_singleton.mp hy];exact List.mem_append_right _ (.head _)
theorem NU {ts S R:List Tl} {ps:List (List Key × PyData)} {ks:List (List Key)} (h:Tbl S ps) (hp:S.Perm ts) (hk:ks.Perm (ps.map (·.1))) (up:(ks.map tkD).Pairwise leD) (e:R.map plT = ks) (g:∀ x ∈ R,dvT ps (plT x) = some (tlD x)) (hK:∀ x ∈ ts,TlK x) (hR:∀ x ∈ R,TlK x):Due ts R:=by
 have at1:∀ x ∈ R,x ∈ S /\ ∀ y ∈ S,plT y = plT x->ltD (tlD y) (tlD x) = false:=λ x hx=>by
  obtain ⟨y,hy,_,gy,lo⟩:=h.get (plT x) (hk.mem_iff.mp (by rw [<- e]; exact List.mem_map.mpr ⟨x,hx,rfl⟩));rw [g x hx] at gy;cases GC (hR x hx) (hK y (hp.mem_iff.mp hy)) (Option.some.inj gy);exact ⟨hy,lo⟩
 have nd:(R.map plT).Nodup:=by rw [e]; exact hk.nodup_iff.mpr h.nd
 refine ⟨?_,λ x hx=>hp.mem_iff.mp (at1 x hx).1,λ x hx y hy ey=>(at1 x hx).2 y (hp.mem_iff.mpr hy) ey,λ y hy=>?_⟩
 ·rw [<- e,List.map_map,List.pairwise_map] at up;rw [List.Nodup,List.pairwise_map] at nd;exact up.imp₂ (λ a b h1 h2=>Bz h2 h1) nd
 ·have m:=hk.mem_iff.mpr (h.all y (hp.mem_iff.mpr hy));rw [<- e] at m;obtain ⟨x,hx,ex⟩:=List.mem_map.mp m;exact ⟨x,hx,ex⟩
theorem Uh {x:Tl} (hx:TlS x):(tkD (plT x)).canLay0 = true /\ (tkD (plT x)).depth <= 1:=by
 have c:=hx.2.1;rw [Z6] at c;simp only [PyData.canLay0,PyData.canLayAll0,Bool.and_eq_true] at c;show (PyData.tuple [.int (tmT x),.int (rkW (wdT x)),.str (nmT x)]).canLay0 = true /\ (PyData.tuple [.int (tmT x),.int (rkW (wdT x)),.str (nmT x)]).depth <= 1;simp only [PyData.canLay0,PyData.canLayAll0,Bool.and_eq_true];exact ⟨⟨trivial,trivial,c.2.2.1,trivial⟩,by simp [PyData.depth,PyData.depthAll]⟩
theorem B0 {ks:List (List Key)} (hl:ks.length <= 16777216) {F:List Key->Tl->Prop} (h:∀ k ∈ ks,∃ x,TlS x /\ plT x = k /\ F k x):Q0 (ks.map tkD):=by
 have at1:∀ {d:PyData},d ∈ ks.map tkD->∃ x,TlS x /\ d = tkD (plT x):=λ {d} hd=>by
  obtain ⟨k,hk,rfl⟩:=List.mem_map.mp hd;obtain ⟨x,hx,rfl,_⟩:=h k hk;exact ⟨x,hx,rfl⟩
 refine ⟨by rw [List.length_map,sizeLine_eq]; exact hl,.tint λ d hd=>?_,λ d hd=>?_,λ d hd e he=>?_⟩
 ·obtain ⟨x,_,rfl⟩:=at1 hd;exact ⟨_,_,rfl⟩
 ·obtain ⟨x,hx,rfl⟩:=at1 hd;exact ⟨Qo _,(Uh hx).1,Nat.le_trans (Uh hx).2 (by decide)⟩
 ·obtain ⟨x,_,rfl⟩:=at1 hd;obtain ⟨y,_,rfl⟩:=at1 he;exact WX x y
def LV:DSp:=λ xs M Φ=>on2 xs λ x y=>∃ d,(x = .dat d \/ ∃ q ds,x = .own q /\ M q = some (.lst ds) /\ d = .list ds) /\ y = .dat d /\ (Kc d d = true /\ PyData.eqv d d = true /\ Shw d) /\ Φ (.dat (.bool true)) M
theorem EU:type_of% @LV.eq_1:=λ _ _ _=>qI
def Bd (k:Nat) (i:Int):Prop:=-(1000000000000 + (k:Int)) <= i /\ i <= 1000000000000 + k
def TlW (k:Nat):Tl->Prop
 | .land t nm ou bs wb=>(Bd k t /\ Z2 nm) /\ (ou = Str.ofString "" \/ Z2 ou) /\ bs.length <= 6 + k /\ (∀ b ∈ bs,(Bd k b.x /\ Bd k b.y) /\ (Bd k b.X /\ Bd k b.Y)) /\ Bd k wb
 | .spot t nm u v=>(Bd k t /\ Z2 nm) /\ Bd k u /\ Bd k v
 | .off w t nm=>(Bd k t /\ Z2 nm) /\ (w = Str.ofString "drop" \/ w = Str.ofString "free")
def ZcD:Tl->Prop
 | .land _ _ _ bs _=>bs.length < 7
 | _=>True
def TlF (t:Tl):Prop:=TlW 300 t /\ ZcD t
def Lc:DSp:=λ xs M Φ=>on3 xs λ x y z=>onO x λ p=>onO y λ q=>LQ z λ t=>Wd M q /\ q ≠ p /\ Pen M p /\ ∃ k,TlW k t /\ k <= 300 /\ ∀ t' M',TlW (k + 1) t'->Fr p M M'->Φ (.dat (tlD t')) M'
theorem DR:type_of% @Lc.eq_1:=λ _ _ _=>qI
def W4:DSp:=λ xs M Φ=>on2 xs λ x y=>onO x λ p=>U8 y λ ts=>ts.length <= 1000 /\ Pen M p /\ ∀ (ts':List Tl) (M':Mp),ts'.Perm ts->Fr p M M'->Φ (.dat (.list (ts'.map tlD))) M'
theorem UO:type_of% @W4.eq_1:=λ _ _ _=>qI
def Cd:DSp:=λ xs M Φ=>on2 xs λ x y=>onO x λ p=>onO y λ q=>Wd M q /\ q ≠ p /\ Pen M p /\ ∀ (ts:List Tl) (M':Mp),ts.length <= 300->(∀ t ∈ ts,TlF t)->Fr p M M'->Φ (.dat (.list (ts.map tlD))) M'
theorem C6:type_of% @Cd.eq_1:=λ _ _ _=>qI
def GN:DSp:=λ xs M Φ=>on2 xs λ x y=>LQ x λ a=>LQ y λ b=>TlS a /\ TlS b /\ Φ (.dat (.bool (ltD (kA a) (kA b)))) M
theorem BO:type_of% @GN.eq_1:=λ _ _ _=>qI
def Th:DSp:=λ xs M Φ=>on1 xs λ x=>U8 x λ ts=>ts.length <= 1000 /\ (∀ t ∈ ts,TlS t) /\ ∀ R,Due ts R->Φ (.dat (.list (R.map tlD))) M
theorem Nf:type_of% @Th.eq_1:=λ _ _ _=>qI
theorem Ru:[(Sum.inr (Str.ofString "land"):Key),Sum.inr (Str.ofString "drop"),Sum.inr (Str.ofString "free"),Sum.inr (Str.ofString "spot")].Nodup:=by walk_at "k"
noncomputable def rkO:OO:=.dkv [((Sum.inr (Str.ofString "land"):Key),PyData.int 0),(Sum.inr (Str.ofString "drop"),PyData.int 0),(Sum.inr (Str.ofString "free"),PyData.int 1),(Sum.inr (Str.ofString "spot"),PyData.int 2)]
theorem Bp {w:Str} (h:ZaO w):Qx [((Sum.inr (Str.ofString "land"):Key),PyData.int 0),(Sum.inr (Str.ofString "drop"),PyData.int 0),(Sum.inr (Str.ofString "free"),PyData.int 1),(Sum.inr (Str.ofString "spot"),PyData.int 2)] (.inr w) = some (.int (rkW w)):=by
 rcases h with rfl | rfl | rfl | rfl <;> rfl
theorem Mb {k k':List Key} {P:Bool->Prop} (ok:Kc (tkD k) (tkD k') = true) (h1:k = k'->P true) (h2:k ≠ k'->P false):eqD (tkD k) (tkD k') P:=by
 refine ⟨ok,?_⟩
 by_cases e:k = k'
 ·rw [e,J4 _ (Qo k')];exact h1 e
 ·rw [Bx (Qo _) (Qo _) λ z=>e (Ws z)];exact h2 e
theorem Nj {a b:Tl} (ha:TlS a) (hb:TlS b):Kc (tkD (plT a)) (tkD (plT b)) = true /\ HY (tkD (plT a)) (tkD (plT b)) = true:=by
 obtain ⟨a1,a2⟩:=Uh ha;obtain ⟨b1,b2⟩:=Uh hb;have m:Nat.ble (min (tkD (plT a)).depth (tkD (plT b)).depth) 64 = true:=Nat.ble_eq_true_of_le (by lia);unfold Kc HY;rw [a1,b1,m,WX];exact ⟨rfl,rfl⟩
theorem Pa {a b:Tl} (ha:TlK a) (hb:TlK b) (e:plT a = plT b) (n:wdT a ≠ wdT b):ltD (kA a) (kA b) = isS (.str (wdT a)) (Str.ofString "drop"):=by
 have rk:rkW (wdT a) = rkW (wdT b):=by
  unfold plT at e
  injection e with _ e
  injection e with e _
  injection e
 rw [YH e,Z6,Z6,ltD,Qf (by simp [pln]) (by simp [pln]) (λ z=>n (by injection z)),ltD]
 rcases VE ha with ea | ea | ea | ea <;> rcases VE hb with eb | eb | eb | eb <;> rw [ea,eb] at n rk ⊢ <;> revert n rk <;> decide +kernel
theorem OY {a b:Tl} (e:plT a = plT b) (w:wdT a = wdT b):ltD (kA a) (kA b) = ltD (.tuple (Vo a)) (.tuple (Vo b)):=by
 unfold plT at e
 injection e with e1 e
 injection e with _ e
 injection e with e3 _
 injection e1 with e1
 injection e3 with e3
 rw [YH (by unfold plT; rw [e1,e3,w]),Z6,Z6,w,e1,e3,ltD,QE (by simp [pln]),QE (by simp [pln]),QE (by simp [pln]),ltD]
theorem Nt {a b:Tl} (ha:TlS a) (hb:TlS b) (w:wdT a = wdT b):HY (.tuple (Vo a)) (.tuple (Vo b)) = true:=by
 have lay:∀ {x:Tl},TlS x->(PyData.tuple (Vo x)).canLay0 = true /\ (PyData.tuple (Vo x)).depth <= 5:=λ {x} h=>by
  obtain ⟨_,c,d⟩:=h;rw [Z6] at c d;simp only [PyData.canLay0,PyData.canLayAll0,Bool.and_eq_true] at c;simp only [PyData.depth,PyData.depthAll] at d;exact ⟨by rw [PyData.canLay0]; exact c.2.2.2,by rw [PyData.depth]; lia⟩
 have m:Nat.ble (min (PyData.tuple (Vo a)).depth (PyData.tuple (Vo b)).depth) 64 = true:=Nat.ble_eq_true_of_le (by have:=(lay ha).2; lia);unfold HY;rw [(lay ha).1,(lay hb).1,m,Vr (WG ha.1 hb.1 w)];rfl
theorem Zc7 (a b c:PyData) (l:List PyData):DL.cutD (a :: b :: c :: l) (some 3) none = l:=by
 unfold DL.cutD;rw [show HT.sIx (a :: b :: c :: l).length 0 (some 3) = 3 from (HT.K4 _ _ 3).trans (by simp)];exact List.take_of_length_le (Nat.le_refl _)
theorem Bu {w:Str} (h:ZaO w) {Q:PyData->Prop} (q:Q (.int (rkW w))):Ga (some rkO) λ ps=>∃ d,Qx ps (.inr w) = some d /\ Q d:=⟨_,Bp h,q⟩
theorem Mh {row:List Tl} {x:Tl} {a:Nat} (hK:∀ y ∈ row,TlK y) (hx:TlK x) (up:(row.map kA).Pairwise leD) (lo:∀ y ∈ row.take a,ltD (kA y) (kA x) = true) (hi:∀ h:a < row.length,ltD (kA row[a]) (kA x) = false):((row.take a ++ x :: row.drop a).map kA).Pairwise leD:=by
 rw [List.pairwise_map] at up ⊢;have e:=List.take_append_drop a row;rw [<- e,List.pairwise_append] at up;refine List.pairwise_append.mpr ⟨up.1,List.pairwise_cons.mpr ⟨λ y hy=>?_,up.2.1⟩,λ y hy z hz=>?_⟩
 ·by_cases c:a < row.length
  ·have d:=hi c;have u:=up.2.1;rw [List.drop_eq_getElem_cons c] at hy u
   rcases List.mem_cons.mp hy with rfl | hy
   ·exact d
   ·exact YQ _ _ _ (Ko x) (Ko _) (Ko y) (B9 hx (hK _ (List.getElem_mem c))) (B9 (hK _ (List.getElem_mem c)) (hK y (List.mem_of_mem_drop hy))) (B9 hx (hK y (List.mem_of_mem_drop hy))) d (List.rel_of_pairwise_cons u hy)
  ·rw [List.drop_eq_nil_of_le (by lia)] at hy;cases hy
 ·rcases List.mem_cons.mp hz with rfl | hz
  ·exact Jw _ _ (Ko y) (Ko z) (lo y hy)
  ·exact up.2.2 y hy z hz
theorem N5 {row:List Tl} {x:Tl} (up:(row.map kA).Pairwise leD) (e:row[i]? = some x):∀ z ∈ row.take i,ltD (kA x) (kA z) = false:=λ z hz=>by
 rw [List.pairwise_map] at up;obtain ⟨j,hj,rfl⟩:=List.getElem_of_mem hz;rw [List.length_take] at hj;obtain ⟨hi,rfl⟩:=List.getElem?_eq_some_iff.mp e;rw [List.getElem_take];exact List.pairwise_iff_getElem.mp up j i (by lia) hi (by lia)
theorem LG {R:List Tl} (h:∀ t ∈ R,(tlD t).canLay0 = true /\ (tlD t).depth <= 5):Kc (.list (R.map tlD)) (.list []) = true:=by
 obtain ⟨a,b⟩:=YS (l:=R.map tlD) (n:=5) λ d hd=>by
  obtain ⟨t,m,rfl⟩:=List.mem_map.mp hd;exact h t m
 unfold Kc;rw [PyData.canLay0,PyData.canLay0,a,PyData.depth];simp [PyData.canLayAll0];lia
theorem NT (R:List Tl) (y:Tl):L2.atI ((R ++ [y]).map tlD) (-1) = some (tlD y):=by
 have e:L2.ixN ((R ++ [y]).map tlD).length (-1) = some R.length:=by
  rw [List.length_map,List.length_append];unfold L2.ixN;rw [if_neg (by decide),if_pos (by simp; lia)]
  congr 1
  simp;lia
 unfold L2.atI;rw [e,List.map_append];simp
theorem Ux {α:Type} (l:List α) (n:Nat) (x:α):(l.take n ++ x :: l.drop n).Perm (l ++ [x]):=by
 refine List.perm_middle.trans ?_;rw [List.take_append_drop];exact (List.perm_append_singleton x l).symm
theorem Wi {α β:Type} (f:α->β) (l:List α) (n:Nat) (x:α):(l.map f).take n ++ f x :: (l.map f).drop n = (l.take n ++ x :: l.drop n).map f:=by
 rw [List.map_append,List.map_cons,List.map_take,List.map_drop]
theorem Bd.up {k:Nat} {i:Int} (h:Bd k i):Bd (k + 1) i:=by
 unfold Bd at *;lia
theorem Bd.of {k:Nat} {i:Int} (h:-1000000000000 <= i /\ i <= 1000000000000):Bd k i:=by
 unfold Bd;lia
theorem Bd.sh {k:Nat} {i:Int} (h:Sh i):Bd k i:=Bd.of (by unfold Sh at h; lia)
theorem TlW.up {k:Nat} {t:Tl} (h:TlW k t):TlW (k + 1) t:=by
 cases t with
 | land t nm ou bs wb=>
  obtain ⟨⟨h1,h2⟩,h3,h4,h5,h6⟩:=h;exact ⟨⟨h1.up,h2⟩,h3,by lia,λ b hb=>⟨⟨(h5 b hb).1.1.up,(h5 b hb).1.2.up⟩,(h5 b hb).2.1.up,(h5 b hb).2.2.up⟩,h6.up⟩
 | spot t nm u v=>exact ⟨⟨h.1.1.up,h.1.2⟩,h.2.1.up,h.2.2.up⟩
 | off w t nm=>exact ⟨⟨h.1.1.up,h.1.2⟩,h.2⟩
theorem TlW.to {k:Nat} {t:Tl} (h:TlW k t) (hm:k <= m):TlW m t:=by
 induction hm with
 | refl=>exact h
 | step _ ih=>exact ih.up
theorem Du {k:Nat} {t:Tl} (h:ZbQ t):TlW k t:=by
 cases t with
 | land t nm ou bs wb=>
  obtain ⟨⟨h1,h2⟩,h3,h4,h5⟩:=h;refine ⟨⟨Bd.of (by lia),h2⟩,h3,by have:=h4.1.2; lia,λ b hb=>?_,Bd.of (by lia)⟩;obtain ⟨_,⟨a1,a2⟩,a3,a4⟩:=h4.2.2 b hb;exact ⟨⟨Bd.sh a1,Bd.sh a2⟩,Bd.sh a3,Bd.sh a4⟩
 | spot t nm u v=>exact ⟨⟨Bd.of (by have:=h.1.1; lia),h.1.2⟩,Bd.sh h.2.1,Bd.sh h.2.2⟩
 | off w t nm=>exact ⟨⟨Bd.of (by have:=h.1.1; lia),h.1.2⟩,h.2⟩
theorem OS (bs:List B4):DL.cutD (bs.map bD) (some (-1)) none = (bs.drop (bs.length - 1)).map bD:=by
 unfold DL.cutD;rw [List.length_map];have e:HT.sIx bs.length 0 (some (-1)) = bs.length - 1:=by
  show ((-1:Int) + (bs.length:Int)).toNat = _;lia
 rw [e,<- List.map_drop];exact List.take_of_length_le (by rw [List.length_map,List.length_drop]; exact Nat.le_refl _)
theorem Zdp {X R:Mp->Prop} {goal:Prop} (k:(∀ M,R M->X M)->goal) (h:∀ M,R M->X M):goal:=k h
theorem R1 {fs:List Tl} (y:Tl) {r:Int} (h0:0 <= r) (h1:r < fs.length):∃ z ∈ fs,L2.atI ((fs ++ [y]).map tlD) r = some (tlD z):=by
 obtain ⟨j,rfl⟩:=Int.eq_ofNat_of_zero_le h0;have hj:j < fs.length:=by lia
 exact ⟨fs[j],List.getElem_mem hj,JE (by rw [List.getElem?_map,List.getElem?_append_left hj,List.getElem?_eq_getElem hj]; rfl)⟩
theorem H0 (fs:List Tl) (y:Tl):L2.ixN ((fs ++ [y]).map tlD).length (fs.length:Int) = some fs.length:=by
 rw [List.length_map,List.length_append];unfold L2.ixN;rw [if_pos (by lia),if_pos (by simp; lia)];simp
theorem Bw (fs:List Tl) (y z:Tl):((fs ++ [y]).map tlD).set fs.length (tlD z) = (fs ++ [z]).map tlD:=by
 rw [List.map_append,List.set_append_right _ _ (by simp),List.length_map,Nat.sub_self,List.map_append];rfl
theorem FE (t:Int) (nm ou:Str) (bs:List B4) (wb:Int):tlD (.land t nm ou bs wb) = .tuple [.str (Str.ofString "land"),.int t,.str nm,.str ou,.tuple (bs.map bD),.int wb]:=rfl
theorem ED (t:Int) (nm:Str) (u v:Int):tlD (.spot t nm u v) = .tuple [.str (Str.ofString "spot"),.int t,.str nm,.tuple [.int u,.int v]]:=rfl
theorem O5 (w:Str) (t:Int) (nm:Str):tlD (.off w t nm) = .tuple [.str w,.int t,.str nm]:=rfl
theorem E1 {t:Tl} (h:TlF t):TlS t:=by
 obtain ⟨h,_⟩:=h;have st:∀ {s:Str},(PyData.str s).canLay0 = true->(PyData.str s).canLay0 = true /\ (PyData.str s).depth <= 4:=λ e=>⟨e,by simp [PyData.depth]⟩;have lit:∀ s ∈ [Str.ofString "land",Str.ofString "spot",Str.ofString "drop",Str.ofString "free",Str.ofString ""],(PyData.str s).canLay0 = true:=by walk_at "k"
 cases t with
 | land t nm ou bs wb=>
  refine ⟨trivial,JH (n:=4) λ d hd=>?_⟩;simp only [List.mem_cons,List.not_mem_nil,or_false] at hd
  rcases hd with rfl | rfl | rfl | rfl | rfl | rfl
  ·exact st (lit _ (by simp))
  ·exact JD _ _
  ·exact st (J7 h.1.2)
  ·rcases h.2.1 with rfl | n
   ·exact st (lit _ (by simp))
   ·exact st (J7 n)
  ·have:=JH (l:=bs.map bD) (n:=2) λ d hd=>by
    obtain ⟨b,_,rfl⟩:=List.mem_map.mp hd;exact JH (n:=1) (VJ (WJ b.x b.y) (WJ b.X b.Y))
   exact ⟨this.1,by lia⟩
  ·exact JD _ _
 | spot t nm u v=>
  refine ⟨trivial,JH (n:=4) λ d hd=>?_⟩;simp only [List.mem_cons,List.not_mem_nil,or_false] at hd
  rcases hd with rfl | rfl | rfl | rfl
  ·exact st (lit _ (by simp))
  ·exact JD _ _
  ·exact st (J7 h.1.2)
  ·exact ⟨(WJ u v).1,Nat.le_trans (WJ u v).2 (by decide)⟩
 | off w t nm=>
  refine ⟨h.2,JH (n:=4) λ d hd=>?_⟩;simp only [List.mem_cons,List.not_mem_nil,or_false] at hd
  rcases hd with rfl | rfl | rfl
  ·rcases h.2 with rfl | rfl <;> exact st (lit _ (by simp))
  ·exact JD _ _
  ·exact st (J7 h.1.2)
theorem VT {i:Int} (h:Bd 300 i):Pl 0 1921 (.int i):=Zao (by unfold Bd at h; lia)
theorem RD {t:Tl} (h:TlF t):Pl 20 51000 (tlD t):=by
 obtain ⟨h,hf⟩:=h;have pt:∀ {u v:Int},Bd 300 u->Bd 300 v->Pl 1 3849 (.tuple [.int u,.int v]):=λ a b=>(Pl.tup (Pls.cons (VT a) (Pls.cons (VT b) Pls.nil))).le (by decide) (by decide);cases t with
 | land t nm ou bs wb=>
  have po:Pl 0 102 (.str ou):=by
   rcases h.2.1 with rfl | ho
   ·exact Ei "" (n:=10) (by walk_at "k")
   ·exact (pNm ho).le (by decide) (by decide)
  have ps:Pl 3 46245 (.tuple (bs.map bD)):=by
   refine (Pl.tup (Pls.all (k:=2) (n:=7705) (m:=6) (by rw [List.length_map]; exact Nat.le_of_lt_succ hf) λ d hd=>?_)).le (by decide) (by decide);obtain ⟨c,hc,rfl⟩:=List.mem_map.mp hd;have hc:=h.2.2.2.1 c hc;exact (Pl.tup (Pls.cons (pt hc.1.1 hc.1.2) (Pls.cons (pt hc.2.1 hc.2.2) Pls.nil))).le (by decide) (by decide)
  exact (Pl.tup (Pls.cons (Ei "land" (n:=10) (by walk_at "k")) (Pls.cons (VT h.1.1) (Pls.cons (pNm h.1.2) (Pls.cons po (Pls.cons ps (Pls.cons (VT h.2.2.2.2) Pls.nil))))))).le (by decide) (by decide)
 | spot t nm u v=>exact (Pl.tup (Pls.cons (Ei "spot" (n:=10) (by walk_at "k")) (Pls.cons (VT h.1.1) (Pls.cons (pNm h.1.2) (Pls.cons (pt h.2.1 h.2.2) Pls.nil))))).le (by decide) (by decide)
 | off w t nm=>
  have pw:Pl 0 102 (.str w):=by rcases h.2 with rfl | rfl <;> exact Ei _ (n:=10) (by walk_at "k")
  exact (Pl.tup (Pls.cons pw (Pls.cons (VT h.1.1) (Pls.cons (pNm h.1.2) Pls.nil)))).le (by decide) (by decide)
theorem G9 {ts:List Tl} (hl:ts.length <= 300) (h:∀ t ∈ ts,TlF t):Shw (.list (ts.map tlD)):=by
 have o:=Od.lst (Pls.all (k:=20) (n:=51000) (m:=300) (l:=ts.map tlD) (by rw [List.length_map]; exact hl) λ d hd=>by
  obtain ⟨x,hx,rfl⟩:=List.mem_map.mp hd
  exact RD (h x hx))
 exact ⟨o.s,o.m,Nat.le_trans o.dp (by decide),Nat.le_trans (QD _ o.s) (Nat.le_trans o.z (by rw [sizeLine_eq]; decide))⟩
theorem PY {ts:List Tl} (h:∀ t ∈ ts,TlF t):Kc (.list (ts.map tlD)) (.list (ts.map tlD)) = true /\ PyData.eqv (.list (ts.map tlD)) (.list (ts.map tlD)) = true:=by
 obtain ⟨a,b⟩:=YS (l:=ts.map tlD) (n:=5) λ d hd=>by
  obtain ⟨t,m,rfl⟩:=List.mem_map.mp hd;exact (E1 (h t m)).2
 have c:(PyData.list (ts.map tlD)).canLay0 = true:=by rw [PyData.canLay0]; exact a
 refine ⟨?_,PySem.SeqAt.eqv_refl _ c⟩;unfold Kc;rw [c,PyData.depth];simp only [Bool.and_self,Bool.true_and,Nat.min_self];exact Nat.ble_eq_true_of_le (by lia)
theorem L1 {α:Type}:∀ {l m:List α},l.Nodup->(∀ x ∈ l,x ∈ m)->l.length <= m.length
 | [],_,_,_=>Nat.zero_le _
 | a :: l,m,nd,h=>by
  obtain ⟨s,t,rfl⟩:=List.append_of_mem (h a (.head _));have nd':=List.nodup_cons.mp nd;have:=L1 (m:=s ++ t) nd'.2 λ x hx=>by
   rcases List.mem_append.mp (h x (.tail _ hx)) with hm | hm
   ·exact List.mem_append_left _ hm
   ·rcases List.mem_cons.mp hm with rfl | hm
    ·exact absurd hx nd'.1
    ·exact List.mem_append_right _ hm
  rw [List.length_append] at this ⊢;rw [List.length_cons,List.length_cons];lia
theorem Due.len {ts R:List Tl} (h:Due ts R):R.length <= ts.length:=L1 (h.up.imp λ {a b} e z=>by rw [z,BP rfl] at e; cases e) h.mem
theorem Uv {α:Type} (f:α->PyData) (l:List α) {r:Int} (h:0 <= r):DL.cutD (l.map f) none (some r) = (l.take r.toNat).map f:=by
 obtain ⟨n,rfl⟩:=Int.eq_ofNat_of_zero_le h;unfold DL.cutD;rw [HT.K4,show HT.sIx (l.map f).length 0 none = 0 from rfl,Nat.sub_zero,List.drop_zero,List.map_take];show List.take (min n (l.map f).length) (l.map f) = List.take n (l.map f)
 by_cases c:n <= (l.map f).length
 ·rw [Nat.min_eq_left c]
 ·rw [Nat.min_eq_right (by lia),List.take_of_length_le (Nat.le_refl _),List.take_of_length_le (by lia)]
theorem HL {ts us:List Tl} (hl:ts.length <= 300) (pm:us.Perm ((ts ++ ts.take n).take 300)) (x:Tl):x ∈ us ↔ x ∈ ts:=by
 rw [pm.mem_iff];constructor
 ·intro h;exact (List.mem_append.mp (List.mem_of_mem_take h)).elim id List.mem_of_mem_take
 ·intro h;rw [List.take_append];exact List.mem_append_left _ (by rw [List.take_of_length_le hl]; exact h)
local macro_rules | `(tactic| walk_at "rk")=>`(tactic| try simp (config:={ maxSteps:=10000000 }) only [↓HM,↓F6,↓Hy,↓EB,↓Ek,↓HD,↓Fn,↓Hd,↓B3,↓NS,↓NX,↓OC,↓NW,↓E3,↓F8,↓FP,↓Hl,↓Hj,↓EX,↓FI,↓FT,↓FO,↓EK,↓RQ,↓ZdD,↓ZaS,↓ZdC,↓SF,↓Zb6,↓Rw,↓Og,↓SG,↓Zch,↓R9,↓Eg,↓Sl,↓Nh,↓TR,↓So,↓Po,↓Rf,↓Hi,↓Hc,↓EI,↓Fd,↓Ep,↓Fe,↓RN,↓Zbs,↓Ml,↓D5,↓Er,↓MZ,↓Eu,↓Fb,↓E4,↓Zab,↓TC,↓Ng,↓Cw,↓ON,↓OG,↓SA,↓Oy,↓T3,↓Zaf,↓Qk,↓US,↓Wf,↓Fi,↓HJ,↓N0,↓Oi,↓Zae,↓Bb,↓OZ,↓HE,↓Nm,↓Gu,↓To,↓NM,↓Fo,↓HG,↓NG,↓RO,↓Dw,↓Zas,↓E9,↓FJ,↓Bi,↓FQ,GV,Cn,Fg,FD,Hk,Gn,JT,BW,ZbM,HN,R3,H9,Lo,Ln,RI,isNone_none,Wq,U6,UI,Wx,XM,K8,
 Option.bind_some,Option.bind_none,Option.join_some,Option.join_none,Option.getD_some,Option.map_some,Option.map_none,List.getElem?_cons_zero,List.getElem?_cons_succ,List.set_cons_zero,List.set_cons_succ,List.map_cons,List.map_nil,List.length_cons,List.length_nil,List.replicate,List.cons_append,List.nil_append,List.any_cons,List.any_nil,
 Zv,CU,↓reduceIte,Bool.not_true,Bool.not_false,Bool.or_false,Bool.or_true,Bool.true_or,Bool.false_or,Bool.and_true,Bool.and_false,Bool.true_and,Bool.false_and,Bool.bne_true,Bool.bne_false,Bool.false_eq_true,eq_self,true_and,and_true,Tg,Sw,Zak,exists_eq_left',exists_eq_left,Option.some.injEq,Nat.reduceAdd,Nat.reduceSub,Nat.zero_add,Nat.reduceLT,Nat.reduceLeDiff,Int.reduceToNat,Int.reducePow,Int.reduceSub,Int.reduceMul,Int.reduceAdd,Int.reduceNeg,
 Int.reduceLT,Int.reduceLE,Int.reduceEq,Int.zero_add,Int.cast_ofNat_Int,decide_true,decide_false,sizeLine_eq,Oa,FA,RU,T8,ZbL,ZbP,Zce,Zbh,ZbC,Zbl,Wk,K5,UR,UW,KI,XD,KR,Km,Xr,KJ,K7,Xq,YJ,X8,YG,Yv,XH,XO,YE,VP,Ym,Xg,XG,We,Kq,X7,YX,Xz,Wj,KO,U7,Gf,KL,XE,Wb,X1,XT,KQ,K9,Kb,YV,Xx,↓Uq,↓Ht,↓Hm,Mz,Ny,↓SV,↓Np,↓F4,↓OI,↓CV,↓N1,↓Es,↓Pg,↓Ob,↓BV,↓Eh,Nc,↓HC,↓G7,↓Bj,↓Yq,↓KH,↓BF,↓Ef,↓Hv,↓Ku,↓Cp,↓K0,↓C4,↓GJ,↓BI,↓WR,↓N8,↓GZ,↓Df,↓MV,↓BJ,↓Pt,↓OF,↓EU,↓Fv,↓Mv,↓CJ,↓EY,↓DQ,↓DR,↓UO,↓C6,↓BO,↓Nf,↓O6,↓D0,↓Ww,↓XB,↓Bh,↓Bi,↓Pp,↓UL])
theorem Zk (T:Tx w K mg):Q7 P w K mg base CX0 1 T.L4 T.Ma ["_law_pen", "_law_many"] (lift K LH):=by
 refine okD T.Zo.F Jk (λ xs M Φ h=>by obtain ⟨_,_,rfl,_⟩:=ZZ h; rfl) λ cdv A outer s H E hr=>⟨_,(Zd (Qp (ZG El (Zm (Zb 0) Zc) Zc) (Zd (Zj 6 Jk.nd (Zh QC (Zm (Zb 0) Zc) (Zb 1)))
 (Zd (JU (Zh WK (Zm (Zb 0) Zc) (Zb 1)) (Y6 (Zb 0) Zc))
 (Zg (Zs (Zb 6))))) ZD)
 (Zd (Zj 2 Jk.nd (Zm (Zb 0) Zc))
 (Zd (JU (Zh Zq (Zb 2) Zc) (Y6 (Zb 0) Zc))
 (Zd (Zj 3 Jk.nd Zc)
 (Zd (Qp (ZG El (Zt QY rfl T.JY QN (Za (Zm (Zb 0) Zc) Ze)) Zc) (Zg (Zj 3 Jk.nd (Zm (Zm (Zb 0) Zc) (Zh QC (Zb 2) (Zt QY rfl T.JY QN (Za (Zm (Zb 0) Zc) Ze)))))) ZD)
 (Zd (Qp (DW.dt (Ud (ZG DF (Zb 2) (Zt QY rfl T.JY QN (Za (Zm (Zb 0) Zc) Ze))) (YT (ZG Zcg (Zt Bm rfl T.Pq Cq (Za (Zb 3) Ze)) (Zh Jx Zc Zc))))) (Zd (JU (Zh WK (Zt Bm rfl T.Pq Cq (Za (Zb 3) Ze)) (Zb 1)) (Y6 (Zb 0) Zc))
 (Zg (Zs (Zh QC (Zt Bm rfl T.Pq Cq (Za (Zb 3) Ze)) (Zb 1))))) ZD)
 (Zd (Zj 4 Jk.nd (Zh QC (Zh Qh (Zh Zq (Zh Zq (Zh QC (Zb 3) Zc) (Zh Qh Zc (Zb 2))) Zc) Zc) Zc))
 (Zd (Zj 5 Jk.nd (Zh QC (Zh Zq (Zh Zq (Zh Qh (Zb 4) (Zb 4)) (Zh Qh Zc (Zb 4))) (Zh Qh Zc (Zb 2))) Zc))
 (Zg (Zs (Zh QC (Zh Wm (Zh QC (Zh Qh (Zb 5) (Zh Zq (Zh QC (Zb 5) Zc) Zc)) Zc) Zc) (Zb 1)))))))))))),λ xs M Φ h=>?_⟩
 replace h:=ZZ h;obtain ⟨x1,x2,rfl,h⟩:=h;replace h:=ZM h;obtain ⟨p,rfl,h⟩:=h;replace h:=ZS h;obtain ⟨m,rfl,⟨h0,h1⟩,hp,h⟩:=h;obtain ⟨ns,i,b,hi,hp⟩:=hp.get;have lg:m.natAbs.log2 < 9000:=Nat.lt_of_lt_of_le (YM (k:=200) (by lia) (by decide)) (by decide);have fin:∀ (x j c:Int),0 <= j->Φ (.dat (.int (x % m))) (Zu M p (.lst [.list (ns.map PyData.int),.int j,.int c])):=λ x j c hj=>h _ _ (Xk x h0).1 (Xk x h0).2 (Fr.Zu ⟨ns,j,c,hj,rfl⟩);walk_at "h";simp only [hp];walk_at "rk";refine Zl (λ h2=>?_) λ h2=>?_
 ·exact ⟨h0,⟨h0,lg⟩,fin _ _ _ hi⟩
 ·walk_at "h";simp only [hp];walk_at "rk";walk_at "h";simp only [hp];walk_at "rk";walk_at "h";walk_at "h";rw [List.length_map];refine Zl (λ hl=>?_) λ hl=>?_
  ·have hm:=Xk i hl;obtain ⟨c,hc⟩:=MD (ns:=ns) hm.1 hm.2;refine ⟨hl,QF hc ?_⟩;walk_at "h";rw [List.length_map];refine Zl (λ h2=>⟨Hr _ (by decide),Zl (λ h3=>⟨⟨h0,lg⟩,h0,fin _ _ _ (by lia)⟩) λ h3=>?_⟩) λ h2=>?_
   ·walk_at "h";refine ⟨.inl (by decide),.inr (by decide),?_⟩;walk_at "h";refine ⟨.inl (by lia),.inl (by decide),.inl (by decide),?_⟩;subst_vars;walk_at "rk";refine ⟨.inl (by lia),⟨by decide,by decide⟩,by assumption,?_⟩;exact fin _ _ _ (by lia)
   ·walk_at "h";refine ⟨.inl (by decide),.inr (by decide),?_⟩;walk_at "h";refine ⟨.inl (by lia),.inl (by decide),.inl (by decide),?_⟩;subst_vars;walk_at "rk";refine ⟨.inl (by lia),⟨by decide,by decide⟩,by assumption,?_⟩;exact fin _ _ _ (by lia)
  ·walk_at "h";rw [List.length_map];refine Zl (λ h2=>absurd h2 (by lia)) λ h2=>?_;walk_at "h";refine ⟨.inl (by decide),.inr (by decide),?_⟩;walk_at "h";refine ⟨.inl (by lia),.inl (by decide),.inl (by decide),?_⟩;subst_vars;walk_at "rk";refine ⟨.inl (by lia),⟨by decide,by decide⟩,by assumption,?_⟩;exact fin _ _ _ (by lia)
theorem Y4 (T:Tx w K mg):Q7 P w K mg base CX0 2 T.LN T.HU ["_law_pen", "_law_many"] (lift K H4):=by
 refine okD T.X3.F YD (λ xs M Φ h=>by obtain ⟨_,_,rfl,_⟩:=ZZ h; rfl) λ cdv A outer s H E hr=>⟨_,(Zd (Qp (ZG DF (Zb 1) (Zh Jx Zc Zc)) (Zg (Zs (cO T.Zo (Zk T) hr (Za (Zb 0) (Za (Zb 1) Ze))))) ZD)
 (Zd (Zj 2 YD.nd Zc)
 (Zd (J8 rfl T.Qz (Za (Zh Zq (Zh Wm (Zt Pd rfl T.JY QN (Za (QW Mr rfl T.ZbT PQ (Za (Zb 1) Ze)) Ze)) Zc) Zc) Ze) (Zw 3 YD.nd) (Zg (Zj 2 YD.nd (Zh Zq (Zh Qh (Zb 2) (Zh Jx Zc Zc)) (cO T.Zo (Zk T) hr (Za (Zb 0) (Za (Zh Jx Zc Zc) Ze)))))) PassesOwn.never rfl)
 (Zg (Zs (Zh QC (Zb 2) (Zb 1))))))),λ xs M Φ h=>?_⟩
 replace h:=ZZ h;obtain ⟨x1,x2,rfl,h⟩:=h;replace h:=ZM h;obtain ⟨p,rfl,h⟩:=h;replace h:=ZS h;obtain ⟨m,rfl,⟨h0,h1⟩,hp,h⟩:=h;have lg:m.natAbs.log2 < 1920:=Nat.lt_of_lt_of_le (YM (k:=200) (by lia) (by decide)) (by decide);walk_at "h";refine ⟨Hr _ (by decide),Zl (λ h2=>⟨⟨h0,h1⟩,hp,h⟩) λ h2=>?_⟩;have hz:=int_text_len_1921 lg;walk_at "h";walk_at "h";refine ⟨lg,by lia,⟨by decide,by decide⟩,⟨by lia,by lia⟩,λ i Δ M'=>∃ (v:Int) (kk:Option DV),Δ = [some (.own p),some (.dat (.int m)),some (.dat (.int v)),kk] /\ Fr p M M',⟨0,none,rfl,Fr.refl hp⟩,?_,?_⟩
 ·rintro i Δ M' hi ⟨v,kk,rfl,hf⟩;walk_at "rk";refine ⟨Hr _ (by decide),.inr (by decide),Hr _ (by decide),hf.1,λ r M2 h3 h4 f2=>?_⟩;exact ⟨_,_,rfl,hf.trans f2⟩
 ·rintro Δ M' ⟨v,kk,rfl,hf⟩;subst_vars;walk_at "rk";exact ⟨h0,h _ _ (Xk v h0).1 (Xk v h0).2 hf⟩
theorem Ui (T:Tx w K mg):Q7 P w K mg base CX0 2 T.CN T.Bc ["_law_pen", "_law_many"] (lift K Gr):=by
 refine okD T.Wg.F Ql (λ xs M Φ h=>by obtain ⟨_,_,rfl,_⟩:=ZZ h; rfl) λ cdv A outer s H E hr=>⟨_,(Zd (Zj 2 Ql.nd Zn)
 (Zd (Zj 3 Ql.nd (Qt (Za Zn (Za Zn (Za Zn (Za Zn (Za Zn (Za Zn (Za Zn (Za Zn (Za Zn (Za Zn (Za Zn (Za Zn (Za Zn Ze)))))))))))))))
 (Zd (Zj 4 Ql.nd (Oo Zn (Jl false (Z3 (sc:=Zf QZ) (XN:=["_law_pen", "_law_many", "_law_letters", "_law_words", "_law_base", "_law_start", "_law_manner", "_law_long", "_law_at", "_law_signs"]) (N:=["_law_k", "_law_letters", "_law_pen"]) (ix:=[none,some 2,some 0]) rfl rfl (by walk_at "k")) (QB rfl T.Qz (Za Zc Ze)) (λ C ex s H=>(Zw 0 (show List.Nodup (["_law_k", "_law_letters", "_law_pen"]:List Str) by walk_at "k"))) (λ C ex s H=>QT) (λ C ex s H=>(Me (Zb 1) (cO T.Zo (Zk T) hr (Za (Zb 2) (Za Zc Ze))))) rfl)))
 (Zd (Zj 5 Ql.nd (cO T.Zo (Zk T) hr (Za (Zb 0) (Za Zc Ze))))
 (Zd (Zj 6 Ql.nd (cO T.Zo (Zk T) hr (Za (Zb 0) (Za Zc Ze))))
 (Zd (Qp (ZG (Vz hr) (Zb 6) Zc) (Zg (Zs (Jl false (Z3 (sc:=Zf QZ) (XN:=["_law_pen", "_law_many", "_law_letters", "_law_words", "_law_base", "_law_start", "_law_manner", "_law_long", "_law_at", "_law_signs"]) (N:=["_law_k", "_law_base", "_law_start"]) (ix:=[none,some 4,some 5]) rfl rfl (by walk_at "k")) (QB rfl T.Qz (Za (Zb 1) Ze)) (λ C ex s H=>(Zw 0 (show List.Nodup (["_law_k", "_law_base", "_law_start"]:List Str) by walk_at "k"))) (λ C ex s H=>QT) (λ C ex s H=>(Vi (Zb 1) ZX (ZP (Zh Zq (Zh QC (Zh Zq (Zb 2) (Zh Qh Zc (Zb 0))) Zc) Zc)))) rfl))) ZD)
 (Zd (Qp (ZG (Vz hr) (Zb 6) Zc) (Zg (Zs (Jl false (Z3 (sc:=Zf QZ) (XN:=["_law_pen", "_law_many", "_law_letters", "_law_words", "_law_base", "_law_start", "_law_manner", "_law_long", "_law_at", "_law_signs"]) (N:=["_law_k", "_law_words", "_law_start"]) (ix:=[none,some 3,some 5]) rfl rfl (by walk_at "k")) (QB rfl T.Qz (Za (Zb 1) Ze)) (λ C ex s H=>(Zw 0 (show List.Nodup (["_law_k", "_law_words", "_law_start"]:List Str) by walk_at "k"))) (λ C ex s H=>QT) (λ C ex s H=>(Zm (Zb 1) (Zh QC (Zh Zq (Zb 2) (Zb 0)) Zc))) rfl))) ZD)
 (Zd (Zj 7 Ql.nd (Zh Zq Zc (cO T.Zo (Zk T) hr (Za (Zb 0) (Za Zc Ze)))))
 (Zd (Zj 8 Ql.nd (cO T.Zo (Zk T) hr (Za (Zb 0) (Za (Zb 7) Ze))))
 (Zd (Bo 9 false Ql.nd (Z3 (sc:=Zf QZ) (XN:=["_law_pen", "_law_many", "_law_letters", "_law_words", "_law_base", "_law_start", "_law_manner", "_law_long", "_law_at", "_law_signs"]) (N:=["_law_k", "_law_letters", "_law_start"]) (ix:=[none,some 2,some 5]) rfl rfl (by walk_at "k")) (QB rfl T.Qz (Za (Zb 1) Ze)) (λ C ex s H=>(Zw 0 (show List.Nodup (["_law_k", "_law_letters", "_law_start"]:List Str) by walk_at "k"))) (λ C ex s H=>QT) (λ C ex s H=>(Me (Zb 1) (Zh QC (Zh Zq (Zb 2) (Zh Qh Zc (Zb 0))) Zc))) rfl)
 (Zg (Zs (Jl false (Z3 (sc:=Zf QZ) (XN:=["_law_pen", "_law_many", "_law_letters", "_law_words", "_law_base", "_law_start", "_law_manner", "_law_long", "_law_at", "_law_signs"]) (N:=["_law_sign", "_law_base", "_law_long", "_law_at"]) (ix:=[none,some 4,some 7,some 8]) rfl rfl (by walk_at "k")) (Wh (Zb 9)) (λ C ex s H=>(Zw 0 (show List.Nodup (["_law_sign", "_law_base", "_law_long", "_law_at"]:List Str) by walk_at "k"))) (λ C ex s H=>QT) (λ C ex s H=>(Zh DH (Zh DH (Vi (Zb 1) ZX (ZP (Zb 3))) (Zb 0)) (Vi (Zb 1) (ZP (Zh Zq (Zb 3) Zc)) (ZP (Zb 2))))) rfl))))))))))))),λ xs M Φ h=>?_⟩
 replace h:=ZZ h;obtain ⟨x1,x2,rfl,h⟩:=h;replace h:=ZM h;obtain ⟨p,rfl,h⟩:=h;replace h:=ZS h;obtain ⟨m,rfl,⟨hm0,hm8⟩,hp,h⟩:=h;walk_at "h";walk_at "h";walk_at "h";refine ⟨⟨by decide,by decide⟩,by rw [ZV]; decide,λ i acc M'=>∃ ss:List Str,acc = ss.map PyData.str /\ ss.length = i /\ (∀ s ∈ ss,ZaC s) /\ Fr p M M',⟨[],rfl,rfl,λ s hs=>(nomatch hs),Fr.refl hp⟩,?_,?_⟩
 ·rintro i d acc M' hd ⟨ss,rfl,hl,ha,hf⟩;refine ⟨hf.1,λ r M2 h0 h1 f2=>⟨by rw [GU]; decide,?_⟩⟩;obtain ⟨c,hc,c1⟩:=LB h0 h1;refine ⟨c,hc,ss ++ [⟨#[c]⟩],by rw [List.map_append]; rfl,by rw [List.length_append,hl]; rfl,λ s hs=>?_,hf.trans f2⟩
  rcases List.mem_append.mp hs with hs | hs
  ·exact ha s hs
  ·rw [List.mem_singleton.mp hs];exact ⟨c,rfl,c1⟩
 ·rintro acc M1 ⟨ss,rfl,hl,ha,hf⟩;rw [ZV] at hl;refine ⟨ss,rfl,N7 (B:=1) (λ y hy=>by obtain ⟨c,rfl,_⟩:=ha y hy; exact Nat.le_refl 1) (by rw [hl]; decide),?_⟩;obtain ⟨bl,bc⟩:=Cj hl ha;generalize Txt.join (Str.ofString "") ss = b at *;walk_at "h";refine ⟨hf.1,λ st M2 s0 s1 f2=>?_⟩;walk_at "h";refine ⟨f2.1,λ mn M3 m0 m1 f3=>?_⟩;have fin:∀ (ds:List PyData) (M':Mp),Nms m.toNat ds->Fr p M3 M'->Φ (.dat (.list ds)) M':=λ ds M' hn hm=>by
   obtain ⟨ss,rfl,h8,ha⟩:=hn;exact h ss M' h8 ha (((hf.trans f2).trans f3).trans hm)
  walk_at "h";refine Zl (λ z=>?_) λ z=>?_
  ·refine ⟨⟨by lia,by lia⟩,by rw [ZV]; lia,λ i acc M'=>Nms i acc /\ M' = M3,⟨⟨[],rfl,rfl,λ s hs=>(nomatch hs)⟩,rfl⟩,?_,?_⟩
   ·rintro i d acc M' hd ⟨hn,rfl⟩;have hi:i < m.toNat:=by have:=(List.getElem?_eq_some_iff.mp hd).1; rw [ZV] at this; exact this
    rw [J5 hi] at hd;cases hd;walk_at "rk";refine ⟨.inl (by decide),by lia,hn.snoc ⟨?_,λ c hc=>bc c (Kr hc)⟩⟩;have hm:=Xk (st + 3 * (i:Int)) (show (0:Int) < 8 by decide);rw [Ky,W2 (by lia),bl];show 1 <= _ - 0 /\ _ - 0 <= 8;lia
   ·rintro acc M' ⟨hn,rfl⟩;rw [ZV] at hn;exact fin _ _ hn (Fr.refl f3.1)
  ·walk_at "h";refine Zl (λ z=>?_) λ z=>?_
   ·refine ⟨⟨by lia,by lia⟩,by rw [ZV]; lia,λ i acc M'=>Nms i acc /\ M' = M3,⟨⟨[],rfl,rfl,λ s hs=>(nomatch hs)⟩,rfl⟩,?_,?_⟩
    ·rintro i d acc M' hd ⟨hn,rfl⟩;have hi:i < m.toNat:=by have:=(List.getElem?_eq_some_iff.mp hd).1; rw [ZV] at this; exact this
     rw [J5 hi] at hd;cases hd;walk_at "rk";have hm:=Xk (st + (i:Int)) (show (0:Int) < 13 by decide);exact tabS (l:=["land", "drop", "free", "spot", "comes", "goes", "in", "out", "stays", "wait", "none", "a", "z"]) Z2 hm.1 hm.2 Dh λ s hs=>hn.snoc hs
    ·rintro acc M' ⟨hn,rfl⟩;rw [ZV] at hn;exact fin _ _ hn (Fr.refl f3.1)
   ·walk_at "h";refine ⟨f3.1,λ lg M4 l0 l1 f4=>?_⟩;walk_at "h";refine ⟨⟨by lia,by lia⟩,f4.1,λ at' M5 t0 t1 f5=>?_⟩;walk_at "h";refine ⟨⟨by lia,by lia⟩,by rw [ZV]; lia,λ i acc M'=>(∃ ss:List Str,acc = ss.map PyData.str /\ ss.length = i /\ ∀ s ∈ ss,ZaC s) /\ M' = M5,⟨⟨[],rfl,rfl,λ s hs=>(nomatch hs)⟩,rfl⟩,?_,?_⟩
    ·rintro i d acc M' hd ⟨⟨ss,rfl,hl,ha⟩,rfl⟩;have hi:i < m.toNat:=by have:=(List.getElem?_eq_some_iff.mp hd).1; rw [ZV] at this; exact this
     rw [J5 hi] at hd;cases hd;walk_at "rk";have hm:=Xk (st + 5 * (i:Int)) (show (0:Int) < 26 by decide);obtain ⟨c,hc,c1⟩:=LB hm.1 hm.2;refine ⟨.inl (by decide),by rw [GU]; decide,c,by simpa using hc,ss ++ [⟨#[c]⟩],by rw [List.map_append]; rfl,by rw [List.length_append,hl]; rfl,λ s hs=>?_⟩
     rcases List.mem_append.mp hs with hs | hs
     ·exact ha s hs
     ·rw [List.mem_singleton.mp hs];exact ⟨c,rfl,c1⟩
    ·rintro acc M' ⟨⟨ss2,rfl,h8,ha2⟩,rfl⟩;rw [ZV] at h8;subst_vars;walk_at "rk";refine ⟨by rw [List.length_map,h8]; lia,λ i acc M2=>Nms i acc /\ M2 = M',⟨⟨[],rfl,rfl,λ s hs=>(nomatch hs)⟩,rfl⟩,?_,?_⟩
     ·rintro i d acc M' hd ⟨hn,rfl⟩;obtain ⟨s,es,rfl⟩:=Q6 hd;obtain ⟨c,rfl,c1⟩:=ha2 s (List.mem_of_getElem? es);walk_at "rk";have k1:(C8 b none (some at')).length = at'.toNat:=by
       rw [Ky,W2 t0,bl];show _ - 0 = _;lia
      have k2:(C8 b (some (at' + 1)) (some (1 + lg))).length = (lg - at').toNat:=by
       rw [Ky,W2 (by lia),W2 (by lia),bl];lia
      refine ⟨by lia,by rw [k1,Kv]; lia,by lia,by rw [KZ,k1,k2,Kv]; lia,hn.snoc ⟨?_,λ d hd=>?_⟩⟩
      ·rw [KZ,KZ,k1,k2,Kv];lia
      ·rw [add_list,add_list,W6] at hd
       rcases List.mem_append.mp hd with hd | hd
       ·rcases List.mem_append.mp hd with hd | hd
        ·exact bc d (Kr hd)
        ·rw [List.mem_singleton.mp hd];exact c1
       ·exact bc d (Kr hd)
     ·rintro acc M' ⟨hn,rfl⟩;rw [List.length_map,h8] at hn;exact fin _ _ hn (f4.trans f5)
theorem Eb (T:Tx w K mg):Q7 P w K mg base CX0 2 T.Co T.Dj ["_law_pen", "_law_most"] (lift K Gv):=by
 refine okD T.CC.F Qu (λ xs M Φ h=>by obtain ⟨_,_,rfl,_⟩:=ZZ h; rfl) λ cdv A outer s H E hr=>⟨_,(Zd (Zj 2 Qu.nd (Qt (Za (cO T.Zo (Zk T) hr (Za (Zb 0) (Za Zc Ze))) (Za (cO T.Zo (Zk T) hr (Za (Zb 0) (Za Zc Ze))) Ze))))
 (Zd (Zj 3 Qu.nd (QV (Za (ZR (Za (QW Je rfl T.YZ J6 (Za (Zb 2) Ze)) (Za (ZR (Za (Zh Zq (Zm (Zb 2) Zc) (cO T.Zo (Zk T) hr (Za (Zb 0) (Za Zc Ze)))) (Za (Zh Zq (Zm (Zb 2) Zc) (cO T.Zo (Zk T) hr (Za (Zb 0) (Za Zc Ze)))) Ze))) Ze))) Ze)))
 (Zd (J8 rfl T.Qz (Za (cO T.Zo (Zk T) hr (Za (Zb 0) (Za (Zb 1) Ze))) Ze) (Zw 4 Qu.nd) (Zd (JU (Zm (Zb 3) (Vg Zc)) (UG (n:=2) rfl (Qw (Zw 6 Qu.nd) (Qw (Zw 7 Qu.nd) YK))))
 (Zd (Zj 5 Qu.nd (Qt (Za (cO T.Zo (Zk T) hr (Za (Zb 0) (Za Zc Ze))) (Za (cO T.Zo (Zk T) hr (Za (Zb 0) (Za Zc Ze))) Ze))))
 (Zd (E8 2 false Qu.nd (Z3 (sc:=Zf Y2) (XN:=["_law_pen", "_law_most", "_law_low", "_law_found", "_law_k", "_law_wide_here", "_law_first", "_law_last"]) (N:=["_law_w", "_law_pen", "_law_first", "_law_wide_here", "_law_last"]) (ix:=[none,some 0,some 6,some 5,some 7]) rfl rfl (by walk_at "k")) (QB rfl T.Qz (Za Zc Ze)) (λ C ex s H=>(Zw 0 (show List.Nodup (["_law_w", "_law_pen", "_law_first", "_law_wide_here", "_law_last"]:List Str) by walk_at "k"))) (λ C ex s H=>QT) (λ C ex s H=>(Zh Zq (Zh Q5 (Zh Q5 (Zm (Zb 2) (Zb 0)) (Zm (Zb 3) (Zb 0))) Zc) (cO T.Zo (Zk T) hr (Za (Zb 1) (Za (Zh Zq (Zh Zq (Zh Q5 (Zm (Zb 4) (Zb 0)) (Zm (Zb 2) (Zb 0))) (Zm (Zb 3) (Zb 0))) Zc) Ze))))) rfl)
 (Zg (QH (QU (Zb 3) (ZR (Za (QW Je rfl T.YZ J6 (Za (Zb 2) Ze)) (Za (ZR (Za (Zh Zq (Zm (Zb 2) Zc) (Zm (Zb 5) Zc)) (Za (Zh Zq (Zm (Zb 2) Zc) (Zm (Zb 5) Zc)) Ze))) Ze))))))))) PassesOwn.never rfl)
 (Zg (Zs (Ka (Zb 3))))))),λ xs M Φ h=>?_⟩
 replace h:=ZZ h;obtain ⟨x1,x2,rfl,h⟩:=h;replace h:=ZM h;obtain ⟨p,rfl,h⟩:=h;replace h:=ZS h;obtain ⟨m,rfl,hm,hp,h⟩:=h;walk_at "h";refine ⟨hp,λ x1 M1 a1 b1 f1=>⟨f1.1,λ y1 M2 a2 b2 f2=>?_⟩⟩;walk_at "h";refine ⟨f2.1,λ x2 M3 a3 b3 f3=>⟨f3.1,λ y2 M4 a4 b4 f4 q hq=>?_⟩⟩;have F0:=((f1.trans f2).trans f3).trans f4;have n1:q ≠ p:=Ne.symm (f4.1.ne hq);have q0:M q = none:=F0.fresh hq;walk_at "h";refine ⟨⟨by lia,by lia⟩,f4.1.put (Ne.symm n1),λ r M5 a5 b5 f5=>⟨⟨by lia,by lia⟩,?_⟩⟩
 refine ⟨λ i Δ M'=>∃ (cs:List B4) (b:B4) (k2 k4 k5 k6 k7:Option DV),Δ = [some (.own p),some (.dat (.int m)),k2,some (.own q),k4,k5,k6,k7] /\ cs.length = i /\ chB (cs ++ [b]) = true /\ (∀ c ∈ cs ++ [b],Grb i c) /\ M' q = some (.lst (cs.map bD ++ [bD b])) /\ Fr p M M',
  ⟨[],⟨x1,y1,x1 + x2,y1 + y2⟩,_,_,_,_,_,rfl,rfl,rfl,?_,f5.own Zv n1,(F0.new q0 n1).trans f5⟩,?_,?_⟩
 ·intro c hc;rw [List.mem_singleton.mp hc];unfold Grb;dsimp only;lia
 ·rintro i Δ M' hi ⟨cs,b,k2,k4,k5,k6,k7,rfl,hl,hch,hcs,hq',hF⟩;have hb:=hcs b (List.mem_append_right _ (List.mem_singleton.mpr rfl));unfold Grb at hb;rw [Qk];walk_at "h";simp only [hq'];walk_at "rk";walk_at "h";refine ⟨hF.1,λ w1 M6 a6 b6 f6=>⟨f6.1,λ w2 M7 a7 b7 f7=>?_⟩⟩;walk_at "h";refine ⟨⟨by decide,by decide⟩,⟨by lia,by lia⟩,f7.1,λ u1 M8 a8 b8 f8=>⟨⟨by lia,by lia⟩,f8.1,λ u2 M9 a9 b9 f9=>?_⟩⟩;have F1:=((f6.trans f7).trans f8).trans f9;subst_vars;walk_at "rk";simp only [F1.own hq' n1];walk_at "rk";refine ⟨by rw [List.length_append,List.length_map,List.length_singleton]; lia,cs ++ [b],⟨b.x - w1 - 1 + u1,b.y - w2 - 1 + u2,b.x - w1 - 1 + u1 + w1,b.y - w2 - 1 + u2 + w2⟩,_,_,_,_,_,rfl,by rw [List.length_append]; rfl,?_,λ c hc=>?_,?_,(hF.trans F1).new q0 n1⟩
  ·rw [List.append_assoc];show chB (cs ++ [b,_]) = true;rw [WV,hch,decide_eq_true (DY (by dsimp only; lia) (by dsimp only; lia) (by dsimp only; lia) (by dsimp only; lia))];rfl
  ·rcases List.mem_append.mp hc with hc | hc
   ·have:=hcs c hc;unfold Grb at this ⊢;lia
   ·rw [List.mem_singleton.mp hc];unfold Grb;dsimp only;lia
  ·rw [List.map_append];rfl
 ·rintro Δ M' ⟨cs,b,k2,k4,k5,k6,k7,rfl,hl,hch,hcs,hq',hF⟩;subst_vars;walk_at "rk";simp only [hq'];walk_at "rk";rw [show cs.map bD ++ [bD b] = (cs ++ [b]).map bD by rw [List.map_append]; rfl];refine h _ _ ⟨by rw [List.length_append,List.length_singleton]; lia,hch,λ c hc=>?_⟩ (hF.gone q0 n1);have:=hcs c hc;unfold Grb at this ⊢;lia
theorem Kk (T:Tx w K mg):Q7 P w K mg base CX0 1 T.Vf T.Vd ["_law_boxes_here", "_law_by", "_law_off"] (lift K Vt):=by
 refine okG T.VC.F Qa (λ xs M Φ h=>by obtain ⟨_,_,_,rfl,_⟩:=VW h; rfl) λ cdv A outer s H E hr=>⟨_,(Zd (Zj 3 Qa.nd (QV Ze))
 (Zd (JL (Zb 0) (UG (n:=2) rfl (Qw (Zw 4 Qa.nd) (Qw (Zw 5 Qa.nd) YK))) (Zd (Zj 6 Qa.nd (ZR (Za (Zh Zq (Zh Qh (Zm (Zb 4) Zc) (Zb 1)) (Zm (Zb 2) Zc)) (Za (Zh Zq (Zh Qh (Zm (Zb 4) Zc) (Zb 1)) (Zm (Zb 2) Zc)) Ze))))
 (Zg (QH (QU (Zb 3) (ZR (Za (Zb 6) (Za (ZR (Za (Zh Zq (Zh Q5 (Zh Zq (Zh Qh (Zm (Zb 5) Zc) (Zb 1)) (Zb 1)) Zc) (Zm (Zb 2) Zc)) (Za (Zh Zq (Zh Q5 (Zh Zq (Zh Qh (Zm (Zb 5) Zc) (Zb 1)) (Zb 1)) Zc) (Zm (Zb 2) Zc)) Ze))) Ze))))))) PassesOwn.never rfl)
 (Zg (Zs (QW Je rfl T.YZ J6 (Za (Zb 3) Ze)))))),λ xs M Φ h=>?_⟩
 replace h:=VW h;obtain ⟨x1,x2,x3,rfl,h⟩:=h;replace h:=NI h;obtain ⟨bs,rfl,h⟩:=h;replace h:=ZS h;obtain ⟨f,rfl,h⟩:=h;replace h:=Rj h;obtain ⟨ox,oy,rfl,hs,h⟩:=h;walk_at "h";intro q hq;walk_at "h";refine ⟨λ i Δ M'=>∃ k4 k5 k6,Δ = [some (.dat (.list (bs.map bD))),some (.dat (.int f)),some (.dat (.tuple [.int ox,.int oy])),some (.own q),k4,k5,k6] /\ M' = Zu M q (.lst (((bs.take i).map (Y5 f ox oy)).map bD)),⟨none,none,none,rfl,rfl⟩,?_,?_⟩
 ·rintro i d Δ M' hd ⟨k4,k5,k6,rfl,rfl⟩;obtain ⟨b,eb,rfl⟩:=Q6 hd;have hb:=hs.2.2 _ (List.mem_of_getElem? eb);unfold Grb at hb;walk_at "rk";refine ⟨.inl (by lia),.inl (by lia),.inl (by lia),.inl (by lia),by rw [List.length_map,List.length_map,List.length_take]; have:=hs.1.2; lia,_,_,_,rfl,?_⟩;rw [<- take_snoc (Y5 f ox oy) eb,List.map_append];rfl
 ·rintro Δ M' ⟨k4,k5,k6,rfl,rfl⟩;rw [List.length_map,List.take_length];subst_vars;walk_at "rk";exact Y8 hq h
theorem U4 (T:Tx w K mg):Q7 P w K mg base CX0 3 T.Xa T.XY ["_law_pen"] (lift K Xd):=by
 refine okD T.XX.F Ja (λ xs M Φ h=>by obtain ⟨_,rfl,_⟩:=ZU h; rfl) λ cdv A outer s H E hr=>⟨_,(Zd (Zj 1 Ja.nd (Zm (Qt (Za Zc (Za Zc (Za Zc (Za Zc (Za Zc (Za (Zh Jx Zc Zc) Ze))))))) (cO T.Zo (Zk T) hr (Za (Zb 0) (Za Zc Ze)))))
 (Zd (Zj 2 Ja.nd (Zm (Qt (Za (ZR (Za Zc (Za Zc Ze))) (Za (ZR (Za (Zh Q5 (cO T.Zo (Zk T) hr (Za (Zb 0) (Za Zc Ze))) Zc) (Za (Zh Q5 (cO T.Zo (Zk T) hr (Za (Zb 0) (Za Zc Ze))) Zc) Ze))) Ze))) (cO T.Zo (Zk T) hr (Za (Zb 0) (Za Zc Ze)))))
 (Zd (Qp (ZG (Vz hr) (Zb 1) (Zh Jx Zc Zc)) (Zg (Zj 2 Ja.nd (ZR (Za (cO T.X3 (Y4 T) hr (Za (Zb 0) (Za (Zh Jx Zc Zc) Ze))) (Za (Zh Q5 Zc (cO T.X3 (Y4 T) hr (Za (Zb 0) (Za (Zh Jx Zc Zc) Ze)))) Ze))))) ZD)
 (Zg (Zs (ZR (Za (Zb 1) (Za (Zb 2) Ze)))))))),λ xs M Φ h=>?_⟩
 replace h:=ZU h;obtain ⟨x1,rfl,h⟩:=h;replace h:=ZM h;obtain ⟨p,rfl,hp,h⟩:=h;walk_at "h";refine ⟨Hr _ (by decide),hp,λ r1 M1 a1 b1 f1=>tab (l:=[1,1,1,2,1000,10000000000]) (λ t=>1 <= t /\ t <= 10000000000) a1 (by simp only [List.length_cons,List.length_nil]; lia) (by decide) λ f hf=>?_⟩;walk_at "h";refine ⟨f1.1,λ x M2 a2 b2 f2=>⟨f2.1,λ y M3 a3 b3 f3=>⟨f3.1,λ r4 M4 a4 b4 f4=>?_⟩⟩⟩;have F:=((f1.trans f2).trans f3).trans f4;have two:∃ ox oy:Int,(-20 <= ox /\ ox <= 20) /\ (-20 <= oy /\ oy <= 20) /\ ∀ P:PyData->Prop,Ke [.tuple [.int 0,.int 0],.tuple [.int (x - 20),.int (y - 20)]] r4 P = P (.tuple [.int ox,.int oy]):=by
  have:r4 = 0 \/ r4 = 1:=by lia
  rcases this with rfl | rfl
  ·exact ⟨0,0,by lia,by lia,λ P=>rfl⟩
  ·exact ⟨x - 20,y - 20,by lia,by lia,λ P=>rfl⟩
 obtain ⟨ox,oy,hx,hy,e⟩:=two;rw [e];clear e;walk_at "h";refine ⟨Hr _ (by decide),Zl (λ z=>?_) λ z=>?_⟩
 ·walk_at "rk";refine ⟨Hr _ (by decide),f4.1,λ u M5 a5 b5 f5=>⟨Hr _ (by decide),f5.1,λ v M6 a6 b6 f6=>?_⟩⟩;subst_vars;walk_at "rk";exact h _ _ _ _ ⟨by lia,by lia,by lia⟩ ((F.trans f5).trans f6)
 ·subst_vars;walk_at "rk";exact h _ _ _ _ ⟨hf,by lia,by lia⟩ F
theorem Ff (T:Tx w K mg):Q7 P w K mg base CX0 4 T.GW T.B2 ["_law_pen"] (lift K B7):=by
 refine okD T.Dc.F Qv (λ xs M Φ h=>by obtain ⟨_,rfl,_⟩:=ZU h; rfl) λ cdv A outer s H E hr=>⟨_,(Zd (JU (cO T.XX (U4 T) hr (Za (Zb 0) Ze)) (UG (n:=2) rfl (Qw (Zw 6 Qv.nd) (Qw (Zw 7 Qv.nd) YK))))
 (Zd (Zj 1 Qv.nd (Zh Jx Zc Zc))
 (Zd (Zj 2 Qv.nd (Zm (Qt (Za Zc (Za Zc (Za (Zh Q5 (Zb 1) Zc) (Za (cO T.X3 (Y4 T) hr (Za (Zb 0) (Za (Zh Q5 (Zb 1) Zc) Ze))) Ze))))) (cO T.Zo (Zk T) hr (Za (Zb 0) (Za Zc Ze)))))
 (Zd (Zj 3 Qv.nd (Zh Zq Zc (cO T.Zo (Zk T) hr (Za (Zb 0) (Za Zc Ze)))))
 (Zd (Zj 4 Qv.nd (cO T.Wg (Ui T) hr (Za (Zb 0) (Za (Zh Zq Zc (cO T.Zo (Zk T) hr (Za (Zb 0) (Za Zc Ze)))) Ze))))
 (Zd (Zj 5 Qv.nd (cO T.Wg (Ui T) hr (Za (Zb 0) (Za (Zh Zq Zc (cO T.Zo (Zk T) hr (Za (Zb 0) (Za Zc Ze)))) Ze))))
 (Zg (Zs (Fm Yf (V3 6) Yf (V3 7) Yf (V3 2) Yf (V3 3) Yf (V3 4) Yf (V3 5)))))))))),λ xs M Φ h=>?_⟩
 replace h:=ZU h;obtain ⟨x1,rfl,h⟩:=h;replace h:=ZM h;obtain ⟨p,rfl,hp,h⟩:=h;walk_at "h";refine ⟨hp,λ f ox oy M1 hf f1=>?_⟩;walk_at "h";refine ⟨Hr _ (by decide),?_⟩;walk_at "h";refine ⟨f1.1,λ r2 M2 a2 b2 f2=>⟨f2.1,λ r3 M3 a3 b3 f3=>tab (l:=[0,3,999999999992,r2]) (λ t=>0 <= t /\ t <= 999999999992) a3 (by simp only [List.length_cons,List.length_nil]; lia) (λ w hw=>?_) λ bg hb=>?_⟩⟩
 ·simp only [List.mem_cons,List.not_mem_nil,or_false] at hw;lia
 walk_at "h";refine ⟨f3.1,λ r4 M4 a4 b4 f4=>?_⟩;walk_at "h";refine ⟨f4.1,λ r5 M5 a5 b5 f5=>⟨⟨by lia,by lia⟩,f5.1,λ ts M6 tl th f6=>?_⟩⟩;walk_at "h";refine ⟨f6.1,λ r7 M7 a7 b7 f7=>⟨⟨by lia,by lia⟩,f7.1,λ ls M8 ll lh f8=>?_⟩⟩;have F:=((((((f1.trans f2).trans f3).trans f4).trans f5).trans f6).trans f7).trans f8;subst_vars;walk_at "rk";refine ⟨by walk_at "k",λ q hq=>?_⟩;have n1:q ≠ p:=Ne.symm (f8.1.ne hq);exact h q _ ⟨f,ox,oy,bg,1 + r4,ts,ls,Zv,hf,hb,by lia,⟨by lia,th⟩,⟨by lia,lh⟩⟩ n1 (F.new (F.fresh hq) n1)
theorem OM (T:Tx w K mg):Q7 P w K mg base CX0 3 T.Lv T.LJ ["_law_pen", "_law_world_here"] (lift K Lw):=by
 refine okD T.LF.F Dq (λ xs M Φ h=>by obtain ⟨_,_,rfl,_⟩:=ZZ h; rfl) λ cdv A outer s H E hr=>⟨_,(Zd (Zj 2 Dq.nd ((ZW hr) (Zb 1) Zn))
 (Zg (Zs (QW Je rfl T.YZ J6 (Za (Fl false (Z3 (sc:=Zf Ut) (XN:=["_law_pen", "_law_world_here", "_law_by"]) (N:=["_law_w", "_law_by", "_law_pen", "_law_world_here"]) (ix:=[none,some 2,some 0,some 1]) rfl rfl (by walk_at "k")) (QB rfl T.Qz (Za Zc Ze)) (λ C ex s H=>(Zw 0 (show List.Nodup (["_law_w", "_law_by", "_law_pen", "_law_world_here"]:List Str) by walk_at "k"))) (λ C ex s H=>QT) (λ C ex s H=>(Zh Zq (Zh Zq (Zh Qh (Zh Q5 (cO T.Zo (Zk T) hr (Za (Zb 2) (Za Zc Ze))) Zc) (Zb 1)) (cO T.X3 (Y4 T) hr (Za (Zb 2) (Za (Zb 1) Ze)))) (Zm ((ZW hr) (Zb 3) Zn) (Zb 0)))) rfl) Ze))))),λ xs M Φ h=>?_⟩
 replace h:=ZZ h;obtain ⟨x1,x2,rfl,h⟩:=h;replace h:=ZM h;obtain ⟨p,rfl,h⟩:=h;replace h:=ZM h;obtain ⟨q,rfl,hw,n1,hp,h⟩:=h;obtain ⟨f,ox,oy,bg,sp,ts,ls,hq,⟨hf,hx,hy⟩,hw⟩:=hw;walk_at "h";simp only [hq,ZcG];subst_vars;walk_at "rk";refine ⟨⟨by decide,by decide⟩,hp,λ r1 M1 a1 b1 f1=>⟨.inl (by lia),⟨by lia,by lia⟩,f1.1,λ r2 M2 a2 b2 f2=>?_⟩⟩;simp only [(f1.trans f2).own hq n1,Pe];walk_at "rk";refine ⟨f2.1,λ r3 M3 a3 b3 f3=>⟨.inl (by lia),⟨by lia,by lia⟩,f3.1,λ r4 M4 a4 b4 f4=>?_⟩⟩;have F:=((f1.trans f2).trans f3).trans f4;simp only [F.own hq n1,Pe];walk_at "rk";have e1:=K6 (a:=r1 - 2) (lo:=-2) (hi:=14) (by lia) (by lia) hf.1;have e2:=K6 (a:=r3 - 2) (lo:=-2) (hi:=14) (by lia) (by lia) hf.1;exact h _ _ _ ⟨by lia,by lia⟩ ⟨by lia,by lia⟩ F
theorem YA (T:Tx w K mg):Q7 P w K mg base CX0 3 T.LW T.Mf ["_law_pen", "_law_world_here", "_law_time"] (lift K LK):=by
 refine okD T.Kj.F Jp (λ xs M Φ h=>by obtain ⟨_,_,_,rfl,_⟩:=VW h; rfl) λ cdv A outer s H E hr=>⟨_,(Zd (Zj 3 Jp.nd ((ZW hr) (Zb 1) Zn))
 (Zd (Zj 4 Jp.nd ((ZW hr) (Zb 1) Zn))
 (Zd (Zj 5 Jp.nd (Zm (Zh Oq (Zh RF (QV (Za Zn Ze)) (Zt QY rfl T.JY QN (Za (Zb 3) Ze))) (Zb 3)) (cO T.Zo (Zk T) hr (Za (Zb 0) (Za (Zh Qh Zc (Zt QY rfl T.JY QN (Za (Zb 3) Ze))) Ze)))))
 (Zd (Zj 6 Jp.nd (cO T.CC (Eb T) hr (Za (Zb 0) (Za (Zm (Qt (Za Zc (Za Zc (Za Zc (Za Zc Ze))))) (cO T.Zo (Zk T) hr (Za (Zb 0) (Za Zc Ze)))) Ze))))
 (Zd (Zj 7 Jp.nd (Zh Wm (Zh Qh (Zm (Qt (Za Zc (Za Zc (Za Zc (Za Zc (Za Zc Ze)))))) (cO T.Zo (Zk T) hr (Za (Zb 0) (Za Zc Ze)))) (Zb 4)) (Zm (Qt (Za Zc (Za Zc Ze))) (cO T.Zo (Zk T) hr (Za (Zb 0) (Za Zc Ze))))))
 (Zd (Zj 8 Jp.nd (Zm (Zb 3) (cO T.Zo (Zk T) hr (Za (Zb 0) (Za (Zt QY rfl T.JY QN (Za (Zb 3) Ze)) Ze)))))
 (Zg (Zs (ZR (Za Zn (Za (Zb 2) (Za (Zb 8) (Za (Zb 5) (Za (cO T.VC (Kk T) hr (Za (Zb 6) (Za (Zb 4) (Za ((ZW hr) (Zb 1) Zn) Ze)))) (Za (Zb 7) Ze))))))))))))))),λ xs M Φ h=>?_⟩
 replace h:=VW h;obtain ⟨x1,x2,x3,rfl,h⟩:=h;replace h:=ZM h;obtain ⟨p,rfl,h⟩:=h;replace h:=ZM h;obtain ⟨q,rfl,h⟩:=h;replace h:=ZS h;obtain ⟨t,rfl,hw,n1,hp,h⟩:=h;obtain ⟨f,ox,oy,bg,sp,ts,ls,hq,hf,hw⟩:=hw;obtain ⟨_,_,_,hl,hn⟩:=hw;walk_at "h";simp only [hq,GK];walk_at "h";simp only [hq,ZcG];walk_at "h";intro g hg;have ng:g ≠ p:=Ne.symm (hp.ne hg);rw [Lx,<- List.length_append,Lx,List.length_map,List.length_map,List.length_append,List.length_replicate];refine ⟨by lia,by lia,.inl (by decide),⟨by lia,by lia⟩,hp.put (Ne.symm ng),λ r1 M1 a1 b1 f1=>?_⟩;replace f1:=(Fr.new (Fr.refl hp) hg ng).trans f1;refine tabS (λ s=>s = Str.ofString "" \/ Z2 s) a1 (by rw [List.length_append,List.length_replicate]; lia) (λ s hs=>?_) λ ou ho=>?_
 ·rcases List.mem_append.mp hs with hs | hs
  ·exact .inl (List.eq_of_mem_replicate hs)
  ·exact .inr (hn s hs)
 walk_at "h";refine ⟨f1.1,λ r2 M2 a2 b2 f2=>tab (l:=[3,3,3,6]) (λ t=>1 <= t /\ t <= 6) a2 (by simp only [List.length_cons,List.length_nil]; lia) (by decide) λ m hm=>?_⟩;walk_at "rk";refine ⟨hm,f2.1,λ bs M3 hb f3=>?_⟩;walk_at "h";refine ⟨f3.1,λ r4 M4 a4 b4 f4=>tab (l:=[0,0,1,2,3]) (λ t=>0 <= t /\ t <= 3) a4 (by simp only [List.length_cons,List.length_nil]; lia) (by decide) λ wb hwb=>?_⟩;walk_at "rk";refine ⟨.inl (by lia),f4.1,λ r5 M5 a5 b5 f5=>tab (l:=[1,2]) (λ t=>t = 1 \/ t = 2) a5 (by simp only [List.length_cons,List.length_nil]; lia) (by decide) λ dv hdv=>?_⟩;walk_at "rk";replace hdv:dv = 1 \/ dv = 2:=hdv;refine ⟨⟨by lia,by lia⟩,?_⟩;walk_at "h";rw [List.length_map];refine ⟨⟨by lia,by lia⟩,f5.1,λ r6 M6 a6 b6 f6=>?_⟩;have F:=((((f1.trans f2).trans f3).trans f4).trans f5).trans f6;refine tabS Z2 a6 b6 hn λ nm hnm=>?_;subst_vars;walk_at "rk";simp only [F.own hq n1,Pe];walk_at "rk";exact ⟨hb,h nm ou bs f ox oy _ _ hnm ho hb hf (SE hwb.1 hwb.2 hf.1 hdv) F⟩
theorem U1 (T:Tx w K mg):Q7 P w K mg base CX0 4 T.Kf T.Xc ["_law_pen", "_law_world_here"] (lift K XR):=by
 refine okD T.Xm.F Jc (λ xs M Φ h=>by obtain ⟨_,_,rfl,_⟩:=ZZ h; rfl) λ cdv A outer s H E hr=>⟨_,(Zd (Zj 2 Jc.nd (cO T.Zo (Zk T) hr (Za (Zb 0) (Za Zc Ze))))
 (Zd (Zj 3 Jc.nd (Zh Zq ((ZW hr) (Zb 1) Zn) (cO T.Zo (Zk T) hr (Za (Zb 0) (Za ((ZW hr) (Zb 1) Zn) Ze)))))
 (Zd (Zj 4 Jc.nd (Zm ((ZW hr) (Zb 1) Zn) (cO T.Zo (Zk T) hr (Za (Zb 0) (Za (Zt QY rfl T.JY QN (Za ((ZW hr) (Zb 1) Zn) Ze)) Ze)))))
 (Zd (Qp (ZG DF (Zb 2) Zc) (Zg (Zs (cO T.Kj (YA T) hr (Za (Zb 0) (Za (Zb 1) (Za (Zb 3) Ze)))))) ZD)
 (Zd (Qp (ZG (Vz hr) (Zb 2) Zc) (Zg (Zs (ZR (Za Zn (Za (Zb 3) (Za (Zm ((ZW hr) (Zb 1) Zn) (cO T.Zo (Zk T) hr (Za (Zb 0) (Za (Zt QY rfl T.JY QN (Za ((ZW hr) (Zb 1) Zn) Ze)) Ze)))) Ze)))))) ZD)
 (Zd (Qp (ZG (Vz hr) (Zb 2) Zc) (Zg (Zs (ZR (Za Zn (Za (Zb 3) (Za (Zb 4) Ze)))))) ZD)
 (Zg (Zs (ZR (Za Zn (Za (Zb 3) (Za (Zb 4) (Za (cO T.LF (OM T) hr (Za (Zb 0) (Za (Zb 1) Ze))) Ze))))))))))))),λ xs M Φ h=>?_⟩
 replace h:=ZZ h;obtain ⟨x1,x2,rfl,h⟩:=h;replace h:=ZM h;obtain ⟨p,rfl,h⟩:=h;replace h:=ZM h;obtain ⟨q,rfl,hw,n1,hp,h⟩:=h;obtain ⟨f,ox,oy,bg,sp,ts,ls,hq,hf,hbg,hsp,hts,hls⟩:=id hw;walk_at "h";refine ⟨hp,λ r M1 a1 b1 f1=>?_⟩;have hq1:=f1.own hq n1;walk_at "h";simp only [hq1,N3,RT];walk_at "rk";refine ⟨⟨by lia,by lia⟩,f1.1,λ r2 M2 a2 b2 f2=>?_⟩;have hq2:=f2.own hq1 n1;have hl1:=hts.1;have hl2:=hls.1;walk_at "h";simp only [hq2,HA];walk_at "rk";rw [List.length_map];refine ⟨⟨by lia,by lia⟩,f2.1,λ r3 M3 a3 b3 f3=>tabS (l:=ts) Z2 a3 b3 hts.2 λ nm hnm=>?_⟩;have hq3:=f3.own hq2 n1;have F3:=(f1.trans f2).trans f3;have hw3:=hw.fr F3 n1;have ht:0 <= bg + r2 /\ bg + r2 <= 1000000000000:=by lia
 walk_at "h";refine Zl (λ z=>?_) λ z=>?_
 ·refine ⟨hw3,n1,f3.1,λ ln ou bs f' ox' oy' wb M4 hln hou hbs hf' hwb f4=>?_⟩;exact h _ M4 ⟨_,_,ln,_,rfl,ht,hln,.inl ⟨rfl,ou,_,wb,rfl,hou,KA hbs hf',hwb⟩⟩ (F3.trans f4)
 ·walk_at "h";refine Zl (λ z1=>?_) λ z1=>?_
  ·simp only [hq3,GK];walk_at "rk";rw [List.length_map];refine ⟨⟨by lia,by lia⟩,f3.1,λ r4 M4 a4 b4 f4=>tabS (l:=ls) Z2 a4 b4 hls.2 λ ln hln=>?_⟩;exact h _ M4 ⟨_,_,ln,[],rfl,ht,hln,.inr (.inr ⟨.inl rfl,rfl⟩)⟩ (F3.trans f4)
  ·walk_at "h";refine Zl (λ z2=>?_) λ z2=>?_
   ·exact h _ M3 ⟨_,_,nm,[],rfl,ht,hnm,.inr (.inr ⟨.inr rfl,rfl⟩)⟩ F3
   ·subst_vars;walk_at "rk";refine ⟨hw3,n1,f3.1,λ u v M4 hu hv f4=>?_⟩;exact h _ M4 ⟨_,_,nm,_,rfl,ht,hnm,.inr (.inl ⟨rfl,u,v,rfl,hu,hv⟩)⟩ (F3.trans f4)
theorem KW (T:Tx w K mg):Q7 P w K mg base CX0 1 T.V5 T.VR ["telling"] (lift K G3):=by
 refine okD T.VU.F Wv (λ xs M Φ h=>by obtain ⟨_,rfl,_⟩:=ZU h; rfl) λ cdv A outer s H E hr=>⟨_,(Zg (Zs (O0 (Za (Zm (Zb 0) Zc) (Za (Pc rfl T.MY T.Mj (Zm (Zb 0) Zc)) (Za (Zm (Zb 0) Zc) Ze)))))),λ xs M Φ h=>?_⟩;replace h:=ZU h;obtain ⟨x1,rfl,h⟩:=h;obtain ⟨t,rfl,ht,h⟩:=h;rw [Z6];walk_at "rk";exact ⟨_,NN (VE ht),rfl,h⟩
theorem Vw (T:Tx w K mg):Q7 P w K mg base CX0 2 T.Ye T.V8 ["tellings"] (lift K Xw):=by
 refine okG T.JK.F Jr (λ xs M Φ h=>by obtain ⟨_,rfl,_⟩:=ZU h; rfl) λ cdv A outer s H E hr=>⟨_,(Zd (Zj 1 Jr.nd Dl)
 (Zd (JL (Zt (UK hr) rfl T.Ub Xb (Za (Zb 0) Ze)) (Zw 2 Jr.nd) (Zg (QH (Ca hr (Zb 1) (cO T.VU (KW T) hr (Za (Zb 2) Ze)) (Zb 2)))) PassesOwn.never rfl)
 (Zg (Zs (Jl true (Z3 (sc:=Zf Q8) (XN:=["tellings", "counting", "telling"]) (N:=["place", "counting"]) (ix:=[none,some 1]) rfl rfl (by walk_at "k")) (Wh (Zt (Ge hr) rfl T.Ub Xb (Za (Zb 1) Ze))) (λ C ex s H=>(Zw 0 (show List.Nodup (["place", "counting"]:List Str) by walk_at "k"))) (λ C ex s H=>QT) (λ C ex s H=>((MG hr) (Zb 1) (Zb 0))) rfl))))),λ xs M Φ h=>?_⟩
 replace h:=ZU h;obtain ⟨x1,rfl,h⟩:=h;obtain ⟨ts,rfl,hl,ht,h⟩:=h;walk_at "h";intro c hc;walk_at "h";refine ⟨FV hl ht,λ ds' pm up=>?_⟩;obtain ⟨S,rfl,pS⟩:=YN pm;have mS:∀ {i:Nat} {x:Tl},S[i]? = some x->x ∈ ts:=λ e=>pS.mem_iff.mp (List.mem_of_getElem? e);have lS:S.length = ts.length:=pS.length_eq;have lo:∀ {i:Nat} {x:Tl},S[i]? = some x->∀ z ∈ S.take i,ltD (tlD x) (tlD z) = false:=λ {i x} e z hz=>by
  rw [List.pairwise_map] at up;obtain ⟨j,hj,rfl⟩:=List.getElem_of_mem hz;rw [List.length_take] at hj;obtain ⟨hi,rfl⟩:=List.getElem?_eq_some_iff.mp e;rw [List.getElem_take];exact List.pairwise_iff_getElem.mp up j i (by lia) hi (by lia)
 refine ⟨λ i Δ M'=>∃ k2 ps,Δ = [some (.dat (.list (ts.map tlD))),some (.own c),k2] /\ M' = Zu M c (.dtv ps) /\ ps.length <= i /\ Tbl (S.take i) ps,⟨_,[],rfl,rfl,Nat.le_refl _,Tbl.nil⟩,?_,?_⟩
 ·rintro i d Δ M' hd ⟨k2,ps,rfl,rfl,hz,hT⟩;obtain ⟨x,ex,rfl⟩:=Q6 hd;have hi:=(List.getElem?_eq_some_iff.mp ex).1;have e:S.take (i + 1) = S.take i ++ [x]:=by rw [List.take_add_one,ex]; rfl
  rw [Qk];walk_at "rk";refine ⟨x,rfl,(ht x (mS ex)).1,plT x,rfl,by lia,λ d' hd'=>⟨_,ps,rfl,rfl,by lia,?_⟩,λ hn=>⟨_,_,rfl,rfl,by rw [List.length_append]; exact Nat.succ_le_succ hz,?_⟩⟩
  ·rw [e];exact hT.old (Fz hd') (lo ex)
  ·rw [e];exact hT.new (HQ hn) (lo ex)
 ·rintro Δ M' ⟨k2,ps,rfl,rfl,hz,hT⟩;rw [List.length_map,List.take_length] at hT;subst_vars;walk_at "rk";have kx:∀ k ∈ ps.map (λ p=>p.1),∃ x,TlS x /\ plT x = k /\ dvT ps k = some (tlD x):=λ k hk=>by
   obtain ⟨x,hx,e,g,_⟩:=hT.get k hk;exact ⟨x,ht x (pS.mem_iff.mp hx),e,g⟩
  refine ⟨B0 (by rw [List.length_map] at hz ⊢; lia) kx,λ ds' pk uk=>⟨?_,?_⟩⟩
  ·rw [pk.length_eq,List.length_map,List.length_map];rw [List.length_map] at hz;lia
  obtain ⟨ks,rfl,pK⟩:=YN pk;refine ⟨λ i acc M'=>M' = Zu M c (.dtv ps) /\ ∃ R:List Tl,acc = R.map tlD /\ R.map plT = ks.take i /\ ∀ x ∈ R,dvT ps (plT x) = some (tlD x) /\ TlK x,⟨rfl,[],rfl,rfl,λ _ h=>(nomatch h)⟩,?_,?_⟩
  ·rintro i d acc M' hd ⟨rfl,R,rfl,e,g⟩;obtain ⟨k,ek,rfl⟩:=Q6 hd;obtain ⟨x,hx,rfl,gx⟩:=kx k (pK.mem_iff.mp (List.mem_of_getElem? ek));rw [Zv,WR];refine ⟨plT x,tlD x,rfl,gx,rfl,R ++ [x],by rw [List.map_append]; rfl,by rw [List.map_append,e,List.take_add_one,ek]; rfl,λ y hy=>?_⟩
   rcases List.mem_append.mp hy with hy | hy
   ·exact g y hy
   ·rw [List.mem_singleton.mp hy];exact ⟨gx,hx.1⟩
  ·rintro acc M' ⟨rfl,R,rfl,e,g⟩ p hp;rw [List.length_map,List.take_length] at e;have ne:=fresh_ne hp;refine ⟨[c],?_⟩;show Φ (.own p) (Jj (Zu (Zu M c _) p _) c);rw [show Jj (Zu (Zu M c (.dtv ps)) p (.lst (R.map tlD))) c = Zu M p (.lst (R.map tlD)) from ?_]
   ·exact h R p (NU hT pS pK uk e (λ x hx=>(g x hx).1) (λ x hx=>(ht x hx).1) λ x hx=>(g x hx).2) (by rw [ZT ne] at hp; exact hp)
   ·funext a
    unfold Jj Zu
    by_cases h1:a = c
    ·rw [if_pos h1,if_neg (by rw [h1]; exact Ne.symm ne),h1,hc]
    ·rw [if_neg h1,if_neg h1]
theorem Oz (T:Tx w K mg):Q7 P w K mg base CX0 1 T.La T.Lj ["_law_found", "_law_due_here"] (lift K LV):=by
 refine okD T.Lm.F Nr (λ xs M Φ h=>by obtain ⟨_,_,rfl,_⟩:=ZZ h; rfl) λ cdv A outer s H E hr=>⟨_,(Zg (Zs (T4 (VQ (Cb hr) (Zb 0) (Zb 1)) (T9 (VQ (Xy hr) (Zt (Hn hr) rfl T.WH YI (Za (Zb 0) Ze)) (Zt (Wc hr) rfl T.WH YI (Za (Zb 1) Ze))))))),λ xs M Φ h=>?_⟩;replace h:=ZZ h;obtain ⟨x1,x2,rfl,h⟩:=h;obtain ⟨d,hx,rfl,⟨h1,h2,h3⟩,h⟩:=h
 rcases hx with rfl | ⟨q,ds,rfl,hq,rfl⟩
 ·walk_at "rk";rw [h2,if_pos rfl];refine ⟨h1,h3,h3,?_⟩;rw [show isS (PyData.str d.shown) d.shown = true from decide_eq_true rfl];exact h
 ·have h2:PyData.eqvAll ds ds = true:=h2;walk_at "rk";rw [hq];walk_at "rk";rw [h2,if_pos rfl];refine ⟨h1,h3,h3,?_⟩;rw [show isS (PyData.str (PyData.list ds).shown) (PyData.list ds).shown = true from decide_eq_true rfl];exact h
theorem Ys (T:Tx w K mg):Q7 P w K mg base CX0 1 T.JS T.JV ["_law_one", "_law_other"] (lift K GN):=by
 refine okG T.JQ.F Qj (λ xs M Φ h=>by obtain ⟨_,_,rfl,_⟩:=ZZ h; rfl) λ cdv A outer s H E hr=>⟨_,(Zd (Zj 2 Qj.nd (Dv (Qs Zn Zc (Qs Zn Zc (Qs Zn Zc (Qs Zn Zc By))))))
 (Zd (Zj 3 Qj.nd (ZR (Za (Zm (Zb 0) Zc) (Za ((ZW hr) (Zb 2) (Zm (Zb 0) Zc)) (Za (Zm (Zb 0) Zc) Ze)))))
 (Zd (Zj 4 Qj.nd (ZR (Za (Zm (Zb 1) Zc) (Za ((ZW hr) (Zb 2) (Zm (Zb 1) Zc)) (Za (Zm (Zb 1) Zc) Ze)))))
 (Zd (Qp (ZG (Fu hr) (Zb 3) (Zb 4)) (Zg (Zs (VQ (Lu hr) (Zb 3) (Zb 4)))) ZD)
 (Zd (Qp (ZG (Fu hr) (Zm (Zb 0) Zc) (Zm (Zb 1) Zc)) (Zg (Zs (VQ (Xy hr) (Zm (Zb 0) Zc) Zn))) ZD)
 (Zg (Zs (VQ (Lu hr) (ZI (Zb 0) (ZP Zc) ZX) (ZI (Zb 1) (ZP Zc) ZX))))))))),λ xs M Φ h=>?_⟩
 replace h:=ZZ h;obtain ⟨x1,x2,rfl,h⟩:=h;obtain ⟨a,rfl,b,rfl,ha,hb,h⟩:=h;rw [Z6,Z6];walk_at "h";intro r hr;walk_at "rk";refine ⟨Ru,?_⟩;walk_at "h";refine ⟨_,Bp (VE ha.1),?_⟩;walk_at "h";refine ⟨_,Bp (VE hb.1),?_⟩;walk_at "h";refine Mb (k:=plT a) (k':=plT b) (Nj ha hb).1 (λ e=>?_) λ n=>?_
 ·rw [if_neg (by decide)];walk_at "h"
  by_cases w:wdT a = wdT b
  ·rw [decide_eq_true w,if_neg (by decide)];rw [OY e w] at h;subst_vars;walk_at "rk";rw [Zc7,Zc7];exact ⟨Nt ha hb w,Y8 hr h⟩
  ·rw [decide_eq_false w,if_pos (by rfl)];rw [Pa ha.1 hb.1 e w] at h;exact Y8 hr h
 ·rw [if_pos (by rfl)];refine ⟨(Nj ha hb).2,Y8 hr ?_⟩;rw [YC n] at h;exact h
theorem PU (T:Tx w K mg):Q7 P w K mg base CX0 2 T.RY T.PB ["_law_tellings"] (lift K Th):=by
 refine okG T.PK.F Ju (λ xs M Φ h=>by obtain ⟨_,rfl,_⟩:=ZU h; rfl) λ cdv A outer s H E hr=>⟨_,(Zd (Zj 1 Ju.nd (Dv (Qs Zn Zc (Qs Zn Zc (Qs Zn Zc (Qs Zn Zc By))))))
 (Zd (Zj 2 Ju.nd (QV Ze))
 (Zd (JL (Zb 0) (Zw 3 Ju.nd) (Zd (Zj 5 Ju.nd Zc)
 (Zd (FZ (DW.dt (Ud (ZG DF (Zb 5) (Zt QY rfl T.JY QN (Za (Zb 2) Ze))) (YT (HS (cO T.JQ (Ys T) hr (Za (Zm (Zb 2) (Zb 5)) (Za (Zb 3) Ze))))))) (Zg (Zj 5 Ju.nd (Zh Zq (Zb 5) Zc))) PassesOwn.never)
 (Zg (QH (Xh (Zb 2) (Zb 5) (Zb 3)))))) PassesOwn.never rfl)
 (Zd (Zj 4 Ju.nd (QV Ze))
 (Zd (JL (Ka (Zb 2)) (Zw 3 Ju.nd) (Zd (Zj 6 Ju.nd (ZR (Za (Zm (Zb 3) Zc) (Za ((ZW hr) (Zb 1) (Zm (Zb 3) Zc)) (Za (Zm (Zb 3) Zc) Ze)))))
 (Zg (Qp (DW.dt (O7 (ZG (Cb hr) (Zb 4) (Qt Ze)) (Dx (ZG (Fu hr) (ZR (Za (Zm (Zm (Zb 4) (Vg Zc)) Zc) (Za ((ZW hr) (Zb 1) (Zm (Zm (Zb 4) (Vg Zc)) Zc)) (Za (Zm (Zm (Zb 4) (Vg Zc)) Zc) Ze)))) (Zb 6))))) (Zg (QH (QU (Zb 4) (Zb 3)))) ZD))) PassesOwn.never rfl)
 (Zg (Zs (Ka (Zb 4))))))))),λ xs M Φ h=>?_⟩
 replace h:=ZU h;obtain ⟨x1,rfl,h⟩:=h;obtain ⟨ts,rfl,hl,ht,h⟩:=h;walk_at "h";intro r hr;walk_at "rk";refine ⟨Ru,?_⟩;walk_at "h";intro c hc;have nc:=fresh_ne hc;walk_at "h";refine ⟨λ i Δ M'=>∃ (k3 k5:Option DV) (row:List Tl),Δ = [some (.dat (.list (ts.map tlD))),some (.own r),some (.own c),k3,none,k5,none] /\ M' = Zu (Zu M r rkO) c (.lst (row.map tlD)) /\ row.Perm (ts.take i) /\ (row.map kA).Pairwise leD,⟨_,_,[],rfl,rfl,.nil,.nil⟩,?_,?_⟩
 ·rintro i d Δ M1 hd ⟨k3,k5,row,rfl,rfl,pm,up⟩;obtain ⟨x,ex,rfl⟩:=Q6 hd;have hi:=(List.getElem?_eq_some_iff.mp ex).1;have l1:row.length = i:=by rw [pm.length_eq,List.length_take]; lia
  rw [Qk];have hx:=ht x (List.mem_of_getElem? ex);have hr2:∀ y ∈ row,TlS y:=λ y hy=>ht y (List.mem_of_mem_take (pm.mem_iff.mp hy))
  have fin:∀ a:Nat,(row.take a ++ x :: row.drop a).Perm (ts.take (i + 1)):=λ a=>(Ux row a x).trans (by
   rw [List.take_add_one,ex]
   exact pm.append_right [x])
  walk_at "h";walk_at "h";refine ⟨λ n Δ M'=>∃ a:Nat,Δ = [some (.dat (.list (ts.map tlD))),some (.own r),some (.own c),some (.dat (tlD x)),none,some (.dat (.int a)),none] /\ M' = Zu (Zu M r rkO) c (.lst (row.map tlD)) /\ (a <= row.length /\ n = row.length - a) /\ ∀ y ∈ row.take a,ltD (kA y) (kA x) = true,⟨_,0,rfl,rfl,⟨Nat.zero_le _,rfl⟩,λ _ h=>(nomatch h)⟩,?_⟩;rintro n Δ M2 ⟨a,rfl,rfl,⟨ha,rfl⟩,lo⟩;walk_at "rk";rw [List.length_map];refine Zl (λ z=>?_) λ z=>?_
  ·have ia:a < row.length:=by lia
   refine QF (d:=tlD row[a]) (JE (by rw [List.getElem?_map,List.getElem?_eq_getElem ia]; rfl)) ⟨row[a],rfl,x,rfl,hr2 _ (List.getElem_mem ia),hx,?_⟩;cases z2:ltD (kA row[a]) (kA x) with
   | true=>
    rw [if_pos rfl];refine ⟨row.length - (a + 1),by lia,a + 1,rfl,⟨ia,rfl⟩,λ y hy=>?_⟩;rw [List.take_add_one,List.getElem?_eq_getElem ia] at hy
    rcases List.mem_append.mp hy with hy | hy
    ·exact lo y hy
    ·rw [List.mem_singleton.mp hy];exact z2
   | false=>
    rw [if_neg Bool.false_ne_true];subst_vars;walk_at "rk";rw [List.length_map,Int.toNat_natCast,Wi];exact ⟨⟨by lia,by lia⟩,by lia,_,_,_,rfl,rfl,fin a,Mh (λ y hy=>(hr2 y hy).1) hx.1 up lo λ _=>z2⟩
  ·subst_vars;walk_at "rk";rw [List.length_map,Int.toNat_natCast,Wi];exact ⟨⟨by lia,by lia⟩,by lia,_,_,_,rfl,rfl,fin a,Mh (λ y hy=>(hr2 y hy).1) hx.1 up lo λ q=>absurd q (by lia)⟩
 ·rintro Δ M1 ⟨k3,k5,row,rfl,rfl,pm,up⟩;rw [List.length_map,List.take_length] at pm;walk_at "h";intro f hf;have nfc:=fresh_ne hf;have nfr:f ≠ r:=λ e=>by rw [e,ZT (Ne.symm nc),Zv] at hf; cases hf
  have fM:M f = none:=by rw [ZT nfc,ZT nfr] at hf; exact hf
  have cM:M c = none:=by rw [ZT nc] at hc; exact hc
  walk_at "h";rw [ZT (Ne.symm nfc),Zv,VL,show Jj (Zu (Zu (Zu M r rkO) c (.lst (row.map tlD))) f (.lst [])) c = Zu (Zu M r rkO) f (.lst []) from ?_]
  rotate_left
  ·funext b
   unfold Jj Zu
   by_cases h1:b = c
   ·rw [if_pos h1,if_neg (by rw [h1]; exact Ne.symm nfc),if_neg (by rw [h1]; exact nc),h1,cM]
   ·rw [if_neg h1,if_neg h1]
  have mr:∀ o:OO,Zu (Zu M r rkO) f o r = some rkO:=λ o=>by rw [ZT (Ne.symm nfr),Zv]
  refine ⟨λ i Δ M'=>∃ (k3 k6:Option DV) (R:List Tl),Δ = [some (.dat (.list (ts.map tlD))),some (.own r),some (.own c),k3,some (.own f),k5,k6] /\ M' = Zu (Zu M r rkO) f (.lst (R.map tlD)) /\ R.length <= i /\ Due (row.take i) R,⟨_,_,[],rfl,rfl,Nat.le_refl _,Due.nil⟩,?_,?_⟩
  ·rintro i d Δ M1 hd ⟨k3,k6,R,rfl,rfl,lR,hD⟩;obtain ⟨x,ex,rfl⟩:=Q6 hd;have hi:=(List.getElem?_eq_some_iff.mp ex).1;have hx:=ht x (pm.mem_iff.mp (List.mem_of_getElem? ex));rw [Qk];walk_at "hd";rw [Z6];walk_at "rk";rw [mr];refine Bu (VE hx.1) ?_;rw [<- Z6];walk_at "rk";subst_vars;walk_at "rk";have e1:row.take (i + 1) = row.take i ++ [x]:=by rw [List.take_add_one,ex]; rfl
   have lo:∀ z ∈ row.take i,ltD (kA x) (kA z) = false:=N5 up ex;have lr:row.length <= 1000:=by rw [pm.length_eq]; exact hl
   refine ⟨LG (λ t m=>?_),?_⟩
   ·have:=ht t (pm.mem_iff.mp (List.mem_of_mem_take (hD.mem t m)));exact ⟨this.2.1,this.2.2⟩
   rcases List.eq_nil_or_concat R with rfl | ⟨R0,y,e0⟩
   ·rw [if_pos (by rfl),e1];exact ⟨by simp,_,_,[x],rfl,rfl,Nat.succ_le_succ (Nat.zero_le _),hD.new (λ z hz=>(nomatch hz)) lo⟩
   ·rw [List.concat_eq_append] at e0;subst e0;have hy:=ht y (pm.mem_iff.mp (List.mem_of_mem_take (hD.mem y (List.mem_append_right _ (.head _)))));have at1:L2.atI ((R0 ++ [y]).map tlD) (-1) = some (tlD y):=NT R0 y;have ll:(R0 ++ [y]).length <= i:=lR;rw [if_neg (by rw [List.map_append]; cases R0 <;> exact Bool.false_ne_true)];refine QF at1 ?_;rw [Z6 y];walk_at "rk";rw [mr];refine QF at1 ?_;rw [Z6 y];walk_at "rk";refine Bu (VE hy.1) (QF at1 ?_);rw [Z6 y];walk_at "rk";refine Mb (k:=plT y) (k':=plT x) (Nj hy hx).1 (λ e=>?_) λ n=>?_
    ·rw [if_neg (by decide),e1];exact ⟨_,_,R0 ++ [y],rfl,rfl,Nat.le_succ_of_le ll,hD.old (List.mem_append_right _ (.head _)) e lo⟩
    ·rw [if_pos (by rfl),e1,List.length_map];exact ⟨by lia,_,_,(R0 ++ [y]) ++ [x],rfl,by rw [List.map_append (l₂:=[x])]; rfl,by rw [List.length_append (bs:=[x])]; exact Nat.succ_le_succ ll,hD.new (hD.last n lo) lo⟩
  ·rintro Δ M1 ⟨k3,k6,R,rfl,rfl,lR,hD⟩;rw [List.length_map,List.take_length] at hD;subst_vars;walk_at "rk";rw [Kd (by rw [ZT nfr]; exact fM)];exact Y8 hr (h R (hD.congr λ _=>pm.mem_iff))
theorem Dz (T:Tx w K mg):Q7 P w K mg base CX0 2 T.Us T.Up ["_law_pen", "_law_some"] (lift K W4):=by
 refine okD T.Ue.F J9 (λ xs M Φ h=>by obtain ⟨_,_,rfl,_⟩:=ZZ h; rfl) λ cdv A outer s H E hr=>⟨_,(Zd (Zj 2 J9.nd (QV Ze))
 (Zd (JL (Zb 1) (Zw 3 J9.nd) (Zg (QH (Xh (Zb 2) (cO T.Zo (Zk T) hr (Za (Zb 0) (Za (Zh Zq (Zt QY rfl T.JY QN (Za (Zb 2) Ze)) Zc) Ze))) (Zb 3)))) PassesOwn.never rfl)
 (Zg (Zs (Ka (Zb 2)))))),λ xs M Φ h=>?_⟩
 replace h:=ZZ h;obtain ⟨x1,x2,rfl,h⟩:=h;replace h:=ZM h;obtain ⟨p,rfl,h⟩:=h;obtain ⟨ts,rfl,hl,hp,h⟩:=h;walk_at "h";intro f hf;have nf:=hp.ne hf;walk_at "h";refine ⟨λ i Δ M'=>∃ k3 ts',Δ = [some (.own p),some (.dat (.list (ts.map tlD))),some (.own f),k3] /\ M' f = some (.lst (ts'.map tlD)) /\ ts'.Perm (ts.take i) /\ Fr p M M',⟨_,[],rfl,Zv,.nil,(Fr.refl hp).new hf (Ne.symm nf)⟩,?_,?_⟩
 ·rintro i d Δ M1 hd ⟨k3,ts',rfl,hm,pm,fr⟩;obtain ⟨x,ex,rfl⟩:=Q6 hd;have hi:=(List.getElem?_eq_some_iff.mp ex).1;have l1:ts'.length = i:=by rw [pm.length_eq,List.length_take]; lia
  rw [Qk];walk_at "rk";rw [hm];walk_at "rk";rw [List.length_map];refine ⟨⟨by lia,by lia⟩,fr.1,λ r M2 r0 r1 f2=>?_⟩;rw [f2.own hm (Ne.symm nf),VL,List.length_map];refine ⟨⟨r0,by lia⟩,by lia,_,ts'.take r.toNat ++ x :: ts'.drop r.toNat,rfl,by rw [Wi],?_,(fr.trans f2).new hf (Ne.symm nf)⟩;refine (Ux ts' _ x).trans ?_;rw [List.take_add_one,ex];exact pm.append_right [x]
 ·rintro Δ M1 ⟨k3,ts',rfl,hm,pm,fr⟩;rw [List.length_map,List.take_length] at pm;subst_vars;walk_at "rk";rw [hm];walk_at "rk";exact h ts' _ pm (fr.gone hf (Ne.symm nf))
theorem MN (T:Tx w K mg):Q7 P w K mg base CX0 4 T.L8 T.Ld ["_law_pen", "_law_world_here", "_law_telling_here"] (lift K Lc):=by
 refine okD T.L7.F Yo (λ xs M Φ h=>by obtain ⟨_,_,_,rfl,_⟩:=VW h; rfl) λ cdv A outer s H E hr=>⟨_,(Zd (Qp (ZG (Xy hr) (Zm (Zb 2) Zc) Zn) (Zg (Zs (Zh Qi (Zh Qi (ZI (cO T.Kj (YA T) hr (Za (Zb 0) (Za (Zb 1) (Za (Zm (Zb 2) Zc) Ze)))) ZX (ZP Zc)) (ZR (Za (Zm (Zb 2) Zc) Ze))) (ZI (cO T.Kj (YA T) hr (Za (Zb 0) (Za (Zb 1) (Za Zc Ze)))) (ZP Zc) ZX)))) ZD)
 (Zd (Qp (ZG (Xy hr) (Zm (Zb 2) Zc) Zn) (Zg (Zs (Zb 2))) ZD)
 (Zd (Qp (ZG (Xy hr) (Zm (Zb 2) Zc) Zn) (Zd (JU (Zm (Zb 2) Zc) (UG (n:=2) rfl (Qw (Zw 4 Yo.nd) (Qw (Zw 5 Yo.nd) YK))))
 (Zg (Zs (Zh Qi (ZI (Zb 2) ZX (ZP Zc)) (ZR (Za (ZR (Za (Zb 4) (Za (Zh Zq (Zb 5) (Zm (Qt (Za Zc (Za (Vg Zc) Ze))) (cO T.Zo (Zk T) hr (Za (Zb 0) (Za Zc Ze))))) Ze))) Ze)))))) ZD)
 (Zd (Zj 3 Yo.nd (cO T.Zo (Zk T) hr (Za (Zb 0) (Za Zc Ze))))
 (Zd (Qp (ZG (Vz hr) (Zb 3) Zc) (Zg (Zs (Zh Qi (ZR (Za Zn Ze)) (ZI (Zb 2) (ZP Zc) (ZP Zc))))) ZD)
 (Zd (Qp (ZG (Vz hr) (Zb 3) Zc) (Zg (Zs (Zh Qi (ZI (Zb 2) ZX (ZP Zc)) (ZR (Za (Zh Zq (Zm (Zb 2) Zc) Zc) Ze))))) ZD)
 (Zd (Qp (ZG (Vz hr) (Zb 3) Zc) (Zg (Zs (Zh Qi (Zh Qi (ZI (Zb 2) ZX (ZP Zc)) (ZR (Za (Zh Qi (Zm (Zb 2) Zc) (ZI (Zm (Zb 2) Zc) (ZP (Vg Zc)) ZX)) Ze))) (ZI (Zb 2) (ZP Zc) ZX)))) ZD)
 (Zg (Zs (Zh Qi (ZI (Zb 2) ZX (ZP Zc)) (ZI (cO T.Kj (YA T) hr (Za (Zb 0) (Za (Zb 1) (Za Zc Ze)))) (ZP Zc) ZX))))))))))),λ xs M Φ h=>?_⟩
 replace h:=VW h;obtain ⟨x1,x2,x3,rfl,h⟩:=h;replace h:=ZM h;obtain ⟨p,rfl,h⟩:=h;replace h:=ZM h;obtain ⟨q,rfl,h⟩:=h;obtain ⟨t,rfl,hw,hne,hp,k,ht,hk,h⟩:=h;cases t with
 | land t nm ou bs wb=>
  unfold tlD;walk_at "h";rw [ZbB.2.1,if_neg Bool.false_ne_true];walk_at "h";rw [ZbB.2.2,if_neg Bool.false_ne_true];walk_at "h";rw [ZbB.1,if_neg Bool.false_ne_true];walk_at "h";refine ⟨hp,λ r M1 r0 r1 f1=>?_⟩;walk_at "h";refine Zl (λ z=>?_) λ z=>?_
  ·exact ⟨by show 1 + 2 <= 16777216; decide,h (.off (Str.ofString "drop") t nm) M1 ⟨⟨ht.1.1.up,ht.1.2⟩,.inl rfl⟩ f1⟩
  walk_at "h";refine Zl (λ z=>?_) λ z=>?_
  ·obtain ⟨a1,a2,a3,a4,a5⟩:=ht.up;exact ⟨by show 5 <= 16777215; decide,h (.land t nm ou bs (wb + 1)) M1 ⟨a1,a2,a3,a4,by have:=ht.2.2.2.2; unfold Bd at *; lia⟩ f1⟩
  walk_at "h";refine Zl (λ z=>?_) λ z=>?_
  ·obtain ⟨a1,a2,a3,a4,a5⟩:=ht.up;have l1:=ht.2.2.1;have e:=OS bs;have l2:(bs.drop (bs.length - 1)).length <= 1:=by rw [List.length_drop]; lia
   rw [e];refine ⟨by rw [List.length_map,List.length_map]; lia,by show 4 <= 16777215; decide,by show 5 + 1 <= 16777216; decide,?_⟩;rw [<- List.map_append];exact h (.land t nm ou (bs ++ bs.drop (bs.length - 1)) wb) M1 ⟨a1,a2,by rw [List.length_append]; lia,λ b hb=>a4 b ((List.mem_append.mp hb).elim id List.mem_of_mem_drop),a5⟩ f1
  subst_vars;walk_at "rk";refine ⟨hw.fr f1 hne,hne,f1.1,λ nm1 ou1 bs1 f ox oy wb1 M2 hn ho hb hf hwb f2=>⟨by show 3 + 3 <= 16777216; decide,h (.land t nm ou1 (bs1.map (Y5 f ox oy)) wb1) M2 ?_ (f1.trans f2)⟩⟩;obtain ⟨_,b2,b3,b4,b5⟩:=Du (k:=k + 1) (t:=.land 0 nm1 ou1 (bs1.map (Y5 f ox oy)) wb1) ⟨⟨⟨by decide,by decide⟩,hn⟩,ho,KA hb hf,hwb⟩;exact ⟨⟨ht.1.1.up,ht.1.2⟩,b2,b3,b4,b5⟩
 | spot t nm u v=>
  unfold tlD;walk_at "h";rw [ZcE.1,if_neg Bool.false_ne_true];walk_at "h";rw [ZcE.2,if_neg Bool.false_ne_true];walk_at "h";rw [Zcu,if_pos rfl];walk_at "rk";refine ⟨hp,λ r M1 r0 r1 f1=>tab (l:=[1,-1]) (λ w=>-1 <= w /\ w <= 1) r0 r1 (VJ (by decide) (by decide)) λ w hw1=>⟨by show 3 <= 16777215; decide,h (.spot t nm u (v + w)) M1 ⟨⟨ht.1.1.up,ht.1.2⟩,ht.2.1.up,?_⟩ f1⟩⟩;have:=ht.2.2;unfold Bd at *;lia
 | off w t nm=>
  unfold tlD
  rcases ht.2 with rfl | rfl
  ·walk_at "h";rw [Zcd.1,if_pos rfl];walk_at "rk";refine ⟨hw,hne,hp,λ nm1 ou1 bs1 f1 ox1 oy1 wb1 M1 _ _ _ _ _ g1=>⟨by show 2 <= 16777215; decide,hw.fr g1 hne,hne,g1.1,λ nm2 ou2 bs2 f ox oy wb2 M2 hn ho hb hf hwb g2=>⟨by show 3 + 3 <= 16777216; decide,h (.land t nm ou2 (bs2.map (Y5 f ox oy)) wb2) M2 ?_ (g1.trans g2)⟩⟩⟩;obtain ⟨_,b2,b3,b4,b5⟩:=Du (k:=k + 1) (t:=.land 0 nm2 ou2 (bs2.map (Y5 f ox oy)) wb2) ⟨⟨⟨by decide,by decide⟩,hn⟩,ho,KA hb hf,hwb⟩;exact ⟨⟨ht.1.1.up,ht.1.2⟩,b2,b3,b4,b5⟩
  ·walk_at "h";rw [Zcd.2.1,if_neg Bool.false_ne_true];walk_at "h";rw [Zcd.2.2,if_pos rfl];walk_at "rk";exact h (.off (Str.ofString "free") t nm) M ht.up (Fr.refl hp)
theorem Em (T:Tx w K mg):Q7 P w K mg base CX0 5 T.G4 T.Gq ["_law_pen", "_law_world_here"] (lift K Cd):=by
 refine okD T.G2.F Jb (λ xs M Φ h=>by obtain ⟨_,_,rfl,_⟩:=ZZ h; rfl) λ cdv A outer s H E hr=>⟨_,(Zd (Zj 2 Jb.nd (cO T.Zo (Zk T) hr (Za (Zb 0) (Za Zc Ze))))
 (Zd (Qp (ZG (Vz hr) (cO T.Zo (Zk T) hr (Za (Zb 0) (Za Zc Ze))) Zc) (Zg (Zj 2 Jb.nd Zc)) ZD)
 (Zd (Zj 3 Jb.nd (QV Ze))
 (Zd (J8 rfl T.Qz (Za (Zb 2) Ze) (Zw 4 Jb.nd) (Zd (Zj 5 Jb.nd (cO T.Zo (Zk T) hr (Za (Zb 0) (Za Zc Ze))))
 (Zd (QH (QU (Zb 3) (cO T.Xm (U1 T) hr (Za (Zb 0) (Za (Zb 1) Ze)))))
 (Zd (Qp (DW.dt (Ud (ZG (Vz hr) (Zb 5) Zc) (YT (ZG El (Zb 4) Zc)))) (Zg (JU (Zm (Zb 3) (cO T.Zo (Zk T) hr (Za (Zb 0) (Za (Zb 4) Ze)))) (Y6 (Zb 3) (Zb 4)))) ZD)
 (Zg (Qp (DW.dt (Ud (ZG (Vz hr) (Zb 5) Zc) (YT (ZG El (Zb 4) Zc)))) (Zg (JU (cO T.L7 (MN T) hr (Za (Zb 0) (Za (Zb 1) (Za (Zm (Zb 3) (cO T.Zo (Zk T) hr (Za (Zb 0) (Za (Zb 4) Ze)))) Ze)))) (Y6 (Zb 3) (Zb 4)))) ZD))))) PassesOwn.never rfl)
 (Zg (Zs (Jl false (Z3 (sc:=Zf Yw) (XN:=["_law_pen", "_law_world_here", "_law_many", "_law_found", "_law_k", "_law_kind"]) (N:=["_law_one"]) (ix:=[none]) rfl rfl (by walk_at "k")) (Wh (Ka (Zb 3))) (λ C ex s H=>(Zw 0 (show List.Nodup (["_law_one"]:List Str) by walk_at "k"))) (λ C ex s H=>(MU (DW.dt (O7 (ZG (Fu hr) (Zm (Zb 0) Zc) Zn) (Dx (ZG DF (Zt QY rfl T.JY QN (Za (Zm (Zb 0) Zc) Ze)) Zc)))))) (λ C ex s H=>(Zb 0)) rfl))))))),λ xs M Φ h=>?_⟩
 replace h:=ZZ h;obtain ⟨x1,x2,rfl,h⟩:=h;replace h:=ZM h;obtain ⟨p,rfl,h⟩:=h;replace h:=ZM h;obtain ⟨q,rfl,hw,hne,hp,h⟩:=h;walk_at "h";refine ⟨hp,λ r M1 r0 r1 f1=>?_⟩;walk_at "hd";rename_i R hR;walk_at "rk";refine ⟨f1.1,λ r2 M2 _ _ f2=>?_⟩
 suffices go:∀ m:Int,0 <= m->m <= 300->R { nx:=λ x M'=>Φ (.dat .none) M',rt:=Φ } [some (.own p),some (.own q),some (.dat (.int m)),none,none,none] M2 by
  exact Zl (λ _=>go 300 (by decide) (by decide)) λ _=>go r r0 (by lia)
 intro m m0 m1;have F2:=f1.trans f2;clear f1 f2;subst_vars;walk_at "h";intro f hf;have nf:=F2.1.ne hf;have fM:=F2.fresh hf;walk_at "h";refine ⟨⟨by lia,by lia⟩,λ i Δ M'=>∃ (k4 k5:Option DV) (fs:List Tl),Δ = [some (.own p),some (.own q),some (.dat (.int m)),some (.own f),k4,k5] /\ M' f = some (.lst (fs.map tlD)) /\ fs.length = i /\ (∀ t ∈ fs,TlW i t) /\ Fr p M M',⟨_,_,[],rfl,Zv,rfl,λ _ h=>(nomatch h),F2.new fM (Ne.symm nf)⟩,?_,?_⟩
 ·rintro i Δ M3 hi ⟨k4,k5,fs,rfl,hm,hl,hW,fr⟩;have i1:i < 300:=by lia
  rw [Qk];walk_at "h";refine ⟨fr.1,λ kd M4 _ _ f4=>?_⟩;walk_at "h";rw [f4.own hm (Ne.symm nf)];walk_at "rk";refine ⟨hw.fr (fr.trans f4) hne,hne,f4.1,λ D M5 hD f5=>?_⟩;obtain ⟨x,hx,eD⟩:=Tz hD;have hm5:=f5.own (f4.own hm (Ne.symm nf)) (Ne.symm nf);have F5:=(fr.trans f4).trans f5;rw [eD,hm5];walk_at "rk";refine ⟨by rw [List.length_map]; lia,?_⟩;have s5:∃ y,TlW (fs.length + 1) y /\ Zu M5 f (.lst (fs.map tlD ++ [tlD x])) f = some (.lst ((fs ++ [y]).map tlD)) /\ Fr p M (Zu M5 f (.lst (fs.map tlD ++ [tlD x]))):=⟨x,Du hx,by rw [Zv,List.map_append]; rfl,F5.new fM (Ne.symm nf)⟩
  generalize Zu M5 f (.lst (fs.map tlD ++ [tlD x])) = M6 at s5 ⊢;clear hm5 F5 f5 f4 hm fr;obtain ⟨y,hy,hm,fr⟩:=s5;walk_at "hd";apply Zdp (R:=λ M'=>∃ y,TlW (fs.length + 1) y /\ M' f = some (.lst ((fs ++ [y]).map tlD)) /\ Fr p M M')
  ·intro go;walk_at "rk";refine Zl (λ _=>Zl (λ z1=>⟨⟨z1,by lia⟩,fr.1,λ r3 M7 a0 a1 f7=>?_⟩) λ _=>?_) λ _=>?_
   ·rw [f7.own hm (Ne.symm nf),VL];obtain ⟨z,hz,ez⟩:=R1 y a0 a1;refine QF ez ?_;rw [VL];refine ⟨fs.length,H0 fs y,?_⟩;rw [Bw];have s7:∃ y,TlW (fs.length + 1) y /\ Zu M7 f (.lst ((fs ++ [z]).map tlD)) f = some (.lst ((fs ++ [y]).map tlD)) /\ Fr p M (Zu M7 f (.lst ((fs ++ [z]).map tlD))):=⟨z,(hW z hz).up,Zv,(fr.trans f7).new fM (Ne.symm nf)⟩
    generalize Zu M7 f (.lst ((fs ++ [z]).map tlD)) = M8 at s7 ⊢;exact go M8 s7
   ·exact go M6 ⟨y,hy,hm,fr⟩
   ·exact go M6 ⟨y,hy,hm,fr⟩
  rintro M7 ⟨y,hy,hm,fr⟩
  have fin:∀ (z:Tl) (M8:Mp),TlW (fs.length + 1) z->M8 f = some (.lst ((fs ++ [z]).map tlD))->Fr p M M8->∃ (k4 k5:Option DV) (fs':List Tl),[some (DV.own p),some (.own q),some (.dat (.int m)),some (.own f),some (.dat (.int fs.length)),some (.dat (.int kd))] = [some (.own p),some (.own q),some (.dat (.int m)),some (.own f),k4,k5] /\ M8 f = some (.lst (fs'.map tlD)) /\ fs'.length = fs.length + 1 /\ (∀ t ∈ fs',TlW (fs.length + 1) t) /\ Fr p M M8:=λ z M8 hz h8 f8=>⟨_,_,fs ++ [z],rfl,h8,by rw [List.length_append]; rfl,λ t ht=>by
   rcases List.mem_append.mp ht with ht | ht
   ·exact (hW t ht).up
   ·rw [List.mem_singleton.mp ht]
    exact hz,f8⟩
  subst_vars;walk_at "rk";refine Zl (λ _=>Zl (λ z1=>⟨⟨z1,by lia⟩,fr.1,λ r3 M8 a0 a1 f8=>?_⟩) λ _=>fin y M7 hy hm fr) λ _=>fin y M7 hy hm fr;have hm8:=f8.own hm (Ne.symm nf);rw [hm8,VL];obtain ⟨z,hz,ez⟩:=R1 y a0 a1;refine QF ez ⟨z,rfl,hw.fr (fr.trans f8) hne,hne,f8.1,fs.length,hW z hz,by lia,λ z2 M9 hz2 f9=>?_⟩;rw [f9.own hm8 (Ne.symm nf)];walk_at "rk";refine ⟨fs.length,H0 fs y,?_⟩;rw [Bw];obtain ⟨k4,k5,fs',h1,h2,h3⟩:=fin z2 (Zu M9 f (.lst ((fs ++ [z2]).map tlD))) hz2 Zv (((fr.trans f8).trans f9).new fM (Ne.symm nf));rw [Zv] at h2;exact ⟨k4,k5,fs',h1,Option.some.inj h2,h3⟩
 ·rintro Δ M3 ⟨k4,k5,fs,rfl,hm,hl,hW,fr⟩;have l3:fs.length <= 300:=by lia
  subst_vars;walk_at "rk";rw [hm];walk_at "rk";refine ⟨by rw [List.length_map]; lia,λ i acc M'=>M' = Jj M3 f /\ ∃ gs:List Tl,acc = gs.map tlD /\ gs.length <= i /\ ∀ t ∈ gs,TlF t,⟨rfl,[],rfl,Nat.le_refl _,λ _ h=>(nomatch h)⟩,?_,?_⟩
  ·rintro i d acc M' hd ⟨rfl,gs,rfl,lg,hg⟩;obtain ⟨x,ex,rfl⟩:=Q6 hd;have hx:TlW 300 x:=(hW x (List.mem_of_getElem? ex)).to (by lia)
   have yes:ZcD x->Jj M3 f = Jj M3 f /\ ∃ gs':List Tl,gs.map tlD ++ [tlD x] = gs'.map tlD /\ gs'.length <= i + 1 /\ ∀ t ∈ gs',TlF t:=λ hf=>⟨rfl,gs ++ [x],by rw [List.map_append]; rfl,by rw [List.length_append]; exact Nat.succ_le_succ lg,λ t ht=>by
    rcases List.mem_append.mp ht with ht | ht
    ·exact hg t ht
    ·rw [List.mem_singleton.mp ht]
     exact ⟨hx,hf⟩⟩
   cases x with
   | land t nm ou bs wb=>
    rw [FE];walk_at "rk";rw [List.length_map];refine Zl (λ z=>(yes (show bs.length < 7 by lia)).2) λ _=>⟨gs,rfl,Nat.le_succ_of_le lg,hg⟩
   | spot t nm u v=>
    rw [ED];walk_at "rk";rw [decide_eq_false (Ne.symm Be.1),if_pos (by rfl)];exact (yes trivial).2
   | off w t nm=>
    rw [O5];walk_at "rk";rw [decide_eq_false (show w ≠ Str.ofString "land" from hx.2.elim (λ e=>by rw [e]; exact Ne.symm Be.2.1) λ e=>by rw [e]; exact Ne.symm Be.2.2.1),if_pos (by rfl)];exact (yes trivial).2
  ·rintro acc M' ⟨rfl,gs,rfl,lg,hg⟩;rw [List.length_map] at lg;exact h gs _ (by lia) hg (fr.gone fM (Ne.symm nf))
theorem PL (T:Tx w K mg):Q7 P w K mg base CX0 6 T.Sy T.P4 ["_law_script"] (lift K GL):=by
 refine okD T.o_law.F Ji (λ xs M Φ ⟨ns,e,_⟩=>by rw [e]; rfl) λ cdv A outer s H E hr=>⟨_,(Zd (Zj 1 Ji.nd (QV (Za (Zb 0) (Za Zc (Za Zc Ze)))))
 (Zd (Zj 2 Ji.nd (cO T.Dc (Ff T) hr (Za (Zb 1) Ze)))
 (Zd (Zj 3 Ji.nd (cO T.G2 (Em T) hr (Za (Zb 1) (Za (Zb 2) Ze))))
 (Zd (Zj 4 Ji.nd (cO T.PK (PU T) hr (Za (Zb 3) Ze)))
 (Zd (Zj 5 Ji.nd (cO T.Ue (Dz T) hr (Za (Zb 1) (Za (X5 (Zh Pj (Zb 3) (X5 (Zb 3) ZX (ZP (cO T.Zo (Zk T) hr (Za (Zb 1) (Za Zc Ze)))))) ZX (ZP Zc)) Ze))))
 (Zd (JL (Qt (Za (Zb 3) (Za (Zb 5) (Za (Zb 4) (Za (OK (Zb 4) (Vg Zc)) Ze))))) (Zw 6 Ji.nd) (Zd (Zj 7 Ji.nd (Zt (Wc hr) rfl T.WH YI (Za (Zb 6) Ze)))
 (Zg (J8 rfl T.Qz (Za Zc Ze) (Zw 8 Ji.nd) (Zd (Zj 9 Ji.nd (cO T.JK (Vw T) hr (Za (Zb 6) Ze)))
 (Zd (Qp (DW.dt (O7 (Tp (HS (cO T.Lm (Oz T) hr (Za (Zb 9) (Za (Zb 4) Ze))))) (Dx (ZG Sx (Zt (Wc hr) rfl T.WH YI (Za (Zb 6) Ze)) (Zb 7))))) (Zg (Zs ZbI)) ZD)
 (Zd (QH (U3 (Zb 9)))
 (Zg (QH (QU (Zb 9) TZ)))))) PassesOwn.never rfl))) PassesOwn.never rfl)
 (Zg (Zs (VQ (Cb hr) (cO T.JK (Vw T) hr (Za (Qt Ze) Ze)) (Qt Ze)))))))))),λ xs M Φ ⟨ns,e,hn,h⟩=>?_⟩
 subst e;walk_at "h";intro p hp;have P0:Pen (Zu M p (.lst [.list (ns.map PyData.int),.int 0,.int 0])) p:=Pen.Zu ⟨ns,0,0,Int.le_refl 0,rfl⟩;walk_at "h";refine ⟨P0,λ q M1 hw hne f1=>?_⟩;walk_at "h";refine ⟨hw,hne,f1.1,λ ts M2 hl hF f2=>?_⟩;have hS:∀ t ∈ ts,TlS t:=λ t m=>E1 (hF t m);walk_at "h";refine ⟨ts,rfl,by lia,hS,λ R hD=>?_⟩;walk_at "h";refine ⟨f2.1,λ r M3 r0 r1 f3=>?_⟩;have lR:=hD.len;rw [Uv tlD ts r0,<- List.map_append,Uv tlD _ (by decide:(0:Int) <= 300),List.length_map,List.length_map];refine ⟨by rw [List.length_take]; lia,(ts ++ ts.take r.toNat).take 300,rfl,by rw [List.length_take]; lia,f3.1,λ us M4 pm f4=>?_⟩;have mm:=HL (us:=us) (n:=r.toNat) hl pm;have lu:us.length <= 300:=by
  rw [pm.length_eq,List.length_take];lia
 have hG:∀ L ∈ [ts,us,R,R.reverse],L.length <= 300 /\ (∀ t ∈ L,TlF t) /\ Due L R:=λ L hL=>by
  simp only [List.mem_cons,List.not_mem_nil,or_false] at hL;have hR:∀ t ∈ R,TlF t:=λ t m=>hF t (hD.mem t m)
  rcases hL with rfl | rfl | rfl | rfl
  ·exact ⟨hl,hF,hD⟩
  ·exact ⟨lu,λ t m=>hF t ((mm t).mp m),hD.congr λ x=>(mm x).symm⟩
  ·exact ⟨by lia,hR,hD.self⟩
  ·exact ⟨by rw [List.length_reverse]; lia,λ t m=>hR t (List.mem_reverse.mp m),hD.self.congr λ x=>List.mem_reverse.symm⟩
 have hRF:=(hG R (by simp)).2.1;obtain ⟨q1,q2⟩:=PY hRF;have q3:=G9 (by lia) hRF;have p4:Pen M4 p:=f4.1;clear f1 f2 f3 f4 pm mm lu hF hS;walk_at "h";refine ⟨λ i Δ M'=>∃ k6 k7 k8 k9:Option DV,Δ = [some (.dat (.list (ns.map PyData.int))),some (.own p),some (.own q),some (.dat (.list (ts.map tlD))),some (.dat (.list (R.map tlD))),some (.dat (.list (us.map tlD))),k6,k7,k8,k9],⟨_,_,_,_,rfl⟩,?_,?_⟩
 ·rintro i d Δ M5 hd ⟨k6,k7,k8,k9,rfl⟩;obtain ⟨L,hL,rfl⟩:∃ L ∈ [ts,us,R,R.reverse],d = .list (L.map tlD):=by
   have:=List.mem_of_getElem? hd;simp only [List.mem_cons,List.not_mem_nil,or_false] at this
   rcases this with rfl | rfl | rfl | rfl
   ·exact ⟨ts,by simp,rfl⟩
   ·exact ⟨us,by simp,rfl⟩
   ·exact ⟨R,by simp,rfl⟩
   ·exact ⟨R.reverse,by simp,by rw [List.map_reverse]⟩
  obtain ⟨lL,hL,dL⟩:=hG L hL;have sL:=G9 lL hL;rw [Qk];walk_at "h";refine ⟨sL,?_⟩;subst_vars;walk_at "rk";refine ⟨⟨by decide,by decide⟩,λ j Δ M'=>∃ k8 k9:Option DV,Δ = [some (.dat (.list (ns.map PyData.int))),some (.own p),some (.own q),some (.dat (.list (ts.map tlD))),some (.dat (.list (R.map tlD))),some (.dat (.list (us.map tlD))),some (.dat (.list (L.map tlD))),some (.dat (.str (PyData.list (L.map tlD)).shown)),k8,k9],⟨_,_,rfl⟩,?_,?_⟩
  ·rintro j Δ M6 hj ⟨k8,k9,rfl⟩;rw [Qk];walk_at "h";refine ⟨L,rfl,by lia,λ t m=>E1 (hL t m),λ R' s hD' hs=>?_⟩;have e:R' = R:=hD'.uniq (λ x m=>(E1 (hL x m)).1) dL;subst e;walk_at "h";refine ⟨.list (R'.map tlD),.inr ⟨s,_,rfl,Zv,rfl⟩,rfl,⟨q1,q2,q3⟩,?_⟩;refine ⟨sL,?_⟩;subst_vars;walk_at "rk";exact ⟨by rw [List.length_reverse,List.length_map]; lia,_,_,rfl⟩
  ·rintro Δ M6 ⟨k8,k9,rfl⟩;exact ⟨_,_,_,_,rfl⟩
 ·rintro Δ M5 ⟨k6,k7,k8,k9,rfl⟩;subst_vars;walk_at "rk";refine ⟨[],rfl,Nat.zero_le _,λ _ h=>(nomatch h),λ R' s hD' hs=>?_⟩;cases Due.uniq (ts:=[]) (λ _ h=>(nomatch h)) hD' Due.nil;exact ⟨LG (R:=[]) λ _ h=>(nomatch h),h _⟩
end
def Ow (K:Fj) (x:Str) (st:Stmt) (f:Addr) (fd:FuncData):Prop:=PySem.W.nsIn K mainGlobals x = some (some (.ref f)) /\ Fun K x x st f fd
theorem QL {od an:Option Addr} {sl:Array (Option Value)} {oc kV dc pm cd ct:Value} (a:PySem.W.nsIn K mainGlobals x = some (some (.ref f))) (l:K.lookup f = some ⟨oc,od,.func (PySem.W.fnOf x x (Jn st) (Qy st) (Zf st) .none kV dc pm an cd ct),sl⟩) (c:PySem.W.codeIn K cd x = true) (k:PySem.W.keepIn K (.ref f) = true):Ow K x st f (PySem.W.fnOf x x (Jn st) (Qy st) (Zf st) .none kV dc pm an cd ct):=⟨a,SU l c k⟩
theorem Z4 {ps:List Str} (X:K.In h) (G:h.Ns mainGlobals mg) (o:Ow K x st f fd) (b:∀ (kV doc pm:Value) (an:Option Addr) (cdv ct:Value) (us:List Value),us.length = ps.length->bindArgs (PySem.W.fnOf x x (Jn st) (Qy st) (Zf st) .none kV doc pm an cdv ct) ⟨us,[]⟩ = pure (ps.zip us)):Own K mg x st ps f fd:=⟨o.2,PySem.W.mg_of X G o.1,o.2.binds b⟩
theorem ln1 {α:Type} {P:List α->Prop} (h:∀ a0,P [a0]) (l:List α) (e:l.length = 1):P l:=by
 match l,e with
 | [a0],_=>exact h a0
theorem ln2 {α:Type} {P:List α->Prop} (h:∀ a0 a1,P [a0,a1]) (l:List α) (e:l.length = 2):P l:=by
 match l,e with
 | [a0,a1],_=>exact h a0 a1
theorem ln3 {α:Type} {P:List α->Prop} (h:∀ a0 a1 a2,P [a0,a1,a2]) (l:List α) (e:l.length = 3):P l:=by
 match l,e with
 | [a0,a1,a2],_=>exact h a0 a1 a2
theorem all_mk {l:PySem.W.OpenLaw} {w:World} {fa:Addr} (X:K.In h) (G:h.Ns mainGlobals mg) (hfa:mg "law" = some (.ref fa))
  {f0 f1 f2 f3 f4 f5 f6 f7 f8 f9 f10 f11 f12 f13 f14 f15 f16 f17 f18:Addr} {d0 d1 d2 d3 d4 d5 d6 d7 d8 d9 d10 d11 d12 d13 d14 d15 d16 d17 d18:FuncData} {ta_RANKS:Addr} {tt_RANKS_0 tu_RANKS_0 tt_RANKS_1 tu_RANKS_1 tt_RANKS_2 tu_RANKS_2 tt_RANKS_3 tu_RANKS_3:Tok} {ep_RANKS:Nat}
  (o0:Ow K "in_order" Q8 f0 d0)
  (o1:Ow K "place_of" JJ f1 d1)
  (o2:Ow K "_law_take" Gz f2 d2)
  (o3:Ow K "_law_wide" CT f3 d3)
  (o4:Ow K "_law_same" s_same f4 d4)
  (o5:Ow K "_law_boxes" Y2 f5 d5)
  (o6:Ow K "_law_stretched" Jm f6 d6)
  (o7:Ow K "_law_stretch" VD f7 d7)
  (o8:Ow K "_law_names" QZ f8 d8)
  (o9:Ow K "_law_world" KG f9 d9)
  (o10:Ow K "_law_spot" Ut f10 d10)
  (o11:Ow K "_law_land" GR f11 d11)
  (o12:Ow K "_law_telling" Vv f12 d12)
  (o13:Ow K "_law_turned" YY f13 d13)
  (o14:Ow K "_law_near" GP f14 d14)
  (o15:Ow K "_law_drawn" Yw f15 d15)
  (o16:Ow K "_law_goes_ahead" Q2 f16 d16)
  (o17:Ow K "_law_due" Oe f17 d17)
  (o18:Ow K "law" Mu f18 d18)
  (z0:PySem.W.nsIn K mainGlobals "abs" = some none)
  (z1:PySem.W.nsIn K mainGlobals "len" = some none)
  (z2:PySem.W.nsIn K mainGlobals "range" = some none)
  (z3:PySem.W.nsIn K mainGlobals "repr" = some none)
  (z4:PySem.W.nsIn K mainGlobals "sorted" = some none)
  (z5:PySem.W.nsIn K mainGlobals "str" = some none)
  (z6:PySem.W.nsIn K mainGlobals "tuple" = some none)
  (tm_RANKS:PySem.W.nsIn K mainGlobals "RANKS" = some (some (.ref ta_RANKS)))
  (tl_RANKS:K.lookup ta_RANKS = some { cls:=.type "dict",data:=.dict #[⟨hashStr w (Str.ofString "land"),.str (Str.ofString "land") tt_RANKS_0,.int 0 tu_RANKS_0⟩,⟨hashStr w (Str.ofString "drop"),.str (Str.ofString "drop") tt_RANKS_1,.int 0 tu_RANKS_1⟩,⟨hashStr w (Str.ofString "free"),.str (Str.ofString "free") tt_RANKS_2,.int 1 tu_RANKS_2⟩,⟨hashStr w (Str.ofString "spot"),.str (Str.ofString "spot") tt_RANKS_3,.int 2 tu_RANKS_3⟩] ep_RANKS }) :
  ∃ fd:FuncData,(∀ (s:Shared) (v:Value),BindsTo s fd ⟨[v],[]⟩ [("_law_script",v)]) /\ ∀ base:Heap,K.In base->base.Ns mainGlobals mg->Q7 l.prog w K mg base CX0 6 fa fd ["_law_script"] (lift K GL):=by
 have e:=hfa.symm.trans (PySem.W.mg_of X G o18.1);cases e;obtain ⟨_,_,_,_,_,_,_,_,_,rfl,_,_⟩:=o18.2.ex
 let T:Tx w K mg:=⟨_,_,Z4 X G o0 λ _ _ _ _ _ _=>ln1 λ _=>rfl,_,_,Z4 X G o1 λ _ _ _ _ _ _=>ln1 λ _=>rfl,_,_,Z4 X G o2 λ _ _ _ _ _ _=>ln2 λ _ _=>rfl,_,_,Z4 X G o3 λ _ _ _ _ _ _=>ln2 λ _ _=>rfl,_,_,Z4 X G o4 λ _ _ _ _ _ _=>ln2 λ _ _=>rfl,_,_,Z4 X G o5 λ _ _ _ _ _ _=>ln2 λ _ _=>rfl,_,_,Z4 X G o6 λ _ _ _ _ _ _=>ln3 λ _ _ _=>rfl,_,_,Z4 X G o7 λ _ _ _ _ _ _=>ln1 λ _=>rfl,_,_,Z4 X G o8 λ _ _ _ _ _ _=>ln2 λ _ _=>rfl,_,_,Z4 X G o9 λ _ _ _ _ _ _=>ln1 λ _=>rfl,_,_,Z4 X G o10 λ _ _ _ _ _ _=>ln2 λ _ _=>rfl,_,_,Z4 X G o11 λ _ _ _ _ _ _=>ln3 λ _ _ _=>rfl,_,_,Z4 X G o12 λ _ _ _ _ _ _=>ln2 λ _ _=>rfl,_,_,Z4 X G o13 λ _ _ _ _ _ _=>ln2 λ _ _=>rfl,_,_,Z4 X G o14 λ _ _ _ _ _ _=>ln3 λ _ _ _=>rfl,_,_,Z4 X G o15 λ _ _ _ _ _ _=>ln2 λ _ _=>rfl,_,_,Z4 X G o16 λ _ _ _ _ _ _=>ln2 λ _ _=>rfl,_,_,Z4 X G o17 λ _ _ _ _ _ _=>ln1 λ _=>rfl,_,_,Z4 X G o18 λ _ _ _ _ _ _=>ln1 λ _=>rfl,PySem.W.mg_none_of X G z0,PySem.W.mg_none_of X G z1,PySem.W.mg_none_of X G z2,PySem.W.mg_none_of X G z3,PySem.W.mg_none_of X G z4,PySem.W.mg_none_of X G z5,PySem.W.mg_none_of X G z6,_,PySem.W.mg_of X G tm_RANKS,⟨_,_,tl_RANKS,⟨_,_,rfl⟩,⟨_,_,rfl⟩,⟨_,_,rfl⟩,⟨_,_,rfl⟩,trivial⟩⟩
 exact ⟨_,λ s v=>.of_eq rfl,λ base _ _=>PL T⟩
theorem walk {l:PySem.W.OpenLaw} {q:Program} {loose:List Str} {XP:(Str->Option Value)->Heap->Prop} {YP:World->Heap->Prop} {d:DefRec} {K:Params->Fj} (hn:l.most = some 63) (hdf:d.params.defaults = [])
  (hY:∀ (w:World) (h:Heap),YP w h->(K w.params).In h)
  (F:∀ (w:World) (mg:Str->Option Value) (fa:Addr) (h:Heap),(K w.params).In h->h.Ns mainGlobals mg->mg d.name = some (.ref fa) ->
   ∃ fd:FuncData,(∀ (s:Shared) (u:Value),BindsTo s fd ⟨[u],[]⟩ [("_law_script",u)]) /\ ∀ base:Heap,(K w.params).In base->base.Ns mainGlobals mg->Q7 l.prog w (K w.params) mg base CX0 6 fa fd ["_law_script"] (lift (K w.params) GL)) :
  PySem.W.WalkO q loose XP YP l.row.toRowW d [] (λ f vs=>PySem.call f vs):=
 L2.NL (n:=63) (k:=6) (x := "_law_script") (CX:=λ _=>CX0) (sp:=λ w=>lift (K w.params) GL) hn (by decide) hdf ⟨rfl,by decide,by decide,rfl⟩ hY F
  (λ w H a ns hl hO hS=>CM hl hO hS) λ _ _ _ _ _ z=>z
end My
set_option genInjectivity false in
structure PySem.W.Fast:Prop where
 (tw14538135292395990429 tw6461063718356732482 tw12487374073660967213 tw920444944523853386 tw10014677098137299695 tw1466061995896861501 tw18396412956016820741 tw11824771139715192356 tw9290073102113280979 tw4715663180259738639 tw15273389720289402451 tw3073510288383621409 tw18180151045689667836 tw18396574884611987043 tw16796599723375316860 tw4547252330702208828 tw5785964503847935841 tw17067440933050007697 tw10965335837545908323 tw13119417742190166266 tw1484980196063579852 tw14959675466917933223 tw17048323718245149818 tw15897909546223089013 tw14215501232341650419 tw6882355544831605605 tw14020436941106341627 tw13695150321549460388 tw877687520673925430 tw15142078672410462144 tw15909392711565198325 tw3715827574719605823 tw4412279774709336688 tw12451654182736027068 tw6194700115662981778 tw3156993137678480519 tw3986716363918118265 tw16656224812359168018 tw13083417242574202400 tw2625556992265932458 tw7850444364514812588 tw15711014996572246479 tw4233513719566964599 tw11480433289825829006 tw3681756363204131983 tw12967787026449570498 tw14626796329830595094 tw10681134670793640890 tw1338229810080775852 tw193925681789485802 tw5334139298014971445 tw8490220116074772618 tw13815160525742198055 tw10001073556696369969 tw17267693502955136736 tw2985267458887092449 tw13691096847822525569 tw13062619215230564282 tw5689913230770728636 tw15059708374839005760 tw4821705645067838568 tw2217982027075436971 tw8820390190365580747 tw5153565924985412326 tw16204358836901941493 tw11551828678051682551 tw6950429315680602750 tw6945327502780061646 tw7779361491682762563 tw7563158400145280675 tw8360384728478367412 tw12072988819003500308 tw13650523846379506437 tw923502645091229234 tw5001225782629569379 tw6645592521533748407 tw25615082367060335 tw14397653814957797831 tw2584241077194260267 tw2084590083508521733 tw2055993857004888767 tw7106728824176894001 tw3306394321261846455 tw4964069581791155905 tw13577592097620185602 tw16905055890207323327 tw2972970062600505406 tw9401205554682309372 tw13436192716147696352 tw5599240877554280519 tw2579089887900011625 tw2339476709491838922 tw7693014830141040170 tw17506060914166734199 tw6020123097789245198 tw13147973087381920890 tw4043279522516962018 tw13007569199972667023 tw4659572738151446425 tw12253521225305215810 tw5790912887079972618 tw5988311937727033073 tw11806382136481240230 tw15766083343811411430 tw12911637668755375784 tw16775953206590744347 tw6985916839809546311 tw13963057087035451247 tw2933316596154372094 tw1874065066912029255 tw10170476422529378716 tw17245791026676170892 tw7433958866591452625 tw1928008392360325881 tw8141346009505153608 tw12252206272295142585 tw13437419099602517922 tw2817178569892905780 tw11175326145191533106 tw15927674523194214764 tw405795801213995679 tw17462316814837138980:True)
open PySem.W
set_option maxRecDepth 100000 in
set_option maxHeartbeats 0 in
theorem PySem.Challenge.cw_landsentered_k19_which_count_in_order_holds : PySem.Challenge.rw_landsentered_k19_which_count_in_order.Holds := by
 w_on; o_law; k_head; (case hw => w_witness2)
 k_fill
 refine My.walk (l := PySem.Challenge.rw_landsentered_k19_which_count_in_order) rfl rfl (fun w h Y => PySem.W.kIn_of Y) ?F
 case F =>
  intro w mg fa h KX G hmg
  refine' My.all_mk KX G hmg (My.QL ?_ ?_ ?_ ?_) (My.QL ?_ ?_ ?_ ?_) (My.QL ?_ ?_ ?_ ?_) (My.QL ?_ ?_ ?_ ?_) (My.QL ?_ ?_ ?_ ?_) (My.QL ?_ ?_ ?_ ?_) (My.QL ?_ ?_ ?_ ?_) (My.QL ?_ ?_ ?_ ?_) (My.QL ?_ ?_ ?_ ?_) (My.QL ?_ ?_ ?_ ?_) (My.QL ?_ ?_ ?_ ?_) (My.QL ?_ ?_ ?_ ?_) (My.QL ?_ ?_ ?_ ?_) (My.QL ?_ ?_ ?_ ?_) (My.QL ?_ ?_ ?_ ?_) (My.QL ?_ ?_ ?_ ?_) (My.QL ?_ ?_ ?_ ?_) (My.QL ?_ ?_ ?_ ?_) (My.QL ?_ ?_ ?_ ?_) ?_ ?_ ?_ ?_ ?_ ?_ ?_ ?_ ?_
  any_goals first | k_is | kit_is | decide +kernel
