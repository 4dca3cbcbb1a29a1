import PyProof.Rows.All
import Wide.All
import OpenK.AllK
import Wide.FinOn
import Lean
import PyProof.EqAt
import PyProof.EqKinds
import PyProof.TupleCall
import PyProof.ReprRoads
import PyProof.EqLayable
import PyProof.NeData
import PyProof.Rows.TupDisplay
import PySem.Challenge.RW_landsentered_k55_whole_all_spots_agree
set_option Elab.async false
set_option linter.all false
set_option maxRecDepth 100000
set_option compiler.extract_closed false
set_option bootstrap.genMatcherCode false
theorem qI {p:Prop}:p=p:=propext Iff.rfl
theorem zz0 (h:True:=by first | exact .inl rfl | exact .inr rfl | assumption):True:=h
theorem zz1 (h:True:=by decide):True:=h
theorem zz2 (h:True:=by intro _; rfl):True:=h
theorem zz3 (h:True:=by rfl):True:=h
theorem zz4 (h:True:=by with_unfolding_all rfl):True:=h
theorem zz5 (h:True:=by first | exact Or.inl rfl | exact Or.inr (Or.inl rfl) | exact Or.inr (Or.inr rfl)):True:=h
theorem zz6 (h:True:=by first | exact LU _ | rfl):True:=h
theorem zz7 (h:True:=by intro _ _; rfl):True:=h
theorem zz8 (h:True:=by first | exact Or.inl rfl | exact Or.inr rfl):True:=h
theorem zz9 (h:True:=by first | decide | lia):True:=h
theorem zz10 (h:True:=by exact rfl):True:=h
local macro_rules | `(tactic| walk_at "k")=>`(tactic| decide +kernel)
local macro_rules | `(tactic| walk_at "s")=>`(tactic| exact ⟨rfl,rfl,rfl,by walk_at "k",rfl,by walk_at "k",by walk_at "k"⟩)
local macro_rules | `(tactic| walk_at "w")=>`(tactic| (first | decide | lia))
abbrev Fk:=PySem.W.Frag
namespace L2
open PySem PySem.Spec PyProof.Rows
abbrev Key:=Sum Int Str
noncomputable def G2:Key->Value->Bool
 | .inl k,v=>Value.isInt k v
 | .inr x,v=>Value.isStrOf x v
noncomputable def ZdH (w:World):Key->Int
 | .inl k=>hashInt k
 | .inr x=>hashStr w x
theorem ZK:∀ {k:Key} {v:Value},G2 k v = true->(∃ i t,k = Sum.inl i /\ v = Value.int i t) \/ (∃ x t,k = Sum.inr x /\ v = Value.str x t)
 | .inl i,v,h=>by
  obtain ⟨t,e⟩:=Value.isInt_shape (k:=i) (v:=v) h;exact .inl ⟨i,t,rfl,e⟩
 | .inr x,v,h=>by
  obtain ⟨t,e⟩:=Value.isStrOf_shape (x:=x) (v:=v) h;exact .inr ⟨x,t,rfl,e⟩
theorem D9 (i:Int) (t:Tok):G2 (.inl i) (.int i t) = true:=by simp [G2,Value.isInt]
theorem Er (x:Str) (t:Tok):G2 (.inr x) (.str x t) = true:=by simp [G2,Value.isStrOf]
theorem Su (a b:Int):decide ((Sum.inl a:Key) = Sum.inl b) = (a == b):=by
 by_cases e:a = b
 ·subst e; simp
 ·have h:¬ (Sum.inl a:Key) = Sum.inl b:=λ q=>e (Sum.inl.inj q);rw [decide_eq_false h];exact (beq_eq_false_iff_ne.mpr e).symm
theorem Tv (a b:Str):decide ((Sum.inr a:Key) = Sum.inr b) = decide (a = b):=by
 by_cases e:a = b
 ·subst e; simp
 ·have h:¬ (Sum.inr a:Key) = Sum.inr b:=λ q=>e (Sum.inr.inj q);rw [decide_eq_false h,decide_eq_false e]
theorem Zau (a:Int) (b:Str):decide ((Sum.inl a:Key) = Sum.inr b) = false:=decide_eq_false (λ q=>nomatch q)
theorem Sz (a:Str) (b:Int):decide ((Sum.inr a:Key) = Sum.inl b) = false:=decide_eq_false (λ q=>nomatch q)
noncomputable def ZT (prog:Program) (w:World):PySem.KeyKind prog w Key where
 is:=G2
 hash:=ZdH w
 inj:=λ v a b ha hb=>by
  rcases ZK ha with ⟨i,t,rfl,rfl⟩ | ⟨x,t,rfl,rfl⟩
  ·rcases ZK hb with ⟨j,u,rfl,e⟩ | ⟨y,u,rfl,e⟩
   ·injection e with e1 _; rw [e1]
   ·exact nomatch e
  ·rcases ZK hb with ⟨j,u,rfl,e⟩ | ⟨y,u,rfl,e⟩
   ·exact nomatch e
   ·injection e with e1 _; rw [e1]
 byValue:=λ k v h=>by
  rcases ZK h with ⟨i,t,rfl,rfl⟩ | ⟨x,t,rfl,rfl⟩ <;> rfl
 pyHash:=λ hv h=>by
  rcases ZK hv with ⟨i,t,rfl,rfl⟩ | ⟨x,t,rfl,rfl⟩
  ·exact wpAny_pyHash_int h
  ·exact wpAny_pyHash_str h
 eqBool:=λ hu hv h=>by
  rcases ZK hu with ⟨i,t,rfl,rfl⟩ | ⟨x,t,rfl,rfl⟩
  ·rcases ZK hv with ⟨j,u,rfl,rfl⟩ | ⟨y,u,rfl,rfl⟩
   ·rw [Su] at h; exact wpAny_eqBool_int h
   ·rw [Zau] at h; exact SeqAt.EqAt.int_str i t y u _ _ _ _ h
  ·rcases ZK hv with ⟨j,u,rfl,rfl⟩ | ⟨y,u,rfl,rfl⟩
   ·rw [Sz] at h; exact SeqAt.EqAt.str_int x t j u _ _ _ _ h
   ·rw [Tv] at h; exact wpAny_eqBool_str h
 «strs» := λ k x t v h=>by
  rcases ZK h with ⟨i,u,rfl,e⟩ | ⟨y,u,rfl,e⟩
  ·exact nomatch e
  ·injection e with e1 _
   subst e1;cases v <;> rfl
theorem Wq (prog:Program) (w:World) (i:Int) (t:Tok):(ZT prog w).is (.inl i) (.int i t) = true:=D9 i t
theorem WS (prog:Program) (w:World) (x:Str) (t:Tok):(ZT prog w).is (.inr x) (.str x t) = true:=Er x t
inductive V where
 | non | bl (b:Bool) | int (i:Int) | str (x:Str) | byt (b:Array UInt8) | flt (b:UInt64) | ref (a:Addr) | ty (n:String)
 deriving DecidableEq
def RelV:V->Value->Prop
 | .non,u=>u = Value.none
 | .bl b,u=>u = Value.bool b
 | .int i,u=>∃ t,u = Value.int i t
 | .str x,u=>∃ t,u = Value.str x t
 | .byt b,u=>∃ t,u = Value.bytes b t
 | .flt b,u=>∃ t,u = Value.float b t
 | .ref a,u=>u = Value.ref a
 | .ty n,u=>u = Value.type n
abbrev Vals:List V->List Value->Prop:=Paired RelV
theorem Vals.length {xs:List V} {us:List Value} (r:Vals xs us):xs.length = us.length:=Paired.length r
theorem Vals.get:∀ {xs:List V} {us:List Value} {i:Nat} {x:V},Vals xs us->xs[i]? = some x->∃ u,us[i]? = some u /\ RelV x u
 | _,_,_,_,.nil,e=>by simp at e
 | _,_,0,_,.cons r _,e=>by simp at e; subst e; exact ⟨_,rfl,r⟩
 | _,_,i + 1,x,.cons _ t,e=>by
  obtain ⟨u,h1,h2⟩:=Vals.get (i:=i) (x:=x) t (by simpa using e);exact ⟨u,by simpa using h1,h2⟩
theorem Vals.set {x:V} {u:Value} (r:RelV x u):∀ {xs:List V} {us:List Value} (i:Nat),Vals xs us->Vals (xs.set i x) (us.set i u)
 | _,_,_,.nil=>.nil
 | _,_,0,.cons _ t=>.cons r t
 | _,_,i + 1,.cons q t=>.cons q (Vals.set r i t)
theorem Vals.append:∀ {xs ys:List V} {us ws:List Value},Vals xs us->Vals ys ws->Vals (xs ++ ys) (us ++ ws)
 | _,_,_,_,.nil,s=>s
 | _,_,_,_,.cons r t,s=>.cons r (Vals.append t s)
theorem Vals.take:∀ {xs:List V} {us:List Value} (n:Nat),Vals xs us->Vals (xs.take n) (us.take n)
 | _,_,0,_=>.nil
 | _,_,_ + 1,.nil=>.nil
 | _,_,n + 1,.cons r t=>.cons r (Vals.take n t)
theorem Vals.drop:∀ {xs:List V} {us:List Value} (n:Nat),Vals xs us->Vals (xs.drop n) (us.drop n)
 | _,_,0,r=>r
 | _,_,_ + 1,.nil=>.nil
 | _,_,n + 1,.cons _ t=>Vals.drop n t
theorem Vals.none_of:∀ {xs:List V} {us:List Value} {i:Nat},Vals xs us->xs[i]? = none->us[i]? = none:=λ {xs us i} r e=>by
 have h1:=r.length;have h2:xs.length <= i:=List.getElem?_eq_none_iff.mp e;exact List.getElem?_eq_none_iff.mpr (by lia)
def EJ:Option V->Option Value->Prop
 | some v,some u=>RelV v u
 | none,none=>True
 | _,_=>False
def KV {κ:Type}:List (κ × V)->List (κ × Value)->Prop:=Paired λ (p:κ × V) (q:κ × Value)=>p.1 = q.1 /\ RelV p.2 q.2
noncomputable def kV:Key->V
 | .inl i=>.int i
 | .inr x=>.str x
inductive HO where
  | lst (xs:List V)
  | tup (xs:List V)
  | dK (kvs:List (Key × V)) | dT (kvs:List (List Key × V))
  | set (S:Int->Bool) (n:Nat)
  | ins (C dx:Addr) (fs:List (Str × V))
  | own (x:Addr)
  | xd (fs:List (Str × V))
  | met (f x:Addr)
  | rng (lo hi:Int)
  | frz (o:Obj) (u:HO)
  | tbl (ps:Array Value)
  | ext (φ:Heap->Prop)
abbrev Hp:=Addr->Option HO
noncomputable def upd (H:Hp) (a:Addr) (o:HO):Hp:=λ b=>if b = a then some o else H b
theorem ZW {H:Hp} {a:Addr} {o:HO}:upd H a o a = some o:=by unfold upd; rw [if_pos rfl]
theorem Zv {H:Hp} {a b:Addr} {o:HO} (h:b ≠ a):upd H a o b = H b:=by unfold upd; rw [if_neg h]
theorem Zck {H:Hp} {a b:Addr} {o u:HO} (h:H a = some o) (h':H b = some u) (d:o ≠ u):a ≠ b:=by
 intro e; subst e; rw [h] at h'; exact d (Option.some.inj h')
theorem Zt {H:Hp} {a b:Addr} {o:HO} (h:H a = some o) (h':H b = none):a ≠ b:=by
 intro e; subst e; rw [h] at h'; cases h'
section
variable (P:Program) (w:World)
def Z8 (H:Hp) (h:Heap) (a:Addr):HO->Prop
 | .lst xs=>xs.length <= sizeLine /\ ∃ (its:List Value) (n:Nat),Vals xs its /\ h.get? a = some { cls:=.type "list",data:=.seq its.toArray n }
 | .tup xs=>xs.length <= sizeLine /\ ∃ its:List Value,Vals xs its /\ IsTup h a its.toArray
 | .dK kvs=>kvs.length <= sizeLine /\ (a == sysModules) = false /\ ∃ vs,KV kvs vs /\ h.DictOf (ZT P w) a vs
 | .dT kvs=>kvs.length <= sizeLine /\ (a == sysModules) = false /\ ∃ xs:List (List Key × Addr × Value),
   Paired (λ (p:List Key × V) (q:List Key × Addr × Value)=>p.1 = q.1 /\ H q.2.1 = some (.tup (p.1.map kV)) /\ RelV p.2 q.2.2) kvs xs /\
   ∃ o es ep,h.get? a = some o /\ o.ExactDict /\ o.data = .dict es ep /\ es.toList = xs.map (entryOfKey (tupleKind (ZT P w))) /\ (xs.map (·.1)).Nodup
 | .set S n=>h.SetOf (intKind P w) a S n
 | .ins C dx fs=>H dx = some (.own a) /\ fs.length <= 1000 /\ dx ≠ a /\ h.get? a = some (PySem.W.instObj C dx) /\
   ∃ mA,h.Ns1 dx mA /\ (∀ f,EJ (fs.lookup f) (mA f)) /\ PySem.Within mA (fs.map (·.1))
 | .own _=>∃ o,h.get? a = some o
 | .xd fs=>∃ mA,h.Ns1 a mA /\ ∀ f,EJ (fs.lookup f) (mA f)
 | .rng lo hi=>∃ t u v,h.get? a = some { cls:=.type "range",data:=.fields #[.int lo t,.int hi u,.int 1 v] }
 | .frz o u=>h.get? a = some o /\ Z8 H h a u
 | .tbl ps=>h.get? a = some { cls:=.none,data:=.fields ps }
 | .met f x=>h.get? a = some (PySem.W.methodObj (.ref f) (.ref x))
 | .ext φ=>φ h /\ (∃ o,h.get? a = some o) /\ ∀ h1 h2:Heap,φ h1->(∀ o,h1.get? a = some o->h2.get? a = some o)->φ h2
def HOk (H:Hp) (h:Heap):Prop:=∀ a o,H a = some o->Z8 P w H h a o
end
section
variable {P:Program} {w:World} {H H':Hp} {h h':Heap} {a:Addr} {o:HO}
theorem Z8.lt (x:Z8 P w H h a o):a < h.objs.size:=by
 cases o with
 | lst xs=>obtain ⟨_,_,_,_,e⟩:=x; exact Heap.lt_size e
 | tup xs=>obtain ⟨_,_,_,p⟩:=x; exact p.lt
 | dK kvs=>obtain ⟨_,_,_,_,o,_,_,e,_⟩:=x; exact Heap.lt_size e
 | dT kvs=>obtain ⟨_,_,_,_,o,_,_,e,_⟩:=x; exact Heap.lt_size e
 | set S n=>obtain ⟨o,_,_,_,e,_⟩:=x; exact Heap.lt_size e
 | ins C dx fs=>obtain ⟨_,_,_,e,_⟩:=x; exact Heap.lt_size e
 | own y=>obtain ⟨_,e⟩:=x; exact Heap.lt_size e
 | xd fs=>obtain ⟨_,⟨_,_,_,e,_⟩,_⟩:=x; exact Heap.lt_size e
 | rng lo hi=>obtain ⟨_,_,_,e⟩:=x; exact Heap.lt_size e
 | frz ob u=>obtain ⟨e,_⟩:=x; exact Heap.lt_size e
 | tbl ps=>exact Heap.lt_size (show h.get? a = some _ from x)
 | met f y=>exact Heap.lt_size (show h.get? a = some _ from x)
 | ext φ=>obtain ⟨_,⟨_,e⟩,_⟩:=x; exact Heap.lt_size e
theorem Paired.Cr {α β:Type} {F G:α->β->Prop}:∀ {l₁:List α} {l₂:List β},Paired F l₁ l₂->(∀ a b,F a b->G a b)->Paired G l₁ l₂
 | _,_,.nil,_=>.nil
 | _,_,.cons r t,f=>.cons (f _ _ r) (Paired.Cr t f)
theorem Z8.OT (x:Z8 P w H h a o) (k:∀ b u,(b = a \/ H b = some (.own a))->h.get? b = some u->h'.get? b = some u)
  (ho:∀ b,H b = some (.own a)->H' b = some (.own a)) (ht:∀ b xs,H b = some (.tup xs)->H' b = some (.tup xs)):Z8 P w H' h' a o:=by
 induction o with
 | lst xs=>obtain ⟨z,its,n,r,e⟩:=x; exact ⟨z,its,n,r,k _ _ (.inl rfl) e⟩
 | tup xs=>obtain ⟨z,its,r,ob,e,c⟩:=x; exact ⟨z,its,r,ob,k _ _ (.inl rfl) e,c⟩
 | dK kvs=>obtain ⟨z,y,vs,r,ob,es,ep,e,c⟩:=x; exact ⟨z,y,vs,r,ob,es,ep,k _ _ (.inl rfl) e,c⟩
 | dT kvs=>
  obtain ⟨z,y,xs,r,ob,es,ep,e,c⟩:=x;exact ⟨z,y,xs,Paired.Cr r λ p q z=>⟨z.1,ht _ _ z.2.1,z.2.2⟩,ob,es,ep,k _ _ (.inl rfl) e,c⟩
 | set S n=>obtain ⟨ob,es,ep,t,e,c⟩:=x; exact ⟨ob,es,ep,t,k _ _ (.inl rfl) e,c⟩
 | ins C dx fs=>
  obtain ⟨d,z,ne,e,mA,⟨od,es,ep,e2,c⟩,r⟩:=x;exact ⟨ho _ d,z,ne,k _ _ (.inl rfl) e,mA,⟨od,es,ep,k _ _ (.inr d) e2,c⟩,r⟩
 | own y=>obtain ⟨ob,e⟩:=x; exact ⟨ob,k _ _ (.inl rfl) e⟩
 | xd fs=>obtain ⟨mA,⟨od,es,ep,e,c⟩,r⟩:=x; exact ⟨mA,⟨od,es,ep,k _ _ (.inl rfl) e,c⟩,r⟩
 | rng lo hi=>obtain ⟨t,u,v,e⟩:=x; exact ⟨t,u,v,k _ _ (.inl rfl) e⟩
 | frz ob u ih=>obtain ⟨e,q⟩:=x; exact ⟨k _ _ (.inl rfl) e,ih q⟩
 | tbl ps=>
  have e:h.get? a = some { cls:=.none,data:=.fields ps }:=x;show h'.get? a = some { cls:=.none,data:=.fields ps };exact k a _ (.inl rfl) e
 | met f y=>
  have e:h.get? a = some (PySem.W.methodObj (.ref f) (.ref y)):=x;show h'.get? a = some (PySem.W.methodObj (.ref f) (.ref y));exact k a _ (.inl rfl) e
 | ext φ=>obtain ⟨p,⟨o,e⟩,st⟩:=x; exact ⟨st _ _ p λ o q=>k _ _ (.inl rfl) q,⟨o,k _ _ (.inl rfl) e⟩,st⟩
theorem HOk.lt (x:HOk P w H h) (e:H a = some o):a < h.objs.size:=(x a o e).lt
theorem HOk.fresh (x:HOk P w H h) (e:h.objs.size <= a):H a = none:=by
 cases q:H a with
 | none=>rfl
 | some u=>exact absurd (Nat.lt_of_lt_of_le (x.lt q) e) (Nat.lt_irrefl _)
theorem HOk.kept (x:HOk P w H h) (k:∀ b u,h.get? b = some u->h'.get? b = some u):HOk P w H h':=λ a o e=>
 (x a o e).OT (λ b u _ q=>k b u q) (λ _ q=>q) λ _ _ q=>q
theorem HOk.laid (x:HOk P w H h) (k:∀ b u,h.get? b = some u->h'.get? b = some u) (hp:h.objs.size <= a) (new:Z8 P w (upd H a o) h' a o):HOk P w (upd H a o) h':=λ b u e=>by
 have hn:=x.fresh hp
 by_cases hb:b = a
 ·subst hb; rw [ZW] at e; cases e; exact new
 ·rw [Zv hb] at e;exact (x b u e).OT (λ c v _ q=>k c v q) (λ c q=>by rw [Zv (Zt q hn)]; exact q) λ c xs q=>by rw [Zv (Zt q hn)]; exact q
end
def Rd (H:Hp) (a:Addr) (u:HO):Prop:=H a = some u \/ ∃ o,H a = some (.frz o u)
theorem Rd.of {H:Hp} {a:Addr} {u:HO} (h:H a = some u):Rd H a u:=.inl h
theorem Rd.ok {P:Program} {w:World} {H:Hp} {h:Heap} {a:Addr} {u:HO} (r:Rd H a u) (x:HOk P w H h):Z8 P w H h a u:=by
 rcases r with r | ⟨o,r⟩
 ·exact x a u r
 ·obtain ⟨_,q⟩:=x a _ r;exact q
def Mut:Option HO->Prop
 | some (.lst _)=>True
 | some (.dK _)=>True
 | some (.dT _)=>True
 | some (.set _ _)=>True
 | some (.ins _ _ _)=>True
 | some (.ext _)=>True
 | _=>False
section
variable {P:Program} {w:World} {H:Hp} {h h':Heap} {x e:Addr} {o':HO}
theorem HOk.write (ok:HOk P w H h) (mu:Mut (H x)) (he:e = x \/ H e = some (.own x)) (k:∀ b u,b ≠ e->h.get? b = some u->h'.get? b = some u) (heo:∃ u,h'.get? e = some u)
  (new:Z8 P w (upd H x o') h' x o'):HOk P w (upd H x o') h':=λ b u q=>by
 have nown:∀ c y,H c = some (.own y)->c ≠ x:=λ c y r z=>by subst z; rw [r] at mu; exact mu
 have ntup:∀ c xs,H c = some (.tup xs)->c ≠ x:=λ c xs r z=>by subst z; rw [r] at mu; exact mu
 by_cases hb:b = x
 ·subst hb; rw [ZW] at q; cases q; exact new
 ·rw [Zv hb] at q
  by_cases hbe:b = e
  ·have q':H b = some (.own x):=by
    rcases he with z | z
    ·exact absurd (hbe.trans z) hb
    ·rw [hbe]; exact z
   rw [q] at q'; cases q';obtain ⟨v,hv⟩:=heo;exact ⟨v,by rw [hbe]; exact hv⟩
  ·refine (ok b u q).OT (λ c v hc r=>k c v ?_ r) (λ c r=>by rw [Zv (nown c b r)]; exact r) λ c xs r=>by rw [Zv (ntup c xs r)]; exact r
   rcases hc with rfl | hc
   ·exact hbe
   ·rintro rfl
    rcases he with z | z
    ·exact nown c b hc z
    ·rw [hc] at z; cases z; exact hb rfl
end
structure Un (fs ex:List Addr) (H H':Hp) (h h':Heap):Prop where
 keep:∀ b o,h.get? b = some o->H b = none->b ∉ fs->b ∉ ex->h'.get? b = some o
 slot:∀ b o,h.get? b = some o->H b = none->b ∈ fs->b ∉ ex->∃ sl,h'.get? b = some { o with slots:=sl }
 free:∀ b o,h.get? b = some o->H b = none->b ∉ ex->H' b = none
 there:∀ b o,h.get? b = some o->b ∉ ex->∃ o',h'.get? b = some o'
 tups:∀ b xs,H b = some (.tup xs)->H' b = some (.tup xs)
 frzs:∀ b o u,H b = some (.frz o u)->H' b = some (.frz o u)
 tbls:∀ b ps,H b = some (.tbl ps)->∃ more,H' b = some (.tbl (ps ++ more))
section
variable {fs fs' ex ex':List Addr} {H H1 H2:Hp} {h h1 h2 h':Heap} {a x e:Addr} {o:HO}
theorem Un.any (u:Un fs ex H H1 h h1) {b:Addr} {ob:Obj} (q:h.get? b = some ob) (n:H b = none) (hx:b ∉ ex):∃ sl,h1.get? b = some { ob with slots:=sl }:=by
 by_cases hb:b ∈ fs
 ·exact u.slot b ob q n hb hx
 ·exact ⟨ob.slots,u.keep b ob q n hb hx⟩
theorem Un.trans (a:Un fs ex H H1 h h1) (b:Un fs ex H1 H2 h1 h2):Un fs ex H H2 h h2 where
 keep:=λ c ob q n hc hx=>b.keep c ob (a.keep c ob q n hc hx) (a.free c ob q n hx) hc hx
 slot:=λ c ob q n hc hx=>by
  obtain ⟨sl,e1⟩:=a.slot c ob q n hc hx;obtain ⟨sl',e2⟩:=b.slot c _ e1 (a.free c ob q n hx) hc hx;exact ⟨sl',e2⟩
 free:=λ c ob q n hx=>by
  obtain ⟨o',e1⟩:=a.there c ob q hx;exact b.free c o' e1 (a.free c ob q n hx) hx
 there:=λ c ob q hx=>by
  obtain ⟨o',e1⟩:=a.there c ob q hx;exact b.there c o' e1 hx
 tups:=λ c xs q=>b.tups c xs (a.tups c xs q)
 frzs:=λ c ob xs q=>b.frzs c ob xs (a.frzs c ob xs q)
 tbls:=λ c ps q=>by
  obtain ⟨m1,e1⟩:=a.tbls c ps q;obtain ⟨m2,e2⟩:=b.tbls c _ e1;exact ⟨m1 ++ m2,by rw [e2,Array.append_assoc]⟩
theorem Un.kept (k:∀ b u,h.get? b = some u->h'.get? b = some u):Un fs ex H H h h':=
 ⟨λ b ob q _ _ _=>k b ob q,λ b ob q _ _ _=>⟨ob.slots,k b ob q⟩,λ _ _ _ n _=>n,λ b ob q _=>⟨ob,k b ob q⟩,λ _ _ q=>q,λ _ _ _ q=>q,λ _ ps q=>⟨#[],by rw [q]; simp⟩⟩
theorem Un.refl:Un fs ex H H h h:=Un.kept λ _ _ q=>q
theorem Un.laid (k:∀ b u,h.get? b = some u->h'.get? b = some u) (hp:h.objs.size <= a) (hn:H a = none):Un fs ex H (upd H a o) h h' where
 keep:=λ b u q _ _ _=>k b u q
 slot:=λ b u q _ _ _=>⟨u.slots,k b u q⟩
 free:=λ b u q n _=>by rw [Zv (Nat.ne_of_lt (Nat.lt_of_lt_of_le (Heap.lt_size q) hp))]; exact n
 there:=λ b u q _=>⟨u,k b u q⟩
 tups:=λ b xs q=>by rw [Zv (Zt q hn)]; exact q
 frzs:=λ b u xs q=>by rw [Zv (Zt q hn)]; exact q
 tbls:=λ b ps q=>⟨#[],by rw [Zv (Zt q hn),q]; simp⟩
theorem Un.write (mu:Mut (H x)) (he:e = x \/ H e = some (.own x)) (k:∀ b u,b ≠ e->h.get? b = some u->h'.get? b = some u) (heo:∃ u,h'.get? e = some u):Un fs ex H (upd H x o) h h':=by
 have hx:∀ b,H b = none->b ≠ x:=λ b n z=>by subst z; rw [n] at mu; exact mu
 have hb:∀ b,H b = none->b ≠ e:=λ b n z=>by
  subst z
  rcases he with r | r
  ·exact hx b n r
  ·rw [n] at r; cases r
 have hm:∀ b u,H b = some u->¬ Mut (some u)->b ≠ x:=λ b u q nm z=>by subst z; rw [q] at mu; exact nm mu
 refine ⟨λ b u q n _ _=>k b u (hb b n) q,λ b u q n _ _=>⟨u.slots,k b u (hb b n) q⟩,λ b u q n _=>by rw [Zv (hx b n)]; exact n,λ b u q _=>?_,
  λ b xs q=>by rw [Zv (hm b _ q λ z=>z)]; exact q,λ b u xs q=>by rw [Zv (hm b _ q λ z=>z)]; exact q,λ b ps q=>⟨#[],by rw [Zv (hm b _ q λ z=>z),q]; simp⟩⟩
 by_cases hbe:b = e
 ·subst hbe; exact heo
 ·exact ⟨u,k b u hbe q⟩
end
noncomputable def trk (h:Heap) (H:Hp):List Addr:=(List.range h.objs.size).filter λ a=>(H a).isSome
noncomputable def E7 (h:Heap) (H:Hp):Heap:=PySem.W.hideAll h (trk h H)
theorem Ep (h:Heap) (H:Hp):(E7 h H).objs.size = h.objs.size:=PySem.W.hideAll_size _ _
theorem Hq {h:Heap} {H:Hp} {b:Addr} {o:Obj} (e:h.get? b = some o) (n:H b = none):(E7 h H).get? b = some o:=
 PySem.W.hideAll_get _ e λ hm=>by
  have q:(H b).isSome = true:=(List.mem_filter.mp hm).2;rw [n] at q; simp at q
theorem NX {h:Heap} {H:Hp} {b:Addr} {o:Obj} (e:(E7 h H).get? b = some o):h.get? b = some o /\ H b = none:=by
 have e':h.get? b = some o:=PySem.W.of_hideAll (trk h H) e;refine ⟨e',?_⟩;cases q:H b with
 | none=>rfl
 | some x=>
  have hm:b ∈ trk h H:=List.mem_filter.mpr ⟨List.mem_range.mpr (Heap.lt_size e'),by simp [q]⟩;have z:(E7 h H).get? b = none:=PySem.W.hideAll_none (trk h H) hm;rw [z] at e; cases e
noncomputable def Ov (g h:Heap) (L:Addr):List (Addr × Obj):=(List.range h.objs.size).filterMap λ a=>if a = L \/ (g.get? a).isSome = true then none else (h.get? a).map λ o=>(a,o)
noncomputable def rest (g h:Heap) (L d:Addr):List (Addr × Obj):=(Ov g h L).filter λ p=>decide (p.1 ≠ d)
structure Mod (K:Fk) (mg:Str->Option Value) (base:Heap):Prop where
 kin:K.In base
 glob:base.Ns mainGlobals mg
 blt:∃ mb,base.Ns builtinsNs mb /\ ∀ x:Str,x ≠ "__name__" -> mb x = bootBuiltins x
 nolimit:base.NoLimit
structure Cx where
 prog:Program
 w:World
 K:Fk
 mg:Str->Option Value
 base:Heap
 A:Around
 N:List Str
 s₀:Shared
 H₀:Hp
 env:Env
 outer:List Env
 stack:List Env
 ex:List Addr
 fn:Str->Bool
 calm:Bool
 pn:List (Addr × Obj)
 xe:Value->Shared->Prop
noncomputable def frs (l:List Env):List Addr:=l.filterMap (·.frame)
noncomputable abbrev Cx.fs (X:Cx):List Addr:=frs X.outer
def Vis (sc:Scope) (x:Str):Prop:=sc.names.lookup x = some .local \/ sc.names.lookup x = some .cell \/ sc.names.lookup x = some .free
def Loc (sc:Scope) (x:Str):Prop:=sc.names.lookup x = some .local \/ sc.names.lookup x = some .cell
def Look (env:Env) (h:Heap) (m:Str->Option Value) (x:Str) (u:Value):Prop:=
 (env.kindOf x = some .local /\ m x = some u) \/ ((env.kindOf x = some .cell \/ env.kindOf x = some .free) /\ ∃ c,env.cells.lookup x = some c /\ h.IsCell c (some u))
structure Cx.Ok (X:Cx):Prop where
 mod:Mod X.K X.mg X.base
 kind:X.env.scope.kind = .function
 glob:X.env.globals = mainGlobals
 blt:X.env.builtins = builtinsNs
 above:X.s₀.heap.objs.size <= X.env.locals
 inj:∀ x y c,X.env.cells.lookup x = some c->X.env.cells.lookup y = some c->x = y
 has:∀ x,(X.env.kindOf x = some .cell \/ X.env.kindOf x = some .free)->∃ c,X.env.cells.lookup x = some c
 cab:∀ x c,X.fn x = true->X.env.cells.lookup x = some c->X.s₀.heap.objs.size <= c
 hd:X.calm = true->X.A.handled = none
 frames:X.A.frames = some X.stack
 stk:X.stack = X.outer \/ (X.stack = X.env :: X.outer /\ X.env.frame = some X.env.locals)
 exf:∀ b ∈ X.ex,b ≠ X.env.locals /\ ∀ x c,X.env.cells.lookup x = some c->c ≠ b
 bs:∀ b o,X.base.get? b = some o->X.s₀.heap.get? b = some o /\ X.H₀ b = none
 bsz:X.base.objs.size <= X.s₀.heap.objs.size
 noex:∀ b o,X.base.get? b = some o->b ∉ X.ex
 exfs:∀ b ∈ X.ex,b ∉ X.fs
 Bx:X.s₀.heap.FunFrames X.base X.outer
 frf:∀ b ∈ X.fs,X.H₀ b = none
structure Inv (X:Cx) (pins:List (Addr × Obj)) (Z:List (Option V)) (H:Hp) (s:Shared):Prop where
 ok:X.Ok
 os:s.os = X.s₀.os
 bare:AllBare s.gens
 base:Un X.fs X.ex X.H₀ H X.s₀.heap s.heap
 loc:∃ m,s.heap.Ns X.env.locals m /\ ∀ (i:Nat) (x:Str) (v:V),X.N[i]? = some x->Z[i]? = some (some v)->Vis X.env.scope x->∃ u,RelV v u /\ Look X.env s.heap m x u
 cell:∀ x c,X.env.cells.lookup x = some c->∃ v,s.heap.IsCell c v
 free:H X.env.locals = none
 freeC:∀ x c,X.env.cells.lookup x = some c->H c = none
 pin:∀ p ∈ X.pn ++ pins,s.heap.get? p.1 = some p.2 /\ H p.1 = none /\ p.1 ≠ X.env.locals /\ p.1 ∉ X.fs /\ ∀ v,p.2.data ≠ .cell v
 hok:HOk X.prog X.w H s.heap
 len:Z.length = X.N.length
section
variable {X:Cx} {pins:List (Addr × Obj)} {Z:List (Option V)} {H H':Hp} {s:Shared} {h':Heap}
theorem Cx.Ok.Zdy (ok:X.Ok) {b:Addr} {o:Obj} (e:X.base.get? b = some o):b ∉ X.fs:=λ hb=>by
 have:=(ok.Bx.mem hb).1;rw [e] at this; cases this
theorem Inv.bs (I:Inv X pins Z H s):∀ b o,X.base.get? b = some o->s.heap.get? b = some o /\ H b = none:=λ b o e=>
 ⟨I.base.keep b o (I.ok.bs b o e).1 (I.ok.bs b o e).2 (I.ok.Zdy e) (I.ok.noex b o e),I.base.free b o (I.ok.bs b o e).1 (I.ok.bs b o e).2 (I.ok.noex b o e)⟩
theorem Inv.bk (I:Inv X pins Z H s):∀ b o,X.base.get? b = some o->s.heap.get? b = some o:=λ b o e=>(I.bs b o e).1
theorem Inv.mod (I:Inv X pins Z H s):Mod X.K X.mg X.base:=I.ok.mod
theorem Inv.kIn (I:Inv X pins Z H s):X.K.In s.heap:=I.ok.mod.kin.keeps I.bk
theorem Inv.fr (I:Inv X pins Z H s):∃ m,Fr X.base X.env.locals s.heap m:=
 let ⟨m,hn,_⟩:=I.loc
 ⟨m,hn,I.bk,Nat.le_trans I.ok.bsz I.ok.above⟩
theorem Inv.lt (I:Inv X pins Z H s):X.env.locals < s.heap.objs.size:=let ⟨_,hn,_⟩:=I.loc; hn.lt
theorem Inv.sz (I:Inv X pins Z H s):X.s₀.heap.objs.size <= s.heap.objs.size:=Nat.le_trans I.ok.above (Nat.le_of_lt I.lt)
theorem Inv.ZdE (I:Inv X pins Z H s) {a:Addr} (h:s.heap.objs.size <= a):a ∉ X.fs:=λ hb=>by
 obtain ⟨_,o,ho,_⟩:=I.ok.Bx.mem hb;exact absurd (Nat.lt_of_lt_of_le (Heap.lt_size ho) (Nat.le_trans I.sz h)) (Nat.lt_irrefl _)
theorem Inv.cne (I:Inv X pins Z H s):∀ x c,X.env.cells.lookup x = some c->c ≠ X.env.locals:=λ x c e z=>by
 obtain ⟨v,o,ho,hd⟩:=I.cell x c e;obtain ⟨m,⟨o',es,ep,ho',hd',_⟩,_⟩:=I.loc;rw [z,ho'] at ho; cases ho; rw [hd'] at hd; cases hd
theorem Inv.Bx (I:Inv X pins Z H s):s.heap.FunFrames X.base X.outer:=by
 have all:∀ (l:List Env),(∀ b ∈ frs l,b ∈ X.fs)->X.s₀.heap.FunFrames X.base l->s.heap.FunFrames X.base l:=by
  intro l
  induction l with
  | nil=>intro _ _; trivial
  | cons env r ih=>
   intro hs hl;obtain ⟨hk,⟨L,o,hf,hn,ho,hd⟩,hr⟩:=hl;have hL:L ∈ X.fs:=hs L (by unfold frs; rw [List.filterMap_cons,hf]; exact List.mem_cons_self);obtain ⟨sl,e⟩:=I.base.slot L o ho (I.ok.frf L hL) hL λ z=>I.ok.exfs L z hL;exact ⟨hk,⟨L,_,hf,hn,e,hd⟩,ih (λ b hb=>hs b (by unfold frs; rw [List.filterMap_cons,hf]; exact List.mem_cons_of_mem _ hb)) hr⟩
 exact all X.outer (λ _ hb=>hb) I.ok.Bx
theorem Inv.stack (I:Inv X pins Z H s):s.heap.FunFrames X.base X.stack:=by
 rcases I.ok.stk with e | ⟨e,hf⟩
 ·rw [e]; exact I.Bx
 ·rw [e];obtain ⟨m,hn,_⟩:=I.loc;refine .cons (by rw [I.ok.kind]; decide) hf hn ?_ I.Bx;exact Heap.get?_none_of_le (Nat.le_trans I.ok.bsz I.ok.above)
theorem Inv.Dj (I:Inv X pins Z H s):∀ b ∈ frs X.stack,b ∈ X.env.locals :: X.fs:=λ b hb=>by
 rcases I.ok.stk with e | ⟨e,hf⟩
 ·rw [e] at hb; exact List.mem_cons_of_mem _ hb
 ·rw [e] at hb;unfold frs at hb;rw [List.filterMap_cons,hf] at hb;exact hb
theorem Inv.DQ (I:Inv X pins Z H s):∀ b ∈ frs X.stack,H b = none:=λ b hb=>by
 rcases List.mem_cons.mp (I.Dj b hb) with e | hb
 ·rw [e]; exact I.free
 ·obtain ⟨_,o,ho,_⟩:=I.ok.Bx.mem hb;exact I.base.free b o ho (I.ok.frf b hb) λ z=>I.ok.exfs b z hb
theorem Inv.step {g':Array GenState} {t':Nat} {d':Drawn} {ch:List Addr} (I:Inv X pins Z H s)
  (hch:∀ b ∈ ch,(b ∈ X.ex \/ X.s₀.heap.objs.size <= b) /\ b ≠ X.env.locals /\ (∀ x c,X.env.cells.lookup x = some c->c ≠ b) /\ ∀ p ∈ X.pn ++ pins,p.1 ≠ b)
  (keep:∀ b o,b ≠ X.env.locals->b ∉ X.fs->b ∉ ch->s.heap.get? b = some o->H b = none->h'.get? b = some o)
  (slot:∀ b o,b ≠ X.env.locals->b ∈ X.fs->b ∉ ch->s.heap.get? b = some o->H b = none->∃ sl,h'.get? b = some { o with slots:=sl }) (free:∀ b o,b ∉ ch->s.heap.get? b = some o->H b = none->H' b = none)
  (there:∀ b o,b ∉ ch->s.heap.get? b = some o->∃ o',h'.get? b = some o')
  (tups:∀ b xs,H b = some (.tup xs)->H' b = some (.tup xs)) (frzs:∀ b o u,H b = some (.frz o u)->H' b = some (.frz o u)) (tbls:∀ b ps,H b = some (.tbl ps)->∃ more,H' b = some (.tbl (ps ++ more)))
  (ns:∀ m,s.heap.Ns X.env.locals m->h'.Ns X.env.locals m) (hok:HOk X.prog X.w H' h') (hg:AllBare g') :
  Inv X pins Z H' { s with heap:=h',gens:=g',drawn:=d',toks:=t' }:=by
 have neL:∀ b o,X.s₀.heap.get? b = some o->b ≠ X.env.locals:=λ b o e=>Nat.ne_of_lt (Nat.lt_of_lt_of_le (Heap.lt_size e) I.ok.above);have neC:∀ b o,X.s₀.heap.get? b = some o->b ∉ X.ex->b ∉ ch:=λ b o e hx hb=>by
  rcases (hch b hb).1 with z | z
  ·exact hx z
  ·exact absurd (Nat.lt_of_lt_of_le (Heap.lt_size e) z) (Nat.lt_irrefl _)
 have cellK:∀ x c,X.env.cells.lookup x = some c->∀ v,s.heap.IsCell c v->h'.IsCell c v:=λ x c e v ⟨o,ho,hd⟩=>by
  have nch:c ∉ ch:=λ z=>(hch c z).2.2.1 x c e rfl
  by_cases hc:c ∈ X.fs
  ·obtain ⟨sl,q⟩:=slot c o (I.cne x c e) hc nch ho (I.freeC x c e);exact ⟨_,q,hd⟩
  ·exact ⟨o,keep c o (I.cne x c e) hc nch ho (I.freeC x c e),hd⟩
 refine ⟨I.ok,I.os,hg,⟨λ b o e n hb hx=>?_,λ b o e n hb hx=>?_,λ b o e n hx=>?_,λ b o e hx=>?_,λ b xs e=>tups b xs (I.base.tups b xs e),λ b o xs e=>frzs b o xs (I.base.frzs b o xs e),λ b ps e=>?_⟩,?_,λ x c e=>?_,?_,λ x c e=>?_,λ p hp=>?_,hok,I.len⟩
 ·exact keep b o (neL b o e) hb (neC b o e hx) (I.base.keep b o e n hb hx) (I.base.free b o e n hx)
 ·obtain ⟨sl,e1⟩:=I.base.slot b o e n hb hx;obtain ⟨sl',e2⟩:=slot b _ (neL b o e) hb (neC b o e hx) e1 (I.base.free b o e n hx);exact ⟨sl',e2⟩
 ·obtain ⟨o',e1⟩:=I.base.there b o e hx;exact free b o' (neC b o e hx) e1 (I.base.free b o e n hx)
 ·obtain ⟨o',e1⟩:=I.base.there b o e hx;exact there b o' (neC b o e hx) e1
 ·obtain ⟨m1,e1⟩:=I.base.tbls b ps e;obtain ⟨m2,e2⟩:=tbls b _ e1;exact ⟨m1 ++ m2,by rw [e2,Array.append_assoc]⟩
 ·obtain ⟨m,hn,hl⟩:=I.loc;refine ⟨m,ns m hn,λ i x v e1 e2 e3=>?_⟩;obtain ⟨u,r,l⟩:=hl i x v e1 e2 e3;refine ⟨u,r,?_⟩
  rcases l with l | ⟨k,c,e,z⟩
  ·exact .inl l
  ·exact .inr ⟨k,c,e,cellK x c e _ z⟩
 ·obtain ⟨v,z⟩:=I.cell x c e;exact ⟨v,cellK x c e v z⟩
 ·obtain ⟨m,⟨o,_,_,ho,_⟩,_⟩:=I.loc;exact free _ o (λ z=>(hch _ z).2.1 rfl) ho I.free
 ·obtain ⟨v,o,ho,hd⟩:=I.cell x c e;exact free c o (λ z=>(hch c z).2.2.1 x c e rfl) ho (I.freeC x c e)
 ·obtain ⟨e,n,ne,nf,d⟩:=I.pin p hp;have nch:p.1 ∉ ch:=λ z=>(hch p.1 z).2.2.2 p hp rfl;exact ⟨keep p.1 p.2 ne nf nch e n,free p.1 p.2 nch e n,ne,nf,d⟩
theorem Inv.un {t':Nat} (I:Inv X pins Z H s) (u:Un X.fs [] H H' s.heap h') (hok:HOk X.prog X.w H' h'):Inv X pins Z H' { s with heap:=h',toks:=t' }:=by
 obtain ⟨m,⟨o,es,ep,ho,r⟩,_⟩:=id I.loc;obtain ⟨sl,hL⟩:=u.any ho I.free (by simp)
 exact I.step (g':=s.gens) (d':=s.drawn) (ch:=[]) (λ _ z=>nomatch z) (λ b o _ hb _ e n=>u.keep b o e n hb (by simp)) (λ b o _ hb _ e n=>u.slot b o e n hb (by simp)) (λ b o _ e n=>u.free b o e n (by simp)) (λ b o _ e=>u.there b o e (by simp)) u.tups u.frzs u.tbls (λ m' hm=>by
  obtain ⟨o',es',ep',ho',r'⟩:=hm;rw [ho] at ho'; cases ho'
  exact ⟨_,es',ep',hL,r'⟩) hok I.bare
theorem Inv.call {g':Array GenState} {t':Nat} {d':Drawn} {ch:List Addr} (I:Inv X pins Z H s) (u:Un (frs X.stack) ch H H' s.heap h') (hok:HOk X.prog X.w H' h') (hg:AllBare g')
  (hch:∀ b ∈ ch,(b ∈ X.ex \/ X.s₀.heap.objs.size <= b) /\ b ≠ X.env.locals /\ (∀ x c,X.env.cells.lookup x = some c->c ≠ b) /\ ∀ p ∈ X.pn ++ pins,p.1 ≠ b) :
  Inv X pins Z H' { s with heap:=h',gens:=g',drawn:=d',toks:=t' }:=by
 obtain ⟨m,⟨o,es,ep,ho,r⟩,_⟩:=id I.loc;obtain ⟨sl,hL⟩:=u.any ho I.free λ z=>(hch _ z).2.1 rfl
 exact I.step (ch:=ch) hch (λ b o hL hb hc e n=>u.keep b o e n (λ z=>(List.mem_cons.mp (I.Dj b z)).elim hL hb) hc) (λ b o _ _ hc e n=>u.any e n hc) (λ b o hc e n=>u.free b o e n hc) (λ b o hc e=>u.there b o e hc) u.tups u.frzs u.tbls (λ m' hm=>by
  obtain ⟨o',es',ep',ho',r'⟩:=hm;rw [ho] at ho'; cases ho'
  exact ⟨_,es',ep',hL,r'⟩) hok hg
theorem Inv.turned {t':Nat} {it:Addr} (I:Inv X pins Z H s) (k:∀ b o,b ≠ it->s.heap.get? b = some o->h'.get? b = some o) (hn:H it = none) (hL:it ≠ X.env.locals)
  (h1:it ∈ X.ex \/ X.s₀.heap.objs.size <= it) (h2:∀ x c,X.env.cells.lookup x = some c->c ≠ it) (h3:∀ p ∈ X.pn ++ pins,p.1 ≠ it):Inv X pins Z H { s with heap:=h',toks:=t' }:=by
 have nit:∀ b u,H b = some u->b ≠ it:=λ b u e z=>by rw [z,hn] at e; cases e
 refine I.step (g':=s.gens) (d':=s.drawn) (ch:=[it]) (λ b hb=>?_) (λ b o _ _ hc e _=>k b o (λ z=>hc (by simp [z])) e) (λ b o _ _ hc e _=>⟨o.slots,k b o (λ z=>hc (by simp [z])) e⟩) (λ _ _ _ _ n=>n)
  (λ b o hc e=>⟨o,k b o (λ z=>hc (by simp [z])) e⟩) (λ _ _ e=>e) (λ _ _ _ e=>e) (λ b ps e=>⟨#[],by rw [e]; simp⟩) (λ m hm=>?_) (λ b u e=>?_) I.bare
 ·have e:b = it:=by simpa using hb
  subst e;exact ⟨h1,hL,h2,h3⟩
 ·obtain ⟨o,es,ep,ho,r⟩:=hm;exact ⟨o,es,ep,k _ o (Ne.symm hL) ho,r⟩
 ·refine (I.hok b u e).OT (λ c v hc q=>k c v ?_ q) (λ _ q=>q) λ _ _ q=>q
  rcases hc with z | z
  ·rw [z]; exact nit b u e
  ·exact nit c _ z
theorem Inv.tok (I:Inv X pins Z H s) (t:Nat):Inv X pins Z H { s with toks:=t }:=I.un (h':=s.heap) (t':=t) Un.refl I.hok
theorem Inv.kept {t':Nat} (I:Inv X pins Z H s) (k:∀ b u,s.heap.get? b = some u->h'.get? b = some u):Inv X pins Z H { s with heap:=h',toks:=t' }:=I.un (Un.kept k) (I.hok.kept k)
theorem Inv.laid {a:Addr} {o:HO} {t':Nat} (I:Inv X pins Z H s) (k:∀ b u,s.heap.get? b = some u->h'.get? b = some u) (hp:s.heap.objs.size <= a) (new:Z8 X.prog X.w (upd H a o) h' a o) :
  Inv X pins Z (upd H a o) { s with heap:=h',toks:=t' }:=I.un (Un.laid k hp (I.hok.fresh hp)) (I.hok.laid k hp new)
theorem Inv.write {x e:Addr} {o:HO} {t':Nat} (I:Inv X pins Z H s) (mu:Mut (H x)) (he:e = x \/ H e = some (.own x)) (k:∀ b u,b ≠ e->s.heap.get? b = some u->h'.get? b = some u) (heo:∃ u,h'.get? e = some u)
  (new:Z8 X.prog X.w (upd H x o) h' x o):Inv X pins Z (upd H x o) { s with heap:=h',toks:=t' }:=I.un (Un.write mu he k heo) (I.hok.write mu he k heo new)
theorem Inv.J8 {pins':List (Addr × Obj)} (I:Inv X pins Z H s) (h:∀ p ∈ pins',s.heap.get? p.1 = some p.2 /\ H p.1 = none /\ p.1 ≠ X.env.locals /\ p.1 ∉ X.fs /\ ∀ v,p.2.data ≠ .cell v):Inv X pins' Z H s:=
 ⟨I.ok,I.os,I.bare,I.base,I.loc,I.cell,I.free,I.freeC,λ p hp=>(List.mem_append.mp hp).elim (λ z=>I.pin p (List.mem_append_left _ z)) (h p),I.hok,I.len⟩
theorem UR {N:List Str} (hN:N.Nodup) {i j:Nat} {x:Str} (a:N[i]? = some x) (b:N[j]? = some x):i = j:=by
 obtain ⟨h1,e1⟩:=List.getElem?_eq_some_iff.mp a;obtain ⟨h2,e2⟩:=List.getElem?_eq_some_iff.mp b;exact (List.getElem_inj hN).mp (e1.trans e2.symm)
theorem Cj {M:Model} {A:Around} {E:Value->Shared->Prop} {i:Nat} {x:Str} {v:V} {u:Value} {Q:Unit->Shared->Prop} (I:Inv X pins Z H s) (hN:X.N.Nodup) (hi:X.N[i]? = some x) (hx:Loc X.env.scope x) (r:RelV v u)
  (h:∀ s',Inv X pins (Z.set i (some v)) H s'->(∃ a,Heap.SameBut a s.heap s'.heap /\ (a = X.env.locals \/ X.env.cells.lookup x = some a))->Q () s') (hf:autoParam (X.fn x = true \/ X.env.scope.names.lookup x = some .local) zz0._auto_1):wpAny M A (storeName X.env x u) Q E s:=by
 obtain ⟨m,hn,hl⟩:=id I.loc;have hcls:(X.env.scope.kind == .class || (X.env.scope.kind == .module && X.env.locals != X.env.globals)) = false:=by rw [I.ok.kind]; rfl
 have hiσ:i < Z.length:=by rw [I.len]; exact (List.getElem?_eq_some_iff.mp hi).1
 have cne:=I.cne;have tracked:∀ {a:Addr} {h':Heap},(∃ o,s.heap.get? a = some o /\ H a = none)->Heap.SameBut a s.heap h'->HOk X.prog X.w H h':=λ {a h'} ha hs b ob e=>by
  obtain ⟨_,_,hfree⟩:=ha;refine (I.hok b ob e).OT (λ c w' hc q=>(hs.2 c ?_).trans q) (λ _ q=>q) λ _ _ q=>q;rintro rfl
  rcases hc with rfl | hc
  ·rw [hfree] at e; cases e
  ·rw [hfree] at hc; cases hc
 rcases hx with hk | hk
 ·refine wpAny_storeName_local hk hn (λ h' hn' hs=>?_) hcls;obtain ⟨oL,_,_,hoL,_⟩:=id hn;refine h _ ⟨I.ok,I.os,I.bare,⟨λ b o e n hb hx=>?_,λ b o e n hb hx=>?_,I.base.free,λ b o e hx=>?_,I.base.tups,I.base.frzs,I.base.tbls⟩,⟨_,hn',λ j y v' e1 e2 e3=>?_⟩,λ y c e=>?_,I.free,I.freeC,λ p hp=>?_,tracked ⟨oL,hoL,I.free⟩ hs,by simpa using I.len⟩ ⟨_,hs,.inl rfl⟩
  ·exact (hs.2 b (Nat.ne_of_lt (Nat.lt_of_lt_of_le (Heap.lt_size e) I.ok.above))).trans (I.base.keep b o e n hb hx)
  ·obtain ⟨sl,e1⟩:=I.base.slot b o e n hb hx;exact ⟨sl,(hs.2 b (Nat.ne_of_lt (Nat.lt_of_lt_of_le (Heap.lt_size e) I.ok.above))).trans e1⟩
  ·obtain ⟨o',e1⟩:=I.base.there b o e hx;exact ⟨o',(hs.2 b (Nat.ne_of_lt (Nat.lt_of_lt_of_le (Heap.lt_size e) I.ok.above))).trans e1⟩
  ·by_cases hj:j = i
   ·subst hj;rw [hi] at e1; cases e1;rw [List.getElem?_set_self hiσ] at e2;cases e2;exact ⟨u,r,.inl ⟨hk,by simp⟩⟩
   ·rw [List.getElem?_set_ne (Ne.symm hj)] at e2;obtain ⟨u',r',q⟩:=hl j y v' e1 e2 e3;refine ⟨u',r',?_⟩
    rcases q with ⟨k,e⟩ | ⟨k,c,e,z⟩
    ·refine .inl ⟨k,?_⟩;have:y ≠ x:=λ e=>hj (UR hN e1 (e ▸ hi));simp [this,e]
    ·exact .inr ⟨k,c,e,z.sameBut hs (cne y c e)⟩
  ·obtain ⟨w',z⟩:=I.cell y c e;exact ⟨w',z.sameBut hs (cne y c e)⟩
  ·obtain ⟨e,n,ne,nf,d⟩:=I.pin p hp;exact ⟨(hs.2 p.1 ne).trans e,n,ne,nf,d⟩
 ·have hfn:X.fn x = true:=by
   rcases hf with z | z
   ·exact z
   ·rw [z] at hk; cases hk
  obtain ⟨c,hc⟩:=I.ok.has x (.inl hk);obtain ⟨w',z⟩:=I.cell x c hc;refine wpAny_storeName_cell I.ok.kind hk hc z (λ h' hc' hs=>?_);obtain ⟨oc,hoc,hocd⟩:=id z;refine h { s with heap:=h' } ⟨I.ok,I.os,I.bare,⟨λ b o e n hb hx=>?_,λ b o e n hb hx=>?_,I.base.free,λ b o e hx=>?_,I.base.tups,I.base.frzs,I.base.tbls⟩,⟨m,hn.sameBut hs (Ne.symm (cne x c hc)),λ j y v' e1 e2 e3=>?_⟩,λ y c' e=>?_,I.free,I.freeC,λ p hp=>?_,tracked ⟨oc,hoc,I.freeC x c hc⟩ hs,by simpa using I.len⟩ ⟨c,hs,.inr hc⟩
  ·exact (hs.2 b (Nat.ne_of_lt (Nat.lt_of_lt_of_le (Heap.lt_size e) (I.ok.cab x c hfn hc)))).trans (I.base.keep b o e n hb hx)
  ·obtain ⟨sl,e1⟩:=I.base.slot b o e n hb hx;exact ⟨sl,(hs.2 b (Nat.ne_of_lt (Nat.lt_of_lt_of_le (Heap.lt_size e) (I.ok.cab x c hfn hc)))).trans e1⟩
  ·obtain ⟨o',e1⟩:=I.base.there b o e hx;exact ⟨o',(hs.2 b (Nat.ne_of_lt (Nat.lt_of_lt_of_le (Heap.lt_size e) (I.ok.cab x c hfn hc)))).trans e1⟩
  ·by_cases hj:j = i
   ·subst hj;rw [hi] at e1; cases e1;rw [List.getElem?_set_self hiσ] at e2;cases e2;exact ⟨u,r,.inr ⟨.inl hk,c,hc,hc'⟩⟩
   ·rw [List.getElem?_set_ne (Ne.symm hj)] at e2;obtain ⟨u',r',q⟩:=hl j y v' e1 e2 e3;refine ⟨u',r',?_⟩
    rcases q with q | ⟨k,c',e,z'⟩
    ·exact .inl q
    ·refine .inr ⟨k,c',e,z'.sameBut hs ?_⟩;rintro rfl;exact hj (UR hN e1 (I.ok.inj _ _ _ e hc ▸ hi))
  ·by_cases hcc:c' = c
   ·subst hcc; exact ⟨_,hc'⟩
   ·obtain ⟨w2,z2⟩:=I.cell y c' e;exact ⟨w2,z2.sameBut hs hcc⟩
  ·obtain ⟨e,n,ne,nf,d⟩:=I.pin p hp;refine ⟨(hs.2 p.1 ?_).trans e,n,ne,nf,d⟩;intro q;rw [q,hoc] at e;have q':oc = p.2:=Option.some.inj e;exact d w' (by rw [<- q']; exact hocd)
theorem Xt {M:Model} {A:Around} {E:Value->Shared->Prop} {i:Nat} {x:Str} {v:V} {u:Value} {Q:Unit->Shared->Prop} (I:Inv X pins Z H s) (hN:X.N.Nodup) (hi:X.N[i]? = some x) (hx:Loc X.env.scope x) (r:RelV v u)
  (h:∀ s',Inv X pins (Z.set i (some v)) H s'->Q () s') (hf:autoParam (X.fn x = true \/ X.env.scope.names.lookup x = some .local) zz0._auto_1):wpAny M A (storeName X.env x u) Q E s:=
 Cj I hN hi hx r (λ s' I' _=>h s' I') hf
theorem Inv.ON {s':Shared} {ch:List Addr} (I:Inv X pins Z H s) (ho:s'.os = s.os) (u:Un (frs X.stack) ch H H' s.heap s'.heap) (hok:HOk X.prog X.w H' s'.heap) (hg:AllBare s'.gens)
  (hch:∀ b ∈ ch,(b ∈ X.ex \/ X.s₀.heap.objs.size <= b) /\ b ≠ X.env.locals /\ (∀ x c,X.env.cells.lookup x = some c->c ≠ b) /\ ∀ p ∈ X.pn ++ pins,p.1 ≠ b):Inv X pins Z H' s':=by
 obtain ⟨h',g',d',t',o'⟩:=s';have e:o' = s.os:=ho;subst e;exact I.call (g':=g') (t':=t') (d':=d') u hok hg hch
end
abbrev XK:=Value->Option Addr->Hp->Prop
abbrev St:=List (Option V)
abbrev VK:=V->Hp->Prop
abbrev TE:=St->Hp->VK->Prop
abbrev TT:=St->Hp->(Bool->Hp->Prop)->Prop
abbrev TA:=St->Hp->(List V->Hp->Prop)->Prop
structure Ends where
 nx:St->Hp->Prop
 rt:VK
 bk:St->Hp->Prop:=λ _ _=>False
 ct:St->Hp->Prop:=λ _ _=>False
abbrev TS:=Ends->St->Hp->Prop
def EP (X:Cx) (pins:List (Addr × Obj)) (Z:St) (Q:VK) (u:Value) (s':Shared):Prop:=∃ v H',Inv X pins Z H' s' /\ RelV v u /\ Q v H'
def TP (X:Cx) (pins:List (Addr × Obj)) (Z:St) (Q:Bool->Hp->Prop) (b:Bool) (s':Shared):Prop:=∃ H',Inv X pins Z H' s' /\ Q b H'
def AP (X:Cx) (pins:List (Addr × Obj)) (Z:St) (Q:List V->Hp->Prop) (us:List Value) (s':Shared):Prop:=∃ vs H',Inv X pins Z H' s' /\ Vals vs us /\ Q vs H'
def SP (X:Cx) (pins:List (Addr × Obj)) (D:Ends) (f:Flow) (s':Shared):Prop:=
 match f with
 | .next=>∃ σ' H',Inv X pins σ' H' s' /\ D.nx σ' H'
 | .brk=>∃ σ' H',Inv X pins σ' H' s' /\ D.bk σ' H'
 | .cont=>∃ σ' H',Inv X pins σ' H' s' /\ D.ct σ' H'
 | .ret u=>∃ v σ' H',Inv X pins σ' H' s' /\ RelV v u /\ D.rt v H'
def PE (X:Cx) (e:Expr) (t:TE):Prop:=
 ∀ (pins:List (Addr × Obj)) (s:Shared) (Z:St) (H:Hp) (Q:VK),Inv X pins Z H s->t Z H Q->wpAny (model X.prog X.w) X.A (eval e X.env) (EP X pins Z Q) X.xe s
def PT (X:Cx) (e:Expr) (t:TT):Prop:=
 ∀ (pins:List (Addr × Obj)) (s:Shared) (Z:St) (H:Hp) (Q:Bool->Hp->Prop),Inv X pins Z H s->t Z H Q->wpAny (model X.prog X.w) X.A (isTrue e X.env (eval e X.env)) (TP X pins Z Q) X.xe s
def PW (X:Cx) (e:Expr) (t:TT):Prop:=
 ∀ (whole:Sem Value) (pins:List (Addr × Obj)) (s:Shared) (Z:St) (H:Hp) (Q:Bool->Hp->Prop),Inv X pins Z H s->t Z H Q->wpAny (model X.prog X.w) X.A (isTrue e X.env whole) (TP X pins Z Q) X.xe s
theorem PW.pt {X:Cx} {e:Expr} {t:TT} (h:PW X e t):PT X e t:=h _
def PA (X:Cx) (es:List Expr) (t:TA):Prop:=
 ∀ (pos:Pos) (pins:List (Addr × Obj)) (s:Shared) (Z:St) (H:Hp) (Q:List V->Hp->Prop),Inv X pins Z H s->t Z H Q->wpAny (model X.prog X.w) X.A (spliced (backTo pos (starEach es X.env))) (AP X pins Z Q) X.xe s
def PS (X:Cx) (st:Stmt) (t:TS):Prop:=
 ∀ (pins:List (Addr × Obj)) (s:Shared) (Z:St) (H:Hp) (D:Ends),Inv X pins Z H s->t D Z H->wpAny (model X.prog X.w) X.A (exec st X.env) (SP X pins D) X.xe s
def PSs (X:Cx) (st:List Stmt) (t:TS):Prop:=
 ∀ (pins:List (Addr × Obj)) (s:Shared) (Z:St) (H:Hp) (D:Ends),Inv X pins Z H s->t D Z H->wpAny (model X.prog X.w) X.A (execs st X.env) (SP X pins D) X.xe s
theorem thn {α:Type} {t:Sem α} {Q Q':α->Shared->Prop} {M:Model} {A:Around} {E:Value->Shared->Prop} {s:Shared} (h:wpAny M A t Q E s) (hQ:∀ a s,Q a s->Q' a s):wpAny M A t Q' E s:=wpAny_mono h hQ λ _ _ x=>x
section
variable {X:Cx}
def ZdV (i:Nat):TE:=λ Z H Q=>∃ v,Z[i]? = some (some v) /\ Q v H
def tC (v:V):TE:=λ _ H Q=>Q v H
theorem Za2 {i:Nat} {x:Str} {pos:Pos} (hN:X.N[i]? = some x) (hv:Vis X.env.scope x) (hd:autoParam ((x == ("__debug__" : Str)) = false) zz1._auto_1) (hcd:autoParam ((x == ("__classdict__" : Str)) = false) zz1._auto_1):PE X (.Name x pos) (ZdV i):=by
 intro pins s Z H Q I h;obtain ⟨v,e,h⟩:=h;obtain ⟨m,hn,hl⟩:=I.loc;obtain ⟨u,r,l⟩:=hl i x v hN e hv;have fin:EP X pins Z Q u s:=⟨v,H,I,r,h⟩
 rcases l with ⟨hk,hm⟩ | ⟨hk,c,hc,hcell⟩
 ·exact wpAny_Name (wpAny_loadName_local I.ok.kind hk hn hm fin) hd
 ·rcases hk with hk | hk
  ·exact wpAny_Name (wpAny_loadName_cell I.ok.kind hk hc hcell fin) hd
  ·exact wpAny_Name (wpAny_loadName_free I.ok.kind hk hc hcell fin hcd) hd
theorem RE {i j pos}:PE X (.Constant (.int i) j pos) (tC (.int i)):=λ _ _ _ H _ I h=>wpAny_Constant_int ⟨.int i,H,I.tok _,⟨_,rfl⟩,h⟩
theorem Zb5 {b j pos}:PE X (.Constant (.bool b) j pos) (tC (.bl b)):=λ _ _ _ H _ I h=>Constant_bool ⟨.bl b,H,I,rfl,h⟩
theorem RT {x j pos}:PE X (.Constant (.str x) j pos) (tC (.str x)):=λ _ _ _ H _ I h=>Calls.Constant_str ⟨.str x,H,I.tok _,⟨_,rfl⟩,h⟩
def Gl (X:Cx) (x:Str):Prop:=X.env.kindOf x = some .globalImplicit
theorem NY {E:Value->Shared->Prop} {pins:List (Addr × Obj)} {s:Shared} {Z:St} {H:Hp} {x:Str} {u:Value} {pos:Pos} {Q:Value->Shared->Prop} (I:Inv X pins Z H s) (hg:Gl X x) (hm:X.mg x = some u) (h:Q u s)
  (hd:autoParam ((x == ("__debug__" : Str)) = false) zz1._auto_1):wpAny (model X.prog X.w) X.A (eval (.Name x pos) X.env) Q E s:=
 Calls.Name_function_global I.ok.kind hg (Calls.loadGlobal_global (by rw [I.ok.glob]; exact I.mod.glob.keeps I.bk) hm h) hd
theorem Ys {E:Value->Shared->Prop} {pins:List (Addr × Obj)} {s:Shared} {Z:St} {H:Hp} {x:Str} {u:Value} {pos:Pos} {Q:Value->Shared->Prop} (I:Inv X pins Z H s) (hg:Gl X x) (hm:X.mg x = none) (hv:bootBuiltins x = some u) (h:Q u s)
  (hn:autoParam (x ≠ "__name__") zz1._auto_1) (hd:autoParam ((x == ("__debug__" : Str)) = false) zz1._auto_1):wpAny (model X.prog X.w) X.A (eval (.Name x pos) X.env) Q E s:=by
 obtain ⟨mb,h1,h2⟩:=I.mod.blt;exact Calls.Name_function_global I.ok.kind hg (Calls.loadGlobal_builtin (by rw [I.ok.glob]; exact I.mod.glob.keeps I.bk) hm (by rw [I.ok.blt]; exact h1.keeps I.bk) ((h2 x hn).trans hv) h) hd
theorem O7 {x:Str} {v:V} {u:Value} {pos:Pos} (hg:Gl X x) (hm:X.mg x = none) (hv:bootBuiltins x = some u) (r:RelV v u) (hn:autoParam (x ≠ "__name__") zz1._auto_1) (hd:autoParam ((x == ("__debug__" : Str)) = false) zz1._auto_1):PE X (.Name x pos) (tC v):=
 λ _ _ _ H _ I h=>Ys I hg hm hv ⟨v,H,I,r,h⟩ hn hd
variable {a b:Expr} {ta tb:TE} {pos:Pos}
def tB (t:TE):TT:=λ Z H Q=>t Z H λ x H1=>∃ c,x = .bl c /\ Q c H1
theorem RI {e:Expr} {t:TE} (h:PE X e t) (he:autoParam (∀ whole,isTrue e X.env whole = (do let v <- whole; standAt e.pos; holding [v] (truthy v))) zz2._auto_1):PT X e (tB t):=by
 intro pins s Z H Q I hw;refine isTrue_plain (thn (h pins s Z H _ I hw) λ v s1 ⟨x,H1,I1,r1,q1⟩=>?_) (he _);obtain ⟨d,rfl,q⟩:=q1;cases r1;exact wpAny_truthy_bool ⟨H1,I1,q⟩
variable {tA tB':TT} {rest:List Expr}
def Zd3 (t u:TT):TT:=λ Z H Q=>t Z H λ c H1=>if c = true then u Z H1 Q else Q false H1
def tOr (t u:TT):TT:=λ Z H Q=>t Z H λ c H1=>if c = true then Q true H1 else u Z H1 Q
def ZdT (t:TT):TT:=λ Z H Q=>t Z H λ c H1=>Q (!c) H1
theorem NH (ha:PT X a tA):PW X (.BoolOp .And [a] pos) tA:=by
 intro wh pins s Z H Q I h;refine isTrue_and (thn (ha pins s Z H Q I h) λ c s1 e=>?_);cases c with
 | true=>exact isTrue_and_nil e
 | false=>exact e
theorem T5 (ha:PT X a tA):PW X (.BoolOp .Or [a] pos) tA:=by
 intro wh pins s Z H Q I h;refine isTrue_or (thn (ha pins s Z H Q I h) λ c s1 e=>?_);cases c with
 | false=>exact isTrue_or_nil e
 | true=>exact e
theorem Zan (ha:PT X a tA) (hb:PW X (.BoolOp .And (b :: rest) pos) tB'):PW X (.BoolOp .And (a :: b :: rest) pos) (Zd3 tA tB'):=by
 intro wh pins s Z H Q I h;refine isTrue_and (thn (ha pins s Z H _ I h) λ c s1 ⟨H1,I1,q1⟩=>?_);cases c with
 | true=>exact hb wh pins s1 Z H1 Q I1 q1
 | false=>exact ⟨H1,I1,q1⟩
theorem Zca (ha:PT X a tA) (hb:PW X (.BoolOp .Or (b :: rest) pos) tB'):PW X (.BoolOp .Or (a :: b :: rest) pos) (tOr tA tB'):=by
 intro wh pins s Z H Q I h;refine isTrue_or (thn (ha pins s Z H _ I h) λ c s1 ⟨H1,I1,q1⟩=>?_);cases c with
 | true=>exact ⟨H1,I1,q1⟩
 | false=>exact hb wh pins s1 Z H1 Q I1 q1
theorem Zbb (ha:PT X a tA):PT X (.UnaryOp .Not a pos) (ZdT tA):=by
 intro pins s Z H Q I h;exact isTrue_not (ha pins s Z H (λ c H1=>Q (!c) H1) I h)
def ZcB (ta tb:TE):TE:=λ Z H Q=>ta Z H λ x H1=>∃ c,x = .bl c /\ if c = true then tb Z H1 Q else Q (.bl false) H1
theorem RV {op} {t:TE} (h:PE X a t):PE X (.BoolOp op [a] pos) t:=λ pins s Z H Q I hw=>BoolOp_one (h pins s Z H Q I hw)
theorem Zaf (ha:PE X a ta) (hb:PE X (.BoolOp .And (b :: rest) pos) tb):PE X (.BoolOp .And (a :: b :: rest) pos) (ZcB ta tb):=by
 intro pins s Z H Q I h;refine BoolOp_and (thn (ha pins s Z H _ I h) λ v s1 ⟨x,H1,I1,r1,q1⟩=>?_);obtain ⟨c,rfl,q1⟩:=q1;cases r1;refine wpAny_truthy_bool ?_;cases c with
 | true=>exact hb pins s1 Z H1 Q I1 q1
 | false=>exact ⟨.bl false,H1,I1,rfl,q1⟩
def tIf (t:TT) (ta tb:TE):TE:=λ Z H Q=>t Z H λ c H1=>if c = true then ta Z H1 Q else tb Z H1 Q
theorem FI {c:Expr} (hc:PT X c tA) (ha:PE X a ta) (hb:PE X b tb):PE X (.IfExp c a b pos) (tIf tA ta tb):=by
 intro pins s Z H Q I h;refine wpAny_IfExp (thn (hc pins s Z H _ I h) λ d s1 ⟨H1,I1,q1⟩=>?_);cases d with
 | true=>exact ha pins s1 Z H1 Q I1 q1
 | false=>exact hb pins s1 Z H1 Q I1 q1
end
end L2
open PySem PySem.Spec PyProof.Rows L2
variable {H H':Hp} {K:Fk} {a p f S l:Addr} {x qual:Str} {n i j ep:Nat} {y u:Int} {s:Shared} {tg e iter elt:Expr} {w:World} {v:V} {P:Program} {h h':Heap} {pins:List (Addr × Obj)} {xs vs:List V} {N ps:List Str} {Z:L2.St} {scope:Scope} {ds:List PyData} {ix:List (Option Nat)} {X:Cx} {kvs:List (List Key × V)} {d:PyData} {fd:FuncData} {Q:Value->Shared->Prop} {ifs:List Expr} {q:Int × Int} {pos':Pos} {A:Around} {mg:Str->Option Value} {env:Env} {st:Stmt} {us:List Value} {ns ks:List Int}
namespace L2
def SqL (K:Fk) (H:Hp) (a:Addr) (xs:List V):Prop:=
 Rd H a (.lst xs) \/
  ∃ (o:Obj) (its:Array Value) (n:Nat),K.lookup a = some o /\ o.cls = .type "list" /\ o.dict = none /\ o.data = .seq its n /\ its.size <= sizeLine /\ Vals xs its.toList
def SqT (K:Fk) (H:Hp) (a:Addr) (xs:List V):Prop:=
 Rd H a (.tup xs) \/
  ∃ (o:Obj) (its:Array Value) (n:Nat),K.lookup a = some o /\ o.cls = .type "tuple" /\ o.data = .seq its n /\ its.size <= sizeLine /\ Vals xs its.toList
noncomputable def ZdQ:Value->Option V
 | .none=>some .non
 | .bool b=>some (.bl b)
 | .int i _=>some (.int i)
 | .str x _=>some (.str x)
 | .bytes b _=>some (.byt b)
 | .float b _=>some (.flt b)
 | .ref a=>some (.ref a)
 | .type n=>some (.ty n)
 | _=>none
theorem RelV.abs {x:V} {u:Value} (r:RelV x u):ZdQ u = some x:=by
 cases x with
 | non=>cases r; rfl
 | bl _=>cases r; rfl
 | int _=>obtain ⟨t,rfl⟩:=r; rfl
 | str _=>obtain ⟨t,rfl⟩:=r; rfl
 | byt _=>obtain ⟨t,rfl⟩:=r; rfl
 | flt _=>obtain ⟨t,rfl⟩:=r; rfl
 | ref _=>cases r; rfl
 | ty _=>cases r; rfl
theorem RelV.inj {x y:V} {u:Value} (r:RelV x u) (q:RelV y u):x = y:=Option.some.inj (r.abs.symm.trans q.abs)
theorem Vals.inj:∀ {xs ys:List V} {us:List Value},Vals xs us->Vals ys us->xs = ys
 | _,_,_,.nil,.nil=>rfl
 | _,_,_,.cons r t,.cons r' t'=>by rw [r.inj r',Vals.inj t t']
section
variable {ys:List V}
theorem SqL.of (h:H a = some (.lst xs)):SqL K H a xs:=.inl (.inl h)
theorem SqT.of (h:H a = some (.tup xs)):SqT K H a xs:=.inl (.inl h)
theorem Inv.list (I:Inv X pins Z H s) (h:SqL X.K H a xs):∃ its:List Value,Vals xs its /\ PlainL s.heap a its.toArray /\ xs.length <= sizeLine:=by
 rcases h with h | ⟨o,its,n,hk,hc,hd,hs,hz,r⟩
 ·obtain ⟨z,its,n,r,e⟩:=h.ok I.hok;exact ⟨its,r,⟨_,n,e,rfl,rfl,rfl⟩,z⟩
 ·refine ⟨its.toList,r,⟨o,n,I.kIn a o hk,hc,hd,by simpa using hs⟩,?_⟩;have e:=r.length;simp only [Array.length_toList] at e;lia
theorem Inv.tuple (I:Inv X pins Z H s) (h:SqT X.K H a xs):∃ its:List Value,Vals xs its /\ IsTup s.heap a its.toArray /\ xs.length <= sizeLine:=by
 rcases h with h | ⟨o,its,n,hk,hc,hs,hz,r⟩
 ·obtain ⟨z,its,r,p⟩:=h.ok I.hok;exact ⟨its,r,p,z⟩
 ·refine ⟨its.toList,r,⟨o,I.kIn a o hk,hc,n,by simpa using hs⟩,?_⟩;have e:=r.length;simp only [Array.length_toList] at e;lia
theorem Inv.Lr (I:Inv X pins Z H s) (h:SqL X.K H a xs) (h':SqL X.K H a ys):xs = ys:=by
 obtain ⟨its,r,⟨o,n,e,_,_,d⟩,_⟩:=I.list h;obtain ⟨its',r',⟨o',n',e',_,_,d'⟩,_⟩:=I.list h';rw [e] at e'; cases e';rw [d] at d'
 injection d' with d1 _
 have:its = its':=by simpa using congrArg Array.toList d1
 subst this;exact r.inj r'
theorem Inv.Cg (I:Inv X pins Z H s) (h:SqT X.K H a xs) (h':SqT X.K H a ys):xs = ys:=by
 obtain ⟨its,r,⟨o,e,_,n,d⟩,_⟩:=I.tuple h;obtain ⟨its',r',⟨o',e',_,n',d'⟩,_⟩:=I.tuple h';rw [e] at e'; cases e';rw [d] at d'
 injection d' with d1 _
 have:its = its':=by simpa using congrArg Array.toList d1
 subst this;exact r.inj r'
end
noncomputable abbrev Cx.EI (X:Cx) (E:Value->Shared->Prop):Cx:={ X with xe:=E }
noncomputable abbrev Cx.nox (X:Cx):Cx:=X.EI λ _ _=>False
theorem Cx.Ok.EI (ok:X.Ok) (E:Value->Shared->Prop):(X.EI E).Ok:=
 ⟨ok.mod,ok.kind,ok.glob,ok.blt,ok.above,ok.inj,ok.has,ok.cab,ok.hd,ok.frames,ok.stk,ok.exf,ok.bs,ok.bsz,ok.noex,ok.exfs,ok.Bx,ok.frf⟩
theorem Cx.Ok.Vw {E:Value->Shared->Prop} (ok:(X.EI E).Ok):X.Ok:=
 ⟨ok.mod,ok.kind,ok.glob,ok.blt,ok.above,ok.inj,ok.has,ok.cab,ok.hd,ok.frames,ok.stk,ok.exf,ok.bs,ok.bsz,ok.noex,ok.exfs,ok.Bx,ok.frf⟩
section
variable {E:Value->Shared->Prop}
theorem Inv.EI (I:Inv X pins Z H s) (E:Value->Shared->Prop):Inv (X.EI E) pins Z H s:=⟨I.ok.EI E,I.os,I.bare,I.base,I.loc,I.cell,I.free,I.freeC,I.pin,I.hok,I.len⟩
theorem Inv.Vw (I:Inv (X.EI E) pins Z H s):Inv X pins Z H s:=⟨I.ok.Vw,I.os,I.bare,I.base,I.loc,I.cell,I.free,I.freeC,I.pin,I.hok,I.len⟩
theorem SP.Vw {D:Ends} {f:Flow} {s':Shared} (h:SP (X.EI E) pins D f s'):SP X pins D f s':=by
 cases f with
 | next=>obtain ⟨σ',H',I,q⟩:=h; exact ⟨σ',H',I.Vw,q⟩
 | brk=>obtain ⟨σ',H',I,q⟩:=h; exact ⟨σ',H',I.Vw,q⟩
 | cont=>obtain ⟨σ',H',I,q⟩:=h; exact ⟨σ',H',I.Vw,q⟩
 | ret u=>obtain ⟨v,σ',H',I,r,q⟩:=h; exact ⟨v,σ',H',I.Vw,r,q⟩
theorem PSs.nox {st:List Stmt} {t:TS} (h:PSs X.nox st t):PSs X st t:=λ pins s Z H D I hw=>
 wpAny_mono (h pins s Z H D (I.EI _) hw) (λ _ _ q=>q.Vw) λ _ _ z=>False.elim z
end
section
variable {rest:List Stmt} {t u:TS} {te:TE} {pos:Pos}
def ZcO:TS:=λ D Z H=>D.nx Z H
def ZdW (t u:TS):TS:=λ D Z H=>t { D with nx:=u D } Z H
theorem Nu:PSs X [] ZcO:=λ _ _ Z H _ I h=>wpAny_execs_nil ⟨Z,H,I,h⟩
theorem FE (h1:PS X st t) (h2:PSs X rest u):PSs X (st :: rest) (ZdW t u):=by
 intro pins s Z H D I h;refine wpAny_execs_cons (thn (h1 pins s Z H { D with nx:=u D } I h) λ f s1 q=>?_);cases f with
 | next=>
  obtain ⟨σ',H',I',q⟩:=q;exact h2 pins s1 σ' H' D I' q
 | ret v=>exact q
 | brk=>exact q
 | cont=>exact q
theorem Pq (h1:PS X st t):PSs X [st] t:=by
 intro pins s Z H D I h;refine wpAny_execs_cons (thn (h1 pins s Z H D I h) λ f s1 q=>?_);cases f with
 | next=>exact wpAny_execs_nil q
 | ret v=>exact q
 | brk=>exact q
 | cont=>exact q
theorem Inv.quiet (I:Inv X pins Z H s):interactive X.env = false:=by simp [interactive,I.ok.kind]
def ZbD (te:TE):TS:=λ D Z H=>te Z H λ _ H1=>D.nx Z H1
theorem Rp (he:PE X e te) (hs:autoParam (swapsWith e none pos.line X.env = pure false) zz3._auto_1):PS X (.Expr e pos) (ZbD te):=by
 intro pins s Z H D I h;exact wpAny_Expr_any (thn (he pins s Z H _ I h) λ v s1 ⟨x,H1,I1,r1,q1⟩=>⟨Z,H1,I1,q1⟩) I.quiet hs
def ZdS (te:TE):TS:=λ D Z H=>te Z H D.rt
theorem ZaU (he:PE X e te):PS X (.Return (some e) pos) (ZdS te):=by
 intro pins s Z H D I h;exact wpAny_Return_some (thn (he pins s Z H _ I h) λ v s1 ⟨x,H1,I1,r1,q1⟩=>⟨x,Z,H1,I1,r1,q1⟩)
def ZdI (c:TT) (t u:TS):TS:=λ D Z H=>c Z H λ b H1=>if b = true then t D Z H1 else u D Z H1
theorem ZbN {c:Expr} {a b:List Stmt} {tc:TT} (hc:PT X c tc) (ha:PSs X a t) (hb:PSs X b u):PS X (.If c a b pos) (ZdI tc t u):=by
 intro pins s Z H D I h;refine wpAny_If (thn (hc pins s Z H _ I h) λ d s1 ⟨H1,I1,q1⟩=>?_);cases d with
 | true=>exact ha pins s1 Z H1 D I1 q1
 | false=>exact hb pins s1 Z H1 D I1 q1
end
abbrev TG:=V->St->Hp->(St->Hp->Prop)->Prop
abbrev TGs:=List V->St->Hp->(St->Hp->Prop)->Prop
def PG (X:Cx) (target:Expr) (t:TG):Prop:=
 ∀ (pins:List (Addr × Obj)) (s:Shared) (Z:St) (H:Hp) (v:V) (u:Value) (Q:St->Hp->Prop),Inv X pins Z H s->RelV v u->t v Z H Q ->
  wpAny (model X.prog X.w) X.A (assign target X.env u) (λ _ s'=>∃ σ' H',Inv X pins σ' H' s' /\ Q σ' H') X.xe s
def PGs (X:Cx) (ts:List Expr) (t:TGs):Prop:=
 ∀ (pins:List (Addr × Obj)) (s:Shared) (Z:St) (H:Hp) (vs:List V) (us:List Value) (Q:St->Hp->Prop),Inv X pins Z H s->Vals vs us->t vs Z H Q ->
  wpAny (model X.prog X.w) X.A (assignInOrder ((assignEach ts X.env).map (·.2)) us) (λ _ s'=>∃ σ' H',Inv X pins σ' H' s' /\ Q σ' H') X.xe s
abbrev ZcH:=V->V->V->Hp->(Hp->Prop)->Prop
def Zdw (X:Cx) (t:ZcH):Prop:=
 ∀ (pins:List (Addr × Obj)) (s:Shared) (Z:St) (H:Hp) (o i v:V) (ov iv u:Value) (Q:Hp->Prop),Inv X pins Z H s->RelV o ov->RelV i iv->RelV v u->t o i v H Q ->
  wpAny (model X.prog X.w) X.A (setItem ov iv u) (λ _ s'=>∃ H',Inv X pins Z H' s' /\ Q H') X.xe s
abbrev TIp:=V->V->Hp->VK->Prop
def PIp (X:Cx) (op:Operator) (t:TIp):Prop:=
 ∀ (pins:List (Addr × Obj)) (s:Shared) (Z:St) (H:Hp) (x y:V) (v u:Value) (Q:VK),Inv X pins Z H s->RelV x v->RelV y u->t x y H Q ->
  wpAny (model X.prog X.w) X.A (inplaceOp op v u) (EP X pins Z Q) X.xe s
section
variable {pos:Pos}
def RQ (i:Nat):TG:=λ v Z H Q=>Q (Z.set i (some v)) H
theorem CC (hN:X.N.Nodup) (hi:X.N[i]? = some x) (hx:Loc X.env.scope x) (hf:autoParam (X.fn x = true \/ X.env.scope.names.lookup x = some .local) zz0._auto_1):PG X (.Name x pos) (RQ i):=by
 intro pins s Z H v u Q I r h;exact wpAny_assign_Name (Xt I hN hi hx r (λ s' I'=>⟨_,H,I',h⟩) hf)
def ZdR:TGs:=λ vs Z H Q=>vs = [] /\ Q Z H
def ZcW (t:TG) (u:TGs):TGs:=λ vs Z H Q=>∃ v r,vs = v :: r /\ t v Z H λ σ' H'=>u r σ' H' Q
theorem Pa:PGs X [] ZdR:=by
 intro pins s Z H vs us Q I r h;obtain ⟨e,h⟩:=h;subst e;cases r;exact assignInOrder_nil ⟨Z,H,I,h⟩
theorem E5 {es:List Expr} {t:TG} {u:TGs} (h1:PG X e t) (h2:PGs X es u)
  (hs:autoParam ((assignEach (e :: es) X.env).map (·.2) = assign e X.env :: (assignEach es X.env).map (·.2)) zz3._auto_1):PGs X (e :: es) (ZcW t u):=by
 intro pins s Z H vs us Q I r h;obtain ⟨v,vr,e1,h⟩:=h;subst e1;cases r with
 | cons r rr=>
  rw [hs];refine assignInOrder_cons (thn (h1 pins s Z H _ _ _ I r h) λ _ s1 ⟨σ1,H1,I1,q1⟩=>?_);exact h2 pins s1 σ1 H1 _ _ Q I1 rr q1
def Zd0 (K:Fk) (n:Nat) (t:TGs):TG:=λ v Z H Q=>∃ a xs,v = .ref a /\ SqT K H a xs /\ xs.length = n /\ t xs Z H Q
theorem Zbl {es:List Expr} {k:Nat} {t:TGs} {n:Nat} (hc:X.calm = true) (h:PGs X es t)
  (hn:autoParam ((assignEach es X.env).length = n) zz3._auto_1) (hst:autoParam ((assignEach es X.env).findIdx? (·.1) = none) zz3._auto_1):PG X (.Tuple es k pos) (Zd0 X.K n t):=by
 intro pins s Z H v u Q I r hw;obtain ⟨a,xs,e1,hq,hl,hw⟩:=hw;subst e1;cases r;obtain ⟨its,rv,ht,hz⟩:=I.tuple hq;refine assign_Tuple_tuple (I.ok.hd hc) ht (by simp [hn,<- hl,rv.length]) hst λ h' hx=>?_;have I1:Inv X pins Z H { s with heap:=h' }:=I.kept (t':=s.toks) λ b o e=>hx b o (Nat.ne_of_lt (Heap.lt_size e)) e;exact h pins _ Z H xs _ Q I1 (by simpa using rv) hw
def Zd6 (to ti:TE) (t:ZcH):TG:=λ v Z H Q=>to Z H λ o H1=>ti Z H1 λ i H2=>t o i v H2 λ H3=>Q Z H3
theorem Zax {o i:Expr} {to ti:TE} {t:ZcH} (ho:PE X o to) (hi:PE X i ti) (hs:Zdw X t)
  (ha:∀ v,assign (.Subscript o i pos) X.env v = (do
   let ov <- holding [v] (eval o X.env)
   let iv <- holding [v,ov] (eval i X.env)
   standAt pos
   holding [v,ov,iv] (setItem ov iv v)
   release [v,ov,iv] []):=by intro _; rfl):PG X (.Subscript o i pos) (Zd6 to ti t):=by
 intro pins s Z H v u Q I r h;rw [ha];refine wpAny_bind (wpAny_holding (thn (ho pins s Z H _ I h) λ ov s1 ⟨x,H1,I1,r1,q1⟩=>?_));refine wpAny_bind (wpAny_holding (thn (hi pins s1 Z H1 _ I1 q1) λ iv s2 ⟨y,H2,I2,r2,q2⟩=>?_));refine wpAny_bind (wpAny_standAt (wpAny_bind (wpAny_holding (thn (hs pins s2 Z H2 x y v ov iv u _ I2 r1 r2 r q2) λ _ s3 ⟨H3,I3,q3⟩=>?_))));exact wpAny_release ⟨Z,H3,I3,q3⟩
def Zc2 (te:TE) (g:TG):TS:=λ D Z H=>te Z H λ x H1=>g x Z H1 D.nx
theorem T6 {te:TE} {g:TG} (he:PE X e te) (hg:PG X tg g) (hs:autoParam (swapsWithSole [tg] e pos.line X.env = pure false) zz3._auto_1) (hw:autoParam (swappedStores [tg] e X.env = pure none) zz3._auto_1)
  (h1:autoParam ((assignEach [tg] X.env).map (·.2) = [assign tg X.env]) zz3._auto_1):PS X (.Assign [tg] e pos) (Zc2 te g):=by
 intro pins s Z H D I h;refine wpAny_Assign_stores (thn (he pins s Z H _ I h) λ v s1 ⟨x,H1,I1,r1,q1⟩=>?_) hs hw;rw [h1];exact thn (hg pins s1 Z H1 x v _ I1 r1 q1) λ _ s2 q=>q
theorem SQ {te:TE} (hN:X.N.Nodup) (hi:X.N[i]? = some x) (hx:Loc X.env.scope x) (he:PE X e te) (hs:autoParam (swapsWith e (some (.Name x pos')) pos.line X.env = pure false) zz3._auto_1) (hf:autoParam (X.fn x = true \/ X.env.scope.names.lookup x = some .local) zz0._auto_1) :
  PS X (.Assign [.Name x pos'] e pos) (Zc2 te (RQ i)):=by
 intro pins s Z H D I h;refine wpAny_Assign_Name (thn (he pins s Z H _ I h) λ v s1 ⟨y,H1,I1,r1,q1⟩=>?_) hs;exact Xt I1 hN hi hx r1 (λ s2 I2=>⟨_,H1,I2,q1⟩) hf
def ZdL (i:Nat) (te:TE) (ti:TIp):TS:=λ D Z H=>∃ x,Z[i]? = some (some x) /\ te Z H λ y H1=>ti x y H1 λ z H2=>D.nx (Z.set i (some z)) H2
theorem ZaM {te:TE} {op:Operator} {ti:TIp} {pos':Pos} (hN:X.N.Nodup) (hi:X.N[i]? = some x) (hx:Loc X.env.scope x) (he:PE X e te) (ho:PIp X op ti) (hf:autoParam (X.fn x = true \/ X.env.scope.names.lookup x = some .local) zz0._auto_1) :
  PS X (.AugAssign (.Name x pos') op e pos) (ZdL i te ti):=by
 intro pins s Z H D I h;obtain ⟨v,e1,h⟩:=h;obtain ⟨m,hn,hl⟩:=I.loc;have vis:Vis X.env.scope x:=by rcases hx with k | k; exact .inl k; exact .inr (.inl k)
 obtain ⟨u,r,l⟩:=hl i x v hi e1 vis;refine wpAny_AugAssign_Name ?_;have go:wpAny (model X.prog X.w) X.A (eval e X.env) (λ w s₂=>wpAny (model X.prog X.w) X.A (inplaceOp op u w) (λ r s₃=>wpAny (model X.prog X.w) X.A (storeName X.env x r) (λ _=>SP X pins D .next) X.xe s₃) X.xe s₂) X.xe s:=by
  refine thn (he pins s Z H _ I h) λ w s1 ⟨y,H1,I1,r1,q1⟩=>?_;refine thn (ho pins s1 Z H1 v y u w _ I1 r r1 q1) λ z s2 ⟨zv,H2,I2,r2,q2⟩=>?_;exact Xt I2 hN hi hx r2 (λ s3 I3=>⟨_,H2,I3,q2⟩) hf
 rcases l with ⟨hk,hm⟩ | ⟨hk,c,hc,hcell⟩
 ·exact wpAny_loadName_local I.ok.kind hk hn hm go
 ·rcases hk with hk | hk
  ·exact wpAny_loadName_cell I.ok.kind hk hc hcell go
  ·rcases hx with k | k
   ·have:X.env.scope.names.lookup x = some .free:=hk;rw [k] at this; cases this
   ·have:X.env.scope.names.lookup x = some .free:=hk;rw [k] at this; cases this
def ipI (f:Int->Int->Int):TIp:=λ x y H Q=>∃ i j,x = .int i /\ y = .int j /\ Q (.int (f i j)) H
theorem Tb:PIp X .Add (ipI λ i j=>i + j):=by
 intro pins s Z H x y v u Q I r1 r2 h;obtain ⟨i,j,e1,e2,q⟩:=h;subst e1; subst e2;obtain ⟨t,rfl⟩:=r1;obtain ⟨t',rfl⟩:=r2;exact iadd_int ⟨.int _,H,I.tok _,⟨_,rfl⟩,q⟩
end
section
variable {pos:Pos}
end
structure It where
 go:Nat->Hp->Prop
 yld:Nat->Hp->V->Hp->Prop
 stop:Nat->Hp->Prop
def U6 (X:Cx) (pins:List (Addr × Obj)) (H:Hp) (b:Addr):Prop:=
 H b = none /\ b ≠ X.env.locals /\ b ∉ X.fs /\ (b ∈ X.ex \/ X.s₀.heap.objs.size <= b) /\ (∀ x c,X.env.cells.lookup x = some c->c ≠ b) /\ ∀ p ∈ X.pn ++ pins,p.1 ≠ b
theorem Inv.PX {b:Addr} (I:Inv X pins Z H s) (hb:s.heap.objs.size <= b) (hn:H' b = none):U6 X pins H' b:=by
 refine ⟨hn,Nat.ne_of_gt (Nat.lt_of_lt_of_le I.lt hb),I.ZdE hb,.inr (Nat.le_trans I.sz hb),λ x c e z=>?_,λ p hp z=>?_⟩
 ·obtain ⟨v,q⟩:=I.cell x c e;exact absurd (Nat.lt_of_lt_of_le q.lt (by rw [z]; exact hb)) (Nat.lt_irrefl _)
 ·exact absurd (Nat.lt_of_lt_of_le (Heap.lt_size (I.pin p hp).1) (by rw [z]; exact hb)) (Nat.lt_irrefl _)
structure Turn (P:Program) (w:World) (K:Fk) (tg:Expr) (J:It) (fp:List Addr) (it:Addr) (tn:Nat->Heap->Prop):Prop where
 mem:it ∈ fp
 obj:∀ i h,tn i h->∀ b ∈ fp,∃ o,h.get? b = some o /\ ∀ v,o.data ≠ .cell v
 keep:∀ i h h',tn i h->(∀ b ∈ fp,∀ o,h.get? b = some o->h'.get? b = some o)->tn i h'
 item:∀ (X:Cx),X.prog = P->X.w = w->X.K = K->X.calm = true->∀ (i:Nat) (pins:List (Addr × Obj)) (s:Shared) (Z:St) (H:Hp) (E:Value->Shared->Prop),Inv X pins Z H s->(∀ b ∈ fp,U6 X pins H b)->tn i s.heap->J.go i H ->
  wpAny (model P w) X.A (pyNext (.ref it)) (λ r s1=>∃ u,r = some u /\
   wpAny (model P w) X.A (letOwnedTupleGo tg (.ref it) u) (λ _ s2=>∃ x H',Inv X pins Z H' s2 /\ RelV x u /\ J.yld i H x H' /\ tn (i + 1) s2.heap /\ ∀ b ∈ fp,H' b = none) E s1) E s
 done:∀ (X:Cx),X.prog = P->X.w = w->X.K = K->X.calm = true->∀ (i:Nat) (pins:List (Addr × Obj)) (s:Shared) (Z:St) (H:Hp) (E:Value->Shared->Prop),Inv X pins Z H s->(∀ b ∈ fp,U6 X pins H b)->tn i s.heap->J.stop i H ->
  wpAny (model P w) X.A (pyNext (.ref it)) (λ r s1=>r = none /\ Inv X pins Z H s1) E s
 self:∀ (A:Around) (i:Nat) (s:Shared) (Q:Value->Shared->Prop) (E:Value->Shared->Prop),tn i s.heap->Q (.ref it) s->wpAny (model P w) A (pyIter (.ref it)) Q E s
abbrev TI:=St->Hp->(It->Hp->Prop)->Prop
def PIE (X:Cx) (pins:List (Addr × Obj)) (Z:St) (tg:Expr) (R:It->Hp->Prop) (itv:Value) (s2:Shared):Prop:=
 ∃ (it:Addr) (fp:List Addr) (tn:Nat->Heap->Prop) (J:It) (H':Hp),itv = .ref it /\ Inv X pins Z H' s2 /\ Turn X.prog X.w X.K tg J fp it tn /\ tn 0 s2.heap /\ (∀ b ∈ fp,U6 X pins H' b) /\ R J H'
def PI (X:Cx) (tg iter:Expr) (wi:TI):Prop:=
 ∀ (pins:List (Addr × Obj)) (s:Shared) (Z:St) (H:Hp) (R:It->Hp->Prop),Inv X pins Z H s->wi Z H R ->
  wpAny (model X.prog X.w) X.A (eval iter X.env) (λ v s1=>wpAny (model X.prog X.w) X.A (pyIter v) (PIE X pins Z tg R) X.xe s1) X.xe s
theorem Hd {M:Model} {A:Around} {E:Value->Shared->Prop} {tg:Expr} {it:Addr} {u:Value} {o:Obj} {n:String} {vs:Array Value} {Q:Unit->Shared->Prop} (ho:s.heap.get? it = some o) (hc:o.cls = .type n) (hd:o.data = .fields vs)
    (hn:["enumerate", "zip", "dict_itemiterator", "dict_reverseitemiterator", "odict_iterator", "itertools.zip_longest", "itertools.pairwise"].contains n = false) (hQ:Q () s):wpAny M A (letOwnedTupleGo tg (.ref it) u) Q E s:=by
  unfold letOwnedTupleGo;cases tg <;> first
    | exact wpAny_pure hQ
    | (cases u <;> first
        | exact wpAny_pure hQ
        | (refine wpAny_bind (wpAny_load ho ?_)
           rw [hc,hd];show wpAny M A (if (["enumerate", "zip", "dict_itemiterator", "dict_reverseitemiterator", "odict_iterator", "itertools.zip_longest", "itertools.pairwise"].contains n && vs[0]? == some (rawInt _)) = true then _ else _) Q E s;rw [if_neg (by intro h; rw [hn,Bool.false_and] at h; cases h)]
           exact wpAny_pure hQ))
noncomputable def Itl (K:Fk) (a:Addr):It:=
 ⟨λ i H=>∃ xs x,SqL K H a xs /\ xs[i]? = some x,λ i H x H'=>H' = H /\ ∀ xs,SqL K H a xs->xs[i]? = some x,λ i H=>∃ xs,SqL K H a xs /\ xs.length <= i⟩
noncomputable def Itt (K:Fk) (a:Addr):It:=
 ⟨λ i H=>∃ xs x,SqT K H a xs /\ xs[i]? = some x,λ i H x H'=>H' = H /\ ∀ xs,SqT K H a xs->xs[i]? = some x,λ i H=>∃ xs,SqT K H a xs /\ xs.length <= i⟩
noncomputable def Itr (lo:Int) (n:Nat):It:=⟨λ i _=>i < n,λ i H x H'=>H' = H /\ x = .int (lo + i),λ i _=>n <= i⟩
theorem Kk (a it:Addr):Turn P w K tg (Itl K a) [it] it (λ i h=>h.IsListIter it a i) where
 mem:=by simp
 obj:=λ i h st b hb=>by
  have e:b = it:=by simpa using hb
  subst e;obtain ⟨o,e,c,d⟩:=st;exact ⟨o,e,λ v z=>by rw [d] at z; cases z⟩
 keep:=λ i h h' st k=>st.at λ o e=>k it (by simp) o e
 item:=by
  intro X hP hw hK hc i pins s Z H E I hf st hg;subst hP hw hK;obtain ⟨xs,x,hq,hx⟩:=hg;obtain ⟨its,rv,p,hz⟩:=I.list hq;obtain ⟨u,hu,ru⟩:=rv.get hx;obtain ⟨f0,f1,f2,f3,f4,f5⟩:=hf it (by simp);refine wpAny_pyNext_list_item st p.isList (x:=u) (by simpa using hu) λ h' st' sb=>?_;have I1:Inv X pins Z H { s with heap:=h' }:=I.turned (t':=s.toks) (λ b o hb e=>(sb.2 b hb).trans e) f0 f1 f3 f4 f5;obtain ⟨o,e,c,d⟩:=id st';exact ⟨u,rfl,Hd (s:={ s with heap:=h' }) e c d (by decide) ⟨x,H,I1,ru,⟨rfl,λ ys hy=>by rw [I.Lr hy hq]; exact hx⟩,st',λ b hb=>(hf b hb).1⟩⟩
 done:=by
  intro X hP hw hK hc i pins s Z H E I hf st hg;subst hP hw hK;obtain ⟨xs,hq,hx⟩:=hg;obtain ⟨its,rv,p,hz⟩:=I.list hq;obtain ⟨f0,f1,f2,f3,f4,f5⟩:=hf it (by simp);have hl:=rv.length;exact wpAny_pyNext_list_end (I.ok.hd hc) st p.isList (by simp; lia) λ h' eb=>⟨rfl,I.turned (t':=s.toks) (λ b o hb e=>eb b o hb e) f0 f1 f3 f4 f5⟩
 self:=λ _ _ _ _ _ st h=>wpAny_pyIter_listiter st h
theorem YW (a it:Addr):Turn P w K tg (Itt K a) [it] it (λ i h=>h.IsTupleIter it a i) where
 mem:=by simp
 obj:=λ i h st b hb=>by
  have e:b = it:=by simpa using hb
  subst e;obtain ⟨o,e,c,d⟩:=st;exact ⟨o,e,λ v z=>by rw [d] at z; cases z⟩
 keep:=λ i h h' st k=>st.at λ o e=>k it (by simp) o e
 item:=by
  intro X hP hw hK hc i pins s Z H E I hf st hg;subst hP hw hK;obtain ⟨xs,x,hq,hx⟩:=hg;obtain ⟨its,rv,p,hz⟩:=I.tuple hq;obtain ⟨u,hu,ru⟩:=rv.get hx;obtain ⟨f0,f1,f2,f3,f4,f5⟩:=hf it (by simp);refine wpAny_pyNext_tuple_item st (show s.heap.IsTuple a its.toArray from p) (x:=u) (by simpa using hu) λ h' st' sb=>?_;have I1:Inv X pins Z H { s with heap:=h' }:=I.turned (t':=s.toks) (λ b o hb e=>(sb.2 b hb).trans e) f0 f1 f3 f4 f5;obtain ⟨o,e,c,d⟩:=id st';exact ⟨u,rfl,Hd (s:={ s with heap:=h' }) e c d (by decide) ⟨x,H,I1,ru,⟨rfl,λ ys hy=>by rw [I.Cg hy hq]; exact hx⟩,st',λ b hb=>(hf b hb).1⟩⟩
 done:=by
  intro X hP hw hK hc i pins s Z H E I hf st hg;subst hP hw hK;obtain ⟨xs,hq,hx⟩:=hg;obtain ⟨its,rv,p,hz⟩:=I.tuple hq;obtain ⟨f0,f1,f2,f3,f4,f5⟩:=hf it (by simp);have hl:=rv.length;exact wpAny_pyNext_tuple_end (I.ok.hd hc) st (show s.heap.IsTuple a its.toArray from p) (by simp; lia) λ h' eb=>⟨rfl,I.turned (t':=s.toks) (λ b o hb e=>eb b o hb e) f0 f1 f3 f4 f5⟩
 self:=λ _ _ _ _ _ st h=>wpAny_pyIter_tupleiter st h
theorem GW (it:Addr) (lo:Int) (n:Nat):Turn P w K tg (Itr lo n) [it] it (λ i h=>IsRangeIter h it (lo + (i:Nat) * 1) ((n:Int) - (i:Nat)) 1) where
 mem:=by simp
 obj:=λ i h st b hb=>by
  have e:b = it:=by simpa using hb
  subst e
  exact ⟨_,st,λ v z=>by
   have z':Data.fields _ = Data.cell v:=z
   cases z'⟩
 keep:=λ i h h' st k=>k it (by simp) _ st
 item:=by
  intro X hP hw hK hc i pins s Z H E I hf st hg;subst hP hw hK;obtain ⟨f0,f1,f2,f3,f4,f5⟩:=hf it (by simp);have W:=Walks.range (prog:=X.prog) (w:=X.w) (I.ok.hd hc) it lo 1 n;refine W.item i s _ _ hg st λ v h' tk hv st' kk=>?_;obtain ⟨t,rfl⟩:=hv;have I1:Inv X pins Z H { s with heap:=h',toks:=tk }:=I.turned (λ b o hb e=>kk b o (by simpa using hb) e) f0 f1 f3 f4 f5;refine ⟨_,rfl,Hd (s:={ s with heap:=h',toks:=tk }) (n := "range_iterator") st' rfl rfl (by decide) ⟨.int (lo + i),H,I1,⟨t,?_⟩,⟨rfl,rfl⟩,st',λ b hb=>(hf b hb).1⟩⟩;rw [Int.mul_one]
 done:=by
  intro X hP hw hK hc i pins s Z H E I hf st hg;subst hP hw hK;obtain ⟨f0,f1,f2,f3,f4,f5⟩:=hf it (by simp);exact wpAny_pyNext_range_end (I.ok.hd hc) st (by have:n <= i:=hg; lia) λ h' eb=>⟨rfl,I.turned (t':=s.toks) (λ b o hb e=>eb b o hb e) f0 f1 f3 f4 f5⟩
 self:=λ _ _ _ _ _ st h=>wpAny_pyIter_rangeiter st h
def ZbZ (K:Fk) (tl:TE):TI:=λ Z H R=>tl Z H λ x H1=>∃ a,x = .ref a /\ (∃ xs,SqL K H1 a xs) /\ R (Itl K a) H1
def ZdO (K:Fk) (tl:TE):TI:=λ Z H R=>tl Z H λ x H1=>∃ a,x = .ref a /\ (∃ xs,SqT K H1 a xs) /\ R (Itt K a) H1
theorem Ci {l:Expr} {tl:TE} (hl:PE X l tl):PI X tg l (ZbZ X.K tl):=by
 intro pins s Z H R I h;refine thn (hl pins s Z H _ I h) λ v s1 ⟨x,H1,I1,r1,q1⟩=>?_;obtain ⟨a,e,⟨xs,hq⟩,q⟩:=q1;subst e;cases r1;obtain ⟨its,rv,p,hz⟩:=I1.list hq;refine wpAny_pyIter_list p.isList ?_;refine ⟨s1.heap.objs.size,[s1.heap.objs.size],_,_,H1,rfl,I1.kept (t':=s1.toks) λ b o e=>Heap.get?_push_of_some _ e,Kk a _,⟨_,Heap.get?_push_size _ rfl,rfl,rfl⟩,λ b hb=>?_,q⟩;have e:b = s1.heap.objs.size:=by simpa using hb
 subst e;exact I1.PX (Nat.le_refl _) (I1.hok.fresh (Nat.le_refl _))
theorem Mz {l:Expr} {tl:TE} (hl:PE X l tl):PI X tg l (ZdO X.K tl):=by
 intro pins s Z H R I h;refine thn (hl pins s Z H _ I h) λ v s1 ⟨x,H1,I1,r1,q1⟩=>?_;obtain ⟨a,e,⟨xs,hq⟩,q⟩:=q1;subst e;cases r1;obtain ⟨its,rv,p,hz⟩:=I1.tuple hq;refine wpAny_pyIter_tuple (show s1.heap.IsTuple a its.toArray from p) ?_;refine ⟨s1.heap.objs.size,[s1.heap.objs.size],_,_,H1,rfl,I1.kept (t':=s1.toks) λ b o e=>Heap.get?_push_of_some _ e,YW a _,⟨_,Heap.get?_push_size _ rfl,rfl,rfl⟩,λ b hb=>?_,q⟩;have e:b = s1.heap.objs.size:=by simpa using hb
 subst e;exact I1.PX (Nat.le_refl _) (I1.hok.fresh (Nat.le_refl _))
theorem U7 {R:It->Hp->Prop} {E:Value->Shared->Prop} {lo hi:Int} {t u v:Tok} {tk:Nat} (I:Inv X pins Z H s) (h1:-(2 ^ 62) <= lo) (h2:lo < 2 ^ 62) (h3:-(2 ^ 62) <= hi) (h4:hi < 2 ^ 62)
  (q:R (Itr lo (hi - lo).toNat) H):wpAny (model X.prog X.w) X.A (pyIter (.ref s.heap.objs.size)) (PIE X pins Z tg R) E { s with heap:=s.heap.push { cls:=.type "range",data:=.fields #[.int lo t,.int hi u,.int 1 v] },toks:=tk }:=by
 refine wpAny_pyIter_range (IsRange.new ..) (small_one h1 h2 h3 h4) ?_;have I1:Inv X pins Z H { s with heap:=s.heap.push { cls:=.type "range",data:=.fields #[.int lo t,.int hi u,.int 1 v] },toks:=tk }:=I.kept λ b o e=>Heap.get?_push_of_some _ e
 refine ⟨(s.heap.push { cls:=.type "range",data:=.fields #[.int lo t,.int hi u,.int 1 v] }).objs.size,[(s.heap.push { cls:=.type "range",data:=.fields #[.int lo t,.int hi u,.int 1 v] }).objs.size],_,_,H,rfl,
  I1.kept (t':=tk) λ b o e=>Heap.get?_push_of_some _ e,GW _ lo (hi - lo).toNat,?_,λ b hb=>?_,q⟩
 ·have e1:lo + ((0:Nat):Int) * 1 = lo:=by simp
  have e2:(((hi - lo).toNat:Nat):Int) - ((0:Nat):Int) = Builtin.Range.rangeSize lo hi 1:=by rw [rangeSize_one]; split <;> lia
  show IsRangeIter _ _ (lo + ((0:Nat):Int) * 1) ((((hi - lo).toNat:Nat):Int) - ((0:Nat):Int)) 1;rw [e1,e2];exact Heap.get?_push_size _ rfl
 ·have e:b = (s.heap.push { cls:=.type "range",data:=.fields #[.int lo t,.int hi u,.int 1 v] }).objs.size:=by simpa using hb
  subst e;exact I1.PX (Nat.le_refl _) (I1.hok.fresh (Nat.le_refl _))
def ZbU (ta:TA):TI:=λ Z H R=>ta Z H λ vs H1=>∃ j:Int,vs = [.int j] /\ -(2 ^ 62) <= j /\ j < 2 ^ 62 /\ R (Itr 0 j.toNat) H1
def Zb9 (ta:TA):TI:=λ Z H R=>ta Z H λ vs H1=>∃ i j:Int,vs = [.int i,.int j] /\ (-(2 ^ 62) <= i /\ i < 2 ^ 62 /\ -(2 ^ 62) <= j /\ j < 2 ^ 62) /\ R (Itr i (j - i).toNat) H1
theorem Cq {a:Expr} {ta:TA} {p pos:Pos} (hg:Gl X "range") (hm:X.mg "range" = none) (ha:PA X [a] ta) (hs:autoParam (starEach [a] X.env = [(false,eval a X.env)]) zz3._auto_1):PI X tg (.Call (.Name "range" p) [a] [] pos) (ZbU ta):=by
 intro pins s Z H R I h;refine Call_ (Ys I hg hm boot_range (PyProof.Rows.callWith_type1 (thn (ha pos pins s Z H _ I h) λ us s1 ⟨vs,H1,I1,r1,q1⟩=>?_) hs rfl));obtain ⟨j,e,q1,q2,q⟩:=q1;subst e;cases r1 with
 | cons r rr=>
  cases rr;obtain ⟨t,rfl⟩:=r;exact call_range_1 (U7 I1 (by lia) (by lia) q1 q2 (by simpa using q))
theorem K0 {a b:Expr} {ta:TA} {p pos:Pos} (hg:Gl X "range") (hm:X.mg "range" = none) (ha:PA X [a,b] ta) (hs:autoParam (starEach [a,b] X.env = [(false,eval a X.env),(false,eval b X.env)]) zz3._auto_1) (hs2:autoParam (starEach [b] X.env = [(false,eval b X.env)]) zz3._auto_1) :
  PI X tg (.Call (.Name "range" p) [a,b] [] pos) (Zb9 ta):=by
 intro pins s Z H R I h;refine Call_ (Ys I hg hm boot_range (PyProof.Rows.callWith_type1 (thn (ha pos pins s Z H _ I h) λ us s1 ⟨vs,H1,I1,r1,q1⟩=>?_) (by rw [hs,hs2]) (by rw [hs2]; rfl)));obtain ⟨i,j,e,⟨q1,q2,q3,q4⟩,q⟩:=q1;subst e;cases r1 with
 | cons r rr=>
  cases rr with
  | cons r' rr=>
   cases rr;obtain ⟨t,rfl⟩:=r;obtain ⟨t',rfl⟩:=r';exact call_range_2 (U7 I1 q1 q2 q3 q4 q)
def ZdX (wi:TI) (g:TG) (tb:TS):TS:=λ D Z H=>wi Z H λ J H1=>∃ W:Nat->Nat->St->Hp->Prop,(∃ m,W 0 m Z H1) /\ ∀ i m Z H,W i m Z H ->
 (J.stop i H /\ D.nx Z H) \/ (J.go i H /\ ∃ N:St->Hp->Prop,(∀ σ' H',N σ' H'->∃ m',m' < m /\ W (i + 1) m' σ' H') /\ ∀ x H',J.yld i H x H'->g x Z H' λ σ2 H2=>tb { D with nx:=N,ct:=N,bk:=D.nx } σ2 H2)
noncomputable def YO (fp:List Addr) (h:Heap):List (Addr × Obj):=fp.filterMap λ b=>(h.get? b).map λ o=>(b,o)
theorem Qv {fp:List Addr} {b:Addr} {o:Obj} (hb:b ∈ fp) (e:h.get? b = some o):(b,o) ∈ YO fp h:=List.mem_filterMap.mpr ⟨b,hb,by rw [e]; rfl⟩
theorem CZ {fp:List Addr} {p:Addr × Obj} (hp:p ∈ YO fp h):p.1 ∈ fp /\ h.get? p.1 = some p.2:=by
 obtain ⟨b,hb,e⟩:=List.mem_filterMap.mp hp;cases q:h.get? b with
 | none=>rw [q] at e; cases e
 | some o=>
  rw [q] at e;have e':(b,o) = p:=Option.some.inj e;subst e';exact ⟨hb,q⟩
theorem Inv.pinned {fp:List Addr} (I:Inv X pins Z H s) (hf:∀ b ∈ fp,U6 X pins H b) (ho:∀ b ∈ fp,∃ o,s.heap.get? b = some o /\ ∀ v,o.data ≠ .cell v):Inv X (pins ++ YO fp s.heap) Z H s:=
 I.J8 λ p hp=>(List.mem_append.mp hp).elim (λ z=>I.pin p (List.mem_append_right _ z)) λ z=>by
  obtain ⟨hb,e⟩:=CZ z;obtain ⟨f0,f1,f2,_⟩:=hf p.1 hb;obtain ⟨o,e',d⟩:=ho p.1 hb;rw [e] at e'; cases e';exact ⟨e,f0,f1,f2,d⟩
theorem Inv.Xl {pl:List (Addr × Obj)} (I:Inv X (pins ++ pl) Z H s):Inv X pins Z H s:=I.J8 λ p hp=>I.pin p (List.mem_append_right _ (List.mem_append_left _ hp))
theorem Y6 {body:List Stmt} {wi:TI} {g:TG} {tb:TS} {pos:Pos} (hp:PassesOwn (model X.prog X.w) X.A X.env X.xe) (hc:X.calm = true) (hi:PI X tg iter wi) (hg:PG X tg g) (hb:PSs X body tb)
  (hs:autoParam (∀ x,foldedSetIterable iter X.env x = pure x) zz2._auto_1):PS X (.For tg iter body [] pos) (ZdX wi g tb):=by
 intro pins s Z H D I h;refine wpAny_For (thn (hi pins s Z H _ I h) λ v s1 h1=>thn h1 λ itv s2 h2=>?_) hs;obtain ⟨it,fp,tn,J,H2,e,I2,T,st2,f2,W,⟨m0,w0⟩,turn⟩:=h2;subst e;have stat:∀ {H':Hp},(∀ b ∈ fp,H' b = none)->∀ b ∈ fp,U6 X pins H' b:=λ hn b hb=>⟨hn b hb,(f2 b hb).2⟩;refine codeAny_forLoop_any (λ n s'=>∃ i σ' H',Inv X pins σ' H' s' /\ tn i s'.heap /\ (∀ b ∈ fp,H' b = none) /\ W i n σ' H') ?_ m0 ⟨0,Z,H2,I2,st2,λ b hb=>(f2 b hb).1,w0⟩;rintro n s3 ⟨i,σ3,H3,I3,st3,fr3,w3⟩
 rcases turn i n σ3 H3 w3 with ⟨stop,qn⟩ | ⟨go,N,hN,step⟩
 ·refine wpAny_passesOwn hp (thn (T.done X rfl rfl rfl hc i pins s3 σ3 H3 X.xe I3 (stat fr3) st3 stop) λ r s4 ⟨hr,I4⟩=>?_);subst hr;exact wpAny_execs_nil ⟨σ3,H3,I4,qn⟩
 ·refine wpAny_passesOwn hp (thn (T.item X rfl rfl rfl hc i pins s3 σ3 H3 X.xe I3 (stat fr3) st3 go) λ r s4 ⟨u,hr,h4⟩=>?_);subst hr;refine wpAny_passesOwn hp (thn h4 λ _ s5 ⟨x,H5,I5,r5,y5,st5,fr5⟩=>?_);have I5':=I5.pinned (stat fr5) (T.obj _ _ st5);refine wpAny_passesOwn hp (thn (hg _ s5 σ3 H5 x u _ I5' r5 (step x H5 y5)) λ _ s6 ⟨σ6,H6,I6,q6⟩=>?_);refine wpAny_passesOwn hp (thn (hb _ s6 σ6 H6 _ I6 q6) λ f s7 q7=>?_);have again:∀ {σ7:St} {H7:Hp},Inv X (pins ++ YO fp s5.heap) σ7 H7 s7->N σ7 H7->∃ m,m < n /\ ∃ i σ' H',Inv X pins σ' H' s7 /\ tn i s7.heap /\ (∀ b ∈ fp,H' b = none) /\ W i m σ' H':=λ {σ7 H7} I7 n7=>by
   obtain ⟨m',hm,w7⟩:=hN σ7 H7 n7;refine ⟨m',hm,i + 1,σ7,H7,I7.Xl,T.keep _ _ _ st5 λ b hb o e=>(I7.pin (b,o) (List.mem_append_right _ (List.mem_append_right _ (Qv hb e)))).1,λ b hb=>?_,w7⟩;obtain ⟨o,e,d⟩:=T.obj _ _ st5 b hb;exact (I7.pin (b,o) (List.mem_append_right _ (List.mem_append_right _ (Qv hb e)))).2.1
  cases f with
  | next=>obtain ⟨σ7,H7,I7,n7⟩:=q7; exact again I7 n7
  | cont=>obtain ⟨σ7,H7,I7,n7⟩:=q7; exact again I7 n7
  | brk=>obtain ⟨σ7,H7,I7,q7⟩:=q7; exact ⟨σ7,H7,I7.Xl,q7⟩
  | ret v=>obtain ⟨x7,σ7,H7,I7,r7,q7⟩:=q7; exact ⟨x7,σ7,H7,I7.Xl,r7,q7⟩
theorem FN {g:TG} {tb:TS} {D:Ends} (Pv:Nat->St->Hp->Prop) (h0:Pv 0 Z H) (hl:∀ i Z H,i <= xs.length->Pv i Z H->SqL K H a xs)
  (hs:∀ i x Z H,xs[i]? = some x->Pv i Z H->g x Z H λ σ2 H2=>tb { D with nx:=Pv (i + 1),ct:=Pv (i + 1),bk:=D.nx } σ2 H2) (hd:∀ Z H,Pv xs.length Z H->D.nx Z H) :
  ∃ W:Nat->Nat->St->Hp->Prop,(∃ m,W 0 m Z H) /\ ∀ i m Z H,W i m Z H ->
   ((Itl K a).stop i H /\ D.nx Z H) \/ ((Itl K a).go i H /\ ∃ N:St->Hp->Prop,(∀ σ' H',N σ' H'->∃ m',m' < m /\ W (i + 1) m' σ' H') /\ ∀ x H',(Itl K a).yld i H x H'->g x Z H' λ σ2 H2=>tb { D with nx:=N,ct:=N,bk:=D.nx } σ2 H2):=by
 refine ⟨λ i m Z H=>m = xs.length - i /\ i <= xs.length /\ Pv i Z H,⟨xs.length,by simp,Nat.zero_le _,h0⟩,?_⟩;rintro i m Z H ⟨rfl,hi,p⟩;have q:=hl i Z H hi p
 by_cases hlt:i < xs.length
 ·refine .inr ⟨⟨xs,xs[i],q,by simp [hlt]⟩,Pv (i + 1),λ σ' H' p'=>⟨xs.length - (i + 1),by lia,rfl,hlt,p'⟩,λ x H' y=>?_⟩;obtain ⟨e,y⟩:=y;subst e;exact hs i x Z _ (y xs q) p
 ·have e:i = xs.length:=by lia
  subst e;exact .inl ⟨⟨xs,q,Nat.le_refl _⟩,hd Z H p⟩
theorem Ra {g:TG} {tb:TS} {D:Ends} (Pv:Nat->St->Hp->Prop) (h0:Pv 0 Z H) (hl:∀ i Z H,i <= xs.length->Pv i Z H->SqT K H a xs)
  (hs:∀ i x Z H,xs[i]? = some x->Pv i Z H->g x Z H λ σ2 H2=>tb { D with nx:=Pv (i + 1),ct:=Pv (i + 1),bk:=D.nx } σ2 H2) (hd:∀ Z H,Pv xs.length Z H->D.nx Z H) :
  ∃ W:Nat->Nat->St->Hp->Prop,(∃ m,W 0 m Z H) /\ ∀ i m Z H,W i m Z H ->
   ((Itt K a).stop i H /\ D.nx Z H) \/ ((Itt K a).go i H /\ ∃ N:St->Hp->Prop,(∀ σ' H',N σ' H'->∃ m',m' < m /\ W (i + 1) m' σ' H') /\ ∀ x H',(Itt K a).yld i H x H'->g x Z H' λ σ2 H2=>tb { D with nx:=N,ct:=N,bk:=D.nx } σ2 H2):=by
 refine ⟨λ i m Z H=>m = xs.length - i /\ i <= xs.length /\ Pv i Z H,⟨xs.length,by simp,Nat.zero_le _,h0⟩,?_⟩;rintro i m Z H ⟨rfl,hi,p⟩;have q:=hl i Z H hi p
 by_cases hlt:i < xs.length
 ·refine .inr ⟨⟨xs,xs[i],q,by simp [hlt]⟩,Pv (i + 1),λ σ' H' p'=>⟨xs.length - (i + 1),by lia,rfl,hlt,p'⟩,λ x H' y=>?_⟩;obtain ⟨e,y⟩:=y;subst e;exact hs i x Z _ (y xs q) p
 ·have e:i = xs.length:=by lia
  subst e;exact .inl ⟨⟨xs,q,Nat.le_refl _⟩,hd Z H p⟩
theorem BC {lo:Int} {n:Nat} {g:TG} {tb:TS} {D:Ends} (Pv:Nat->St->Hp->Prop) (h0:Pv 0 Z H)
  (hs:∀ i Z H,i < n->Pv i Z H->g (.int (lo + i)) Z H λ σ2 H2=>tb { D with nx:=Pv (i + 1),ct:=Pv (i + 1),bk:=D.nx } σ2 H2) (hd:∀ Z H,Pv n Z H->D.nx Z H) :
  ∃ W:Nat->Nat->St->Hp->Prop,(∃ m,W 0 m Z H) /\ ∀ i m Z H,W i m Z H ->
   ((Itr lo n).stop i H /\ D.nx Z H) \/ ((Itr lo n).go i H /\ ∃ N:St->Hp->Prop,(∀ σ' H',N σ' H'->∃ m',m' < m /\ W (i + 1) m' σ' H') /\ ∀ x H',(Itr lo n).yld i H x H'->g x Z H' λ σ2 H2=>tb { D with nx:=N,ct:=N,bk:=D.nx } σ2 H2):=by
 refine ⟨λ i m Z H=>m = n - i /\ i <= n /\ Pv i Z H,⟨n,by simp,Nat.zero_le _,h0⟩,?_⟩;rintro i m Z H ⟨rfl,hi,p⟩
 by_cases hlt:i < n
 ·refine .inr ⟨hlt,Pv (i + 1),λ σ' H' p'=>⟨n - (i + 1),by lia,rfl,hlt,p'⟩,λ x H' y=>?_⟩;obtain ⟨e,y⟩:=y;subst e y;exact hs i Z _ hlt p
 ·have e:i = n:=by lia
  subst e;exact .inl ⟨Nat.le_refl _,hd Z H p⟩
abbrev R2:=V->V->Hp->VK->Prop
def OpR (X:Cx) (f:Value->Value->Sem Value) (r:R2):Prop:=
 ∀ (pins:List (Addr × Obj)) (s:Shared) (Z:St) (H:Hp) (x y:V) (v u:Value) (Q:VK),Inv X pins Z H s->RelV x v->RelV y u->r x y H Q ->
  wpAny (model X.prog X.w) X.A (f v u) (EP X pins Z Q) X.xe s
def UnR (X:Cx) (f:Value->Sem Value) (r:V->Hp->VK->Prop):Prop:=
 ∀ (pins:List (Addr × Obj)) (s:Shared) (Z:St) (H:Hp) (x:V) (v:Value) (Q:VK),Inv X pins Z H s->RelV x v->r x H Q ->
  wpAny (model X.prog X.w) X.A (f v) (EP X pins Z Q) X.xe s
def Q6 (X:Cx) (f:Value) (r:List V->Hp->VK->Prop):Prop:=
 ∀ (pins:List (Addr × Obj)) (s:Shared) (Z:St) (H:Hp) (xs:List V) (us:List Value) (Q:VK),Inv X pins Z H s->Vals xs us->r xs H Q ->
  wpAny (model X.prog X.w) X.A (call f us) (EP X pins Z Q) X.xe s
def Zd2 (X:Cx) (r:V->Hp->(Bool->Hp->Prop)->Prop):Prop:=
 ∀ (pins:List (Addr × Obj)) (s:Shared) (Z:St) (H:Hp) (x:V) (v:Value) (Q:Bool->Hp->Prop),Inv X pins Z H s->RelV x v->r x H Q ->
  wpAny (model X.prog X.w) X.A (truthy v) (TP X pins Z Q) X.xe s
def tOp (r:R2) (ta tb:TE):TE:=λ Z H Q=>ta Z H λ x H1=>tb Z H1 λ y H2=>r x y H2 Q
def tUn (r:V->Hp->VK->Prop) (ta:TE):TE:=λ Z H Q=>ta Z H λ x H1=>r x H1 Q
def rI (C:Int->Int->Prop) (g:Int->Int->V):R2:=λ x y H Q=>∃ i j,x = .int i /\ y = .int j /\ C i j /\ Q (g i j) H
def rI0 (g:Int->Int->V):R2:=λ x y H Q=>∃ i j,x = .int i /\ y = .int j /\ Q (g i j) H
def rU (g:Int->V):V->Hp->VK->Prop:=λ x H Q=>∃ i,x = .int i /\ Q (g i) H
section
variable {a b c:Expr} {ta tb tc:TE} {pos:Pos}
theorem ZcT (ha:PE X a ta) (hb:PE X b tb) {R:V->V->Hp->Prop} (I:Inv X pins Z H s)
  (h:ta Z H λ x H1=>tb Z H1 λ y H2=>R x y H2) {Q:Value->Shared->Prop} {f:Value->Value->Sem Value}
  (hf:∀ v u s2 x y H2,Inv X pins Z H2 s2->RelV x v->RelV y u->R x y H2->wpAny (model X.prog X.w) X.A (f v u) Q X.xe s2) :
  wpAny (model X.prog X.w) X.A (eval a X.env) (λ v s₁=>wpAny (model X.prog X.w) X.A (eval b X.env) (λ u s₂=>wpAny (model X.prog X.w) X.A (f v u) Q X.xe s₂) X.xe s₁) X.xe s:=by
 refine thn (ha pins s Z H _ I h) λ v s1 ⟨x,H1,I1,r1,q1⟩=>?_;refine thn (hb pins s1 Z H1 _ I1 q1) λ u s2 ⟨y,H2,I2,r2,q2⟩=>?_;exact hf v u s2 x y H2 I2 r1 r2 q2
theorem ZbY {op:Operator} {r:R2} (ho:OpR X (binaryOp op) r) (ha:PE X a ta) (hb:PE X b tb):PE X (.BinOp a op b pos) (tOp r ta tb):=by
 intro pins s Z H Q I h;exact wpAny_BinOp (ZcT ha hb I h λ v u s2 x y H2 I2 rx ry q=>ho pins s2 Z H2 x y v u Q I2 rx ry q)
theorem ZbI {op:UnaryOp} {r:V->Hp->VK->Prop} (ho:UnR X (unaryOp op) r) (ha:PE X a ta):PE X (.UnaryOp op a pos) (tUn r ta):=by
 intro pins s Z H Q I h;exact UnaryOp_ (thn (ha pins s Z H _ I h) λ v s1 ⟨x,H1,I1,r1,q1⟩=>ho pins s1 Z H1 x v Q I1 r1 q1)
theorem opI {f:Value->Value->Sem Value} {C:Int->Int->Prop} {g:Int->Int->Int}
  (rule:∀ (i j:Int) (t u:Tok) (s:Shared) (Q:Value->Shared->Prop) (E:Value->Shared->Prop),C i j->Q (.int (g i j) s.toks) { s with toks:=s.toks + 1 }->wpAny (model X.prog X.w) X.A (f (.int i t) (.int j u)) Q E s) :
  OpR X f (rI C λ i j=>.int (g i j)):=by
 intro pins s Z H x y v u Q I rx ry h;obtain ⟨i,j,rfl,rfl,hc,q⟩:=h;obtain ⟨t,rfl⟩:=rx;obtain ⟨t',rfl⟩:=ry;exact rule i j t t' s _ _ hc ⟨.int (g i j),H,I.tok _,⟨_,rfl⟩,q⟩
theorem Zdc {f:Value->Value->Sem Value} {g:Int->Int->Int}
  (rule:∀ (i j:Int) (t u:Tok) (s:Shared) (Q:Value->Shared->Prop) (E:Value->Shared->Prop),Q (.int (g i j) s.toks) { s with toks:=s.toks + 1 }->wpAny (model X.prog X.w) X.A (f (.int i t) (.int j u)) Q E s) :
  OpR X f (rI0 λ i j=>.int (g i j)):=by
 intro pins s Z H x y v u Q I rx ry h;obtain ⟨i,j,rfl,rfl,q⟩:=h;obtain ⟨t,rfl⟩:=rx;obtain ⟨t',rfl⟩:=ry;exact rule i j t t' s _ _ ⟨.int (g i j),H,I.tok _,⟨_,rfl⟩,q⟩
theorem Zbu {f:Value->Value->Sem Value} {g:Int->Int->Bool}
  (rule:∀ (i j:Int) (t u:Tok) (s:Shared) (Q:Value->Shared->Prop) (E:Value->Shared->Prop),Q (.bool (g i j)) s->wpAny (model X.prog X.w) X.A (f (.int i t) (.int j u)) Q E s) :
  OpR X f (rI0 λ i j=>.bl (g i j)):=by
 intro pins s Z H x y v u Q I rx ry h;obtain ⟨i,j,rfl,rfl,q⟩:=h;obtain ⟨t,rfl⟩:=rx;obtain ⟨t',rfl⟩:=ry;exact rule i j t t' s _ _ ⟨.bl (g i j),H,I,rfl,q⟩
def ZcN (i j:Int):Prop:=0 < j /\ j < 1073741824
def ZcD (i j:Int):Prop:=0 <= j /\ j <= 1000000 /\ i.natAbs < 2 ^ 64
def T3 (i j:Int):Prop:=(-(2 ^ 64) < i /\ i < 2 ^ 64) \/ (-(2 ^ 64) < j /\ j < 2 ^ 64)
theorem T3.ok {i j:Int} (h:T3 i j):IntMulOk i j:=by
 rcases h with ⟨h1,h2⟩ | ⟨h1,h2⟩
 ·exact .of_left (intBits_le_64 h1 h2)
 ·exact .of_right (intBits_le_64 h1 h2)
theorem Zap:OpR X (binaryOp .Add) (rI0 λ i j=>.int (i + j)):=Zdc λ _ _ _ _ _ _ _ q=>add_int q
theorem TN:OpR X (binaryOp .Sub) (rI0 λ i j=>.int (i - j)):=Zdc λ _ _ _ _ _ _ _ q=>sub_int q
theorem Tt:OpR X (binaryOp .Mult) (rI T3 λ i j=>.int (i * j)):=opI λ _ _ _ _ _ _ _ hc q=>mul_int q hc.ok
theorem NQ:OpR X (binaryOp .FloorDiv) (rI ZcN λ i j=>.int (i / j)):=opI λ i j _ _ _ _ _ hc q=>by
 have h1:(0:Int) < j:=hc.1;have h2:j < 1073741824:=hc.2;exact floordiv_int (by lia) (by rw [Int.fdiv_eq_ediv_of_nonneg i (by lia)]; exact q) (.inl (PyProof.noPylong_small (by lia)))
theorem RD:OpR X (binaryOp .Mod) (rI (λ _ j=>0 < j) λ i j=>.int (i % j)):=opI λ i j _ _ _ _ _ hc q=>by
 have h1:(0:Int) < j:=hc;exact mod_int' (by lia) (by rw [Int.fmod_eq_emod_of_nonneg i (by lia)]; exact q)
theorem TQ:OpR X (binaryOp .Pow) (rI ZcD λ i j=>.int (i ^ j.toNat)):=opI λ _ _ _ _ _ _ _ hc q=>pow_int_small hc.1 hc.2.1 hc.2.2 q
theorem unI {f:Value->Sem Value} {g:Int->Int}
  (rule:∀ (i:Int) (t:Tok) (s:Shared) (Q:Value->Shared->Prop) (E:Value->Shared->Prop),Q (.int (g i) s.toks) { s with toks:=s.toks + 1 }->wpAny (model X.prog X.w) X.A (f (.int i t)) Q E s) :
  UnR X f (rU λ i=>.int (g i)):=by
 intro pins s Z H x v Q I rx h;obtain ⟨i,rfl,q⟩:=h;obtain ⟨t,rfl⟩:=rx;exact rule i t s _ _ ⟨.int (g i),H,I.tok _,⟨_,rfl⟩,q⟩
theorem ZaW:UnR X (unaryOp .USub) (rU λ i=>.int (-i)):=unI λ _ _ _ _ _ q=>neg_int q
end
noncomputable def Zdj:V->V->Bool
 | .non,.non=>true | .non,.int _=>true | .int _,.non=>true | .non,.bl _=>true | .bl _,.non=>true | .non,.str _=>true | .str _,.non=>true
 | .int _,.int _=>true | .bl _,.bl _=>true | .str _,.str _=>true | .byt _,.byt _=>true
 | .int _,.str _=>true | .str _,.int _=>true | .bl _,.str _=>true | .str _,.bl _=>true
 | _,_=>false
def rEq:R2:=λ x y H Q=>Zdj x y = true /\ Q (.bl (decide (x = y))) H
def rNe:R2:=λ x y H Q=>Zdj x y = true /\ Q (.bl (!decide (x = y))) H
theorem DB {i j:Int}:decide (V.int i = V.int j) = (i == j):=by
 rw [Bool.eq_iff_iff];simp
theorem L8 {i j:Bool}:decide (V.bl i = V.bl j) = (i == j):=by
 rw [Bool.eq_iff_iff];simp
theorem XF {i j:Str}:decide (V.str i = V.str j) = (i == j):=by
 rw [Bool.eq_iff_iff];simp
theorem CJ {i j:Array UInt8}:decide (V.byt i = V.byt j) = (i.toList == j.toList):=by
 rw [Bool.eq_iff_iff];cases i;cases j;simp
section
variable {a b c:Expr} {ta tb tc:TE} {pos:Pos}
theorem ZF {Q:VK} {k k':Bool} (I:Inv X pins Z H s) (q:Q (.bl k) H) (e:k = k'):EP X pins Z Q (.bool k') s:=by
 subst e;exact ⟨.bl k,H,I,rfl,q⟩
theorem Zcf:OpR X (compareOp .Eq) rEq:=by
 intro pins s Z H x y v u Q I rx ry h;obtain ⟨hs,q⟩:=h;cases x with
 | non=>
  cases rx;cases y with
  | non=>cases ry; exact PySem.EqNone.eq_none_none (ZF I q (by simp))
  | bl j=>cases ry; exact PySem.EqNone.eq_none_bool (ZF I q (by simp))
  | int j=>obtain ⟨t',rfl⟩:=ry; exact PySem.EqNone.eq_none_int (ZF I q (by simp))
  | str j=>obtain ⟨t',rfl⟩:=ry; exact PySem.EqNone.eq_none_str (ZF I q (by simp))
  | _=>exact absurd (show false = true from hs) Bool.false_ne_true
 | bl i=>
  cases rx;cases y with
  | non=>cases ry; exact PySem.EqNone.eq_bool_none (ZF I q (by simp))
  | bl j=>cases ry; exact eq_bool (ZF I q L8)
  | str j=>obtain ⟨t',rfl⟩:=ry; exact PySem.EqMixed.eq_bool_str (ZF I q (by simp))
  | _=>exact absurd (show false = true from hs) Bool.false_ne_true
 | int i=>
  obtain ⟨t,rfl⟩:=rx;cases y with
  | non=>cases ry; exact PySem.EqNone.eq_int_none (ZF I q (by simp))
  | int j=>obtain ⟨t',rfl⟩:=ry; exact eq_int (ZF I q DB)
  | str j=>obtain ⟨t',rfl⟩:=ry; exact PySem.EqMixed.eq_int_str (ZF I q (by simp))
  | _=>exact absurd (show false = true from hs) Bool.false_ne_true
 | str i=>
  obtain ⟨t,rfl⟩:=rx;cases y with
  | non=>cases ry; exact PySem.EqNone.eq_str_none (ZF I q (by simp))
  | bl j=>cases ry; exact PySem.EqMixed.eq_str_bool (ZF I q (by simp))
  | int j=>obtain ⟨t',rfl⟩:=ry; exact PySem.EqMixed.eq_str_int (ZF I q (by simp))
  | str j=>obtain ⟨t',rfl⟩:=ry; exact eq_str (ZF I q XF)
  | _=>exact absurd (show false = true from hs) Bool.false_ne_true
 | byt i=>
  obtain ⟨t,rfl⟩:=rx;cases y with
  | byt j=>obtain ⟨t',rfl⟩:=ry; exact PySem.W.eq_bytes (ZF I q CJ)
  | _=>exact absurd (show false = true from hs) Bool.false_ne_true
 | _=>cases y <;> exact absurd (show false = true from hs) Bool.false_ne_true
theorem Zcp:OpR X (compareOp .NotEq) rNe:=by
 intro pins s Z H x y v u Q I rx ry h;obtain ⟨hs,q⟩:=h;cases x with
 | non=>
  cases rx;cases y with
  | non=>cases ry; exact PySem.EqNone.ne_none_none (ZF I q (by simp))
  | bl j=>cases ry; exact PySem.EqNone.ne_none_bool (ZF I q (by simp))
  | int j=>obtain ⟨t',rfl⟩:=ry; exact PySem.EqNone.ne_none_int (ZF I q (by simp))
  | str j=>obtain ⟨t',rfl⟩:=ry; exact PySem.EqNone.ne_none_str (ZF I q (by simp))
  | _=>exact absurd (show false = true from hs) Bool.false_ne_true
 | bl i=>
  cases rx;cases y with
  | non=>cases ry; exact PySem.EqNone.ne_bool_none (ZF I q (by simp))
  | bl j=>cases ry; exact ne_bool (ZF I q (congrArg not L8))
  | str j=>obtain ⟨t',rfl⟩:=ry; exact PySem.EqMixed.ne_bool_str (ZF I q (by simp))
  | _=>exact absurd (show false = true from hs) Bool.false_ne_true
 | int i=>
  obtain ⟨t,rfl⟩:=rx;cases y with
  | non=>cases ry; exact PySem.EqNone.ne_int_none (ZF I q (by simp))
  | int j=>obtain ⟨t',rfl⟩:=ry; exact ne_int (ZF I q (congrArg not DB))
  | str j=>obtain ⟨t',rfl⟩:=ry; exact PySem.EqMixed.ne_int_str (ZF I q (by simp))
  | _=>exact absurd (show false = true from hs) Bool.false_ne_true
 | str i=>
  obtain ⟨t,rfl⟩:=rx;cases y with
  | non=>cases ry; exact PySem.EqNone.ne_str_none (ZF I q (by simp))
  | bl j=>cases ry; exact PySem.EqMixed.ne_str_bool (ZF I q (by simp))
  | int j=>obtain ⟨t',rfl⟩:=ry; exact PySem.EqMixed.ne_str_int (ZF I q (by simp))
  | str j=>obtain ⟨t',rfl⟩:=ry; exact ne_str (ZF I q (congrArg not XF))
  | _=>exact absurd (show false = true from hs) Bool.false_ne_true
 | byt i=>
  obtain ⟨t,rfl⟩:=rx;cases y with
  | byt j=>obtain ⟨t',rfl⟩:=ry; exact PySem.W.ne_bytes (ZF I q (congrArg not CJ))
  | _=>exact absurd (show false = true from hs) Bool.false_ne_true
 | _=>cases y <;> exact absurd (show false = true from hs) Bool.false_ne_true
theorem Zb4:OpR X (compareOp .Lt) (rI0 λ i j=>.bl (decide (i < j))):=Zbu λ _ _ _ _ _ _ _ q=>lt_int q
theorem Zb3:OpR X (compareOp .LtE) (rI0 λ i j=>.bl (decide (i <= j))):=Zbu λ _ _ _ _ _ _ _ q=>le_int q
theorem ZbE:OpR X (compareOp .Gt) (rI0 λ i j=>.bl (decide (j < i))):=Zbu λ _ _ _ _ _ _ _ q=>gt_int q
theorem Zcy:OpR X (compareOp .GtE) (rI0 λ i j=>.bl (decide (j <= i))):=Zbu λ _ _ _ _ _ _ _ q=>ge_int q
theorem LU (b:Expr) {op:CmpOp} (h:autoParam (op ≠ .In) zz1._auto_1) (h2:autoParam (op ≠ .NotIn) zz1._auto_1):behindInMarks op b = false:=by
 have e1:(op == CmpOp.In) = false:=by cases op <;> first | rfl | exact absurd rfl h
 have e2:(op == CmpOp.NotIn) = false:=by cases op <;> first | rfl | exact absurd rfl h2
 cases b <;> simp [behindInMarks,e1,e2]
theorem PU {op:CmpOp} {r:R2} (ho:OpR X (compareOp op) r) (ha:PE X a ta) (hb:PE X b tb) (hm:behindInMarks op b = false):PE X (.Compare a [op] [b] pos) (tOp r ta tb):=by
 intro pins s Z H Q I h;exact wpAny_Compare1 (ZcT ha hb I h λ v u s2 x y H2 I2 rx ry q=>ho pins s2 Z H2 x y v u Q I2 rx ry q) hm
def R7 (t:TE):TT:=λ Z H Q=>t Z H λ x H'=>∃ k,x = .bl k /\ Q k H'
theorem Nm {op:CmpOp} {r:R2} (ho:OpR X (compareOp op) r) (ha:PE X a ta) (hb:PE X b tb) (hm:behindInMarks op b = false):PT X (.Compare a [op] [b] pos) (R7 (tOp r ta tb)):=by
 intro pins s Z H Q I h
 refine wpAny_isTrue_Compare1 (thn (ha pins s Z H _ I h) λ v s1 ⟨x,H1,I1,r1,q1⟩=>thn (hb pins s1 Z H1 _ I1 q1) λ u s2 ⟨y,H2,I2,r2,q2⟩=>
  thn (ho pins s2 Z H2 x y v u _ I2 r1 r2 q2) λ c s3 ⟨z,H3,I3,r3,k,e,q3⟩=>?_) hm
 subst e;cases r3;exact wpAny_truthy_bool ⟨H3,I3,q3⟩
def Ml (r r':R2) (ta tb tc:TE):TE:=λ Z H Q=>ta Z H λ x H1=>tb Z H1 λ y H2=>r x y H2 λ z H3=>∃ k,z = .bl k /\
 (if k = true then tc Z H3 λ w' H4=>r' y w' H4 Q else Q (.bl false) H3)
theorem Ft {op op':CmpOp} {r r':R2} (ho:OpR X (compareOp op) r) (ho':OpR X (compareOp op') r') (ha:PE X a ta) (hb:PE X b tb) (hc:PE X c tc)
  (hm:autoParam (lastMarks [op,op'] [b,c] = false) zz4._auto_1):PT X (.Compare a [op,op'] [b,c] pos) (R7 (Ml r r' ta tb tc)):=by
 intro pins s Z H Q I h
 refine isTrue_chain (thn (ha pins s Z H _ I h) λ v s1 ⟨x,H1,I1,r1,q1⟩=>test_link (thn (hb pins s1 Z H1 _ I1 q1) λ u s2 ⟨y,H2,I2,r2,q2⟩=>
  thn (ho pins s2 Z H2 x y v u _ I2 r1 r2 q2) λ d s3 ⟨z,H3,I3,r3,k,e,q3⟩=>?_)) hm
 subst e;cases r3;refine wpAny_truthy_bool ?_;cases k with
 | false=>
  obtain ⟨k',e',q'⟩:=q3;cases e';exact ite_ff ⟨H3,I3,q'⟩
 | true=>
  refine ite_tt (test_last (thn (hc pins s3 Z H3 _ I3 q3) λ w' s4 ⟨z',H4,I4,r4,q4⟩=>thn (ho' pins s4 Z H4 y z' u w' _ I4 r2 r4 q4) λ d' s5 ⟨z2,H5,I5,r5,k2,e2,q5⟩=>?_));subst e2;cases r5;exact wpAny_truthy_bool ⟨H5,I5,q5⟩
def Zda (K:Fk) (x:V) (H:Hp) (k:Bool):Prop:=
 match x with
 | .non=>k = false
 | .bl b=>k = b
 | .int i=>k = (i != 0)
 | .str y=>y.length <= sizeLine /\ k = ((y.length:Int) != 0)
 | .byt y=>y.size <= sizeLine /\ k = ((y.size:Int) != 0)
 | .ref p=>(∃ xs,SqL K H p xs /\ k = !xs.isEmpty) \/ (∃ xs,SqT K H p xs /\ k = !xs.isEmpty) \/ ∃ kvs,H p = some (.dK kvs) /\ k = !kvs.isEmpty
 | _=>False
theorem G0 {κ:Type} {kvs:List (κ × V)} {vs:List (κ × Value)} (r:KV kvs vs):(!vs.isEmpty) = !kvs.isEmpty:=by
 cases r <;> rfl
theorem YM {its:List Value} (r:Vals xs its):(!its.toArray.isEmpty) = !xs.isEmpty:=by
 cases r <;> simp
theorem YR:(sizeLine:Nat) < 2 ^ 63:=by rw [sizeLine_eq]; decide
theorem Zai:Zd2 X (λ x H Q=>∃ k,Zda X.K x H k /\ Q k H):=by
 intro pins s Z H x v Q I rx h;obtain ⟨k,e,q⟩:=h;have hl:=YR;have hs:sizeLine = 16777216:=sizeLine_eq;cases x with
 | non=>
  cases rx;have e':k = false:=e;subst e';exact truthy_none ⟨H,I,q⟩
 | bl b=>
  cases rx;have e':k = b:=e;subst e';exact wpAny_truthy_bool ⟨H,I,q⟩
 | int i=>
  obtain ⟨t,rfl⟩:=rx;have e':k = (i != 0):=e;subst e';exact PySem.P.truthy_int ⟨H,I,q⟩
 | str y=>
  obtain ⟨t,rfl⟩:=rx;obtain ⟨hy,e'⟩:y.length <= sizeLine /\ k = ((y.length:Int) != 0):=e;subst e';exact PySem.P.truthy_str (by lia) ⟨H,I.tok _,q⟩
 | byt y=>
  obtain ⟨t,rfl⟩:=rx;obtain ⟨hy,e'⟩:y.size <= sizeLine /\ k = ((y.size:Int) != 0):=e;subst e';exact PySem.W.truthy_bytes (by lia) ⟨H,I.tok _,q⟩
 | ref p=>
  cases rx;have e':(∃ xs,SqL X.K H p xs /\ k = !xs.isEmpty) \/ (∃ xs,SqT X.K H p xs /\ k = !xs.isEmpty) \/ ∃ kvs,H p = some (.dK kvs) /\ k = !kvs.isEmpty:=e
  rcases e' with ⟨xs,hx,e'⟩ | ⟨xs,hx,e'⟩ | ⟨kvs,hx,e'⟩
  ·subst e';obtain ⟨its,r,pl,hz⟩:=I.list hx;have hlen:=r.length;exact wpAny_truthy_list pl.isList (by simp only [List.size_toArray]; lia) ⟨H,I.tok _,by rw [YM r]; exact q⟩
  ·subst e';obtain ⟨its,r,pl,hz⟩:=I.tuple hx;have hlen:=r.length;exact truthy_tuple pl (by simp only [List.size_toArray]; lia) ⟨H,I.tok _,by rw [YM r]; exact q⟩
  ·subst e';obtain ⟨hz,hS,vs,r,m⟩:kvs.length <= sizeLine /\ (p == sysModules) = false /\ ∃ vs,KV kvs vs /\ s.heap.DictOf (ZT X.prog X.w) p vs:=I.hok p _ hx;have hlen:kvs.length = vs.length:=Paired.length r;exact wpAny_truthy_dict hS m (by lia) ⟨H,I.tok _,by rw [G0 r]; exact q⟩
 | _=>exact (show False from e).elim
theorem FL (ha:PE X a ta) (he:∀ whole,isTrue a X.env whole = (do let v <- whole; standAt a.pos; holding [v] (truthy v))) :
  PT X a (λ Z H Q=>ta Z H λ x H'=>∃ k,Zda X.K x H' k /\ Q k H'):=by
 intro pins s Z H Q I h;exact isTrue_plain (thn (ha pins s Z H _ I h) λ v s1 ⟨x,H1,I1,r1,q1⟩=>Zai pins s1 Z H1 x v Q I1 r1 q1) (he _)
theorem vals1 {x:V} (r:Vals [x] us):∃ u,us = [u] /\ RelV x u:=by
 cases r with
 | cons r1 r2=>cases r2; exact ⟨_,rfl,r1⟩
theorem vals2 {x y:V} (r:Vals [x,y] us):∃ u w',us = [u,w'] /\ RelV x u /\ RelV y w':=by
 cases r with
 | cons r1 r2=>
  cases r2 with
  | cons r3 r4=>cases r4; exact ⟨_,_,rfl,r1,r3⟩
theorem Li:Q6 X (.builtin "abs") (λ xs H Q=>∃ i,xs = [.int i] /\ Q (.int (if i < 0 then -i else i)) H):=by
 intro pins s Z H xs us Q I r h;obtain ⟨i,rfl,q⟩:=h;obtain ⟨u,rfl,t,rfl⟩:=vals1 r;exact call_abs_int λ u tk=>⟨.int (if i < 0 then -i else i),H,I.tok _,⟨_,rfl⟩,q⟩
theorem DP (hc:X.calm = true):Q6 X (.builtin "max") (λ xs H Q=>∃ i j,xs = [.int i,.int j] /\ Q (.int (if j > i then j else i)) H):=by
 intro pins s Z H xs us Q I r h;obtain ⟨i,j,rfl,q⟩:=h;obtain ⟨u,w',rfl,⟨t,rfl⟩,⟨t',rfl⟩⟩:=vals2 r;refine max_two_ints (I.ok.hd hc) λ h' tk k=>⟨_,H,I.kept k,?_,q⟩
 by_cases hj:j > i
 ·rw [if_pos hj,if_pos hj]; exact ⟨_,rfl⟩
 ·rw [if_neg hj,if_neg hj]; exact ⟨_,rfl⟩
theorem C7 (hc:X.calm = true):Q6 X (.builtin "min") (λ xs H Q=>∃ i j,xs = [.int i,.int j] /\ Q (.int (if j < i then j else i)) H):=by
 intro pins s Z H xs us Q I r h;obtain ⟨i,j,rfl,q⟩:=h;obtain ⟨u,w',rfl,⟨t,rfl⟩,⟨t',rfl⟩⟩:=vals2 r;refine min_two_ints (I.ok.hd hc) λ h' tk k=>⟨_,H,I.kept k,?_,q⟩
 by_cases hj:j < i
 ·rw [if_pos hj,if_pos hj]; exact ⟨_,rfl⟩
 ·rw [if_neg hj,if_neg hj]; exact ⟨_,rfl⟩
theorem Dx:Q6 X (.type "int") (λ xs H Q=>(∃ i,xs = [.int i] /\ Q (.int i) H) \/ ∃ k,xs = [.bl k] /\ Q (.int (if k then 1 else 0)) H):=by
 intro pins s Z H xs us Q I r h
 rcases h with ⟨i,rfl,q⟩ | ⟨k,rfl,q⟩
 ·obtain ⟨u,rfl,t,rfl⟩:=vals1 r;exact call_int_int ⟨.int i,H,I,⟨_,rfl⟩,q⟩
 ·obtain ⟨u,rfl,r1⟩:=vals1 r;cases r1;exact call_int_bool ⟨.int (if k then 1 else 0),H,I.tok _,⟨_,rfl⟩,q⟩
end
structure Zd8 (h:Heap) (x dx C:Addr) (mA:Str->Option Value):Prop where
 obj:h.get? x = some (PySem.W.instObj C dx)
 ns:h.Ns1 dx mA
 ne:dx ≠ x
section
variable {prog:Program} {E:Value->Shared->Prop} {x dx C:Addr} {mA:Str->Option Value} {name:Str} {v:Value}
end
theorem EJ.some_of {o:Option Value} (r:EJ (some v) o):∃ u,o = some u /\ RelV v u:=by
 cases o with
 | none=>exact (show False from r).elim
 | some u=>exact ⟨u,rfl,r⟩
section
variable {C dx:Addr} {fs fs':List (Str × V)}
end
structure Cls (K:Fk) (C:Addr):Prop where
 pg:PySem.W.plainGet K C Str.empty = true
 hd:PySem.W.hasDictIn K C = true
 po:PySem.W.plainOver K C = true
 sa:PySem.W.findIn K (.ref C) "__setattr__" = some (some (.builtin "object.__setattr__"))
theorem Cls.get {C:Addr} (c:Cls K C) (f:Str):PySem.W.plainGet K C f = true:=c.pg
structure Con (K:Fk) (C:Addr) (f:Str) (v:V) (u:Value):Prop where
 at_:PySem.W.findIn K (.ref C) f = some (some u)
 rel:RelV v u
 get:PySem.W.specialIn K u "__get__" = some none
 cp:PySem.W.copiedNames.contains f = false
structure Meth (K:Fk) (C:Addr) (m:Str) (f:Addr):Prop where
 at_:PySem.W.findIn K (.ref C) m = some (some (.ref f))
 fn:PySem.W.isFn K (.ref f) = true
 kp:PySem.W.keepIn K (.ref f) = true
section
variable {C dx:Addr} {fs:List (Str × V)} {f:Str} {E:Value->Shared->Prop}
end
section
variable {o value:Expr} {f:Str} {pos tpos:Pos} {ta tv:TE}
end
section
variable {E:Value->Shared->Prop} {c:Value} {b:Bool}
inductive DX (K:Fk) (H:Hp):V->Value->Prop where
 | non:DX K H .non (.type "NoneType")
 | bl (x:Bool):DX K H (.bl x) (.type "bool")
 | int (i:Int):DX K H (.int i) (.type "int")
 | str (x:Str):DX K H (.str x) (.type "str")
 | flt (x:UInt64):DX K H (.flt x) (.type "float")
 | lst {a:Addr} {xs:List V} (e:H a = some (.lst xs)):DX K H (.ref a) (.type "list")
 | frz {a:Addr} {o:Obj} {xs:List V} (e:H a = some (.frz o (.lst xs))):DX K H (.ref a) (.type "list")
 | tup {a:Addr} {xs:List V} (e:H a = some (.tup xs)):DX K H (.ref a) (.type "tuple")
 | dK {a:Addr} {kvs:List (Key × V)} (e:H a = some (.dK kvs)):DX K H (.ref a) (.type "dict")
 | dT {a:Addr} {kvs:List (List Key × V)} (e:H a = some (.dT kvs)):DX K H (.ref a) (.type "dict")
 | ins {a C dx:Addr} {fs:List (Str × V)} (e:H a = some (.ins C dx fs)) (cl:Cls K C) (ha:PySem.W.findIn K (.ref C) "__class__" = some (some (.builtin "object.__class__")))
   (hn:PySem.W.specialIn K (.builtin "object.__class__") "__get__" = some (some (.builtin "getset_descriptor.__get__"))) (htk:PySem.W.takesIn K (.builtin "object.__class__") = some true)
   (hm:PySem.W.mroIn K C (.type "object") = some true):DX K H (.ref a) (.ref C)
end
structure Vc (k:Nat) (A:Around):Prop where
 hd:A.handled = none
 dp:A.depth + 3 * k + 5 < recursionLimit
 un:A.units + 16 * k + 200 < cLine
 gd:A.guards = some []
theorem Vc.mono {k:Nat} (r:Vc k A) (h:j <= k):Vc j A:=⟨r.hd,by have:=r.dp; lia,by have:=r.un; lia,r.gd⟩
theorem Vc.deeper {k:Nat} (r:Vc (k + 1) A) (env:Env):Vc k (A.deeper env):=
 ⟨r.hd,by have:=r.dp; show A.depth + 1 + 3 * k + 5 < _; lia,by have:=r.un; show A.units + 3 + 16 * k + 200 < _; lia,r.gd⟩
theorem Vc.depth {k:Nat} (r:Vc k A):A.depth < recursionLimit:=by have:=r.dp; lia
theorem Vc.units {k:Nat} (r:Vc k A):A.units + 64 < cLine:=by have:=r.un; lia
def Zd7:TA:=λ _ H Q=>Q [] H
def Zb7 (ta:TE) (tr:TA):TA:=λ Z H Q=>ta Z H λ x H1=>tr Z H1 λ xs H2=>Q (x :: xs) H2
section
variable {es:List Expr} {te:TE} {t:TA} {pos:Pos}
theorem UN:PA X [] Zd7:=λ _ _ _ _ H Q I h=>Calls.spliced_nil ⟨[],H,I,.nil,h⟩
theorem Xd (ha:PE X e te) (hr:PA X es t) (hs:autoParam (starEach (e :: es) X.env = (false,eval e X.env) :: starEach es X.env) zz3._auto_1):PA X (e :: es) (Zb7 te t):=by
 intro pos pins s Z H Q I h;rw [hs];show wpAny _ _ (spliced ((false,eval e X.env) :: backTo pos (starEach es X.env))) _ _ s;refine Calls.spliced_cons (thn (ha pins s Z H _ I h) λ u s1 ⟨x,H1,I1,r1,q1⟩=>?_);exact thn (hr pos pins s1 Z H1 _ I1 q1) λ us s2 ⟨xs,H2,I2,r2,q2⟩=>⟨x :: xs,H2,I2,.cons r1 r2,q2⟩
def ZdD (t:TA):TE:=λ Z H Q=>t Z H λ xs H1=>xs.length <= sizeLine /\ ∀ p,H1 p = none->Q (.ref p) (upd H1 p (.tup xs))
def ZdY (t:TA):TE:=λ Z H Q=>t Z H λ xs H1=>xs.length <= sizeLine /\ ∀ p,H1 p = none->Q (.ref p) (upd H1 p (.lst xs))
theorem ML {x1} (h:PA X es t):PE X (.Tuple es x1 pos) (ZdD t):=by
 intro pins s Z H Q I hq;refine wpAny_Tuple_spliced (thn (h pos pins s Z H _ I hq) λ us s1 ⟨xs,H1,I1,r,z,q⟩=>⟨by rw [<- r.length]; exact z,?_⟩);have hf:H1 s1.heap.objs.size = none:=I1.hok.fresh (Nat.le_refl _);refine ⟨.ref s1.heap.objs.size,upd H1 s1.heap.objs.size (.tup xs),I1.laid (t':=s1.toks) (λ b u e=>Heap.get?_push_of_some _ e) (Nat.le_refl _) ?_,rfl,q _ hf⟩;exact ⟨z,us,r,⟨_,Heap.get?_push_size _ rfl,rfl,_,rfl⟩⟩
theorem CS (h:PA X es t):PE X (.List es pos) (ZdY t):=by
 intro pins s Z H Q I hq;refine wpAny_List_spliced (thn (h pos pins s Z H _ I hq) λ us s1 ⟨xs,H1,I1,r,z,q⟩=>⟨by rw [<- r.length]; exact z,?_⟩);have hf:H1 s1.heap.objs.size = none:=I1.hok.fresh (Nat.le_refl _);refine ⟨.ref s1.heap.objs.size,upd H1 s1.heap.objs.size (.lst xs),I1.laid (t':=s1.toks) (λ b u e=>Heap.get?_push_of_some _ e) (Nat.le_refl _) ?_,rfl,q _ hf⟩;exact ⟨z,us,0,r,Heap.get?_push_size _ rfl⟩
end
abbrev Sp:=List V->Hp->VK->XK->Prop
abbrev CXT:=List Env->Hp->Shared->XK->Value->Shared->Prop
structure Zby (P:Program) (w:World) (K:Fk) (mg:Str->Option Value) (base:Heap) (A:Around) (outer:List Env) (s:Shared) (H:Hp):Prop where
 frames:A.frames = some outer
 mod:Mod K mg base
 bs:∀ b o,base.get? b = some o->s.heap.get? b = some o /\ H b = none
 bsz:base.objs.size <= s.heap.objs.size
 Bx:s.heap.FunFrames base outer
 frf:∀ b ∈ frs outer,H b = none
 hok:HOk P w H s.heap
 bare:AllBare s.gens
def CE (outer:List Env) (P:Program) (w:World) (H:Hp) (s:Shared) (Q:VK) (u:Value) (s':Shared):Prop:=
 ∃ v H',s'.os = s.os /\ AllBare s'.gens /\ Un (frs outer) [] H H' s.heap s'.heap /\ HOk P w H' s'.heap /\ RelV v u /\ Q v H'
def CR (CX:CXT) (outer:List Env) (P:Program) (w:World) (H:Hp) (s:Shared) (Q:VK) (E:XK) (r:Result) (s':Shared):Prop:=
 match r with
 | .ok (.ret u)=>CE outer P w H s Q u s'
 | .ok _=>False
 | .error e=>CX outer H s E e s'
structure Qh (P:Program) (w:World) (K:Fk) (mg:Str->Option Value) (base:Heap) (CX:CXT) (k:Nat) (f:Addr) (fd:FuncData) (ps:List Str) (sp:Sp):Prop where
 len:∀ vs H Q E,sp vs H Q E->vs.length = ps.length
 run:∀ (A:Around) (outer:List Env) (s:Shared) (H:Hp) (args:Args) (us:List Value) (vs:List V) (Q:VK) (E:XK),Vc k A->Zby P w K mg base A outer s H->BindsTo s fd args (ps.zip us)->Vals vs us->sp vs H Q E ->
  codeAny (model P w) A (.call (.ref f) args) (CR CX outer P w H s Q E) s
theorem Qh.imp {base:Heap} {CX:CXT} {k:Nat} {sp sp':Sp} (F:Qh P w K mg base CX k f fd ps sp)
  (h:∀ vs H Q E,sp' vs H Q E->sp vs H Q E):Qh P w K mg base CX k f fd ps sp':=
 ⟨λ vs H Q E q=>F.len vs H Q E (h _ _ _ _ q),λ A outer s H args us vs Q E hr he hb hv hs=>F.run A outer s H args us vs Q E hr he hb hv (h _ _ _ _ hs)⟩
section
variable {s':Shared}
theorem Inv.ZdU (I:Inv X pins Z H s):Zby X.prog X.w X.K X.mg X.base X.A X.stack s H:=
 ⟨I.ok.frames,I.ok.mod,I.bs,Nat.le_trans I.ok.bsz I.sz,I.stack,I.DQ,I.hok,I.bare⟩
theorem Inv.after {Q:VK} {u:Value} (I:Inv X pins Z H s) (h:CE X.stack X.prog X.w H s Q u s'):EP X pins Z Q u s':=by
 obtain ⟨v,H',os,bare,un,hok,r,q⟩:=h;obtain ⟨hh,g,d,t,os'⟩:=s';obtain rfl:os' = s.os:=os;exact ⟨v,H',I.call (h':=hh) (g':=g) (d':=d) (t':=t) (ch:=[]) un hok bare (λ b z=>absurd z (by simp)),r,q⟩
end
def Zce (sp:Sp) (dvs:List V) (E:XK) (t:TA):TE:=λ Z H Q=>t Z H λ vs H1=>sp (vs ++ dvs) H1 Q E
def Binds (K:Fk) (fd:FuncData) (ps:List Str) (ds:List Value):Prop:=
 ∀ (s:Shared) (us:List Value),K.In s.heap->(us ++ ds).length = ps.length->BindsTo s fd ⟨us,[]⟩ (ps.zip (us ++ ds))
theorem Binds.all (h:∀ us:List Value,us.length = ps.length->bindArgs fd ⟨us,[]⟩ = pure (ps.zip us)):Binds K fd ps []:=λ s us _ hl=>by
 rw [List.append_nil] at hl ⊢;exact .of_eq (h us hl)
def Passes (CX:CXT) (X:Cx) (E:XK):Prop:=∀ (pins:List (Addr × Obj)) (Z:St) (H:Hp) (s:Shared) (e:Value) (s':Shared),Inv X pins Z H s->CX X.stack H s E e s'->X.xe e s'
section
variable {CX:CXT} {k:Nat} {C:Addr} {sp:Sp} {dvs:List V} {ds:List Value} {E:XK} {m:Str} {p pos apos:Pos} {o:Expr} {es:List Expr} {ta:TE} {t:TA}
theorem SH {pins:List (Addr × Obj)} {Z:St} {H:Hp} {s:Shared} {Q:VK} {us:List Value} {vs:List V} (F:Qh X.prog X.w X.K X.mg X.base CX k f fd ps sp) (hr:Vc k X.A) (hb:Binds X.K fd ps ds) (hd:Vals dvs ds) (hx:Passes CX X E)
  (I:Inv X pins Z H s) (r:Vals vs us) (h:sp (vs ++ dvs) H Q E):wpAny (model X.prog X.w) X.A (call (.ref f) us) (EP X pins Z Q) X.xe s:=by
 have r2:Vals (vs ++ dvs) (us ++ ds):=r.append hd;have hl:(us ++ ds).length = ps.length:=by rw [<- r2.length]; exact F.len _ _ _ _ h
 refine wpAny_call (codeAny_mono (F.run X.A X.stack s H ⟨us,[]⟩ (us ++ ds) (vs ++ dvs) Q E hr I.ZdU (hb s us I.kIn hl) r2 h) λ r s' hq=>?_);cases r with
 | error e=>exact hx pins Z H s e s' I hq
 | ok fl=>
  cases fl with
  | ret u=>exact I.after hq
  | next=>exact False.elim hq
  | brk=>exact False.elim hq
  | cont=>exact False.elim hq
theorem Rj (F:Qh X.prog X.w X.K X.mg X.base CX k f fd ps sp) (hr:Vc k X.A) (hg:Gl X x) (hm:X.mg x = some (.ref f)) (hk:PySem.W.keepIn X.K (.ref f) = true) (hb:Binds X.K fd ps ds) (hd:Vals dvs ds) (hx:Passes CX X E)
  (ha:PA X (e :: es) t) (hdb:autoParam ((x == ("__debug__" : Str)) = false) zz1._auto_1) (he:autoParam (starEach (e :: es) X.env = (false,eval e X.env) :: starEach es X.env) zz3._auto_1) (hpl:autoParam ((backTo pos (starEach es X.env)).any (·.1) = false) zz3._auto_1) :
  PE X (.Call (.Name x p) (e :: es) [] pos) (Zce sp dvs E t):=by
 intro pins s Z H Q I h;refine wpAny_Call_Name_kw (NY I hg hm ?_ hdb);refine PySem.W.callWith_K (h₀:=X.base) I.ok.mod.kin hk (thn (ha pos pins s Z H _ I h) λ us s1 ⟨vs,H1,I1,r,q⟩=>⟨I1.kIn,?_⟩) he hpl;exact SH F hr hb hd hx I1 r q
structure Mk (K:Fk) (C f:Addr):Prop where
 makes:PySem.W.makesIn K C = true
 init:PySem.W.findIn K (.ref C) "__init__" = some (some (.ref f))
 fn:PySem.W.isFn K (.ref f) = true
 kp:PySem.W.keepIn K (.ref C) = true
end
section
variable {CX:CXT} {k:Nat} {C:Addr} {ks:List Str} {sp:Sp} {E:XK} {m:Str} {p pos apos kpos:Pos} {o:Expr} {es:List Expr} {kws:List Keyword} {te ta:TE} {t tk:TA} {nm:Option Str}
structure ZcY (K:Fk) (fd:FuncData) (ps ks:List Str) (g:List Value->List Value->List Value) (gV:List V->List V->List V):Prop where
 to:∀ (s:Shared) (us ws:List Value),K.In s.heap->(g us ws).length = ps.length->BindsTo s fd ⟨us,ks.zip ws⟩ (ps.zip (g us ws))
 rel:∀ {vs:List V} {us:List Value} {zs:List V} {ws:List Value},Vals vs us->Vals zs ws->Vals (gV vs zs) (g us ws)
variable {g:List Value->List Value->List Value} {gV:List V->List V->List V}
end
structure Zn (N P:List Str) (sc:Scope):Prop where
 kind:sc.kind = .function
 co:sc.isCoroutine = false
 gen:sc.isGenerator = false
 nd:N.Nodup
 pre:N.take P.length = P
 par:∀ x ∈ P,sc.names.lookup x = some .local \/ sc.names.lookup x = some .cell
 nofree:∀ y ∈ sc.names,y.2 ≠ .free
theorem KL {kindOf:Str->Option NameKind}:∀ {binds:List (Str × Value)} {m:Str->Option Value},(∀ v,(x,v) ∉ binds)->bindL kindOf binds m x = m x
 | [],_,_=>rfl
 | (n,v) :: r,m,h=>by
  unfold bindL;rw [KL λ w hw=>h w (List.mem_cons_of_mem _ hw)]
  split
  ·have:x ≠ n:=by rintro rfl; exact h v List.mem_cons_self
   simp [this]
  ·rfl
theorem Wa {kindOf:Str->Option NameKind}:∀ {binds:List (Str × Value)} {m:Str->Option Value},(∀ v,(x,v) ∉ binds)->bindC kindOf binds m x = m x
 | [],_,_=>rfl
 | (n,v) :: r,m,h=>by
  unfold bindC;rw [Wa λ w hw=>h w (List.mem_cons_of_mem _ hw)]
  split
  ·rfl
  ·have:x ≠ n:=by rintro rfl; exact h v List.mem_cons_self
   simp [this]
theorem Wc {kindOf:Str->Option NameKind} {v:Value}:∀ {P:List Str} {vs:List Value} {i:Nat} {m:Str->Option Value},P.Nodup->P[i]? = some x->vs[i]? = some v->kindOf x = some .local ->
  bindL kindOf (P.zip vs) m x = some v
 | [],_,_,_,_,h,_,_=>by simp at h
 | _ :: _,[],_,_,_,_,h,_=>by simp at h
 | p :: P,w :: vs,0,m,nd,h1,h2,hk=>by
  simp at h1 h2; subst h1; subst h2;show bindL kindOf ((p,w) :: P.zip vs) m p = _;unfold bindL;rw [KL λ v hv=>(List.nodup_cons.mp nd).1 (List.of_mem_zip hv).1,if_pos hk];simp
 | p :: P,w :: vs,i + 1,m,nd,h1,h2,hk=>by
  show bindL kindOf ((p,w) :: P.zip vs) m x = _;unfold bindL;exact Wc (i:=i) (List.nodup_cons.mp nd).2 (by simpa using h1) (by simpa using h2) hk
theorem KQ {kindOf:Str->Option NameKind} {v:Value}:∀ {P:List Str} {vs:List Value} {i:Nat} {m:Str->Option Value},P.Nodup->P[i]? = some x->vs[i]? = some v->kindOf x ≠ some .local ->
  bindC kindOf (P.zip vs) m x = some v
 | [],_,_,_,_,h,_,_=>by simp at h
 | _ :: _,[],_,_,_,_,h,_=>by simp at h
 | p :: P,w :: vs,0,m,nd,h1,h2,hk=>by
  simp at h1 h2; subst h1; subst h2;show bindC kindOf ((p,w) :: P.zip vs) m p = _;unfold bindC;rw [Wa λ v hv=>(List.nodup_cons.mp nd).1 (List.of_mem_zip hv).1,if_neg hk];simp
 | p :: P,w :: vs,i + 1,m,nd,h1,h2,hk=>by
  show bindC kindOf ((p,w) :: P.zip vs) m x = _;unfold bindC;exact KQ (i:=i) (List.nodup_cons.mp nd).2 (by simpa using h1) (by simpa using h2) hk
noncomputable def start (N:List Str) (vs:List V):St:=vs.map some ++ List.replicate (N.length - vs.length) none
noncomputable def Nb (CX:CXT) (P:Program) (w:World) (K:Fk) (mg:Str->Option Value) (base:Heap) (N:List Str) (qual:Str) (scope:Scope) (f:Addr) (cd:Value) (A:Around) (outer:List Env) (s:Shared) (H:Hp) (E:XK):Cx where
 prog:=P
 w:=w
 K:=K
 mg:=mg
 base:=base
 A:=A.deeper (envOfC qual scope s.heap.objs.size f cd)
 N:=N
 s₀:=s
 H₀:=H
 env:=envOfC qual scope s.heap.objs.size f cd
 outer:=outer
 stack:=envOfC qual scope s.heap.objs.size f cd :: outer
 ex:=[]
 calm:=true
 fn:=λ _=>true
 pn:=[]
 xe:=λ e s'=>wpAny (model P w) (A.deeper (envOfC qual scope s.heap.objs.size f cd)) (leaving (envOfC qual scope s.heap.objs.size f cd) e) (λ _ s''=>CX outer H s E e s'') (λ e' s''=>CX outer H s E e' s'') s'
theorem Uv {sc:Scope} (h:sc.names.lookup x = some .cell):∃ c,(cellsFrom n sc.names []).lookup x = some c:=by
 have q:=PySem.W.cellsFrom_some sc.names n [] (.inl h);exact Option.isSome_iff_exists.mp q
theorem D7 {CX:CXT} {P:Program} {w:World} {K:Fk} {mg:Str->Option Value} {base:Heap} {N ps:List Str} {qual:Str} {scope:Scope} {f:Addr} {cd:Value} {A:Around} {outer:List Env} {s s1:Shared} {H:Hp} {E:XK} {us:List Value} {vs:List V}
  (S:Zn N ps scope) (hd:A.handled = none) (e0:Zby P w K mg base A outer s H) (hl:vs.length = ps.length) (r:Vals vs us)
  (x:InCallC s s.heap.objs.size (bindL (envOfC qual scope s.heap.objs.size f cd).kindOf (ps.zip us) λ _=>none) (cellsFrom (s.heap.objs.size + 1) scope.names []) (bindC (envOfC qual scope s.heap.objs.size f cd).kindOf (ps.zip us) λ _=>none) s1) :
  Inv (Nb CX P w K mg base N qual scope f cd A outer s H E) [] (start N vs) H s1:=by
 have hpl:ps.length <= N.length:=by have:=congrArg List.length S.pre; rw [List.length_take] at this; lia
 obtain ⟨h1,tk,rfl,hk⟩:=x.done;have noA:∀ b:Addr,b ∉ (Nb CX P w K mg base N qual scope f cd A outer s H E).ex:=λ b z=>absurd (show b ∈ ([]:List Addr) from z) (by simp)
 refine ⟨⟨e0.mod,S.kind,rfl,rfl,Nat.le_refl _,λ y z c h1 h2=>?_,λ y hy=>?_,λ y c _ h=>?_,λ _=>hd,Around.frames_deeper e0.frames,.inr ⟨rfl,rfl⟩,λ b z=>absurd z (noA b),e0.bs,e0.bsz,λ b _ _=>noA b,λ b z=>absurd z (noA b),e0.Bx,e0.frf⟩,
  rfl,e0.bare,Un.kept hk,⟨_,x.toInCall.ns,λ i y v h1 h2 h3=>?_⟩,λ y c h=>⟨_,x.cell y c h⟩,e0.hok.fresh (Nat.le_refl _),λ y c h=>?_,λ p hp=>absurd (show p ∈ ([]:List (Addr × Obj)) from hp) (by simp),e0.hok.kept hk,?_⟩
 ·exact name_of_addr x.apart (PySem.mem_of_lookup h1) (PySem.mem_of_lookup h2)
 ·have hy:scope.names.lookup y = some .cell \/ scope.names.lookup y = some .free:=hy
  rcases hy with hy | hy
  ·exact Uv hy
  ·exact absurd rfl (S.nofree _ (PySem.mem_of_lookup hy))
 ·exact Nat.le_of_lt (x.above y c (PySem.mem_of_lookup h))
 ·have hi:i < vs.length:=by
   unfold start at h2
   by_cases hi:i < vs.length
   ·exact hi
   ·rw [List.getElem?_append_right (by simpa using hi)] at h2;rw [List.getElem?_replicate] at h2
    split at h2 <;> cases h2
  have ha:vs[i]? = some v:=by
   unfold start at h2;rw [List.getElem?_append_left (by simpa using hi),List.getElem?_map] at h2;cases e:vs[i]? with
   | none=>rw [e] at h2; cases h2
   | some a=>rw [e] at h2; cases h2; rfl
  obtain ⟨u,hu,rv⟩:=r.get ha;have hp:ps[i]? = some y:=by
   rw [<- S.pre,List.getElem?_take_of_lt (by lia)]; exact h1
  have ndP:ps.Nodup:=by rw [<- S.pre]; exact S.nd.sublist (List.take_sublist _ _)
  refine ⟨u,rv,?_⟩
  rcases S.par y (List.mem_of_getElem? hp) with k | k
  ·exact .inl ⟨k,Wc ndP hp hu k⟩
  ·obtain ⟨c,e⟩:=Uv (n:=s.heap.objs.size + 1) k;refine .inr ⟨.inl k,c,e,?_⟩;have q:=x.cell y c e;rw [KQ ndP hp hu (by show scope.names.lookup y ≠ _; rw [k]; decide)] at q;exact q
 ·exact e0.hok.fresh (Nat.le_of_lt (x.above y c (PySem.mem_of_lookup h)))
 ·unfold start;show _ = N.length;rw [List.length_append,List.length_map,List.length_replicate];lia
theorem Zb2 {CX:CXT} {P:Program} {w:World} {K:Fk} {mg:Str->Option Value} {base:Heap} {k:Nat} {f:Addr} {name qual:Str} {params:Arguments} {body:List Stmt} {scope:Scope} {dV kV doc pm cdv ct oc:Value} {an od:Option Addr}
  {osl:Array (Option Value)} {N ps:List Str} {sp:Sp} (lk:K.lookup f = some ⟨oc,od,.func (PySem.W.fnOf name qual params body scope dV kV doc pm an cdv ct),osl⟩) (hcd:PySem.W.codeIn K cdv qual = true) (S:Zn N ps scope)
  (len:∀ vs H Q E,sp vs H Q E->vs.length = ps.length)
  (hbody:∀ (A:Around) (outer:List Env) (s:Shared) (H:Hp) (vs:List V) (Q:VK) (E:XK),Vc k (A.deeper (envOfC qual scope s.heap.objs.size f cdv))->sp vs H Q E ->
   ∃ t,PSs (Nb CX P w K mg base N qual scope f cdv A outer s H E) body t /\ t { nx:=λ _ H'=>Q .non H',rt:=Q } (start N vs) H) :
  Qh P w K mg base CX (k + 1) f (PySem.W.fnOf name qual params body scope dV kV doc pm an cdv ct) ps sp:=by
 refine ⟨len,λ A outer s H args us vs Q E hr e0 hb r hsp=>?_⟩;have hl:=len _ _ _ _ hsp;have KX:K.In s.heap:=e0.mod.kin.keeps λ b o e=>(e0.bs b o e).1;have lim:s.heap.NoLimit:=e0.mod.nolimit.keeps λ b o e=>(e0.bs b o e).1;have hkind:∀ y ∈ ps.zip us,scope.names.lookup y.1 = some .local \/ (scope.names.lookup y.1 = some .cell /\ ((cellsFrom (s.heap.objs.size + 1) scope.names []).lookup y.1).isSome = true):=λ ⟨n,v⟩ hy=>by
  rcases S.par n (List.of_mem_zip hy).1 with q | q
  ·exact .inl q
  ·exact .inr ⟨q,PySem.W.cellsFrom_some _ _ _ (.inl q)⟩
 refine codeAny_call_function hr.depth (KX _ _ lk) rfl S.co S.gen rfl (PySem.W.codeRec_of KX hcd) (hb _ _ _ _ ?_);refine wpAny_newFunctionEnv_cells S.kind hkind λ env he s1 x=>?_;subst he;refine ⟨lim.keeps x.toInCall.keep,codeAny_func ?_⟩;obtain ⟨t,ht,hq⟩:=hbody A outer s H vs Q E (hr.deeper _) hsp;have I:Inv (Nb CX P w K mg base N qual scope f cdv A outer s H E) [] (start N vs) H s1:=D7 S hr.hd e0 hl r x;refine wpAny_mono (ht [] s1 (start N vs) H _ I hq) (λ fl s' hs=>?_) λ e s' hs=>hs;have fin:∀ {σ':St} {H':Hp} {v:V} {u:Value},Inv (Nb CX P w K mg base N qual scope f cdv A outer s H E) [] σ' H' s'->RelV v u->Q v H'->CE outer P w H s Q u s':=
  λ {σ' H' v u} J rv q=>⟨v,H',J.os,J.bare,J.base,J.hok,rv,q⟩
 cases fl with
 | ret u=>
  obtain ⟨v,σ',H',J,rv,q⟩:=hs;exact fin J rv q
 | next=>
  obtain ⟨σ',H',J,q⟩:=hs;exact fin (v:=V.non) (u:=Value.none) J rfl q
 | brk=>
  obtain ⟨_,_,_,q⟩:=hs;exact False.elim q
 | cont=>
  obtain ⟨_,_,_,q⟩:=hs;exact False.elim q
section
variable {p pos:Pos} {es:List Expr} {t:TA} {id T:String} {r:List V->Hp->VK->Prop}
def tCB (r:List V->Hp->VK->Prop) (t:TA):TE:=λ Z H Q=>t Z H λ vs H1=>r vs H1 Q
theorem E8 (hc:Q6 X (.builtin id) r) (hg:Gl X x) (hm:X.mg x = none) (hv:bootBuiltins x = some (.builtin id)) (ha:PA X (e :: es) t) (hn:autoParam (x ≠ "__name__") zz1._auto_1) (hdb:autoParam ((x == ("__debug__" : Str)) = false) zz1._auto_1)
  (he:autoParam (starEach (e :: es) X.env = (false,eval e X.env) :: starEach es X.env) zz3._auto_1) (hpl:autoParam ((backTo pos (starEach es X.env)).any (·.1) = false) zz3._auto_1):PE X (.Call (.Name x p) (e :: es) [] pos) (tCB r t):=by
 intro pins s Z H Q I h;refine wpAny_Call_Name_kw (Ys I hg hm hv ?_ hn hdb);exact PyProof.Rows.callWith_builtin1 (thn (ha pos pins s Z H _ I h) λ us s1 ⟨vs,H1,I1,r1,q1⟩=>hc pins s1 Z H1 vs us Q I1 r1 q1) he hpl
theorem DF (hc:Q6 X (.type T) r) (hg:Gl X x) (hm:X.mg x = none) (hv:bootBuiltins x = some (.type T)) (ha:PA X (e :: es) t) (hn:autoParam (x ≠ "__name__") zz1._auto_1) (hdb:autoParam ((x == ("__debug__" : Str)) = false) zz1._auto_1)
  (he:autoParam (starEach (e :: es) X.env = (false,eval e X.env) :: starEach es X.env) zz3._auto_1) (hpl:autoParam ((backTo pos (starEach es X.env)).any (·.1) = false) zz3._auto_1):PE X (.Call (.Name x p) (e :: es) [] pos) (tCB r t):=by
 intro pins s Z H Q I h;refine wpAny_Call_Name_kw (Ys I hg hm hv ?_ hn hdb);exact PyProof.Rows.callWith_type1 (thn (ha pos pins s Z H _ I h) λ us s1 ⟨vs,H1,I1,r1,q1⟩=>hc pins s1 Z H1 vs us Q I1 r1 q1) he hpl
end
end L2
namespace HT
section
open PySem.SeqAt
open PySem.AutoSeq1 (wpAny_loadPart')
open PySem.MeetsSeq PySem.MeetsSeq2 PySem.MeetsSeq3
end
section
variable {prog:Program} {E:Value->Shared->Prop}
noncomputable def sIx (n d:Nat):Option Int->Nat
 | none=>d
 | some v=>if v < 0 then (v + (n:Int)).toNat else min v.toNat n
theorem Lb (n d:Nat):sIx n d none = d:=rfl
theorem NJ (n d k:Nat):sIx n d (some (k:Int)) = min k n:=by
 show (if (k:Int) < 0 then ((k:Int) + (n:Int)).toNat else min (k:Int).toNat n) = min k n;rw [if_neg (by lia),Int.toNat_natCast]
theorem So (n d:Nat) (hd:d <= n) (o:Option Int):sIx n d o <= n:=by
 cases o with
 | none=>exact hd
 | some v=>
  show (if v < 0 then (v + (n:Int)).toNat else min v.toNat n) <= n
  by_cases hv:v < 0
  ·rw [if_pos hv]; lia
  ·rw [if_neg hv]; exact Nat.min_le_right _ _
theorem Cz (v:Int) (n d:Nat):(if v < 0 then max (v + (n:Int)) 0 else min v (n:Int)) = ((sIx n d (some v):Nat):Int):=by
 show (if v < 0 then max (v + (n:Int)) 0 else min v (n:Int)) = (((if v < 0 then (v + (n:Int)).toNat else min v.toNat n):Nat):Int)
 by_cases hv:v < 0
 ·simp only [if_pos hv]; lia
 ·simp only [if_neg hv]; lia
theorem GC (lo hi:Option Int) (n:Nat):Builtin.Slice.sliceAdjust lo hi 1 (n:Int) = (((sIx n 0 lo:Nat):Int),((sIx n n hi:Nat):Int)):=by
 have h1:¬ ((1:Int) < 0):=by lia
 unfold Builtin.Slice.sliceAdjust;simp only [h1,if_false];refine Prod.ext ?_ ?_
 ·cases lo with
  | none=>rfl
  | some v=>exact Cz v n 0
 ·cases hi with
  | none=>rfl
  | some v=>exact Cz v n n
theorem Bd (i j:Nat):Builtin.Slice.slicePlaces (i:Int) (j:Int) 1 = j - i:=by
 unfold Builtin.Slice.slicePlaces;have h1:(1:Int) > 0:=by lia
 simp only [h1,if_true,Int.ediv_one]
 split <;> lia
theorem Y5 {v:Value} {o:Option Int} {Q:Option Int->Shared->Prop} (p:IsPart v o) (h:Q o s):wpAny (model prog w) A (Builtin.Slice.slicePartIndex v) Q E s:=by
 cases p with
 | none=>exact slicePart_none h
 | int i t=>exact slicePart_int h
theorem QZ {sl:Addr} {vl vu:Value} {lo hi:Option Int} {n:Nat} {Q:Int × Int × Nat->Shared->Prop} (hs:s.heap.IsSliceOf sl vl vu .none) (pl:IsPart vl lo) (pu:IsPart vu hi)
  (h:Q (((sIx n 0 lo:Nat):Int),1,sIx n n hi - sIx n 0 lo) s):wpAny (model prog w) A (Builtin.Slice.sliceApplied (.ref sl) (pure (n:Int))) Q E s:=by
 obtain ⟨os,hos,hcs,hds⟩:=id hs;unfold Builtin.Slice.sliceApplied Builtin.Slice.sliceFields;refine wpAny_bind (wpAny_bind (wpAny_field hos hds (x:=vl) rfl (wpAny_bind (wpAny_field hos hds (x:=vu) rfl (wpAny_bind (wpAny_field hos hds (x:=.none) rfl (wpAny_pure ?_)))))));refine wpAny_bind (slicePart_none ?_);show wpAny _ _ (if ((1:Int) == 0) = true then _ else _) _ _ s;rw [if_neg (by decide)];refine wpAny_bind (Y5 pl (wpAny_bind (Y5 pu (wpAny_bind (wpAny_pure ?_)))));show wpAny _ _ (match Builtin.Slice.sliceAdjust lo hi 1 (n:Int) with | (lo,hi)=>pure (lo,(1:Int),Builtin.Slice.slicePlaces lo hi 1)) _ _ s;rw [GC lo hi n];show wpAny _ _ (pure (((sIx n 0 lo:Nat):Int),(1:Int),Builtin.Slice.slicePlaces ((sIx n 0 lo:Nat):Int) ((sIx n n hi:Nat):Int) 1)) _ _ s;rw [Bd];exact wpAny_pure h
theorem LM (xs:Array Value) (i k:Nat):((List.range k).filterMap λ (m:Nat)=>xs[((i:Int) + (m:Int) * 1).toNat]?).toArray = ((xs.toList.drop i).take k).toArray:=by
 have e:(λ (m:Nat)=>xs[((i:Int) + (m:Int) * 1).toNat]?) = λ m=>xs[i + m]?:=by
  funext m
  have:((i:Int) + (m:Int) * 1).toNat = i + m:=by lia
  rw [this]
 rw [e];have:=pick_run xs i k;rw [List.filterMap_map] at this;have e2:((λ x=>xs[x]?) ∘ λ x=>i + x) = λ m=>xs[i + m]?:=rfl;rw [e2] at this;rw [this]
theorem Vb {t sl:Addr} {items:Array Value} {vl vu:Value} {lo hi:Option Int} {Q:Value->Shared->Prop} (ht:IsTup s.heap t items) (hs:s.heap.IsSliceOf sl vl vu .none) (pl:IsPart vl lo) (pu:IsPart vu hi)
  (hw:¬ (sIx items.size 0 lo = 0 /\ sIx items.size items.size hi = items.size))
  (h:Q (.ref s.heap.objs.size) { s with heap:=s.heap.push { cls:=.type "tuple",data:=.seq ((items.toList.drop (sIx items.size 0 lo)).take (sIx items.size items.size hi - sIx items.size 0 lo)).toArray } })
  (hsz:items.size <= sizeLine):wpAny (model prog w) A (getItem (.ref t) (.ref sl)) Q E s:=by
 have htake:sizeOk (.seq ((items.toList.drop (sIx items.size 0 lo)).take (sIx items.size items.size hi - sIx items.size 0 lo)).toArray):=by
  show ((items.toList.drop (sIx items.size 0 lo)).take (sIx items.size items.size hi - sIx items.size 0 lo)).toArray.size <= sizeLine;rw [List.size_toArray,List.length_take,List.length_drop,Array.length_toList];lia
 have hj:sIx items.size items.size hi <= items.size:=So _ _ (Nat.le_refl _) hi;obtain ⟨os,hos,hcs,hds⟩:=id hs;have hTs:s.TypeIs (.ref sl) "slice" := ⟨os,hos,hcs⟩
 unfold getItem
 try with_reducible refine wpAny_holding ?_
 first | refine wpAny_bind (wpAny_pure ?_) | skip
 refine wpAny_bind (wpAny_sequenceKey ht.typeIs (by decide) ?_)
 refine wpAny_bind (wpAny_callSpecial?_slot (name:=Str.ofString "__getitem__") ht.typeIs PyProof.Rows.slot_tuple_getitem
  (wpAny_call_entry PyProof.Rows.slot_tuple_getitem ht.typeIs entry_tuple_getitem ?_ (args_tuple_getitem _ _)))
 show wpAny _ _ (Builtin.Tuple.tupleItemsOf (.ref t) >>= _) _ _ s;refine wpAny_bind (tupleItemsOf_ ht ?_);refine wpAny_bind (wpAny_typeOf hTs ?_);rw [if_pos (by decide)];refine wpAny_bind (QZ hs pl pu ?_);have hno:¬ ((((sIx items.size 0 lo:Nat):Int) == 0 && (1:Int) == 1 && (sIx items.size items.size hi - sIx items.size 0 lo) == items.size) = true):=by
  intro q;rw [Bool.and_eq_true,Bool.and_eq_true] at q;have q1:((sIx items.size 0 lo:Nat):Int) = 0:=eq_of_beq q.1.1;have q2:sIx items.size items.size hi - sIx items.size 0 lo = items.size:=eq_of_beq q.2;exact hw ⟨by lia,by lia⟩
 show wpAny _ _ (if (((sIx items.size 0 lo:Nat):Int) == 0 && (1:Int) == 1 && (sIx items.size items.size hi - sIx items.size 0 lo) == items.size) = true then _ else _) _ _ s;rw [if_neg hno,LM]
 first
  | exact wpAny_bind (m:=Builtin.Tuple.tupleExact _) (wpAny_newObj_type (wpAny_pure ⟨_,rfl,wpAny_pure h⟩) htake)
  | exact wpAny_bind (m:=Builtin.Tuple.tupleExact _) (wpAny_newObj_type (wpAny_bind (wpAny_pure (wpAny_pure ⟨_,rfl,wpAny_pure h⟩))) htake)
  | exact wpAny_bind (wpAny_bind (m:=Builtin.Tuple.tupleExact _) (wpAny_newObj_type (wpAny_pure (wpAny_pure ⟨_,rfl,wpAny_pure h⟩)) htake))
  | exact wpAny_bind (wpAny_bind (m:=Builtin.Tuple.tupleExact _) (wpAny_newObj_type (wpAny_pure ⟨_,rfl,wpAny_pure h⟩) htake))
end
end HT
namespace L2
abbrev TO:=St->Hp->(Option Int->Hp->Prop)->Prop
def PO (X:Cx) (e:Option Expr) (t:TO):Prop:=
 ∀ (pins:List (Addr × Obj)) (s:Shared) (Z:St) (H:Hp) (Q:Option Int->Hp->Prop),Inv X pins Z H s->t Z H Q ->
  wpAny (model X.prog X.w) X.A (evalPart e X.env) (λ u s'=>∃ o H',Inv X pins Z H' s' /\ IsPart u o /\ Q o H') X.xe s
def Oc:TO:=λ _ H Q=>Q none H
def Zch (t:TE):TO:=λ Z H Q=>t Z H λ x H1=>∃ i,x = .int i /\ Q (some i) H1
theorem intsAre_of:∀ {us:List Value},Vals (ns.map V.int) us->IntsAre us ns:=by
 induction ns with
 | nil=>intro us r; rw [List.map_nil] at r; cases r; exact .nil
 | cons n ns ih=>
  intro us r;rw [List.map_cons] at r;cases r with
  | cons r1 r2=>
   obtain ⟨t,e⟩:=r1;subst e;exact .cons n t (ih r2)
section
variable {te:TE} {lo hi:Option Expr} {tl th:TO} {pos p2:Pos}
theorem P2:PO X none Oc:=by
 intro pins s Z H Q I h;rw [evalPart_none];exact wpAny_pure ⟨none,H,I,.none,h⟩
theorem Oj (h:PE X e te):PO X (some e) (Zch te):=by
 intro pins s Z H Q I hw;rw [evalPart_some];refine thn (h pins s Z H _ I hw) λ u s1 ⟨x,H1,I1,r1,q1⟩=>?_;obtain ⟨i,rfl,q⟩:=q1;obtain ⟨t,rfl⟩:=r1;exact ⟨some i,H1,I1,.int i t,q⟩
def SlR (X:Cx) (r:V->Option Int->Option Int->Hp->VK->Prop):Prop:=
 ∀ (pins:List (Addr × Obj)) (s:Shared) (Z:St) (H:Hp) (x:V) (v vl vu:Value) (lo hi:Option Int) (sl:Addr) (Q:VK),Inv X pins Z H s->RelV x v->s.heap.IsSliceOf sl vl vu .none->IsPart vl lo->IsPart vu hi->r x lo hi H Q ->
  ∃ T id,typeLookup (.type T) "__getitem__" = pure (some (.builtin id)) /\ s.TypeIs v T /\ wpAny (model X.prog X.w) X.A (getItem v (.ref sl)) (EP X pins Z Q) X.xe s
theorem SlR.or {r r':V->Option Int->Option Int->Hp->VK->Prop} (h:SlR X r) (h':SlR X r'):SlR X (λ x lo hi H Q=>r x lo hi H Q \/ r' x lo hi H Q):=by
 intro pins s Z H x v vl vu lo hi sl Q I rx hs pl pu q
 rcases q with q | q
 ·exact h pins s Z H x v vl vu lo hi sl Q I rx hs pl pu q
 ·exact h' pins s Z H x v vl vu lo hi sl Q I rx hs pl pu q
def tSl (r:V->Option Int->Option Int->Hp->VK->Prop) (te:TE) (tl th:TO):TE:=λ Z H Q=>te Z H λ x H1=>tl Z H1 λ l H2=>th Z H2 λ u H3=>r x l u H3 Q
theorem EZ {r:V->Option Int->Option Int->Hp->VK->Prop} (hr:SlR X r) (he:PE X e te) (hl:PO X lo tl) (hu:PO X hi th):PE X (.Subscript e (.Slice lo hi none p2) pos) (tSl r te tl th):=by
 intro pins s Z H Q I h;refine Subscript_ (thn (he pins s Z H _ I h) λ v s1 ⟨x,H1,I1,r1,q1⟩=>?_);refine wpAny_Slice (thn (hl pins s1 Z H1 _ I1 q1) λ vl s2 ⟨l,H2,I2,pl,q2⟩=>thn (hu pins s2 Z H2 _ I2 q2) λ vu s3 ⟨u,H3,I3,pu,q3⟩=>?_);rw [evalPart_none];refine wpAny_pure ?_;have I4:Inv X pins Z H3 { s3 with heap:=s3.heap.push { cls:=.type "slice",data:=.fields #[vl,vu,.none] } }:=I3.kept (t':=s3.toks) λ b ob q=>Heap.get?_push_of_some _ q;obtain ⟨T,id,hT,ht,hg⟩:=hr pins { s3 with heap:=s3.heap.push { cls:=.type "slice",data:=.fields #[vl,vu,.none] } } Z H3 x v vl vu l u s3.heap.objs.size Q I4 r1 (Heap.IsSliceOf.new ..) pl pu q3;show wpAny (model X.prog X.w) X.A (subscriptTail e (.Slice lo hi none p2) v (.ref s3.heap.objs.size)) (EP X pins Z Q) X.xe { s3 with heap:=s3.heap.push { cls:=.type "slice",data:=.fields #[vl,vu,.none] } };exact tail_any (ops:=[.ref s3.heap.objs.size,v]) ht hT hg (by with_unfolding_all rfl)
noncomputable def Ry (xs:List V) (lo hi:Option Int):List V:=(xs.drop (HT.sIx xs.length 0 lo)).take (HT.sIx xs.length xs.length hi - HT.sIx xs.length 0 lo)
theorem Wt (xs:List V) (lo hi:Option Int):(Ry xs lo hi).length <= xs.length:=by
 unfold Ry;rw [List.length_take,List.length_drop];lia
def ZdJ (K:Fk):V->Option Int->Option Int->Hp->VK->Prop:=λ x lo hi H Q=>∃ a xs,x = .ref a /\ SqT K H a xs /\
 ¬ (HT.sIx xs.length 0 lo = 0 /\ HT.sIx xs.length xs.length hi = xs.length) /\ ∀ p,H p = none->Q (.ref p) (upd H p (.tup (Ry xs lo hi)))
theorem ZaD:SlR X (ZdJ X.K):=by
 intro pins s Z H x v vl vu lo hi sl Q I rx hs pl pu h;obtain ⟨a,xs,rfl,hx,hw,q⟩:=h;cases rx;obtain ⟨its,r,ht,hz⟩:=I.tuple hx;have hlen:its.toArray.size = xs.length:=by rw [List.size_toArray]; exact r.length.symm
 refine ⟨"tuple",_,PyProof.Rows.slot_tuple_getitem.lookup,ht.typeIs,?_⟩;refine HT.Vb ht hs pl pu (by rw [hlen]; exact hw) ?_ (by rw [hlen]; exact hz);rw [hlen];refine ⟨.ref s.heap.objs.size,_,I.laid (t':=s.toks) (o:=.tup (Ry xs lo hi)) (λ b ob q=>Heap.get?_push_of_some _ q) (Nat.le_refl _) ?_,rfl,q _ (I.hok.fresh (Nat.le_refl _))⟩;exact ⟨Nat.le_trans (Wt xs lo hi) hz,_,(r.drop (HT.sIx xs.length 0 lo)).take (HT.sIx xs.length xs.length hi - HT.sIx xs.length 0 lo),IsTup.new _ _⟩
end
noncomputable def ixN (n:Nat) (i:Int):Option Nat:=if 0 <= i then (if i < n then some i.toNat else none) else if -(n:Int) <= i then some (i + n).toNat else none
noncomputable def atI {α:Type} (xs:List α) (i:Int):Option α:=(ixN xs.length i).bind λ j=>xs[j]?
theorem Ek {i:Int} (h:ixN n i = some j):seqIndex? i n = some j /\ j < n /\ -(n:Int) <= i /\ i < n:=by
 unfold ixN at h
 by_cases h0:0 <= i
 ·rw [if_pos h0] at h
  by_cases h1:i < n
  ·rw [if_pos h1] at h;have e:i.toNat = j:=Option.some.inj h;exact ⟨by rw [seqIndex_of h0 h1,e],by lia,by lia,h1⟩
  ·rw [if_neg h1] at h; cases h
 ·rw [if_neg h0] at h
  by_cases h1:-(n:Int) <= i
  ·rw [if_pos h1] at h;have e:(i + n).toNat = j:=Option.some.inj h;exact ⟨by rw [seqIndex_neg (by lia) h1,e],by lia,h1,by lia⟩
  ·rw [if_neg h1] at h; cases h
theorem Wm {α:Type} {xs:List α} {i:Int} {v:α} (h:atI xs i = some v):∃ j,seqIndex? i xs.length = some j /\ xs[j]? = some v /\ j < xs.length /\ -(xs.length:Int) <= i /\ i < xs.length:=by
 unfold atI at h;cases e:ixN xs.length i with
 | none=>rw [e] at h; cases h
 | some j=>
  rw [e] at h;obtain ⟨h1,h2,h3,h4⟩:=Ek e;exact ⟨j,h1,h,h2,h3,h4⟩
theorem YA {α:Type} {xs:List α} {j:Nat} {v:α} (h:xs[j]? = some v):atI xs (j:Int) = some v:=by
 have hj:j < xs.length:=(List.getElem?_eq_some_iff.mp h).1;have e:ixN xs.length (j:Int) = some j:=by
  unfold ixN;rw [if_pos (by lia),if_pos (by lia)]; simp
 unfold atI; rw [e]; exact h
def BX (b:Expr):Prop:=∀ o i,subscripted b false o i = operate [o,i] (getItem o i)
def IxR (X:Cx) (r:R2):Prop:=
 ∀ (value slice:Expr) (pins:List (Addr × Obj)) (s:Shared) (Z:St) (H:Hp) (x y:V) (v u:Value) (Q:VK),Inv X pins Z H s->RelV x v->RelV y u->r x y H Q ->
  subscripted slice false v u = operate [v,u] (getItem v u)->wpAny (model X.prog X.w) X.A (subscriptTail value slice v u) (EP X pins Z Q) X.xe s
def MtR (X:Cx) (id:String) (r:V->List V->Hp->VK->Prop):Prop:=
 ∀ (pins:List (Addr × Obj)) (s:Shared) (Z:St) (H:Hp) (x:V) (xs:List V) (v:Value) (us:List Value) (Q:VK),Inv X pins Z H s->RelV x v->Vals xs us->r x xs H Q ->
  wpAny (model X.prog X.w) X.A (call (.builtin id) (v :: us)) (EP X pins Z Q) X.xe s
section
variable {a b:Expr} {ta tb:TE} {pos:Pos}
theorem IxR.or {r r':R2} (h:IxR X r) (h':IxR X r'):IxR X (λ x y H Q=>r x y H Q \/ r' x y H Q):=by
 intro value slice pins s Z H x y v u Q I rx ry q hs
 rcases q with q | q
 ·exact h value slice pins s Z H x y v u Q I rx ry q hs
 ·exact h' value slice pins s Z H x y v u Q I rx ry q hs
theorem ZcV {r:R2} (hr:IxR X r) (ha:PE X a ta) (hb:PE X b tb) (hs:BX b):PE X (.Subscript a b pos) (tOp r ta tb):=by
 intro pins s Z H Q I h;exact Subscript_ (ZcT ha hb I h λ v u s2 x y H2 I2 rx ry q=>hr a b pins s2 Z H2 x y v u Q I2 rx ry q (hs _ _))
def Zdx (K:Fk):R2:=λ x y H Q=>∃ p xs i v,x = .ref p /\ y = .int i /\ SqL K H p xs /\ atI xs i = some v /\ Q v H
def Zdk (K:Fk):R2:=λ x y H Q=>∃ p xs i v,x = .ref p /\ y = .int i /\ SqT K H p xs /\ atI xs i = some v /\ Q v H
def Zds:R2:=λ x y H Q=>∃ z i c,x = .str z /\ y = .int i /\ z.length <= sizeLine /\ atI z.cps.toList i = some c /\ Q (.str ⟨#[c]⟩) H
theorem Oo:IxR X (Zdx X.K):=by
 intro value slice pins s Z H x y v u Q I rx ry h hs;obtain ⟨p,xs,i,z,rfl,rfl,hq,he,q⟩:=h;cases rx;obtain ⟨t,rfl⟩:=ry;obtain ⟨its,r,pl,hz⟩:=I.list hq;obtain ⟨j,h1,h2,h3,h4,h5⟩:=Wm he;obtain ⟨w,ew,rw'⟩:=r.get h2;have hl:=r.length;have hn:=YR;have fin:EP X pins Z Q w s:=⟨z,H,I,rw',q⟩
 by_cases h0:0 <= i
 ·have hj:i.toNat = j:=by
   rw [seqIndex_of h0 h5] at h1;exact Option.some.inj h1
  exact item_listR pl.isList h0 (by lia) (by rw [hj]; simpa using ew) fin hs
 ·have hj:(i + (its.toArray.size:Int)).toNat = j:=by
   rw [seqIndex_neg (by lia) h4] at h1;rw [List.size_toArray,<- hl];exact Option.some.inj h1
  exact subscriptTail_builtinR (x:=w) pl.isList.typeIs slot_list_getitem.lookup
   (wpAny_getItem_list_neg (Q:=λ r s'=>r = w /\ EP X pins Z Q r s') pl.isList (by lia) (by rw [List.size_toArray] <;> lia) (by lia) (by rw [hj]; simpa using ew) ⟨rfl,fin⟩) hs
theorem TY:IxR X (Zdk X.K):=by
 intro value slice pins s Z H x y v u Q I rx ry h hs;obtain ⟨p,xs,i,z,rfl,rfl,hq,he,q⟩:=h;cases rx;obtain ⟨t,rfl⟩:=ry;obtain ⟨its,r,pl,hz⟩:=I.tuple hq;obtain ⟨j,h1,h2,h3,h4,h5⟩:=Wm he;obtain ⟨w,ew,rw'⟩:=r.get h2;have hl:=r.length;have hn:=YR;have fin:EP X pins Z Q w s:=⟨z,H,I,rw',q⟩
 exact subscriptTail_builtinR (x:=w) pl.typeIs slot_tuple_getitem.lookup
  (getItem_tuple (j:=j) (Q:=λ r s'=>r = w /\ EP X pins Z Q r s') pl (by lia) (by lia) (by rw [List.size_toArray,<- hl]; exact h1) (by simpa using ew) ⟨rfl,fin⟩) hs
theorem Zab:IxR X Zds:=by
 intro value slice pins s Z H x y v u Q I rx ry h hs;obtain ⟨z,i,c,rfl,rfl,hz,he,q⟩:=h;obtain ⟨t,rfl⟩:=rx;obtain ⟨t',rfl⟩:=ry;obtain ⟨j,h1,h2,h3,h4,h5⟩:=Wm he;have hl:z.cps.toList.length = z.length:=by simp [Str.length]
 rw [hl] at h1 h4 h5;have hn:=YR
 exact tail_any (typeIs_str s z t) slot_str_getitem.lookup (getItem_str (c:=c) (by
  have e1:decide (i < -(2 ^ 63:Int)) = false:=decide_eq_false (by lia);have e2:decide (i ≥ 2 ^ 63) = false:=decide_eq_false (by lia)
  rw [e1,e2,Bool.or_false]) (by rw [h1]; simpa using h2) ⟨.str ⟨#[c]⟩,H,I.tok _,⟨_,rfl⟩,q⟩) hs
def rIx (K:Fk):R2:=λ x y H Q=>Zdx K x y H Q \/ Zdk K x y H Q \/ Zds x y H Q
theorem Zae:IxR X (rIx X.K):=Oo.or (TY.or Zab)
theorem GF (its:List Value) (n j:Nat) (u:Value):Obj.mapSeq (·.setIfInBounds j u) { cls:=.type "list",data:=.seq its.toArray n } = { cls:=.type "list",data:=.seq (its.set j u).toArray n }:=by
 simp [Obj.mapSeq]
theorem Inv.lst (I:Inv X pins Z H s) (h:H p = some (.lst xs)) :
  ∃ (its:List Value) (n:Nat),Vals xs its /\ s.heap.get? p = some { cls:=.type "list",data:=.seq its.toArray n } /\ xs.length <= sizeLine:=by
 obtain ⟨z,its,n,r,e⟩:=I.hok p _ h;exact ⟨its,n,r,e,z⟩
theorem Inv.Zam {ys:List V} {its its':List Value} {n n':Nat} {f:Obj->Obj} (I:Inv X pins Z H s) (h:H p = some (.lst xs))
  (ho:s.heap.get? p = some { cls:=.type "list",data:=.seq its.toArray n }) (hf:f { cls:=.type "list",data:=.seq its.toArray n } = { cls:=.type "list",data:=.seq its'.toArray n' }) (r:Vals ys its') (hz:ys.length <= sizeLine) (t:Nat) :
  Inv X pins Z (upd H p (.lst ys)) { s with heap:=s.heap.update p f,toks:=t }:=by
 have e:(s.heap.update p f).get? p = some { cls:=.type "list",data:=.seq its'.toArray n' }:=by
  rw [Heap.get?_update_self f ho (by rw [hf] <;> rfl),hf]
 refine I.write (x:=p) (e:=p) (by rw [h]; trivial) (.inl rfl) (λ b u hb q=>(Heap.get?_update_other _ _ (Ne.symm hb)).trans q) ⟨_,e⟩ ?_;exact ⟨hz,its',n',r,e⟩
def Zcu:V->V->V->Hp->(Hp->Prop)->Prop:=λ o i v H Q=>∃ p xs k j,o = .ref p /\ i = .int k /\ H p = some (.lst xs) /\ ixN xs.length k = some j /\ Q (upd H p (.lst (xs.set j v)))
theorem set_list:Zdw X Zcu:=by
 intro pins s Z H o i v ov iv u Q I ro ri rv h;obtain ⟨p,xs,k,j,rfl,rfl,hp,hj,q⟩:=h;cases ro;obtain ⟨t,rfl⟩:=ri;obtain ⟨its,n,r,ho,hz⟩:=I.lst hp;obtain ⟨h1,h2,h3,h4⟩:=Ek hj;have hl:=r.length;have hn:=YR;have I':Inv X pins Z (upd H p (.lst (xs.set j v))) { s with heap:=s.heap.update p (Obj.mapSeq (·.setIfInBounds j u)) }:=
  I.Zam hp ho (GF its n j u) (r.set rv j) (by rw [List.length_set]; exact hz) s.toks
 by_cases h0:0 <= k
 ·have hk:k.toNat = j:=by
   rw [seqIndex_of h0 h4] at h1;exact Option.some.inj h1
  exact PySem.W.ki_setAt ho h0 (by lia) (by rw [List.size_toArray,<- hl]; exact h4) (by rw [hk]; exact ⟨_,I',q⟩)
 ·have hk:(k + (its.toArray.size:Int)).toNat = j:=by
   rw [seqIndex_neg (by lia) h3] at h1;rw [List.size_toArray,<- hl];exact Option.some.inj h1
  exact PySem.W.ki_setBack ho (by lia) (by rw [List.size_toArray,<- hl]; exact h3) (by lia) (by rw [hk]; exact ⟨_,I',q⟩)
theorem Ks:Q6 X (.builtin "len") (λ xs H Q=>∃ p ys,xs = [.ref p] /\ (SqL X.K H p ys \/ SqT X.K H p ys) /\ Q (.int ys.length) H):=by
 intro pins s Z H xs us Q I r h;obtain ⟨p,ys,rfl,hq,q⟩:=h;obtain ⟨u,rfl,rx⟩:=vals1 r;cases rx;have hn:=YR
 rcases hq with hq | hq
 ·obtain ⟨its,r',pl,hz⟩:=I.list hq;have hlen:=r'.length;exact Calls.call_len_list pl.isList (by simp only [List.size_toArray] <;> lia) ⟨.int ys.length,H,I.tok _,⟨s.toks + 1,by rw [List.size_toArray,hlen]⟩,q⟩
 ·obtain ⟨its,r',pl,hz⟩:=I.tuple hq;have hlen:=r'.length;exact len_tuple pl (by simp only [List.size_toArray] <;> lia) ⟨.int ys.length,H,I.tok _,⟨s.toks + 1,by rw [List.size_toArray,hlen]⟩,q⟩
theorem K2:Q6 X (.type "list") (λ xs H Q=>∃ p ys,xs = [.ref p] /\ (SqL X.K H p ys \/ SqT X.K H p ys) /\ ∀ l,H l = none->Q (.ref l) (upd H l (.lst ys))):=by
 intro pins s Z H xs us Q I r h;obtain ⟨p,ys,rfl,hq,q⟩:=h;obtain ⟨u,rfl,rx⟩:=vals1 r;cases rx;have fin:∀ (its:List Value),Vals ys its->ys.length <= sizeLine->∀ (h':Heap) (c':Nat),(∀ b o',s.heap.get? b = some o'->h'.get? b = some o') ->
   h'.get? s.heap.objs.size = some { cls:=.type "list",dict:=none,data:=.seq its.toArray c',slots:=#[] }->EP X pins Z Q (.ref s.heap.objs.size) { s with heap:=h' }:=λ its r' hz h' c' kp e=>
  ⟨.ref s.heap.objs.size,_,I.laid (t':=s.toks) kp (Nat.le_refl _) (show Z8 X.prog X.w _ h' _ (.lst ys) from ⟨hz,its,c',r',e⟩),rfl,q _ (I.hok.fresh (Nat.le_refl _))⟩
 rcases hq with hq | hq
 ·obtain ⟨its,r',pl,hz⟩:=I.list hq;have hlen:=r'.length;obtain ⟨o,ho,hc,n,hd⟩:=pl.isList;exact call_list_seq p (.inl rfl) ho hc hd (λ h' c' kp e=>fin its r' hz h' c' kp e) (by simp only [List.size_toArray] <;> lia)
 ·obtain ⟨its,r',pl,hz⟩:=I.tuple hq;have hlen:=r'.length;obtain ⟨o,ho,hc,n,hd⟩:=pl;exact call_list_seq p (.inr rfl) ho hc hd (λ h' c' kp e=>fin its r' hz h' c' kp e) (by simp only [List.size_toArray] <;> lia)
theorem XB:Q6 X (.type "tuple") (λ xs H Q=>∃ p ys,xs = [.ref p] /\ ((SqL X.K H p ys /\ ∀ l,H l = none->Q (.ref l) (upd H l (.tup ys))) \/ (SqT X.K H p ys /\ Q (.ref p) H))):=by
 intro pins s Z H xs us Q I r h;obtain ⟨p,ys,rfl,h⟩:=h;obtain ⟨u,rfl,rx⟩:=vals1 r;cases rx
 rcases h with ⟨hq,q⟩ | ⟨hq,q⟩
 ·obtain ⟨its,r',pl,hz⟩:=I.list hq;have hlen:=r'.length;refine call_tuple_list pl.isList (λ h' kp=>?_) (by simp only [List.size_toArray] <;> lia);have I1:Inv X pins Z H { s with heap:=h' }:=I.kept (t':=s.toks) kp;have I2:Inv X pins Z (upd H h'.objs.size (.tup ys)) { s with heap:=h'.push { cls:=.type "tuple",data:=.seq its.toArray } }:=
   I1.laid (t':=s.toks) (λ b o e=>Heap.get?_push_of_some _ e) (Nat.le_refl _) (show Z8 X.prog X.w _ _ _ (.tup ys) from ⟨hz,its,r',IsTup.new _ _⟩)
  exact ⟨.ref h'.objs.size,_,I2,rfl,q _ (I1.hok.fresh (Nat.le_refl _))⟩
 ·obtain ⟨its,r',pl,hz⟩:=I.tuple hq;exact call_tuple_same pl ⟨.ref p,H,I,rfl,q⟩
def tyV (K:Fk) (T:String) (x:V) (H:Hp):Prop:=match x with
 | .str _=>T = "str"
 | .int _=>T = "int"
 | .ref p=>(T = "list" /\ ∃ xs,SqL K H p xs) \/ (T = "tuple" /\ ∃ o,K.lookup p = some o /\ o.cls = .type "tuple" /\ o.dict = none) \/
   (T = "dict" /\ ((∃ kvs,H p = some (.dK kvs)) \/ ∃ kvs,H p = some (.dT kvs))) \/ (T = "set" /\ ∃ S n,H p = some (.set S n))
 | _=>False
theorem Zaq {T:String} {x:V} {v:Value} (I:Inv X pins Z H s) (r:RelV x v) (ty:tyV X.K T x H) :
  s.TypeIs v T /\ ∀ a,v = .ref a->∃ ob,s.heap.get? a = some ob /\ ob.dict = none:=by
 cases x with
 | str z=>
  obtain ⟨t,rfl⟩:=r;cases (show T = "str" from ty);exact ⟨typeIs_str s z t,λ _ e=>nomatch e⟩
 | int i=>
  obtain ⟨t,rfl⟩:=r;cases (show T = "int" from ty);exact ⟨typeIs_int s i t,λ _ e=>nomatch e⟩
 | ref p=>
  cases r
  rcases ty with ⟨rfl,xs,hq⟩ | ⟨rfl,o,hk,hc,hd⟩ | ⟨rfl,hk⟩ | ⟨rfl,S,n,hk⟩
  ·obtain ⟨its,_,pl,_⟩:=I.list hq;refine ⟨pl.isList.typeIs,λ a e=>?_⟩;cases e;obtain ⟨o,n,e,c,hd,_⟩:=pl;exact ⟨o,e,hd⟩
  ·refine ⟨⟨o,I.kIn p o hk,hc⟩,λ a e=>?_⟩;cases e;exact ⟨o,I.kIn _ o hk,hd⟩
  ·have z:∃ o,s.heap.get? p = some o /\ o.ExactDict:=by
    rcases hk with ⟨kvs,hk⟩ | ⟨kvs,hk⟩
    ·obtain ⟨_,_,_,_,o,_,_,e,ex,_⟩:=I.hok p _ hk;exact ⟨o,e,ex⟩
    ·obtain ⟨_,_,_,_,o,_,_,e,ex,_⟩:=I.hok p _ hk;exact ⟨o,e,ex⟩
   obtain ⟨o,e,ex⟩:=z;refine ⟨⟨o,e,ex.1⟩,λ a e2=>?_⟩;cases e2;exact ⟨o,e,ex.2.1⟩
  ·obtain ⟨o,_,_,_,e,ex,_⟩:=I.hok p _ hk;refine ⟨⟨o,e,ex.1⟩,λ a e2=>?_⟩;cases e2;exact ⟨o,e,ex.2.1⟩
 | _=>exact False.elim ty
def tBM (K:Fk) (T:String) (r:V->List V->Hp->VK->Prop) (to:TE) (t:TA):TE:=λ Z H Q=>to Z H λ x H1=>tyV K T x H1 /\ t Z H1 λ xs H2=>r x xs H2 Q
variable {o:Expr} {es:List Expr} {to:TE} {t:TA} {name:Str} {apos cpos:Pos} {T id:String} {r:V->List V->Hp->VK->Prop}
theorem O1 (pa:PlainAttrs T) (slot:Slot T name id) (hty:typeOf (.builtin id) = pure (.type "method_descriptor")) (hm:MtR X id r) (ho:PE X o to) (ha:PA X (e :: es) t)
  (hbase:autoParam (attributeBase o name X.env (eval o X.env) = eval o X.env) zz3._auto_1)
  (hfew:((backTo cpos (starEach (e :: es) X.env)).all (λ x=>!x.1) && (backToKw cpos (keywordEach [] X.env)).all (λ x=>x.1.isSome)
   && decide ((e :: es).length + ([]:List Keyword).length + (if ([]:List Keyword).isEmpty then 0 else 1) < 30)) = true:=by rfl)
  (hline:autoParam ((apos.endLine == cpos.line) = true) zz3._auto_1) (hs:autoParam (starEach (e :: es) X.env = (false,eval e X.env) :: starEach es X.env) zz3._auto_1) (hplain:autoParam ((backTo cpos (starEach es X.env)).any (·.1) = false) zz3._auto_1) :
  PE X (.Call (.Attribute o name apos) (e :: es) [] cpos) (tBM X.K T r to t):=by
 intro pins s Z H Q I h;refine wpAny_Call_method_late hbase hfew hline rfl (thn (ho pins s Z H _ I h) λ v s1 ⟨x,H1,I1,r1,ty,q1⟩=>?_);obtain ⟨h1,h2⟩:=Zaq I1 r1 ty;refine ⟨T,id,pa,slot,hty,h1,h2,?_⟩;have hA:=ha cpos pins s1 Z H1 _ I1 q1;rw [hs] at hA ⊢;refine Calls.callWith_builtin (by show (false || (backTo cpos (starEach es X.env)).any (·.1)) = false; rw [hplain] <;> rfl) (Calls.evalArgs_plain ?_);exact thn hA λ us s2 ⟨vs,H2,I2,r2,q2⟩=>hm pins s2 Z H2 x vs v us Q I2 r1 r2 q2
end
def MtM (X:Cx) (id:String) (r:V->List V->Hp->VK->Prop):Prop:=
 ∀ (pins:List (Addr × Obj)) (s:Shared) (Z:St) (H:Hp) (x:V) (xs:List V) (v:Value) (us:List Value) (Q:VK),Inv X pins Z H s->RelV x v->Vals xs us->r x xs H Q ->
  wpAny (model X.prog X.w) X.A (call (.builtin id) (v :: us)) (EP X pins Z Q) X.xe s
theorem Vals.one {x:V} (h:Vals [x] us):∃ u,us = [u] /\ RelV x u:=by
 cases h with | cons r t=>cases t; exact ⟨_,rfl,r⟩
theorem Vals.two {x y:V} (h:Vals [x,y] us):∃ u v,us = [u,v] /\ RelV x u /\ RelV y v:=by
 cases h with | cons r t=>cases t with | cons q t=>cases t; exact ⟨_,_,rfl,r,q⟩
section
variable {b:Addr} {ys zs:List V}
theorem Inv.Zdm {its its':List Value} {n:Nat} {f:Array Value->Array Value} {t':Nat} (I:Inv X pins Z H s) (hH:H l = some (.lst xs))
  (e:s.heap.get? l = some { cls:=.type "list",data:=.seq its.toArray n }) (hf:f its.toArray = its'.toArray) (hv:Vals ys its') (hz:ys.length <= sizeLine) :
  Inv X pins Z (upd H l (.lst ys)) { s with heap:=s.heap.update l (Obj.mapSeq f),toks:=t' }:=by
 have q:=PySem.IsL.update e f;rw [hf] at q;refine I.write (x:=l) (e:=l) (by rw [hH]; exact trivial) (.inl rfl) (λ b' u hb hu=>(Heap.get?_update_other s.heap (Obj.mapSeq f) (Ne.symm hb)).trans hu) ⟨_,q⟩ ?_;exact ⟨hz,its',_,hv,q⟩
theorem Inv.ZdG {its:List Value} {t':Nat} (I:Inv X pins Z H s) (hv:Vals ys its) (hz:ys.length <= sizeLine) :
  Inv X pins Z (upd H s.heap.objs.size (.lst ys)) { s with heap:=s.heap.push { cls:=.type "list",data:=.seq its.toArray },toks:=t' }:=
 I.laid (λ _ _ q=>Heap.get?_push_of_some _ q) (Nat.le_refl _) ⟨hz,its,0,hv,Heap.get?_push_size _ rfl⟩
theorem Inv.fresh (I:Inv X pins Z H s):H s.heap.objs.size = none:=I.hok.fresh (Nat.le_refl _)
theorem Inv.Zcg (I:Inv X pins Z H s) (hH:H l = some (.lst xs)):xs.length <= sizeLine /\ ∃ (its:List Value) (n:Nat),Vals xs its /\ xs.length = its.length /\ s.heap.get? l = some { cls:=.type "list",data:=.seq its.toArray n }:=by
 obtain ⟨z,its,n,r,e⟩:=I.hok l _ hH;exact ⟨z,its,n,r,r.length,e⟩
theorem F7 (h:n <= sizeLine):Builtin.List.listTooLong n = false:=by
 unfold Builtin.List.listTooLong;exact decide_eq_false (by lia)
end
def OB:V->List V->Hp->VK->Prop:=λ x vs H Q=>∃ l xs y,x = .ref l /\ vs = [y] /\ H l = some (.lst xs) /\ xs.length < sizeLine /\ Q .non (upd H l (.lst (xs ++ [y])))
theorem Dc:MtM X "list.append" OB:=by
 intro pins s Z H x vs v us Q I rx rv h;obtain ⟨l,xs,y,rfl,rfl,hH,hz,q⟩:=h;cases rx;obtain ⟨u,rfl,ru⟩:=rv.one;obtain ⟨z,its,n,r,hl,e⟩:=I.Zcg hH;refine call_meets F.slot_list_append ⟨_,e,rfl⟩ F.entry_list_append (F.args_list_append_2 _ _) (PySem.list_append l its.toArray n u (by rw [List.size_toArray]; lia)) ⟨e,?_⟩;refine ⟨.non,_,I.Zdm (its':=its ++ [u]) hH e (by simp) (r.append (.cons ru .nil)) ?_,rfl,q⟩;rw [List.length_append,List.length_singleton];lia
def P4:V->List V->Hp->VK->Prop:=λ x vs H Q=>∃ l b xs zs,x = .ref l /\ vs = [.ref b] /\ H l = some (.lst xs) /\ H b = some (.lst zs) /\ xs.length + zs.length <= sizeLine /\ Q .non (upd H l (.lst (xs ++ zs)))
theorem K5:MtM X "list.extend" P4:=by
 intro pins s Z H x vs v us Q I rx rv h;obtain ⟨l,b,xs,zs,rfl,rfl,hH,hB,hz,q⟩:=h;cases rx;obtain ⟨u,rfl,ru⟩:=rv.one;cases ru;obtain ⟨z,its,n,r,hl,e⟩:=I.Zcg hH;obtain ⟨z2,its2,n2,r2,hl2,e2⟩:=I.Zcg hB;have hsz:its.toArray.size + its2.toArray.size <= sizeLine:=by rw [List.size_toArray,List.size_toArray]; lia
 have hlong:¬ (!its.toArray.isEmpty && Builtin.List.listTooLong (its.toArray.size + its2.toArray.size)) = true:=by
  rw [F7 hsz,Bool.and_false];exact Bool.false_ne_true
 refine call_meets F.slot_list_extend ⟨_,e,rfl⟩ F.entry_list_extend (F.args_list_extend_2 _ _)
  (AutoSeq1.list_extend_list_list_0 l its.toArray n b its2.toArray n2 hlong (by rw [List.size_toArray]; lia) (by lia)) ⟨e,e2,?_⟩
 refine ⟨.non,_,I.Zdm (its':=its ++ its2) hH e (by simp) (r.append r2) ?_,rfl,q⟩;rw [List.length_append];lia
section
variable {prog:Program} {E:Value->Shared->Prop}
end
section
variable {κ:Type} [DecidableEq κ]
noncomputable def Xk (kvs:List (κ × V)) (k:κ):Option V:=(kvs.find? λ kv=>decide (kv.1 = k)).map (·.2)
noncomputable def putK (kvs:List (κ × V)) (k:κ) (v:V):List (κ × V):=
 if (kvs.any λ kv=>decide (kv.1 = k)) = true then kvs.map (λ kv=>if kv.1 = k then (kv.1,v) else kv) else kvs ++ [(k,v)]
theorem U2 {p:κ × V} {r:List (κ × V)} {k:κ} (e:p.1 = k):Xk (p :: r) k = some p.2:=by simp [Xk,List.find?_cons,e]
theorem UH {p:κ × V} {r:List (κ × V)} {k:κ} (e:¬ p.1 = k):Xk (p :: r) k = Xk r k:=by simp [Xk,List.find?_cons,e]
theorem VM (k:κ):∀ kvs:List (κ × V),(kvs.any λ kv=>decide (kv.1 = k)) = (Xk kvs k).isSome
 | []=>rfl
 | p :: r=>by
  rw [List.any_cons]
  by_cases e:p.1 = k
  ·simp only [U2 e,decide_eq_true e,Bool.true_or,Option.isSome_some]
  ·rw [UH e,decide_eq_false e,Bool.false_or]; exact VM k r
theorem V7 (kvs:List (κ × V)) (k:κ) (v:V):(putK kvs k v).length <= kvs.length + 1:=by
 unfold putK
 split
 ·rw [List.length_map]; lia
 ·rw [List.length_append,List.length_cons,List.length_nil]; lia
theorem EJ.Kn {o:Option V} {u:Option Value} (r:EJ o u):o.isSome = u.isSome:=by
 cases o with
 | none=>cases u with
  | none=>rfl
  | some _=>exact (show False from r).elim
 | some _=>cases u with
  | none=>exact (show False from r).elim
  | some _=>rfl
theorem EJ.getD {o:Option V} {u:Option Value} {d:V} {d':Value} (r:EJ o u) (rd:RelV d d'):RelV (o.getD d) (u.getD d'):=by
 cases o with
 | none=>cases u with
  | none=>exact rd
  | some _=>exact (show False from r).elim
 | some _=>cases u with
  | none=>exact (show False from r).elim
  | some _=>exact r
theorem KV.any {kvs:List (κ × V)} {vs:List (κ × Value)} (r:KV kvs vs) (k:κ):(kvs.any λ kv=>decide (kv.1 = k)) = vs.any λ kv=>decide (kv.1 = k):=by
 unfold KV at r
 induction r with
 | nil=>rfl
 | cons h t ih=>rw [List.any_cons,List.any_cons,ih,h.1]
theorem KV.ZbG {kvs:List (κ × V)} {vs:List (κ × Value)} (r:KV kvs vs) (k:κ) {y:V} {u:Value} (ry:RelV y u) :
  KV (kvs.map λ kv=>if kv.1 = k then (kv.1,y) else kv) (vs.map λ kv=>if kv.1 = k then (kv.1,u) else kv):=by
 unfold KV at r ⊢
 induction r with
 | nil=>exact .nil
 | @cons p q ps qs h t ih=>
  rw [List.map_cons,List.map_cons];refine .cons ?_ ih;obtain ⟨h1,h2⟩:=h
  by_cases e:p.1 = k
  ·rw [if_pos e,if_pos (h1.symm.trans e)]; exact ⟨h1,ry⟩
  ·rw [if_neg e,if_neg (λ z=>e (h1.trans z))]; exact ⟨h1,h2⟩
theorem KV.put {kvs:List (κ × V)} {vs:List (κ × Value)} (r:KV kvs vs) (k:κ) {y:V} {u:Value} (ry:RelV y u):KV (putK kvs k y) (stored vs k u):=by
 unfold putK stored;rw [r.any k]
 by_cases e:(vs.any λ kv=>decide (kv.1 = k)) = true
 ·rw [if_pos e,if_pos e]; exact r.ZbG k ry
 ·rw [if_neg e,if_neg e]; exact Paired.snoc r ⟨rfl,ry⟩
theorem KV.length {kvs:List (κ × V)} {vs:List (κ × Value)} (r:KV kvs vs):kvs.length = vs.length:=Paired.length r
end
theorem S5 {k:Key} {u:Value} (r:RelV (kV k) u):(ZT P w).is k u = true:=by
 cases k with
 | inl i=>obtain ⟨t,e⟩:=(show ∃ t,u = Value.int i t from r); subst e; exact Wq P w i t
 | inr x=>obtain ⟨t,e⟩:=(show ∃ t,u = Value.str x t from r); subst e; exact WS P w x t
theorem Yj:∀ {ks:List Key} {us:List Value},Vals (ks.map kV) us->ItemsAre (ZT P w) ks us
 | [],_,r=>by rw [List.map_nil] at r; cases r; exact .nil
 | k :: ks,_,r=>by
  rw [List.map_cons] at r;cases r with
  | cons h t=>exact .cons (S5 h) (Yj t)
abbrev KT (H:Hp):List (List Key × V)->List (List Key × Addr × Value)->Prop:=Paired λ p q=>p.1 = q.1 /\ H q.2.1 = some (.tup (p.1.map kV)) /\ RelV p.2 q.2.2
theorem KT.val {xs:List (List Key × Addr × Value)} (r:KT H kvs xs) (k:List Key):EJ (Xk kvs k) ((atKey xs k).map (·.2)):=by
 induction r with
 | nil=>exact True.intro
 | @cons p q ps qs h t ih=>
  obtain ⟨h1,_,h2⟩:=h
  by_cases e:p.1 = k
  ·have e':q.1 = k:=h1.symm.trans e;have b:atKey (q :: qs) k = some q.2:=by simp [atKey,List.find?_cons,e']
   rw [U2 e,b]; exact h2
  ·have e':¬ q.1 = k:=λ z=>e (h1.trans z);have b:atKey (q :: qs) k = atKey qs k:=by simp [atKey,List.find?_cons,e']
   rw [UH e,b]; exact ih
theorem KT.ZbG {xs:List (List Key × Addr × Value)} (r:KT H kvs xs) (k:List Key) {y:V} {u:Value} (ry:RelV y u) :
  KT H (kvs.map λ kv=>if kv.1 = k then (kv.1,y) else kv) (xs.map (putAt k u)):=by
 induction r with
 | nil=>exact .nil
 | @cons p q ps qs h t ih=>
  rw [List.map_cons,List.map_cons];refine .cons ?_ ih;obtain ⟨h1,h2,h3⟩:=h;unfold putAt
  by_cases e:p.1 = k
  ·rw [if_pos e,if_pos (h1.symm.trans e)]; exact ⟨h1,h2,ry⟩
  ·rw [if_neg e,if_neg (λ z=>e (h1.trans z))]; exact ⟨h1,h2,h3⟩
theorem KT.put {xs:List (List Key × Addr × Value)} (r:KT H kvs xs) (k:List Key) {b:Addr} {y:V} {u:Value} (hb:H b = some (.tup (k.map kV))) (ry:RelV y u) :
  KT H (putK kvs k y) (storedH xs k b u):=by
 have e:(kvs.any λ kv=>decide (kv.1 = k)) = (atKey xs k).isSome:=by
  rw [VM,(r.val k).Kn,Option.isSome_map]
 unfold putK storedH;rw [e]
 by_cases q:(atKey xs k).isSome = true
 ·rw [if_pos q,if_pos q]; exact r.ZbG k ry
 ·rw [if_neg q,if_neg q]; exact Paired.snoc r ⟨rfl,hb,ry⟩
theorem KT.keeps {xs:List (List Key × Addr × Value)} (r:KT H kvs xs) (ht:∀ b ys,H b = some (.tup ys)->H' b = some (.tup ys)):KT H' kvs xs:=
 Paired.Cr r λ _ _ z=>⟨z.1,ht _ _ z.2.1,z.2.2⟩
theorem Za0 {u:HO} (ok:HOk P w H h) (e:Rd H a u):Z8 P w H h a u:=e.ok ok
theorem ZcU {kvs:List (Key × V)} (ok:HOk P w H h) (e:Rd H a (.dK kvs)):kvs.length <= sizeLine /\ (a == sysModules) = false /\ ∃ vs,KV kvs vs /\ h.DictOf (ZT P w) a vs:=
 show Z8 P w H h a (.dK kvs) from Za0 ok e
theorem ZbO {kvs:List (Key × V)} (ok:HOk P w H h) (e:H a = some (.dK kvs)):kvs.length <= sizeLine /\ (a == sysModules) = false /\ ∃ vs,KV kvs vs /\ h.DictOf (ZT P w) a vs:=ZcU ok (.inl e)
theorem Mi {ks:List Key} (ok:HOk P w H h) (e:H a = some (.tup (ks.map kV))):(tupleKind (ZT P w)).is h ks a:=by
 obtain ⟨_,its,r,o,h1,h2,n,h3⟩:=(show Z8 P w H h a (.tup (ks.map kV)) from ok a _ e)
 exact ⟨o,its.toArray,n,h1,h2,h3,by simpa using Yj r⟩
theorem P1 (ok:HOk P w H h) (e:Rd H a (.dT kvs)):kvs.length <= sizeLine /\ (a == sysModules) = false /\
  ∃ xs,KT H kvs xs /\ h.DictOfH (tupleKind (ZT P w)) a xs:=by
 obtain ⟨z,y,xs,r,o,es,ep,h1,h2,h3,h4,h5⟩:=(show Z8 P w H h a (.dT kvs) from Za0 ok e)
 refine ⟨z,y,xs,r,o,es,ep,h1,h2,h3,h4,λ x hx=>?_,h5⟩;have all:∀ {l:List (List Key × V)} {m:List (List Key × Addr × Value)},KT H l m->∀ x ∈ m,(tupleKind (ZT P w)).is h x.1 x.2.1:=by
  intro l m q
  induction q with
  | nil=>intro x hx; exact nomatch hx
  | @cons p q ps qs hq t ih=>
   intro x hx
   rcases List.mem_cons.mp hx with e | hx
   ·subst e;exact Mi ok (by rw [<- hq.1]; exact hq.2.1)
   ·exact ih x hx
 exact all r x hx
theorem ZcE (ok:HOk P w H h) (e:H a = some (.dT kvs)):kvs.length <= sizeLine /\ (a == sysModules) = false /\
  ∃ xs,KT H kvs xs /\ h.DictOfH (tupleKind (ZT P w)) a xs:=P1 ok (.inl e)
def Zbx (H:Hp) (a:Addr) (y:V) (r:Option V):Prop:=
 (∃ kvs k,Rd H a (.dK kvs) /\ y = kV k /\ r = Xk kvs k) \/ ∃ kvs k b,Rd H a (.dT kvs) /\ y = .ref b /\ H b = some (.tup (k.map kV)) /\ r = Xk kvs k
def Rg (H:Hp) (a:Addr) (y v:V) (H':Hp):Prop:=
 (∃ kvs k,H a = some (.dK kvs) /\ y = kV k /\ kvs.length < sizeLine /\ H' = upd H a (.dK (putK kvs k v))) \/
 ∃ kvs k b,H a = some (.dT kvs) /\ y = .ref b /\ H b = some (.tup (k.map kV)) /\ kvs.length < sizeLine /\ H' = upd H a (.dT (putK kvs k v))
theorem Zbx.k {kvs:List (Key × V)} {k:Key} (e:H a = some (.dK kvs)):Zbx H a (kV k) (Xk kvs k):=.inl ⟨kvs,k,.inl e,rfl,rfl⟩
theorem Zbx.t {b:Addr} {k:List Key} (e:H a = some (.dT kvs)) (eb:H b = some (.tup (k.map kV))):Zbx H a (.ref b) (Xk kvs k):=.inr ⟨kvs,k,b,.inl e,rfl,eb,rfl⟩
theorem Rg.k {kvs:List (Key × V)} {k:Key} (e:H a = some (.dK kvs)) (hl:kvs.length < sizeLine):Rg H a (kV k) v (upd H a (.dK (putK kvs k v))):=.inl ⟨kvs,k,e,rfl,hl,rfl⟩
theorem Rg.t {b:Addr} {k:List Key} {v:V} (e:H a = some (.dT kvs)) (eb:H b = some (.tup (k.map kV))) (hl:kvs.length < sizeLine) :
  Rg H a (.ref b) v (upd H a (.dT (putK kvs k v))):=.inr ⟨kvs,k,b,e,rfl,eb,hl,rfl⟩
section
variable {y:V} {u r:Value} {o:Option V} {E:Value->Shared->Prop}
theorem Inv.big (I:Inv X pins Z H s):sysModules < s.heap.objs.size:=by
 have h:mainGlobals < s.heap.objs.size:=(I.mod.glob.keeps I.bk).lt;exact Nat.lt_trans (by decide) h
theorem Cm {t':Nat} {ob:HO} (I:Inv X pins Z H s) (mu:Mut (H a)) (hs:Heap.SameBut a s.heap h') (he:∃ q,h'.get? a = some q) (new:Z8 X.prog X.w (upd H a ob) h' a ob) :
  Inv X pins Z (upd H a ob) { s with heap:=h',toks:=t' }:=
 I.write (x:=a) (e:=a) mu (.inl rfl) (λ b q hb z=>(hs.2 b hb).trans z) he new
theorem RP {H':Hp} {kvs:List (Key × V)} {vs:List (Key × Value)} (z:kvs.length <= sizeLine) (hd:(a == sysModules) = false) (rel:KV kvs vs) (dd:h'.DictOf (ZT P w) a vs) :
  Z8 P w H' h' a (.dK kvs):=⟨z,hd,vs,rel,dd⟩
theorem CG {Q:Unit->Shared->Prop} (hu:A.units + 1 < cLine) (I:Inv X pins Z H s) (g:Rg H a y v H') (ry:RelV y u) (rv:RelV v r) (h:∀ s',Inv X pins Z H' s'->Q () s') :
  wpAny (model X.prog X.w) A (setItem (.ref a) u r) Q E s:=by
 rcases g with ⟨kvs,k,e,ey,l,eH⟩ | ⟨kvs,k,b,e,ey,eb,l,eH⟩
 ·subst ey eH;obtain ⟨z,hd,vs,rel,dd⟩:=ZbO I.hok e;have hz:vs.length <= sizeLine:=by rw [<- rel.length]; exact z
  have hl:(putK kvs k v).length <= sizeLine:=by have:=V7 kvs k v; lia
  refine wpAny_setItem_pairs (hsz:=hz) (S5 ry) dd λ h' dd' hs=>h _ ?_;have he:∃ q,h'.get? a = some q:=let ⟨q,_,_,hq,_⟩:=dd'; ⟨q,hq⟩;exact Cm I (by rw [e]; exact True.intro) hs he (RP hl hd (rel.put k rv) dd')
 ·subst ey eH;cases (show u = Value.ref b from ry);obtain ⟨z,hd,xs,rel,dd⟩:=ZcE I.hok e;have hz:xs.length <= sizeLine:=by rw [<- Paired.length rel]; exact z
  have hl:(putK kvs k v).length <= sizeLine:=by have:=V7 kvs k v; lia
  refine wpAny_setItem_heap (hsz:=hz) (tupleKind_room_in1 hu) (Mi I.hok eb) dd λ h' dd' hs=>h _ ?_;obtain ⟨q,es,ep,hq,h2,h3,h4,_,h5⟩:=dd';refine Cm I (by rw [e]; exact True.intro) hs ⟨q,hq⟩ ⟨hl,hd,_,(rel.put k eb rv).keeps λ c ys ec=>?_,q,es,ep,hq,h2,h3,h4,h5⟩;rw [Zv (Zck ec e (λ z=>nomatch z))];exact ec
end
section
variable {kvs:List (Key × V)} {k:Key} {u:Value} {E:Value->Shared->Prop}
end
def Zbq (i:Expr):Prop:=∀ ov iv,subscripted i false ov iv = operate [ov,iv] (getItem ov iv)
theorem Om {prog:Program} {w:World} {A:Around} {E:Value->Shared->Prop} {s:Shared} {env:Env} {value slice:Expr} {pos:Pos} {T id:String} {Q:Value->Shared->Prop}
  (hl:typeLookup (.type T) "__getitem__" = pure (some (.builtin id))) (hs:Zbq slice)
  (h:wpAny (model prog w) A (eval value env) (λ o s₁=>wpAny (model prog w) A (eval slice env) (λ i s₂=>s₂.TypeIs o T /\ wpAny (model prog w) A (getItem o i) Q E s₂) E s₁) E s) :
  wpAny (model prog w) A (eval (.Subscript value slice pos) env) Q E s:=by
 refine Subscript_ (wpAny_mono h (λ o s₁ h₁=>wpAny_mono h₁ (λ i s₂ h₂=>?_) λ _ _ x=>x) λ _ _ x=>x);obtain ⟨hT,h₂⟩:=h₂;unfold subscriptTail;refine wpAny_bind ?_;rw [getitemInPython_of_ne hT.not_modules];refine wpAny_bind (wpAny_specialOf hT hl ?_);have fin:wpAny (model prog w) A (subscripted slice false o i) (λ r s₃=>wpAny (model prog w) A (letTemporaryGo value o r >>= λ _=>pure r) Q E s₃) E s₂:=by
  rw [hs o i];exact wpAny_operating (wpAny_mono h₂ (λ r s₃ h₃=>wpAny_bind (wpAny_letTemporaryGo (wpAny_pure h₃))) λ _ _ x=>x)
 first
  | exact wpAny_pure (wpAny_bind fin)
  | exact wpAny_bind (wpAny_pure (wpAny_bind fin))
  | exact wpAny_bind fin
def ZcQ (td ty tv:TE):TS:=λ D Z H=>tv Z H λ v H1=>td Z H1 λ x H2=>ty Z H2 λ y H3=>∃ a H4,x = .ref a /\ Rg H3 a y v H4 /\ D.nx Z H4
section
variable {o i value:Expr} {pos tpos:Pos} {td ty tv:TE}
theorem Ou (hu:X.A.units + 1 < cLine) (ho:PE X o td) (hi:PE X i ty) (hv:PE X value tv) (hs:swapsWith value (some (.Subscript o i pos')) pos.line X.env = pure false) :
  PS X (.Assign [.Subscript o i pos'] value pos) (ZcQ td ty tv):=by
 intro pins s Z H D I h;refine wpAny_Assign_Subscript (thn (hv pins s Z H _ I h) λ r s1 ⟨v,H1,I1,rv,q1⟩=>thn (ho pins s1 Z H1 _ I1 q1) λ u s2 ⟨x,H2,I2,rx,q2⟩=>thn (hi pins s2 Z H2 _ I2 q2) λ iv s3 ⟨y,H3,I3,ry,a,H4,ex,g,q3⟩=>?_) hs;subst ex;obtain rfl:u = Value.ref a:=rx;exact CG hu I3 g ry rv λ s4 I4=>⟨Z,H4,I4,q3⟩
end
theorem FV (h:Heap) (hb:sysModules < h.objs.size):Z8 P w H (h.push { cls:=.type "dict",data:=.dict #[] }) h.objs.size (.dT []):=
 ⟨Nat.zero_le _,beq_eq_false_iff_ne.mpr (Ne.symm (Nat.ne_of_lt hb)),[],.nil,_,#[],0,Heap.get?_push_size _ rfl,⟨rfl,rfl,rfl⟩,rfl,rfl,List.nodup_nil⟩
def Zao:TE:=λ _ H Q=>∀ p,H p = none->Q (.ref p) (upd H p (.dT []))
section
variable {pos:Pos}
theorem F4:PE X (.Dict [] [] pos) Zao:=λ pins s Z H Q I h=>
 wpAny_Dict_empty ⟨.ref s.heap.objs.size,_,I.laid (a:=s.heap.objs.size) (o:=.dT []) (t':=s.toks) (λ _ _ q=>Heap.get?_push_of_some _ q) (Nat.le_refl _) (FV s.heap I.big),rfl,h _ (I.hok.fresh (Nat.le_refl _))⟩
end
structure M1 (X:Cx) (o:Expr) (m:Str) (apos:Pos) (e:Expr) (cpos:Pos):Prop where
 base:attributeBase o m X.env (eval o X.env) = eval o X.env
 few:((backTo cpos (starEach [e] X.env)).all (λ x=>!x.1) && (backToKw cpos (keywordEach [] X.env)).all (λ x=>x.1.isSome)
  && decide (([e]:List Expr).length + ([]:List Keyword).length + (if ([]:List Keyword).isEmpty then 0 else 1) < 30)) = true
 line:(apos.endLine == cpos.line) = true
 trees:backTo cpos (starEach [e] X.env) = [(false,eval e X.env)]
structure M2 (X:Cx) (o:Expr) (m:Str) (apos:Pos) (e f:Expr) (cpos:Pos):Prop where
 base:attributeBase o m X.env (eval o X.env) = eval o X.env
 few:((backTo cpos (starEach [e,f] X.env)).all (λ x=>!x.1) && (backToKw cpos (keywordEach [] X.env)).all (λ x=>x.1.isSome)
  && decide (([e,f]:List Expr).length + ([]:List Keyword).length + (if ([]:List Keyword).isEmpty then 0 else 1) < 30)) = true
 line:(apos.endLine == cpos.line) = true
 trees:backTo cpos (starEach [e,f] X.env) = [(false,eval e X.env),(false,eval f X.env)]
def IsD (H:Hp) (a:Addr):Prop:=(∃ kvs,Rd H a (.dK kvs)) \/ ∃ kvs,Rd H a (.dT kvs)
section
variable {y d:V} {u r:Value} {o:Option V} {E:Value->Shared->Prop}
end
section
variable {o f:Expr} {apos cpos:Pos} {td ty tx:TE}
end
section
variable {kvs:List (Key × V)} {E:Value->Shared->Prop}
end
section
variable {y:V} {u:Value} {E:Value->Shared->Prop}
end
end L2
namespace Att
open PySem.W PySem.Calls
theorem Ye {P:Params}:∀ (ns:List Int) (vs:List Value),WellAll P h vs (ns.map WData.int)->IntsAre vs ns:=by
 intro ns
 induction ns with
 | nil=>
  intro vs w;rw [List.map_nil] at w;cases w;exact .nil
 | cons n ns ih=>
  intro vs w;rw [List.map_cons] at w;cases w with
  | cons a b=>
   cases a;exact .cons _ _ (ih _ b)
theorem Dm {l:OpenLaw} (hn:l.most = some n) {P:Params} {h:Heap} {args:List WData} {vals:List Value}
  (hpre:l.row.toRowW.claim.pre args = true) (hwl:WellAll P h vals args) :
  ∃ a vs ns,vals = [Value.ref a] /\ args = [WData.list (ns.map WData.int)] /\ h.get? a = some { cls:=.type "list",data:=.seq vs.toArray } /\ IntsAre vs ns /\ ns.length <= n:=by
 have hsh:WShape.hasAll [] args [.list .int] = true:=(pre_splitW hpre).1;have hc:l.pre.holds [] { args:=args } = true:=(pre_splitW hpre).2;obtain ⟨d,r,rfl,h1,h2⟩:=hasAllW_cons hsh;obtain rfl:=hasAllW_nil h2;obtain ⟨xs,rfl,h3⟩:=hasW_list h1;obtain ⟨ns,rfl⟩:=items_int h3;have hlen:ns.length <= n:=by
  unfold OpenLaw.pre at hc;have h4:(WTm.not (.lt (.lit (.int (n:Int))) (.len (.arg 0)))).holds [] { args:=[.list (ns.map .int)] } = true:=by
   have h4:=(holds_andW hc).1;rw [hn] at h4;exact h4
  have h5:=condW_of h4 (w_not (w_lt w_lit (w_len_list (w_arg rfl))));rw [List.length_map] at h5;refine Nat.le_of_not_lt λ q=>?_;have q':(n:Int) < ((ns.length:Nat):Int):=by lia
  first
   | (rw [decide_eq_true q'] at h5; exact absurd h5 (by decide))
   | (simp at h5; lia)
 cases hwl with
 | cons w1 w2=>
  cases w2;cases w1 with
  | list ho hall=>exact ⟨_,_,ns,rfl,rfl,ho,Ye ns _ hall,hlen⟩
theorem Cn (l:OpenLaw) (args:List WData):l.row.toRowW.claim.post args (.bool true) args = true:=
 postW_of (r:=l.row.toRowW) (X:=(true == true))
  (show WShape.has [] (.bool true) .bool = true by first | rfl | decide | simp [WShape.has,WShape.arms,WShape.armsAll])
  (show (WTm.eq .res (.lit (.bool true))).value [] { args:=args,res:=some (.bool true),after:=args } = some (.bool (true == true)) from w_eq_bool (w_res rfl) w_lit) rfl
theorem Ua {l:OpenLaw} {n:Nat} {q:Program} {loose:List Str} {XP:(Str->Option Value)->Heap->Prop} {YP:World->Heap->Prop} {d:DefRec}
  (hn:l.most = some n) (hdf:d.params.defaults = [])
  (call:∀ (w:World) (s₀ s₁:Shared) (mg mb:Str->Option Value) (fa:Addr) (o:Obj) (pm cd doc:Value) (a:Addr) (vs:List Value) (ns:List Int),
   Ground q loose [] XP w s₀ mg mb s₁.heap->YP w s₁.heap ->
   s₁.heap.get? fa = some o->o.data = .func (docDef d.name d.params d.body d.scope pm cd doc)->s₁.heap.CodeRec cd d.name->mg d.name = some (.ref fa) ->
   s₁.heap.get? a = some { cls:=.type "list",data:=.seq vs.toArray }->IntsAre vs ns->ns.length <= n->s₁.gens = #[] ->
   codeAny (model l.prog w) callerA (.call (.ref fa) ⟨[.ref a],[]⟩) (λ r s'=>r = .ok (.ret (.bool true)) /\ OldK s₁.heap s'.heap /\ s'.os = s₁.os /\ AllBare s'.gens) s₁) :
  WalkO q loose XP YP l.row.toRowW d [] (λ f vs=>PySem.call f vs):=by
 intro w s₀ s₁ mg mb G Y fa o pm cd doc dV kV ho hd hcd hD hmg hg args vals as hpre hlay hrd hwl hlo;obtain rfl:dV = .none:=Dflts.none hD hdf;obtain rfl:kV = .none:=Dflts.noKw hD;obtain ⟨a,vs,ns,rfl,rfl,hobj,hints,hlen⟩:=Dm hn hpre hwl;refine enter_call (codeAny_mono (call w s₀ s₁ mg mb fa o pm cd doc a vs ns G Y ho (fd_plain hd) hcd hmg hobj hints hlen hg) λ r s' hq=>?_);obtain ⟨rfl,h2,h3,h4⟩:=hq;exact ⟨.inl ⟨.bool true,.bool true,[],rfl,λ _=>rfl,.bool true,Cn l _,λ _=>⟨List.Pairwise.nil,λ _ hm=>(nomatch hm)⟩⟩,h2,h3,h4⟩
section
variable {prog:Program} {E:Value->Shared->Prop} {K:Frag}
end
end Att
namespace L2
theorem VZ:∀ {vs:List Value} {ns:List Int},IntsAre vs ns->Vals (ns.map V.int) vs
 | _,_,.nil=>.nil
 | _,_,.cons n t h=>.cons ⟨t,rfl⟩ (VZ h)
def Zbv (H:Hp):Prop:=∀ b,H b = none \/ ∃ o xs,H b = some (.frz o (.lst xs))
theorem FO {P:Program} {w:World} {K:Fk} {mg mb:Str->Option Value} {CX:CXT} {k:Nat} {fa a:Addr} {fd:FuncData} {x:Str} {sp:Sp} {s₁:Shared} {vs:List Value} {ns:List Int}
  (KX:K.In s₁.heap) (hns:s₁.heap.Ns mainGlobals mg) (hb:s₁.heap.Ns builtinsNs mb) (hbb:∀ x:Str,x ≠ "__name__" -> mb x = bootBuiltins x) (hlim:s₁.heap.NoLimit) (hg:s₁.gens = #[])
  (ha:s₁.heap.get? a = some { cls:=.type "list",data:=.seq vs.toArray }) (hi:IntsAre vs ns) (hl:ns.length <= sizeLine) (hr:Vc k callerA)
  (F:∀ base:Heap,K.In base->base.Ns mainGlobals mg->Qh P w K mg base CX k fa fd [x] sp) (hbind:∀ (s:Shared) (u:Value),BindsTo s fd ⟨[u],[]⟩ [(x,u)])
  (hsp:∀ H:Hp,Zbv H->SqL K H a (ns.map V.int)->sp [.ref a] H (λ v _=>v = .bl true) λ _ _ _=>False)
  (hCX:∀ H e s',CX [] H s₁ (λ _ _ _=>False) e s'->False) :
  codeAny (model P w) callerA (.call (.ref fa) ⟨[.ref a],[]⟩) (λ r s'=>r = .ok (.ret (.bool true)) /\ OldK s₁.heap s'.heap /\ s'.os = s₁.os /\ AllBare s'.gens) s₁:=by
 have rv:=VZ hi;have lenV:=hi.length;have core:∀ H:Hp,Zbv H->SqL K H a (ns.map V.int)->HOk P w H s₁.heap->(∀ b,H b ≠ none->b = a)->(H a ≠ none->K.lookup a = none) ->
   codeAny (model P w) callerA (.call (.ref fa) ⟨[.ref a],[]⟩) (λ r s'=>r = .ok (.ret (.bool true)) /\ OldK s₁.heap s'.heap /\ s'.os = s₁.os /\ AllBare s'.gens) s₁:=by
  intro H hO hS hok hA hK;have base_of:∀ {b:Addr} {o:Obj},s₁.heap.get? b = some o->H b = none->(E7 s₁.heap H).get? b = some o:=λ e n=>Hq e n;have noA:∀ {b:Addr} {o:Obj} {es:Array DictEntry} {ep:Nat},s₁.heap.get? b = some o->o.data = .dict es ep->H b = none:=λ {b o es ep} e d=>by
   cases q:H b with
   | none=>rfl
   | some u=>
    have e':b = a:=hA b (by rw [q]; simp);subst e';rw [ha] at e; cases e;have d':Data.seq vs.toArray _ = Data.dict es ep:=d;cases d'
  have nsK:∀ {b:Addr} {m:Str->Option Value},s₁.heap.Ns b m->(E7 s₁.heap H).Ns b m:=λ {b m} ⟨o,es,ep,e,d,r⟩=>⟨o,es,ep,base_of e (noA e d),d,r⟩
  have hKb:K.In (E7 s₁.heap H):=λ b o e=>base_of (KX b o e) (by
   cases q:H b with
   | none=>rfl
   | some u=>
    have e':b = a:=hA b (by rw [q]; simp);subst e'
    rw [hK (by rw [q]; simp)] at e; cases e)
  have hM:Mod K mg (E7 s₁.heap H):=⟨hKb,nsK hns,⟨mb,nsK hb,hbb⟩,let ⟨mc,h1,h2⟩:=hlim; ⟨mc,nsK h1,h2⟩⟩
  have e0:Zby P w K mg (E7 s₁.heap H) callerA [] s₁ H:=⟨rfl,hM,λ b o e=>NX e,Nat.le_of_eq (Ep _ _),trivial,λ b hb=>absurd (show b ∈ ([]:List Addr) from hb) (by simp),hok,.of_eq hg⟩
  refine codeAny_mono ((F _ hKb (nsK hns)).run callerA [] s₁ H ⟨[.ref a],[]⟩ [.ref a] [.ref a] _ _ hr e0 (hbind s₁ (.ref a)) (.cons rfl .nil) (hsp H hO hS)) λ r s' h=>?_;cases r with
  | error e=>exact (hCX H e s' h).elim
  | ok fl=>
   cases fl with
   | next=>exact False.elim h
   | brk=>exact False.elim h
   | cont=>exact False.elim h
   | ret u=>
    obtain ⟨v,H',os,bare,un,hok',r',q⟩:=h;have q':v = .bl true:=q;subst q';obtain rfl:u = Value.bool true:=r';refine ⟨rfl,OldK.of_keep λ b o e=>?_,os,bare⟩;cases q:H b with
    | none=>exact un.keep b o e q (by intro z; exact absurd (show b ∈ ([]:List Addr) from z) (by simp)) (by simp)
    | some u=>
     rcases hO b with z | ⟨ob,xs,z⟩
     ·rw [q] at z; cases z
     ·have z2:=un.frzs b ob _ z;obtain ⟨e1,_⟩:=hok b _ z;obtain ⟨e2,_⟩:=hok' b _ z2;rw [e] at e1; cases e1;exact e2
 cases hk:K.lookup a with
 | some o=>
  have e:=KX a o hk;rw [ha] at e;cases e;refine core (λ _=>none) (λ _=>.inl rfl) (.inr ⟨_,vs.toArray,_,hk,rfl,rfl,rfl,by rw [List.size_toArray,lenV]; exact hl,by simpa using rv⟩) (λ b u z=>by have z':(none:Option HO) = some u:=z; cases z') (λ b z=>absurd rfl z) λ z=>absurd rfl z
 | none=>
  refine core (λ b=>if b = a then some (.frz { cls:=.type "list",data:=.seq vs.toArray } (.lst (ns.map V.int))) else none) (λ b=>?_) (.inl (.inr ⟨{ cls:=.type "list",data:=.seq vs.toArray },if_pos rfl⟩)) (λ b u z=>?_) (λ b z=>?_) λ _=>hk
  ·by_cases hb:b = a
   ·exact .inr ⟨_,_,if_pos hb⟩
   ·exact .inl (if_neg hb)
  ·by_cases hb:b = a
   ·have z':=(if_pos hb).symm.trans z;cases z';subst hb;exact ⟨ha,by rw [List.length_map]; exact hl,vs,_,rv,ha⟩
   ·have z':=(if_neg hb).symm.trans z;cases z'
  ·by_cases hb:b = a
   ·exact hb
   ·exact absurd (if_neg hb) z
theorem Ng {l:PySem.W.OpenLaw} {n k:Nat} {q:Program} {loose:List Str} {XP:(Str->Option Value)->Heap->Prop} {YP:World->Heap->Prop} {d:DefRec} {K:Params->Fk} {CX:World->CXT} {sp:World->Sp} {x:Str}
  (hn:l.most = some n) (hn2:n <= sizeLine) (hdf:d.params.defaults = []) (hr:Vc k callerA)
  (hY:∀ (w:World) (h:Heap),YP w h->(K w.params).In h)
  (F:∀ (w:World) (mg:Str->Option Value) (fa:Addr) (h:Heap),(K w.params).In h->h.Ns mainGlobals mg->mg d.name = some (.ref fa) ->
   ∃ fd:FuncData,(∀ (s:Shared) (u:Value),BindsTo s fd ⟨[u],[]⟩ [(x,u)]) /\
    ∀ base:Heap,(K w.params).In base->base.Ns mainGlobals mg->Qh l.prog w (K w.params) mg base (CX w) k fa fd [x] (sp w))
  (hsp:∀ (w:World) (H:Hp) (a:Addr) (ns:List Int),ns.length <= n->Zbv H->SqL (K w.params) H a (ns.map V.int)->sp w [.ref a] H (λ v _=>v = .bl true) λ _ _ _=>False)
  (hCX:∀ (w:World) (H:Hp) (s:Shared) (e:Value) (s':Shared),CX w [] H s (λ _ _ _=>False) e s'->False) :
  PySem.W.WalkO q loose XP YP l.row.toRowW d [] (λ f vs=>PySem.call f vs):=by
 refine Att.Ua hn hdf λ w s₀ s₁ mg mb fa o pm cd doc a vs ns G Y ho hd hcd hmg hobj hints hlen hg=>?_;have KX:=hY w _ Y;obtain ⟨fd,hb,hF⟩:=F w mg fa _ KX G.T.g hmg;exact FO KX G.T.g G.T.b G.T.builtins G.T.nolimit hg hobj hints (Nat.le_trans hlen hn2) hr hF hb (λ H hO hS=>hsp w H a ns hlen hO hS) λ H e s'=>hCX w H s₁ e s'
noncomputable def JH (s:Stmt):Arguments:=match s with
 | .FunctionDef _ a _ _ _ _ _ _ _ _=>a
 | _=>{ posonlyargs:=[],args:=[],vararg:=none,kwonlyargs:=[],kw_defaults:=[],kwarg:=none,defaults:=[] }
noncomputable def QN (s:Stmt):List Stmt:=match s with
 | .FunctionDef _ _ b _ _ _ _ _ _ _=>b
 | _=>[]
noncomputable def Zf (s:Stmt):Scope:=match s with
 | .FunctionDef _ _ _ _ _ _ sc _ _ _=>sc
 | _=>{ kind:=.function,names:=[],isGenerator:=false,isCoroutine:=false }
abbrev CX0:CXT:=λ _ _ _ _ _ _=>False
abbrev E0:XK:=λ _ _ _=>False
theorem ZcA:Passes CX0 X E0:=λ _ _ _ _ _ _ _ h=>h.elim
structure Fun (K:Fk) (x qual:Str) (st:Stmt) (f:Addr) (fd:FuncData):Prop where
 ex:∃ (oc:Value) (od:Option Addr) (kV doc pm:Value) (an:Option Addr) (cdv ct:Value) (osl:Array (Option Value)),
  fd = PySem.W.fnOf x qual (JH st) (QN st) (Zf st) .none kV doc pm an cdv ct /\ K.lookup f = some ⟨oc,od,.func fd,osl⟩ /\ PySem.W.codeIn K cdv qual = true
 kp:PySem.W.keepIn K (.ref f) = true
section
variable {base:Heap}
theorem Fun.ok {k:Nat} {sp:Sp} (F:Fun K x qual st f fd) (S:Zn N ps (Zf st)) (len:∀ vs H Q E,sp vs H Q E->vs.length = ps.length)
  (hbody:∀ (cdv:Value) (A:Around) (outer:List Env) (s:Shared) (H:Hp) (vs:List V) (Q:VK) (E:XK),Vc k (A.deeper (envOfC qual (Zf st) s.heap.objs.size f cdv))->sp vs H Q E ->
   ∃ t,PSs (Nb CX0 P w K mg base N qual (Zf st) f cdv A outer s H E).nox (QN st) t /\ t { nx:=λ _ H'=>Q .non H',rt:=Q } (start N vs) H):Qh P w K mg base CX0 (k + 1) f fd ps sp:=by
 obtain ⟨oc,od,kV,doc,pm,an,cdv,ct,osl,rfl,lk,hcd⟩:=F.ex;refine Zb2 lk hcd S len λ A outer s H vs Q E hr hsp=>?_;obtain ⟨t,h,q⟩:=hbody cdv A outer s H vs Q E hr hsp;exact ⟨t,h.nox,q⟩
theorem Fun.binds {ps:List Str} (F:Fun K x qual st f fd)
  (h:∀ (kV doc pm:Value) (an:Option Addr) (cdv ct:Value) (us:List Value),us.length = ps.length->bindArgs (PySem.W.fnOf x qual (JH st) (QN st) (Zf st) .none kV doc pm an cdv ct) ⟨us,[]⟩ = pure (ps.zip us)):Binds K fd ps []:=by
 obtain ⟨oc,od,kV,doc,pm,an,cdv,ct,osl,rfl,lk,hcd⟩:=F.ex;exact .all (h kV doc pm an cdv ct)
theorem Te {oc:Value} {od an:Option Addr} {osl:Array (Option Value)} {kV doc pm cdv ct:Value} (l:K.lookup f = some ⟨oc,od,.func (PySem.W.fnOf x qual (JH st) (QN st) (Zf st) .none kV doc pm an cdv ct),osl⟩)
  (c:PySem.W.codeIn K cdv qual = true) (k:PySem.W.keepIn K (.ref f) = true):Fun K x qual st f (PySem.W.fnOf x qual (JH st) (QN st) (Zf st) .none kV doc pm an cdv ct):=⟨⟨oc,od,kV,doc,pm,an,cdv,ct,osl,rfl,l,c⟩,k⟩
end
def Rt (H H':Hp):Prop:=∀ b o,H b = some o->H' b = some o
theorem Rt.refl (H:Hp):Rt H H:=λ _ _ h=>h
theorem Rt.trans {H1 H2:Hp} (a:Rt H H1) (b:Rt H1 H2):Rt H H2:=λ c o h=>b c o (a c o h)
end L2
namespace DL
inductive DV where
 | dat (d:PyData)
 | own (a:Addr)
 | ty (n:String)
  | mix (xs:List DV)
inductive OO where
 | lst (ds:List PyData)
  | dct (ks:List (List Key))
  | dtv (kvs:List (List Key × PyData))
  | dkv (kvs:List (Key × PyData))
  | dko (kvs:List (Key × DV))
  | fdk (o:Obj) (kvs:List (Key × PyData))
  | lsv (n:Nat) (xs:List DV)
  | ext (φ:Heap->Prop)
  | gst (N₀:Addr->Prop) (H₀:Hp)
  | fdc (o:Obj) (ks:List (List Key))
 | fdt (o:Obj) (ps:List (List Key × PyData))
  | tab (φ:Fk->Addr->Array Value->(Addr->Prop)->Hp->Prop)
abbrev Mp:=Addr->Option OO
noncomputable def ZJ (M:Mp) (a:Addr) (o:OO):Mp:=λ b=>if b = a then some o else M b
noncomputable def VV (M:Mp) (a:Addr):Mp:=λ b=>if b = a then none else M b
theorem ZD {M:Mp} {o:OO}:ZJ M a o a = some o:=by unfold ZJ; rw [if_pos rfl]
theorem ZC {M:Mp} {b:Addr} {o:OO} (h:b ≠ a):ZJ M a o b = M b:=by unfold ZJ; rw [if_neg h]
theorem Cp {M:Mp} {o u:OO}:ZJ (ZJ M a o) a u = ZJ M a u:=by
 funext b; unfold ZJ; split <;> rfl
theorem VW {M:Mp}:VV M a a = none:=by unfold VV; rw [if_pos rfl]
theorem BH {M:Mp} {b:Addr} (h:b ≠ a):VV M a b = M b:=by unfold VV; rw [if_neg h]
noncomputable def kD:Key->PyData
 | .inl i=>.int i
 | .inr x=>.str x
def KTu (K:Fk) (a:Addr) (xs:List V):Prop:=
 ∃ (o:Obj) (its:Array Value) (n:Nat),K.lookup a = some o /\ o.cls = .type "tuple" /\ o.data = .seq its n /\ its.size <= sizeLine /\ Vals xs its.toList
def KLs (K:Fk) (a:Addr) (xs:List V):Prop:=
 ∃ (o:Obj) (its:Array Value) (n:Nat),K.lookup a = some o /\ o.cls = .type "list" /\ o.dict = none /\ o.data = .seq its n /\ its.size <= sizeLine /\ Vals xs its.toList
def TupAt (K:Fk) (M:Mp) (H:Hp) (a:Addr) (xs:List V):Prop:=(M a = none /\ Rd H a (.tup xs)) \/ KTu K a xs
def LstAt (K:Fk) (M:Mp) (H:Hp) (a:Addr) (xs:List V):Prop:=(M a = none /\ Rd H a (.lst xs)) \/ KLs K a xs
theorem TupAt.sq {M:Mp} (h:TupAt K M H a xs):SqT K H a xs:=by
 rcases h with ⟨_,h⟩ | h
 ·exact .inl h
 ·exact .inr h
theorem LstAt.sq {M:Mp} (h:LstAt K M H a xs):SqL K H a xs:=by
 rcases h with ⟨_,h⟩ | h
 ·exact .inl h
 ·exact .inr h
mutual
inductive Dt (K:Fk) (M:Mp) (H:Hp):V->PyData->Prop
 | non:Dt K M H .non .none
 | bl (b:Bool):Dt K M H (.bl b) (.bool b)
 | int (i:Int):Dt K M H (.int i) (.int i)
 | str (x:Str):Dt K M H (.str x) (.str x)
 | tup {a:Addr} {xs:List V} {ds:List PyData}:TupAt K M H a xs->Dts K M H xs ds->Dt K M H (.ref a) (.tuple ds)
 | lst {a:Addr} {xs:List V} {ds:List PyData}:LstAt K M H a xs->Dts K M H xs ds->Dt K M H (.ref a) (.list ds)
 | dK {a:Addr} {kvs:List (Key × V)} {ds:List PyData}:M a = none->H a = some (.dK kvs)->Dts K M H (kvs.map (·.2)) ds->Dt K M H (.ref a) (.dict ((kvs.map λ kv=>kD kv.1).zip ds))
 | dT {a:Addr} {kvs:List (List Key × V)} {ds:List PyData}:M a = none->H a = some (.dT kvs)->Dts K M H (kvs.map (·.2)) ds->kvs ≠ []->Dt K M H (.ref a) (.dict ((kvs.map λ kv=>PyData.tuple (kv.1.map kD)).zip ds))
 | dX {a b:Addr} {φ:Heap->Prop} {v:V} {dk d:PyData}:M a = none->H a = some (.ext φ)->(a == sysModules) = false ->
   (∀ h,φ h->∃ o es n u,h.get? a = some o /\ o.cls = .type "dict" /\ o.data = .dict es n /\ es.toList.map (·.key) = [.ref b] /\ es.toList.map (·.val) = [u] /\ RelV v u)->Dt K M H (.ref b) dk->Dt K M H v d->Dt K M H (.ref a) (.dict [(dk,d)])
inductive Dts (K:Fk) (M:Mp) (H:Hp):List V->List PyData->Prop
 | nil:Dts K M H [] []
 | cons {x:V} {xs:List V} {d:PyData} {ds:List PyData}:Dt K M H x d->Dts K M H xs ds->Dts K M H (x :: xs) (d :: ds)
end
structure Step (M:Mp) (H:Hp) (M':Mp) (H':Hp):Prop where
 keep:∀ b o,M b = none->H b = some o->H' b = some o
 free:∀ b o,M b = none->H b = some o->M' b = none
theorem Step.refl {M:Mp}:Step M H M H:=⟨λ _ _ _ h=>h,λ _ _ h _=>h⟩
theorem Step.trans {M M1 M2:Mp} {H1 H2:Hp} (a:Step M H M1 H1) (b:Step M1 H1 M2 H2):Step M H M2 H2:=
 ⟨λ c o h1 h2=>b.keep c o (a.free c o h1 h2) (a.keep c o h1 h2),λ c o h1 h2=>b.free c o (a.free c o h1 h2) (a.keep c o h1 h2)⟩
section
variable {M M':Mp}
theorem D3 {u:HO} (st:Step M H M' H') (hm:M a = none) (h:Rd H a u):M' a = none /\ Rd H' a u:=by
 rcases h with h | ⟨o,h⟩
 ·exact ⟨st.free _ _ hm h,.inl (st.keep _ _ hm h)⟩
 ·exact ⟨st.free _ _ hm h,.inr ⟨o,st.keep _ _ hm h⟩⟩
theorem TupAt.step (h:TupAt K M H a xs) (st:Step M H M' H'):TupAt K M' H' a xs:=by
 rcases h with ⟨h1,h2⟩ | h
 ·exact .inl (D3 st h1 h2)
 ·exact .inr h
theorem LstAt.step (h:LstAt K M H a xs) (st:Step M H M' H'):LstAt K M' H' a xs:=by
 rcases h with ⟨h1,h2⟩ | h
 ·exact .inl (D3 st h1 h2)
 ·exact .inr h
mutual
theorem Dt.step (st:Step M H M' H'):∀ {v:V} {d:PyData},Dt K M H v d->Dt K M' H' v d
 | _,_,.non=>.non
 | _,_,.bl b=>.bl b
 | _,_,.int i=>.int i
 | _,_,.str x=>.str x
 | _,_,.tup h1 h2=>.tup (h1.step st) (Dts.step st h2)
 | _,_,.lst h1 h2=>.lst (h1.step st) (Dts.step st h2)
 | _,_,.dK h0 h1 h2=>.dK (st.free _ _ h0 h1) (st.keep _ _ h0 h1) (Dts.step st h2)
 | _,_,.dT h0 h1 h2 h3=>.dT (st.free _ _ h0 h1) (st.keep _ _ h0 h1) (Dts.step st h2) h3
 | _,_,.dX h0 h1 h2 h3 h4 h5=>.dX (st.free _ _ h0 h1) (st.keep _ _ h0 h1) h2 h3 (Dt.step st h4) (Dt.step st h5)
theorem Dts.step (st:Step M H M' H'):∀ {vs:List V} {ds:List PyData},Dts K M H vs ds->Dts K M' H' vs ds
 | _,_,.nil=>.nil
 | _,_,.cons h1 h2=>.cons (Dt.step st h1) (Dts.step st h2)
end
theorem Dts.length:∀ {vs:List V} {ds:List PyData},Dts K M H vs ds->vs.length = ds.length
 | _,_,.nil=>rfl
 | _,_,.cons _ h=>by rw [List.length_cons,List.length_cons,Dts.length h]
theorem Dts.get:∀ {vs:List V} {ds:List PyData} {i:Nat} {d:PyData},Dts K M H vs ds->ds[i]? = some d->∃ v,vs[i]? = some v /\ Dt K M H v d
 | _,_,_,_,.nil,e=>by simp at e
 | _,_,0,_,.cons h _,e=>by simp at e; subst e; exact ⟨_,rfl,h⟩
 | _,_,i + 1,d,.cons _ h,e=>by
  obtain ⟨v,h1,h2⟩:=Dts.get (i:=i) (d:=d) h (by simpa using e);exact ⟨v,by simpa using h1,h2⟩
theorem Dts.Rq:∀ {vs:List V} {ds:List PyData} {i:Nat} {v:V},Dts K M H vs ds->vs[i]? = some v->∃ d,ds[i]? = some d /\ Dt K M H v d
 | _,_,_,_,.nil,e=>by simp at e
 | _,_,0,_,.cons h _,e=>by simp at e; subst e; exact ⟨_,rfl,h⟩
 | _,_,i + 1,v,.cons _ h,e=>by
  obtain ⟨d,h1,h2⟩:=Dts.Rq (i:=i) (v:=v) h (by simpa using e);exact ⟨d,by simpa using h1,h2⟩
theorem Dts.append:∀ {vs ws:List V} {ds es:List PyData},Dts K M H vs ds->Dts K M H ws es->Dts K M H (vs ++ ws) (ds ++ es)
 | _,_,_,_,.nil,h=>h
 | _,_,_,_,.cons h1 h2,h=>.cons h1 (Dts.append h2 h)
theorem Dts.take:∀ {vs:List V} {ds:List PyData} (n:Nat),Dts K M H vs ds->Dts K M H (vs.take n) (ds.take n)
 | _,_,0,_=>.nil
 | _,_,_ + 1,.nil=>.nil
 | _,_,n + 1,.cons h1 h2=>.cons h1 (Dts.take n h2)
theorem Dts.drop:∀ {vs:List V} {ds:List PyData} (n:Nat),Dts K M H vs ds->Dts K M H (vs.drop n) (ds.drop n)
 | _,_,0,h=>h
 | _,_,_ + 1,.nil=>.nil
 | _,_,n + 1,.cons _ h2=>Dts.drop n h2
theorem Dts.set (h:Dt K M H v d):∀ {vs:List V} {ds:List PyData} (i:Nat),Dts K M H vs ds->Dts K M H (vs.set i v) (ds.set i d)
 | _,_,_,.nil=>.nil
 | _,_,0,.cons _ t=>.cons h t
 | _,_,i + 1,.cons q t=>.cons q (Dts.set h i t)
theorem Dts.ints:∀ (ns:List Int),Dts K M H (ns.map V.int) (ns.map PyData.int)
 | []=>.nil
 | n :: ns=>.cons (.int n) (Dts.ints ns)
theorem Vg:∀ {vs:List V} {ns:List Int},Dts K M H vs (ns.map PyData.int)->vs = ns.map V.int
 | vs,[],h=>by
  rw [List.map_nil] at h;cases h;rfl
 | vs,n :: ns,h=>by
  rw [List.map_cons] at h;cases h with
  | cons h1 h2=>
   cases h1;rw [Vg h2,List.map_cons]
mutual
inductive Mx (K:Fk) (M:Mp) (H:Hp):V->List DV->Prop
 | mk {a:Addr} {vs:List V} {xs:List DV}:M a = none->H a = some (.tup vs)->Mxs K M H vs xs->Mx K M H (.ref a) xs
inductive Mxs (K:Fk) (M:Mp) (H:Hp):List V->List DV->Prop
 | nil:Mxs K M H [] []
 | dat {v:V} {d:PyData} {vs:List V} {xs:List DV}:Dt K M H v d->Mxs K M H vs xs->Mxs K M H (v :: vs) (.dat d :: xs)
 | own {b:Addr} {vs:List V} {xs:List DV}:Mxs K M H vs xs->Mxs K M H (.ref b :: vs) (.own b :: xs)
 | mix {v:V} {ys:List DV} {vs:List V} {xs:List DV}:Mx K M H v ys->Mxs K M H vs xs->Mxs K M H (v :: vs) (.mix ys :: xs)
end
mutual
theorem Mx.step (st:Step M H M' H'):∀ {v:V} {xs:List DV},Mx K M H v xs->Mx K M' H' v xs
 | _,_,.mk h1 h2 h3=>.mk (st.free _ _ h1 h2) (st.keep _ _ h1 h2) (Mxs.step st h3)
theorem Mxs.step (st:Step M H M' H'):∀ {vs:List V} {xs:List DV},Mxs K M H vs xs->Mxs K M' H' vs xs
 | _,_,.nil=>.nil
 | _,_,.dat h1 h2=>.dat (Dt.step st h1) (Mxs.step st h2)
 | _,_,.own h2=>.own (Mxs.step st h2)
 | _,_,.mix h1 h2=>.mix (Mx.step st h1) (Mxs.step st h2)
end
def VR0 (K:Fk) (M:Mp) (H:Hp) (v:V):DV->Prop
 | .dat d=>Dt K M H v d
 | .own b=>v = .ref b
 | .ty _=>False
 | .mix xs=>Mx K M H v xs
theorem VR0.step {x:DV} (h:VR0 K M H v x) (st:Step M H M' H'):VR0 K M' H' v x:=by
 cases x with
 | dat d=>exact Dt.step st h
 | own b=>exact h
 | ty n=>exact h
 | mix xs=>exact Mx.step st h
def OOk (K:Fk) (M:Mp) (H:Hp) (a:Addr):OO->Prop
 | .lst ds=>∃ vs,H a = some (.lst vs) /\ Dts K M H vs ds
 | .dct ks=>∃ kvs,H a = some (.dT kvs) /\ kvs.map (·.1) = ks
 | .dtv ps=>∃ kvs,H a = some (.dT kvs) /\ kvs.map (·.1) = ps.map (·.1) /\ Dts K M H (kvs.map (·.2)) (ps.map (·.2))
 | .dkv ps=>∃ kvs,H a = some (.dK kvs) /\ kvs.map (·.1) = ps.map (·.1) /\ Dts K M H (kvs.map (·.2)) (ps.map (·.2))
 | .dko ps=>∃ kvs,H a = some (.dK kvs) /\ Paired (λ (p:Key × V) (q:Key × DV)=>p.1 = q.1 /\ VR0 K M H p.2 q.2) kvs ps
 | .fdk o ps=>∃ kvs,H a = some (.frz o (.dK kvs)) /\ kvs.map (·.1) = ps.map (·.1) /\ Dts K M H (kvs.map (·.2)) (ps.map (·.2))
 | .lsv _ xs=>∃ vs,H a = some (.lst vs) /\ Paired (VR0 K M H) vs xs
 | .ext φ=>H a = some (.ext φ)
 | .gst N₀ H₀=>(∃ vs,H a = some (.lst vs) /\ H₀ a = some (.lst vs)) /\ ∀ b o,N₀ b->H₀ b = some o->H b = some o /\ M b = none
 | .fdc o ks=>∃ kvs,H a = some (.frz o (.dT kvs)) /\ kvs.map (·.1) = ks
 | .fdt o ps=>∃ kvs,H a = some (.frz o (.dT kvs)) /\ kvs.map (·.1) = ps.map (·.1) /\ Dts K M H (kvs.map (·.2)) (ps.map (·.2))
 | .tab φ=>(∃ ps,H a = some (.tbl ps) /\ φ K a ps (λ b=>M b = none) H) /\ ∀ ps (N N':Addr->Prop) H H',φ K a ps N H->(∀ b o,N b->H b = some o->N' b /\ H' b = some o)->φ K a ps N' H'
theorem OOk.step {o:OO} (h:OOk K M H a o) (st:Step M H M' H') (e:∀ u,H a = some u->H' a = some u):OOk K M' H' a o:=by
 cases o with
 | lst ds=>obtain ⟨vs,e1,e2⟩:=h; exact ⟨vs,e _ e1,e2.step st⟩
 | dct ks=>obtain ⟨vs,e1,e2⟩:=h; exact ⟨vs,e _ e1,e2⟩
 | dtv ps=>obtain ⟨vs,e1,e2,e3⟩:=h; exact ⟨vs,e _ e1,e2,e3.step st⟩
 | dkv ps=>obtain ⟨vs,e1,e2,e3⟩:=h; exact ⟨vs,e _ e1,e2,e3.step st⟩
 | dko ps=>obtain ⟨vs,e1,e2⟩:=h; exact ⟨vs,e _ e1,Paired.Cr e2 λ _ _ z=>⟨z.1,z.2.step st⟩⟩
 | fdk o ps=>obtain ⟨vs,e1,e2,e3⟩:=h; exact ⟨vs,e _ e1,e2,e3.step st⟩
 | lsv n xs=>obtain ⟨vs,e1,e2⟩:=h; exact ⟨vs,e _ e1,Paired.Cr e2 λ _ _ z=>z.step st⟩
 | ext φ=>exact e _ h
 | gst N₀ H₀=>obtain ⟨⟨u,e1,e2⟩,k⟩:=h; exact ⟨⟨u,e _ e1,e2⟩,λ b o n q=>⟨st.keep b o (k b o n q).2 (k b o n q).1,st.free b o (k b o n q).2 (k b o n q).1⟩⟩
 | fdc o ks=>obtain ⟨vs,e1,e2⟩:=h; exact ⟨vs,e _ e1,e2⟩
 | fdt o ps=>obtain ⟨vs,e1,e2,e3⟩:=h; exact ⟨vs,e _ e1,e2,e3.step st⟩
 | tab φ=>obtain ⟨⟨ps,e1,e2⟩,e3⟩:=h; exact ⟨⟨ps,e _ e1,e3 _ _ _ _ _ e2 λ b o n q=>⟨st.free b o n q,st.keep b o n q⟩⟩,e3⟩
theorem OOk.some {o:OO} (h:OOk K M H a o):∃ u,H a = some u:=by
 cases o with
 | lst ds=>obtain ⟨vs,e1,_⟩:=h; exact ⟨_,e1⟩
 | dct ks=>obtain ⟨vs,e1,_⟩:=h; exact ⟨_,e1⟩
 | dtv ps=>obtain ⟨vs,e1,_⟩:=h; exact ⟨_,e1⟩
 | dkv ps=>obtain ⟨vs,e1,_⟩:=h; exact ⟨_,e1⟩
 | dko ps=>obtain ⟨vs,e1,_⟩:=h; exact ⟨_,e1⟩
 | fdk o ps=>obtain ⟨vs,e1,_⟩:=h; exact ⟨_,e1⟩
 | lsv n xs=>obtain ⟨vs,e1,_⟩:=h; exact ⟨_,e1⟩
 | ext φ=>exact ⟨_,h⟩
 | gst N₀ H₀=>obtain ⟨⟨u,e1,_⟩,_⟩:=h; exact ⟨_,e1⟩
 | fdc o ks=>obtain ⟨vs,e1,_⟩:=h; exact ⟨_,e1⟩
 | fdt o ps=>obtain ⟨vs,e1,_⟩:=h; exact ⟨_,e1⟩
 | tab φ=>obtain ⟨⟨ps,e1,_⟩,_⟩:=h; exact ⟨_,e1⟩
structure Zy (K:Fk) (M:Mp) (H:Hp):Prop where
 ok:∀ a o,M a = some o->OOk K M H a o
theorem Zy.ls (r:Zy K M H) (a:Addr) (ds:List PyData) (h:M a = some (.lst ds)):∃ vs,H a = some (.lst vs) /\ Dts K M H vs ds:=r.ok a _ h
theorem Zy.tracked (r:Zy K M H) (h:H a = none):M a = none:=by
 cases q:M a with
 | none=>rfl
 | some o=>
  obtain ⟨u,e⟩:=(r.ok a o q).some;rw [h] at e;cases e
theorem Step.new {o:HO} (h:H p = none):Step M H M (upd H p o):=
 ⟨λ b u _ e=>by rw [Zv (Zt e h)]; exact e,λ _ _ h _=>h⟩
theorem Zy.step_same (r:Zy K M H) (st:Step M H M H') (hk:∀ a u,M a ≠ none->H a = some u->H' a = some u):Zy K M H':=
 ⟨λ a o e=>(r.ok a o e).step st λ u hu=>hk a u (by rw [e]; simp) hu⟩
theorem Zy.new (r:Zy K M H) {o:HO} (h:H p = none):Zy K M (upd H p o):=
 r.step_same (Step.new h) λ a vs _ e=>by rw [Zv (Zt e h)]; exact e
theorem Step.QY {o:HO} {q:OO} (h:H p = none):Step M H (ZJ M p q) (upd H p o):=
 ⟨λ b u _ e=>by rw [Zv (Zt e h)]; exact e,λ b u hm e=>by rw [ZC (Zt e h)]; exact hm⟩
theorem Step.Y7 {o:HO} {q q':OO} (h:M p = some q):Step M H (ZJ M p q') (upd H p o):=by
 have ne:∀ b,M b = none->b ≠ p:=λ b hb e=>by rw [e,h] at hb; cases hb
 exact ⟨λ b u hb e=>by rw [Zv (ne b hb)]; exact e,λ b u hb e=>by rw [ZC (ne b hb)]; exact hb⟩
theorem Zy.KS (r:Zy K M H) {u:HO} {o:OO} (st:Step M H (ZJ M p o) (upd H p u)) (h:OOk K (ZJ M p o) (upd H p u) p o):Zy K (ZJ M p o) (upd H p u):=by
 refine ⟨λ a q e=>?_⟩
 by_cases ha:a = p
 ·subst ha;rw [ZD] at e;cases e;exact h
 ·rw [ZC ha] at e;exact (r.ok a q e).step st λ v hv=>by rw [Zv ha]; exact hv
theorem Zy.Y9 (r:Zy K M H) (st:Step M H (ZJ M p (.lst ds)) (upd H p (.lst vs))) (hv:Dts K M H vs ds) :
  Zy K (ZJ M p (.lst ds)) (upd H p (.lst vs)):=r.KS st ⟨vs,ZW,hv.step st⟩
theorem Step.frz:Step M H (VV M p) H:=
 ⟨λ _ _ _ h=>h,λ b o hb _=>by unfold VV; split <;> first | rfl | exact hb⟩
theorem Zy.frz (r:Zy K M H):Zy K (VV M p) H:=by
 refine ⟨λ a o e=>?_⟩;have hne:a ≠ p:=λ z=>by rw [z,VW] at e; cases e
 rw [BH hne] at e;exact (r.ok a o e).step Step.frz λ _ h=>h
def ZP (K:Fk) (M:Mp) (H:Hp) (v:V):DV->Prop
 | .dat d=>Dt K M H v d
 | .own a=>v = .ref a
 | .ty n=>v = .ty n
 | .mix xs=>Mx K M H v xs
theorem ZP.step {x:DV} (h:ZP K M H v x) (st:Step M H M' H'):ZP K M' H' v x:=by
 cases x with
 | dat d=>exact Dt.step st h
 | own a=>exact h
 | ty n=>exact h
 | mix xs=>exact Mx.step st h
abbrev JA (K:Fk) (M:Mp) (H:Hp):List V->List DV->Prop:=Paired (ZP K M H)
theorem JA.step {xs:List DV} (h:JA K M H vs xs) (st:Step M H M' H'):JA K M' H' vs xs:=Paired.Cr h λ _ _ q=>ZP.step q st
theorem JA.Zbo:∀ {vs:List V} {ds:List PyData},JA K M H vs (ds.map DV.dat)->Dts K M H vs ds
 | vs,[],h=>by rw [List.map_nil] at h; cases h; exact .nil
 | vs,d :: ds,h=>by
  rw [List.map_cons] at h;cases h with
  | cons h1 h2=>exact .cons h1 (JA.Zbo h2)
def onV (o:Option (Option DV)) (P:DV->Prop):Prop:=match o with | some (some x)=>P x | _=>False
theorem Uo {o:Option (Option DV)} {P:DV->Prop} (h:onV o P):∃ x,o = some (some x) /\ P x:=by
 unfold onV at h
 split at h
 ·exact ⟨_,rfl,h⟩
 ·exact h.elim
def onI (x:DV) (P:Int->Prop):Prop:=match x with | .dat (.int i)=>P i | _=>False
theorem Zw {x:DV} {P:Int->Prop} (h:onI x P):∃ i,x = .dat (.int i) /\ P i:=by
 unfold onI at h
 split at h
 ·exact ⟨_,rfl,h⟩
 ·exact h.elim
def onB (x:DV) (P:Bool->Prop):Prop:=match x with | .dat (.bool i)=>P i | _=>False
theorem Gq {x:DV} {P:Bool->Prop} (h:onB x P):∃ i,x = .dat (.bool i) /\ P i:=by
 unfold onB at h
 split at h
 ·exact ⟨_,rfl,h⟩
 ·exact h.elim
def onS (x:DV) (P:Str->Prop):Prop:=match x with | .dat (.str i)=>P i | _=>False
def onT (x:DV) (P:List PyData->Prop):Prop:=match x with | .dat (.tuple i)=>P i | _=>False
theorem Uu {x:DV} {P:List PyData->Prop} (h:onT x P):∃ i,x = .dat (.tuple i) /\ P i:=by
 unfold onT at h
 split at h
 ·exact ⟨_,rfl,h⟩
 ·exact h.elim
def onL (x:DV) (P:List PyData->Prop):Prop:=match x with | .dat (.list i)=>P i | _=>False
theorem L6 {x:DV} {P:List PyData->Prop} (h:onL x P):∃ i,x = .dat (.list i) /\ P i:=by
 unfold onL at h
 split at h
 ·exact ⟨_,rfl,h⟩
 ·exact h.elim
def onD (x:DV) (P:PyData->Prop):Prop:=match x with | .dat i=>P i | _=>False
theorem JP {x:DV} {P:PyData->Prop} (h:onD x P):∃ i,x = .dat i /\ P i:=by
 unfold onD at h
 split at h
 ·exact ⟨_,rfl,h⟩
 ·exact h.elim
def onO (x:DV) (P:Addr->Prop):Prop:=match x with | .own i=>P i | _=>False
theorem Qq {x:DV} {P:Addr->Prop} (h:onO x P):∃ i,x = .own i /\ P i:=by
 unfold onO at h
 split at h
 ·exact ⟨_,rfl,h⟩
 ·exact h.elim
def VF (o:Option OO) (P:List PyData->Prop):Prop:=match o with | some (.lst ds)=>P ds | _=>False
theorem QM {o:Option OO} {P:List PyData->Prop} (h:VF o P):∃ ds,o = some (.lst ds) /\ P ds:=by
 unfold VF at h
 split at h
 ·exact ⟨_,rfl,h⟩
 ·exact h.elim
def O2 (o:Option OO) (P:List (List Key)->Prop):Prop:=match o with | some (.dct ks)=>P ks | _=>False
def onQ (x:DV) (M:Mp) (P:List PyData->Prop):Prop:=match x with | .dat (.tuple ds)=>P ds | .dat (.list ds)=>P ds | .own l=>VF (M l) P | _=>False
theorem Wf {x:DV} {M:Mp} {P:List PyData->Prop} (h:onQ x M P):∃ ds,(x = .dat (.tuple ds) \/ x = .dat (.list ds) \/ ∃ l,x = .own l /\ M l = some (.lst ds)) /\ P ds:=by
 unfold onQ at h
 split at h
 ·exact ⟨_,.inl rfl,h⟩
 ·exact ⟨_,.inr (.inl rfl),h⟩
 ·replace h:=QM h;obtain ⟨ds,e,h⟩:=h;exact ⟨ds,.inr (.inr ⟨_,rfl,e⟩),h⟩
 ·exact h.elim
def onK (x:DV) (M:Mp) (P:List PyData->Prop):Prop:=match x with | .dat (.list ds)=>P ds | .own l=>VF (M l) P | _=>False
theorem MM {x:DV} {M:Mp} {P:List PyData->Prop} (h:onK x M P):∃ ds,(x = .dat (.list ds) \/ ∃ l,x = .own l /\ M l = some (.lst ds)) /\ P ds:=by
 unfold onK at h
 split at h
 ·exact ⟨_,.inl rfl,h⟩
 ·replace h:=QM h;obtain ⟨ds,e,h⟩:=h;exact ⟨ds,.inr ⟨_,rfl,e⟩,h⟩
 ·exact h.elim
def on1 (xs:List DV) (P:DV->Prop):Prop:=match xs with | [x]=>P x | _=>False
theorem Qm {xs:List DV} {P:DV->Prop} (h:on1 xs P):∃ x,xs = [x] /\ P x:=by
 unfold on1 at h
 split at h
 ·exact ⟨_,rfl,h⟩
 ·exact h.elim
def on2 (xs:List DV) (P:DV->DV->Prop):Prop:=match xs with | [x,y]=>P x y | _=>False
theorem Zp {xs:List DV} {P:DV->DV->Prop} (h:on2 xs P):∃ x y,xs = [x,y] /\ P x y:=by
 unfold on2 at h
 split at h
 ·exact ⟨_,_,rfl,h⟩
 ·exact h.elim
def on3 (xs:List DV) (P:DV->DV->DV->Prop):Prop:=match xs with | [x,y,z]=>P x y z | _=>False
theorem QR {xs:List DV} {P:DV->DV->DV->Prop} (h:on3 xs P):∃ x y z,xs = [x,y,z] /\ P x y z:=by
 unfold on3 at h
 split at h
 ·exact ⟨_,_,_,rfl,h⟩
 ·exact h.elim
def on4 (xs:List DV) (P:DV->DV->DV->DV->Prop):Prop:=match xs with | [x0,x1,x2,x3]=>P x0 x1 x2 x3 | _=>False
def on5 (xs:List DV) (P:DV->DV->DV->DV->DV->Prop):Prop:=match xs with | [x0,x1,x2,x3,x4]=>P x0 x1 x2 x3 x4 | _=>False
def on6 (xs:List DV) (P:DV->DV->DV->DV->DV->DV->Prop):Prop:=match xs with | [x0,x1,x2,x3,x4,x5]=>P x0 x1 x2 x3 x4 x5 | _=>False
noncomputable def Hh:List DV->Option (List PyData)
 | []=>some []
 | .dat d :: r=>match Hh r with | some ds=>some (d :: ds) | none=>none
 | _ :: _=>none
theorem Gs:∀ {xs:List DV} {ds:List PyData},Hh xs = some ds->xs = ds.map DV.dat
 | [],_,h=>by cases h; rfl
 | .dat d :: r,ds,h=>by
  rw [Hh] at h
  split at h
  ·rename_i es e;cases h;rw [List.map_cons,<- Gs e]
  ·cases h
 | .own _ :: _,_,h=>by cases h
 | .ty _ :: _,_,h=>by cases h
 | .mix _ :: _,_,h=>by cases h
def YK (xs:List DV) (P:List PyData->Prop):Prop:=match Nat.ble xs.length 100 with
 | true=>(match Hh xs with | some ds=>P ds | none=>False)
 | false=>False
theorem WO {xs:List DV} {P:List PyData->Prop} (h:YK xs P):∃ ds,xs = ds.map DV.dat /\ ds.length <= 100 /\ P ds:=by
 unfold YK at h
 split at h
 ·rename_i e
  split at h
  ·rename_i ds e2;have e3:=Gs e2;refine ⟨ds,e3,?_,h⟩;have e4:=Nat.le_of_ble_eq_true e
   rwa [e3,List.length_map] at e4
  ·exact h.elim
 ·exact h.elim
abbrev DSt:=List (Option DV)
structure Qj (K:Fk) (M:Mp) (H:Hp) (Z:L2.St) (U:DSt):Prop where
 len:Z.length = U.length
 at':∀ (i:Nat) (x:DV),U[i]? = some (some x)->∃ v,Z[i]? = some (some v) /\ ZP K M H v x
theorem Qj.step {Z:L2.St} {U:DSt} (h:Qj K M H Z U) (st:Step M H M' H'):Qj K M' H' Z U:=
 ⟨h.len,λ i x e=>let ⟨v,e1,e2⟩:=h.at' i x e; ⟨v,e1,e2.step st⟩⟩
theorem Qj.set {Z:L2.St} {U:DSt} {x:DV} (h:Qj K M H Z U) (r:ZP K M H v x):Qj K M H (Z.set i (some v)) (U.set i (some x)):=by
 refine ⟨by rw [List.length_set,List.length_set,h.len],λ j y e=>?_⟩
 by_cases hj:i = j
 ·subst hj
  by_cases hl:i < U.length
  ·rw [List.getElem?_set_self hl] at e;cases e;exact ⟨v,List.getElem?_set_self (by rw [h.len]; exact hl),r⟩
  ·rw [List.getElem?_eq_none (by rw [List.length_set]; lia)] at e;cases e
 ·rw [List.getElem?_set_ne hj] at e;rw [List.getElem?_set_ne hj];exact h.at' j y e
noncomputable def Vz (N:List Str) (xs:List DV):DSt:=xs.map some ++ List.replicate (N.length - xs.length) none
theorem Paired.ZcR {α β:Type} {F:α->β->Prop}:∀ {l:List α} {m:List β} {i:Nat} {b:β},Paired F l m->m[i]? = some b->∃ a,l[i]? = some a /\ F a b
 | _,_,_,_,.nil,e=>by simp at e
 | _,_,0,_,.cons h _,e=>by simp at e; subst e; exact ⟨_,rfl,h⟩
 | _,_,i + 1,b,.cons _ h,e=>by
  obtain ⟨a,h1,h2⟩:=Paired.ZcR (i:=i) (b:=b) h (by simpa using e);exact ⟨a,by simpa using h1,h2⟩
theorem Qj.start {xs:List DV} (h:JA K M H vs xs):Qj K M H (start N vs) (Vz N xs):=by
 have hl:vs.length = xs.length:=Paired.length h;refine ⟨by unfold L2.start Vz; simp [hl],λ i x e=>?_⟩;unfold Vz at e;unfold L2.start
 by_cases hi:i < xs.length
 ·rw [List.getElem?_append_left (by simpa using hi),List.getElem?_map] at e;cases q:xs[i]? with
  | none=>rw [q] at e; cases e
  | some y=>
   rw [q] at e;cases e;obtain ⟨v,h1,h2⟩:=Paired.ZcR h q;exact ⟨v,by rw [List.getElem?_append_left (by simpa [hl] using hi),List.getElem?_map,h1]; rfl,h2⟩
 ·rw [List.getElem?_append_right (by simpa using hi),List.getElem?_replicate] at e
  split at e <;> cases e
end
abbrev DK:=DV->Mp->Prop
abbrev DTE:=DSt->Mp->DK->Prop
abbrev DTT:=DSt->Mp->(Bool->Mp->Prop)->Prop
abbrev DTA:=DSt->Mp->(List DV->Mp->Prop)->Prop
structure ZV where
 nx:DSt->Mp->Prop
 rt:DK
 bk:DSt->Mp->Prop:=λ _ _=>False
 ct:DSt->Mp->Prop:=λ _ _=>False
abbrev DTS:=ZV->DSt->Mp->Prop
def Rch (K:Fk) (M:Mp) (H:Hp) (Φ:DK) (Q:VK):Prop:=∀ v H' x M',Zy K M' H'->Step M H M' H'->ZP K M' H' v x->Φ x M'->Q v H'
theorem Rch.step {M M':Mp} {Φ:DK} {Q:VK} (h:Rch K M H Φ Q) (st:Step M H M' H'):Rch K M' H' Φ Q:=λ v H2 x M2 r s2 q f=>h v H2 x M2 r (st.trans s2) q f
theorem Rch.dat {M M':Mp} {Φ:DK} {Q:VK} (h:Rch K M H Φ Q) (r:Zy K M' H') (st:Step M H M' H') (hd:Dt K M' H' v d) (f:Φ (.dat d) M'):Q v H':=h v H' (.dat d) M' r st hd f
def DE (X:Cx) (e:Expr) (τ:DTE):Prop:=∃ t,PE X e t /\ ∀ Z H U M Φ Q,Zy X.K M H->Qj X.K M H Z U->τ U M Φ->Rch X.K M H Φ Q->t Z H Q
def DT (X:Cx) (e:Expr) (τ:DTT):Prop:=∃ t,PT X e t /\ ∀ Z H U M Φ (Q:Bool->Hp->Prop),Zy X.K M H->Qj X.K M H Z U->τ U M Φ ->
 (∀ b H' M',Zy X.K M' H'->Step M H M' H'->Φ b M'->Q b H')->t Z H Q
def DW (X:Cx) (e:Expr) (τ:DTT):Prop:=∃ t,PW X e t /\ ∀ Z H U M Φ (Q:Bool->Hp->Prop),Zy X.K M H->Qj X.K M H Z U->τ U M Φ ->
 (∀ b H' M',Zy X.K M' H'->Step M H M' H'->Φ b M'->Q b H')->t Z H Q
def DA (X:Cx) (es:List Expr) (τ:DTA):Prop:=∃ t,PA X es t /\ ∀ Z H U M Φ (Q:List V->Hp->Prop),Zy X.K M H->Qj X.K M H Z U->τ U M Φ ->
 (∀ vs H' xs M',Zy X.K M' H'->Step M H M' H'->JA X.K M' H' vs xs->Φ xs M'->Q vs H')->t Z H Q
structure V1 (K:Fk) (M:Mp) (H:Hp) (D:ZV) (E:Ends):Prop where
 nx:∀ σ' H' Δ' M',Zy K M' H'->Step M H M' H'->Qj K M' H' σ' Δ'->D.nx Δ' M'->E.nx σ' H'
 rt:Rch K M H D.rt E.rt
 bk:∀ σ' H' Δ' M',Zy K M' H'->Step M H M' H'->Qj K M' H' σ' Δ'->D.bk Δ' M'->E.bk σ' H'
 ct:∀ σ' H' Δ' M',Zy K M' H'->Step M H M' H'->Qj K M' H' σ' Δ'->D.ct Δ' M'->E.ct σ' H'
theorem V1.step {M M':Mp} {D:ZV} {E:Ends} (h:V1 K M H D E) (st:Step M H M' H'):V1 K M' H' D E:=
 ⟨λ a b c d r s=>h.nx a b c d r (st.trans s),h.rt.step st,λ a b c d r s=>h.bk a b c d r (st.trans s),λ a b c d r s=>h.ct a b c d r (st.trans s)⟩
def DS (X:Cx) (st:Stmt) (τ:DTS):Prop:=∃ t,PS X st t /\ ∀ Z H U M D E,Zy X.K M H->Qj X.K M H Z U->τ D U M->V1 X.K M H D E->t E Z H
def DSs (X:Cx) (st:List Stmt) (τ:DTS):Prop:=∃ t,PSs X st t /\ ∀ Z H U M D E,Zy X.K M H->Qj X.K M H Z U->τ D U M->V1 X.K M H D E->t E Z H
section
variable {a b c:Expr} {ta tb tc:DTE} {pos:Pos}
def Zdh (i:Nat):DTE:=λ U M Φ=>onV U[i]? λ x=>Φ x M
def dC (d:PyData):DTE:=λ _ M Φ=>Φ (.dat d) M
theorem Zb (i:Nat) {pos:Pos} (hN:autoParam (X.N[i]? = some x) zz3._auto_1) (hv:autoParam (Vis X.env.scope x) zz5._auto_1) (hd:autoParam ((x == ("__debug__" : Str)) = false) zz1._auto_1)
  (hcd:autoParam ((x == ("__classdict__" : Str)) = false) zz1._auto_1):DE X (.Name x pos) (Zdh i):=by
 refine ⟨_,Za2 hN hv hd hcd,λ Z H U M Φ Q r e h k=>?_⟩;replace h:=Uo h;obtain ⟨x,e1,h⟩:=h;obtain ⟨v,e2,q⟩:=e.at' i x e1;exact ⟨v,e2,k v H x M r Step.refl q h⟩
theorem XU (h:PE X e (tC v)) (q:∀ M H,Dt X.K M H v d):DE X e (dC d):=
 ⟨_,h,λ _ H _ M _ _ r _ h k=>k v H (.dat d) M r Step.refl (q M H) h⟩
theorem Zc {i j pos}:DE X (.Constant (.int i) j pos) (dC (.int i)):=XU RE λ _ _=>.int i
theorem YF {b j pos}:DE X (.Constant (.bool b) j pos) (dC (.bool b)):=XU Zb5 λ _ _=>.bl b
theorem Qr {x j pos}:DE X (.Constant (.str x) j pos) (dC (.str x)):=XU RT λ _ _=>.str x
def dTy (n:String):DTE:=λ _ M Φ=>Φ (.ty n) M
theorem ZbL {n:String} {pos:Pos} (hg:Gl X x) (hm:X.mg x = none) (hv:bootBuiltins x = some (.type n)) (hn:autoParam (x ≠ "__name__") zz1._auto_1) (hdb:autoParam ((x == ("__debug__" : Str)) = false) zz1._auto_1):DE X (.Name x pos) (dTy n):=
 ⟨_,O7 (v:=.ty n) hg hm hv rfl hn hdb,λ _ H _ M _ _ r _ h k=>k (.ty n) H (.ty n) M r Step.refl rfl h⟩
end
end DL
open DL
variable {M:Mp} {te:DTE} {tc:DTT} {o:Obj}
namespace DL
section
variable {M':Mp}
theorem ZP.bool {b:Bool} (h:ZP K M H v (.dat (.bool b))):v = .bl b:=by cases (show Dt K M H v (.bool b) from h); rfl
theorem ZP.int {i:Int} (h:ZP K M H v (.dat (.int i))):v = .int i:=by cases (show Dt K M H v (.int i) from h); rfl
theorem ZP.str (h:ZP K M H v (.dat (.str x))):v = .str x:=by cases (show Dt K M H v (.str x) from h); rfl
theorem ZP.tup (h:ZP K M H v (.dat (.tuple ds))):∃ a xs,v = .ref a /\ TupAt K M H a xs /\ Dts K M H xs ds:=by
 cases (show Dt K M H v (.tuple ds) from h) with
 | tup h1 h2=>exact ⟨_,_,rfl,h1,h2⟩
theorem ZP.lst (h:ZP K M H v (.dat (.list ds))):∃ a xs,v = .ref a /\ LstAt K M H a xs /\ Dts K M H xs ds:=by
 cases (show Dt K M H v (.list ds) from h) with
 | lst h1 h2=>exact ⟨_,_,rfl,h1,h2⟩
theorem Dt.UD (r:Zy K M H) (hp:H p = none) (h:Dts K M H xs ds):Dt K M (upd H p (.tup xs)) (.ref p) (.tuple ds):=
 .tup (.inl ⟨r.tracked hp,.inl ZW⟩) (h.step (Step.new hp))
theorem Dt.VA (r:Zy K M H) (hp:H p = none) (h:Dts K M H xs ds):Dt K M (upd H p (.lst xs)) (.ref p) (.list ds):=
 .lst (.inl ⟨r.tracked hp,.inl ZW⟩) (h.step (Step.new hp))
end
def Snd (K:Fk) (t:TE) (τ:DTE):Prop:=∀ Z H U M Φ Q,Zy K M H->Qj K M H Z U->τ U M Φ->Rch K M H Φ Q->t Z H Q
theorem Snd.bin {ta tb:TE} {τa τb:DTE} (qa:Snd K ta τa) (qb:Snd K tb τb) {Z:L2.St} {U:DSt} {S:DV->DV->Mp->Prop} {R:V->V->Hp->Prop} (r:Zy K M H) (e:Qj K M H Z U)
  (h:τa U M λ x M1=>τb U M1 λ y M2=>S x y M2)
  (k:∀ v u H2 x y M2,Zy K M2 H2->Step M H M2 H2->ZP K M2 H2 v x->ZP K M2 H2 u y->S x y M2->R v u H2):ta Z H λ v H1=>tb Z H1 λ u H2=>R v u H2:=
 qa Z H U M _ _ r e h λ v H1 x M1 r1 st rv hx=>qb Z H1 U M1 _ _ r1 (e.step st) hx λ u H2 y M2 r2 st2 ru hy=>k v u H2 x y M2 r2 (st.trans st2) (rv.step st2) ru hy
abbrev D2:=DV->DV->Mp->DK->Prop
def OpD (X:Cx) (f:Value->Value->Sem Value) (δ:D2):Prop:=∃ r:R2,OpR X f r /\ ∀ v u H x y M Φ Q,Zy X.K M H->ZP X.K M H v x->ZP X.K M H u y->δ x y M Φ->Rch X.K M H Φ Q->r v u H Q
def dOp (δ:D2) (ta tb:DTE):DTE:=λ U M Φ=>ta U M λ x M1=>tb U M1 λ y M2=>δ x y M2 Φ
section
variable {a b c:Expr} {ta tb tc:DTE} {pos:Pos} {op op':CmpOp} {δ δ':D2}
theorem Snd.opn {ta' tb':TE} {r:R2} (ha:Snd X.K ta' ta) (hb:Snd X.K tb' tb) (q:∀ v u H x y M Φ Q,Zy X.K M H->ZP X.K M H v x->ZP X.K M H u y->δ x y M Φ->Rch X.K M H Φ Q->r v u H Q):Snd X.K (tOp r ta' tb') (dOp δ ta tb):=
 λ _ _ _ _ _ _ dr e h k=>Snd.bin ha hb dr e h λ v u H2 x y M2 r2 st rv ru hs=>q v u H2 x y M2 _ _ r2 rv ru hs (k.step st)
theorem Zm {bop:Operator} (ho:OpD X (binaryOp bop) δ) (ha:DE X a ta) (hb:DE X b tb):DE X (.BinOp a bop b pos) (dOp δ ta tb):=by
 obtain ⟨ta',pa,qa⟩:=ha;obtain ⟨tb',pb,qb⟩:=hb;obtain ⟨r,hr,q⟩:=ho;exact ⟨_,ZbY hr pa pb,Snd.opn qa qb q⟩
theorem Qi (ho:OpD X (compareOp op) δ) (ha:DE X a ta) (hb:DE X b tb) (hm:autoParam (behindInMarks op b = false) zz6._auto_1):DE X (.Compare a [op] [b] pos) (dOp δ ta tb):=by
 obtain ⟨ta',pa,qa⟩:=ha;obtain ⟨tb',pb,qb⟩:=hb;obtain ⟨r,hr,q⟩:=ho;exact ⟨_,PU hr pa pb hm,Snd.opn qa qb q⟩
def dB (t:DTE):DTT:=λ U M Φ=>t U M λ x M1=>onB x λ c=>Φ c M1
theorem Snd.test {t:TE} {τ:DTE} (h:Snd X.K t τ) {Z:L2.St} {U:DSt} {Φ:Bool->Mp->Prop} {Q:Bool->Hp->Prop} (r:Zy X.K M H) (e:Qj X.K M H Z U) (hw:dB τ U M Φ)
  (k:∀ b H' M',Zy X.K M' H'->Step M H M' H'->Φ b M'->Q b H'):t Z H λ x H1=>∃ c,x = .bl c /\ Q c H1:=by
 refine h Z H U M _ _ r e hw λ v H1 x M1 r1 st rv hx=>?_;replace hx:=Gq hx;obtain ⟨c,rfl,hx⟩:=hx;exact ⟨c,rv.bool,k c H1 M1 r1 st hx⟩
theorem ZI (ho:OpD X (compareOp op) δ) (ha:DE X a ta) (hb:DE X b tb) (hm:autoParam (behindInMarks op b = false) zz6._auto_1):DT X (.Compare a [op] [b] pos) (dB (dOp δ ta tb)):=by
 obtain ⟨ta',pa,qa⟩:=ha;obtain ⟨tb',pb,qb⟩:=hb;obtain ⟨r,hr,q⟩:=ho;exact ⟨_,Nm hr pa pb hm,λ _ _ _ _ _ _ dr e h k=>Snd.test (Snd.opn qa qb q) dr e h k⟩
theorem Ju {τ:DTE} (h:DE X e τ) (he:autoParam (∀ whole,isTrue e X.env whole = (do let v <- whole; standAt e.pos; holding [v] (truthy v))) zz2._auto_1):DT X e (dB τ):=by
 obtain ⟨t,p,q⟩:=h;exact ⟨_,RI p he,λ _ _ _ _ _ _ dr e h k=>Snd.test q dr e h k⟩
def C5 (δ δ':D2) (ta tb tc:DTE):DTE:=λ U M Φ=>ta U M λ x M1=>tb U M1 λ y M2=>δ x y M2 λ z M3=>onB z λ k=>(if k = true then tc U M3 λ w' M4=>δ' y w' M4 Φ else Φ (.dat (.bool false)) M3)
theorem Snd.chain {ta' tb' tc':TE} {r r':R2} (ha:Snd X.K ta' ta) (hb:Snd X.K tb' tb) (hc:Snd X.K tc' tc) (q:∀ v u H x y M Φ Q,Zy X.K M H->ZP X.K M H v x->ZP X.K M H u y->δ x y M Φ->Rch X.K M H Φ Q->r v u H Q)
  (q':∀ v u H x y M Φ Q,Zy X.K M H->ZP X.K M H v x->ZP X.K M H u y->δ' x y M Φ->Rch X.K M H Φ Q->r' v u H Q):Snd X.K (Ml r r' ta' tb' tc') (C5 δ δ' ta tb tc):=by
 intro Z H U M Φ Q dr e h k;refine Snd.bin ha hb dr e h λ v u H2 x y M2 r2 st rv ru hs=>?_;refine q v u H2 x y M2 _ _ r2 rv ru hs λ z H3 zd M3 r3 st3 rz hz=>?_;replace hz:=Gq hz;obtain ⟨kb,rfl,hz⟩:=hz;refine ⟨kb,rz.bool,?_⟩;cases kb with
 | true=>
  have hz':tc U M3 λ w' M4=>δ' y w' M4 Φ:=by simpa using hz
  rw [if_pos rfl];refine hc Z H3 U M3 _ _ r3 (e.step (st.trans st3)) hz' λ w' H4 wd M4 r4 st4 rw4 hw4=>?_;exact q' u w' H4 y wd M4 _ _ r4 (ru.step (st3.trans st4)) rw4 hw4 (k.step (st.trans (st3.trans st4)))
 | false=>
  have hz':Φ (.dat (.bool false)) M3:=by simpa using hz
  rw [if_neg Bool.false_ne_true];exact k.dat r3 (st.trans st3) (Dt.bl false) hz'
theorem Xp (ho:OpD X (compareOp op) δ) (ho':OpD X (compareOp op') δ') (ha:DE X a ta) (hb:DE X b tb) (hc:DE X c tc) (hm:autoParam (lastMarks [op,op'] [b,c] = false) zz4._auto_1) :
  DT X (.Compare a [op,op'] [b,c] pos) (dB (C5 δ δ' ta tb tc)):=by
 obtain ⟨ta',pa,qa⟩:=ha;obtain ⟨tb',pb,qb⟩:=hb;obtain ⟨tc',pc,qc⟩:=hc;obtain ⟨r,hr,q⟩:=ho;obtain ⟨r',hr',q'⟩:=ho';exact ⟨_,Ft hr hr' pa pb pc hm,λ _ _ _ _ _ _ dr e h k=>Snd.test (Snd.chain qa qb qc q q') dr e h k⟩
variable {tA tB':DTT} {rest:List Expr}
def Zdf (t u:DTT):DTT:=λ U M Φ=>t U M λ c M1=>if c = true then u U M1 Φ else Φ false M1
def dOr (t u:DTT):DTT:=λ U M Φ=>t U M λ c M1=>if c = true then Φ true M1 else u U M1 Φ
def Zdb (t:DTT):DTT:=λ U M Φ=>t U M λ c M1=>Φ (!c) M1
theorem DW.dt {τ:DTT} (h:DW X e τ):DT X e τ:=by
 obtain ⟨t,p,q⟩:=h;exact ⟨t,p.pt,q⟩
theorem XS (ha:DT X a tA):DW X (.BoolOp .And [a] pos) tA:=by
 obtain ⟨t,p,q⟩:=ha;exact ⟨t,NH p,q⟩
theorem K6 (ha:DT X a tA):DW X (.BoolOp .Or [a] pos) tA:=by
 obtain ⟨t,p,q⟩:=ha;exact ⟨t,T5 p,q⟩
theorem U8 (ha:DT X a tA) (hb:DW X (.BoolOp .And (b :: rest) pos) tB'):DW X (.BoolOp .And (a :: b :: rest) pos) (Zdf tA tB'):=by
 obtain ⟨t,p,q⟩:=ha;obtain ⟨u,p2,q2⟩:=hb;refine ⟨_,Zan p p2,λ Z H U M Φ Q r e h k=>?_⟩;refine q Z H U M _ _ r e h λ c H1 M1 r1 st hc=>?_;cases c with
 | true=>rw [if_pos rfl]; exact q2 Z H1 U M1 Φ Q r1 (e.step st) (by simpa using hc) λ b H2 M2 r2 st2 hb=>k b H2 M2 r2 (st.trans st2) hb
 | false=>rw [if_neg Bool.false_ne_true]; exact k false H1 M1 r1 st (by simpa using hc)
theorem GU (ha:DT X a tA) (hb:DW X (.BoolOp .Or (b :: rest) pos) tB'):DW X (.BoolOp .Or (a :: b :: rest) pos) (dOr tA tB'):=by
 obtain ⟨t,p,q⟩:=ha;obtain ⟨u,p2,q2⟩:=hb;refine ⟨_,Zca p p2,λ Z H U M Φ Q r e h k=>?_⟩;refine q Z H U M _ _ r e h λ c H1 M1 r1 st hc=>?_;cases c with
 | false=>rw [if_neg Bool.false_ne_true]; exact q2 Z H1 U M1 Φ Q r1 (e.step st) (by simpa using hc) λ b H2 M2 r2 st2 hb=>k b H2 M2 r2 (st.trans st2) hb
 | true=>rw [if_pos rfl]; exact k true H1 M1 r1 st (by simpa using hc)
theorem Kz (ha:DT X a tA):DT X (.UnaryOp .Not a pos) (Zdb tA):=by
 obtain ⟨t,p,q⟩:=ha;exact ⟨_,Zbb p,λ Z H U M Φ Q r e h k=>q Z H U M _ _ r e h λ c H1 M1 r1 st hc=>k _ H1 M1 r1 st hc⟩
def Tu (ta tb:DTE):DTE:=λ U M Φ=>ta U M λ x M1=>onB x λ c=>if c = true then tb U M1 Φ else Φ (.dat (.bool false)) M1
def Zd1 (ta tb:DTE):DTE:=λ U M Φ=>ta U M λ x M1=>onB x λ c=>if c = true then Φ (.dat (.bool true)) M1 else tb U M1 Φ
def ZbS (ta:DTE):DTE:=λ U M Φ=>ta U M λ x M1=>onB x λ c=>Φ (.dat (.bool (!c))) M1
theorem LW {bop} (h:DE X a ta):DE X (.BoolOp bop [a] pos) ta:=by
 obtain ⟨t,p,q⟩:=h;exact ⟨t,RV p,q⟩
theorem Mc (ha:DE X a ta) (hb:DE X (.BoolOp .And (b :: rest) pos) tb):DE X (.BoolOp .And (a :: b :: rest) pos) (Tu ta tb):=by
 obtain ⟨t,p,q⟩:=ha;obtain ⟨u,p2,q2⟩:=hb;refine ⟨_,Zaf p p2,λ Z H U M Φ Q r e h k=>?_⟩;refine q Z H U M _ _ r e h λ v H1 x M1 r1 st rv hx=>?_;replace hx:=Gq hx;obtain ⟨c,rfl,hx⟩:=hx;refine ⟨c,rv.bool,?_⟩;cases c with
 | true=>rw [if_pos rfl]; exact q2 Z H1 U M1 Φ Q r1 (e.step st) (by simpa using hx) (k.step st)
 | false=>rw [if_neg Bool.false_ne_true]; exact k.dat r1 st (Dt.bl false) (by simpa using hx)
def dIf (t:DTT) (ta tb:DTE):DTE:=λ U M Φ=>t U M λ c M1=>if c = true then ta U M1 Φ else tb U M1 Φ
theorem BL (hc:DT X c tA) (ha:DE X a ta) (hb:DE X b tb):DE X (.IfExp c a b pos) (dIf tA ta tb):=by
 obtain ⟨t,p,q⟩:=hc;obtain ⟨u,p2,q2⟩:=ha;obtain ⟨w,p3,q3⟩:=hb;refine ⟨_,FI p p2 p3,λ Z H U M Φ Q r e h k=>?_⟩;refine q Z H U M _ _ r e h λ c H1 M1 r1 st hc=>?_;cases c with
 | true=>rw [if_pos rfl]; exact q2 Z H1 U M1 Φ Q r1 (e.step st) (by simpa using hc) (k.step st)
 | false=>rw [if_neg Bool.false_ne_true]; exact q3 Z H1 U M1 Φ Q r1 (e.step st) (by simpa using hc) (k.step st)
def Zc6 (g:Int->Int) (ta:DTE):DTE:=λ U M Φ=>ta U M λ x M1=>onI x λ i=>Φ (.dat (.int (g i))) M1
theorem L0 (ha:DE X a ta):DE X (.UnaryOp .USub a pos) (Zc6 (λ i=>-i) ta):=by
 obtain ⟨t,p,q⟩:=ha;refine ⟨_,ZbI ZaW p,λ Z H U M Φ Q r e h k=>?_⟩;refine q Z H U M _ _ r e h λ v H1 x M1 r1 st rv hx=>?_;replace hx:=Zw hx;obtain ⟨i,rfl,hx⟩:=hx;exact ⟨i,rv.int,k.dat r1 st (Dt.int (-i)) hx⟩
def δI (C:Int->Int->Prop) (g:Int->Int->PyData):D2:=λ x y M Φ=>onI x λ i=>onI y λ j=>C i j /\ Φ (.dat (g i j)) M
def δI0 (g:Int->Int->PyData):D2:=λ x y M Φ=>onI x λ i=>onI y λ j=>Φ (.dat (g i j)) M
theorem Za9 {f:Value->Value->Sem Value} {C:Int->Int->Prop} {g:Int->Int->Int} (h:OpR X f (rI C λ i j=>.int (g i j))):OpD X f (δI C λ i j=>.int (g i j)):=
 ⟨_,h,λ v u H x y M Φ Q r rv ru h k=>by
  replace h:=Zw h;obtain ⟨i,e1,h⟩:=h;replace h:=Zw h;obtain ⟨j,e2,hc,q⟩:=h;subst e1 e2
  exact ⟨i,j,rv.int,ru.int,hc,k.dat r Step.refl (Dt.int _) q⟩⟩
theorem Tp {f:Value->Value->Sem Value} {g:Int->Int->Int} (h:OpR X f (rI0 λ i j=>.int (g i j))):OpD X f (δI0 λ i j=>.int (g i j)):=
 ⟨_,h,λ v u H x y M Φ Q r rv ru h k=>by
  replace h:=Zw h;obtain ⟨i,e1,h⟩:=h;replace h:=Zw h;obtain ⟨j,e2,q⟩:=h;subst e1 e2
  exact ⟨i,j,rv.int,ru.int,k.dat r Step.refl (Dt.int _) q⟩⟩
theorem HV {f:Value->Value->Sem Value} {g:Int->Int->Bool} (h:OpR X f (rI0 λ i j=>.bl (g i j))):OpD X f (δI0 λ i j=>.bool (g i j)):=
 ⟨_,h,λ v u H x y M Φ Q r rv ru h k=>by
  replace h:=Zw h;obtain ⟨i,e1,h⟩:=h;replace h:=Zw h;obtain ⟨j,e2,q⟩:=h;subst e1 e2
  exact ⟨i,j,rv.int,ru.int,k.dat r Step.refl (Dt.bl _) q⟩⟩
theorem Zu:OpD X (binaryOp .Add) (δI0 λ i j=>.int (i + j)):=Tp Zap
theorem ZY:OpD X (binaryOp .Sub) (δI0 λ i j=>.int (i - j)):=Tp TN
theorem Vo:OpD X (binaryOp .Mult) (δI T3 λ i j=>.int (i * j)):=Za9 Tt
theorem Di:OpD X (binaryOp .FloorDiv) (δI ZcN λ i j=>.int (i / j)):=Za9 NQ
theorem JJ:OpD X (binaryOp .Mod) (δI (λ _ j=>0 < j) λ i j=>.int (i % j)):=Za9 RD
theorem ZaK:OpD X (binaryOp .Pow) (δI ZcD λ i j=>.int (i ^ j.toNat)):=Za9 TQ
theorem Nk:OpD X (compareOp .Lt) (δI0 λ i j=>.bool (decide (i < j))):=HV Zb4
theorem WB:OpD X (compareOp .LtE) (δI0 λ i j=>.bool (decide (i <= j))):=HV Zb3
theorem VE:OpD X (compareOp .Gt) (δI0 λ i j=>.bool (decide (j < i))):=HV ZbE
theorem RK:OpD X (compareOp .GtE) (δI0 λ i j=>.bool (decide (j <= i))):=HV Zcy
def δB (g:Bool->Bool->Bool):D2:=λ x y M Φ=>onB x λ c=>onB y λ d=>Φ (.dat (.bool (g c d))) M
def RB:D2:=λ x y M Φ=>onT x λ ds=>onT y λ es=>ds ≠ [] /\ ds.length + es.length <= sizeLine /\ Φ (.dat (.tuple (ds ++ es))) M
theorem F2:OpR X (binaryOp .Add) (λ x y H Q=>∃ l b xs zs,x = .ref l /\ y = .ref b /\ SqL X.K H l xs /\ SqL X.K H b zs /\ xs.length + zs.length <= sizeLine /\ ∀ p,H p = none->Q (.ref p) (upd H p (.lst (xs ++ zs)))):=by
 intro pins s Z H x y v u Q I rx ry h;obtain ⟨l,b,xs,zs,rfl,rfl,hl,hb,hz,q⟩:=h;cases rx;cases ry;obtain ⟨its,r1,p1,_⟩:=I.list hl;obtain ⟨its2,r2,p2,_⟩:=I.list hb;obtain ⟨⟨cls,dd,data,sl⟩,ho,hc,n,hd⟩:=p1.isList;obtain ⟨⟨cls2,dd2,data2,sl2⟩,ho2,hc2,n2,hd2⟩:=p2.isList;simp only at hc hd hc2 hd2;subst hc hd hc2 hd2;have e:its.toArray ++ its2.toArray = (its ++ its2).toArray:=by simp
 have hsz:its.toArray.size + its2.toArray.size <= sizeLine:=by rw [List.size_toArray,List.size_toArray,<- r1.length,<- r2.length]; exact hz
 refine concat_meets ⟨_,ho,rfl⟩ ⟨_,ho2,rfl⟩ noFill_list_add seq_list_add PySem.F.slot_list_add PySem.F.entry_list_add (PySem.F.args_list_add_2 _ _) (list_addW l b its.toArray its2.toArray n n2 dd dd2 sl sl2 hsz) ⟨ho,ho2,?_⟩;rw [e];exact ⟨.ref _,_,I.ZdG (t':=s.toks) (r1.append r2) (by rw [List.length_append]; exact hz),rfl,q _ I.fresh⟩
def Zbd:D2:=λ x y M Φ=>onL x λ ds=>onL y λ es=>ds.length + es.length <= sizeLine /\ Φ (.dat (.list (ds ++ es))) M
def Pd:D2:=λ x y M Φ=>onL x λ ds=>onL y λ es=>ds.length + es.length <= sizeLine /\ ∀ p,M p = none->Φ (.own p) (ZJ M p (.lst (ds ++ es)))
end
def Zdl:DTA:=λ _ M Φ=>Φ [] M
def Zaz (ta:DTE) (tr:DTA):DTA:=λ U M Φ=>ta U M λ x M1=>tr U M1 λ xs M2=>Φ (x :: xs) M2
section
variable {es:List Expr} {t:DTA} {pos:Pos}
theorem Zd:DA X [] Zdl:=⟨_,UN,λ _ H _ M _ _ r _ h k=>k [] H [] M r Step.refl .nil h⟩
theorem Za (ha:DE X e te) (hr:DA X es t) (hs:autoParam (starEach (e :: es) X.env = (false,eval e X.env) :: starEach es X.env) zz3._auto_1):DA X (e :: es) (Zaz te t):=by
 obtain ⟨u,p,q⟩:=ha;obtain ⟨w,p2,q2⟩:=hr;refine ⟨_,Xd p p2 hs,λ Z H U M Φ Q r e h k=>?_⟩;refine q Z H U M _ _ r e h λ v H1 x M1 r1 st rv hx=>?_;exact q2 Z H1 U M1 _ _ r1 (e.step st) hx λ vs H2 xs M2 r2 st2 rvs hxs=>k (v :: vs) H2 (x :: xs) M2 r2 (st.trans st2) (.cons (rv.step st2) rvs) hxs
def Zdr (t:DTA):DTE:=λ U M Φ=>t U M λ xs M1=>YK xs λ ds=>Φ (.dat (.tuple ds)) M1
def Zc1 (t:DTA):DTE:=λ U M Φ=>t U M λ xs M1=>YK xs λ ds=>Φ (.dat (.list ds)) M1
def ZaI (t:DTA):DTE:=λ U M Φ=>t U M λ xs M1=>YK xs λ ds=>∀ p,M1 p = none->Φ (.own p) (ZJ M1 p (.lst ds))
theorem Zk {x1} (h:DA X es t):DE X (.Tuple es x1 pos) (Zdr t):=by
 obtain ⟨u,p,q⟩:=h;refine ⟨_,ML p,λ Z H U M Φ Q r e h k=>?_⟩;refine q Z H U M _ _ r e h λ vs H1 xs M1 r1 st rv hx=>?_;replace hx:=WO hx;obtain ⟨ds,rfl,hz',hx⟩:=hx;have hz:ds.length <= sizeLine:=by rw [sizeLine_eq]; lia
 have hd:=rv.Zbo;refine ⟨by rw [hd.length]; exact hz,λ p hp=>?_⟩;exact k.dat (r1.new hp) (st.trans (Step.new hp)) (Dt.UD r1 hp hd) hx
theorem Je (h:DA X es t):DE X (.List es pos) (Zc1 t):=by
 obtain ⟨u,p,q⟩:=h;refine ⟨_,CS p,λ Z H U M Φ Q r e h k=>?_⟩;refine q Z H U M _ _ r e h λ vs H1 xs M1 r1 st rv hx=>?_;replace hx:=WO hx;obtain ⟨ds,rfl,hz',hx⟩:=hx;have hz:ds.length <= sizeLine:=by rw [sizeLine_eq]; lia
 have hd:=rv.Zbo;refine ⟨by rw [hd.length]; exact hz,λ p hp=>?_⟩;exact k.dat (r1.new hp) (st.trans (Step.new hp)) (Dt.VA r1 hp hd) hx
theorem Ql (h:DA X es t):DE X (.List es pos) (ZaI t):=by
 obtain ⟨u,p,q⟩:=h;refine ⟨_,CS p,λ Z H U M Φ Q r e h k=>?_⟩;refine q Z H U M _ _ r e h λ vs H1 xs M1 r1 st rv hx=>?_;replace hx:=WO hx;obtain ⟨ds,rfl,hz',hx⟩:=hx;have hz:ds.length <= sizeLine:=by rw [sizeLine_eq]; lia
 have hd:=rv.Zbo;refine ⟨by rw [hd.length]; exact hz,λ p hp=>?_⟩;exact k _ _ (.own p) _ (r1.Y9 (Step.QY hp) hd) (st.trans (Step.QY hp)) rfl (hx p (r1.tracked hp))
def Zdp (t:DTE):DTE:=λ U M Φ=>t U M λ x M1=>onO x λ l=>VF (M1 l) λ ds=>Φ (.dat (.list ds)) (VV M1 l)
theorem Mn (h:DE X e te):DE X e (Zdp te):=by
 obtain ⟨u,p,q⟩:=h;refine ⟨u,p,λ Z H U M Φ Q r e h k=>?_⟩;refine q Z H U M _ _ r e h λ v H1 x M1 r1 st rv hx=>?_;replace hx:=Qq hx;obtain ⟨l,rfl,hx⟩:=hx;replace hx:=QM hx;obtain ⟨ds,hm,hx⟩:=hx;obtain ⟨vs,e1,e2⟩:=r1.ls l ds hm;cases (show v = .ref l from rv);exact k.dat r1.frz (st.trans Step.frz) (Dt.lst (.inl ⟨VW,.inl e1⟩) (e2.step Step.frz)) hx
def GX:List PyData->Nat->(PyData->Prop)->Prop
 | [],_,_=>False
 | d :: _,0,P=>P d
 | _ :: r,n + 1,P=>GX r n P
def YI (ds:List PyData) (i:Int) (P:PyData->Prop):Prop:=match i with
 | Int.ofNat n=>GX ds n P
 | Int.negSucc n=>GX ds.reverse n P
theorem XM:∀ {ds:List PyData} {n:Nat} {P:PyData->Prop},GX ds n P->∃ d,ds[n]? = some d /\ P d
 | [],_,_,h=>h.elim
 | d :: _,0,_,h=>⟨d,rfl,h⟩
 | _ :: r,n + 1,_,h=>by
  obtain ⟨d,e,hp⟩:=XM (ds:=r) (n:=n) h;exact ⟨d,by rw [List.getElem?_cons_succ]; exact e,hp⟩
theorem Xy:∀ {ds:List PyData} {n:Nat} {P:PyData->Prop} {d:PyData},ds[n]? = some d->P d->GX ds n P
 | [],_,_,_,e,_=>by simp at e
 | d :: _,0,_,_,e,h=>by simp at e; subst e; exact h
 | _ :: r,n + 1,_,_,e,h=>Xy (ds:=r) (n:=n) (by rw [List.getElem?_cons_succ] at e; exact e) h
theorem Nv {i:Int} {P:PyData->Prop} (h:YI ds i P):∃ d,atI ds i = some d /\ P d:=by
 unfold YI at h
 split at h
 ·rename_i n;replace h:=XM h;obtain ⟨d,e,hp⟩:=h;exact ⟨d,YA e,hp⟩
 ·rename_i n;replace h:=XM h;obtain ⟨d,e,hp⟩:=h;refine ⟨d,?_,hp⟩;have hl:=(List.getElem?_eq_some_iff.mp e).1;rw [List.length_reverse] at hl;rw [List.getElem?_reverse hl] at e;unfold L2.atI ixN;have e1:¬ (0 <= Int.negSucc n):=by lia
  rw [if_neg e1];have e2:-(ds.length:Int) <= Int.negSucc n:=by lia
  rw [if_pos e2];have e3:(Int.negSucc n + (ds.length:Int)).toNat = ds.length - 1 - n:=by lia
  simp only [e3];exact e
theorem Yd {i:Int} {P:PyData->Prop} (e:atI ds i = some d) (h:P d):YI ds i P:=by
 unfold L2.atI at e;cases i with
 | ofNat n=>
  have hh:ixN ds.length (Int.ofNat n) = if n < ds.length then some n else none:=by
   unfold ixN;rw [if_pos (show (0:Int) <= Int.ofNat n from Int.natCast_nonneg n)]
   by_cases hn:n < ds.length
   ·rw [if_pos hn,if_pos (show Int.ofNat n < _ by show ((n:Nat):Int) < _; lia)];rfl
   ·rw [if_neg hn,if_neg (show ¬ Int.ofNat n < _ by show ¬ ((n:Nat):Int) < _; lia)]
  rw [hh] at e
  split at e
  ·exact Xy (by exact e) h
  ·cases e
 | negSucc n=>
  unfold ixN at e;rw [if_neg (by lia)] at e
  by_cases hn:-(ds.length:Int) <= Int.negSucc n
  ·rw [if_pos hn] at e;have e3:(Int.negSucc n + (ds.length:Int)).toNat = ds.length - 1 - n:=by lia
   simp only [e3] at e;refine Xy (d:=d) ?_ h;rw [List.getElem?_reverse (by lia)];exact e
  ·rw [if_neg hn] at e;cases e
theorem Cb (l:List PyData) (a:PyData) (P:PyData->Prop):YI (l ++ [a]) (-1) P = P a:=by
 show GX (l ++ [a]).reverse 0 P = P a;rw [List.reverse_append];rfl
def δIx:D2:=λ x y M Φ=>onQ x M λ ds=>onI y λ i=>YI ds i λ d=>Φ (.dat d) M
theorem Dts.atI {i:Int} (h:Dts K M H vs ds) (e:L2.atI ds i = some d):∃ v,L2.atI vs i = some v /\ Dt K M H v d:=by
 unfold L2.atI at e ⊢;rw [h.length];cases q:ixN ds.length i with
 | none=>rw [q] at e; cases e
 | some j=>
  rw [q] at e;exact h.get e
theorem Zg {a b:Expr} {ta tb:DTE} (ha:DE X a ta) (hb:DE X b tb) (hs:autoParam (BX b) zz7._auto_1):DE X (.Subscript a b pos) (dOp δIx ta tb):=by
 obtain ⟨ta',pa,qa⟩:=ha;obtain ⟨tb',pb,qb⟩:=hb;refine ⟨_,ZcV Zae pa pb hs,Snd.opn qa qb λ v u H x y M Φ Q r rv ru h k=>?_⟩;replace h:=Wf h;obtain ⟨ds,hx,h⟩:=h;replace h:=Zw h;obtain ⟨i,rfl,h⟩:=h;replace h:=Nv h;obtain ⟨d,hd,q⟩:=h;cases ru.int
 rcases hx with rfl | rfl | ⟨l,rfl,hm⟩
 ·obtain ⟨p,xs,rfl,h1,h2⟩:=rv.tup;obtain ⟨w',e1,e2⟩:=h2.atI hd;exact .inr (.inl ⟨p,xs,i,w',rfl,rfl,h1.sq,e1,k.dat r Step.refl e2 q⟩)
 ·obtain ⟨p,xs,rfl,h1,h2⟩:=rv.lst;obtain ⟨w',e1,e2⟩:=h2.atI hd;exact .inl ⟨p,xs,i,w',rfl,rfl,h1.sq,e1,k.dat r Step.refl e2 q⟩
 ·cases (show v = .ref l from rv);obtain ⟨vs,g1,g2⟩:=r.ls l ds hm;obtain ⟨w',e1,e2⟩:=g2.atI hd;exact .inl ⟨l,vs,i,w',rfl,rfl,SqL.of g1,e1,k.dat r Step.refl e2 q⟩
end
abbrev D1:=List DV->Mp->DK->Prop
def Jr (X:Cx) (f:Value) (δ:D1):Prop:=∃ r,Q6 X f r /\ ∀ vs H xs M Φ Q,Zy X.K M H->JA X.K M H vs xs->δ xs M Φ->Rch X.K M H Φ Q->r vs H Q
def dCB (δ:D1) (t:DTA):DTE:=λ U M Φ=>t U M λ xs M1=>δ xs M1 Φ
section
variable {es:List Expr} {t:DTA} {pos p:Pos} {id:String} {δ:D1}
theorem Zi (hc:Jr X (.builtin id) δ) (hg:Gl X x) (hm:X.mg x = none) (hv:bootBuiltins x = some (.builtin id)) (ha:DA X (e :: es) t) (hn:autoParam (x ≠ "__name__") zz1._auto_1) (hdb:autoParam ((x == ("__debug__" : Str)) = false) zz1._auto_1)
  (he:autoParam (starEach (e :: es) X.env = (false,eval e X.env) :: starEach es X.env) zz3._auto_1) (hpl:autoParam ((backTo pos (starEach es X.env)).any (·.1) = false) zz3._auto_1):DE X (.Call (.Name x p) (e :: es) [] pos) (dCB δ t):=by
 obtain ⟨u,p,q⟩:=ha;obtain ⟨r,hr,qr⟩:=hc;refine ⟨_,E8 hr hg hm hv p hn hdb he hpl,λ Z H U M Φ Q r e h k=>?_⟩;exact q Z H U M _ _ r e h λ vs H1 xs M1 r1 st rv hx=>qr vs H1 xs M1 _ _ r1 rv hx (k.step st)
theorem Qa (hc:Jr X (.type id) δ) (hg:Gl X x) (hm:X.mg x = none) (hv:bootBuiltins x = some (.type id)) (ha:DA X (e :: es) t) (hn:autoParam (x ≠ "__name__") zz1._auto_1) (hdb:autoParam ((x == ("__debug__" : Str)) = false) zz1._auto_1)
  (he:autoParam (starEach (e :: es) X.env = (false,eval e X.env) :: starEach es X.env) zz3._auto_1) (hpl:autoParam ((backTo pos (starEach es X.env)).any (·.1) = false) zz3._auto_1):DE X (.Call (.Name x p) (e :: es) [] pos) (dCB δ t):=by
 obtain ⟨u,p,q⟩:=ha;obtain ⟨r,hr,qr⟩:=hc;refine ⟨_,DF hr hg hm hv p hn hdb he hpl,λ Z H U M Φ Q r e h k=>?_⟩;exact q Z H U M _ _ r e h λ vs H1 xs M1 r1 st rv hx=>qr vs H1 xs M1 _ _ r1 rv hx (k.step st)
theorem Paired.one {α β:Type} {F:α->β->Prop} {l:List α} {b:β} (h:Paired F l [b]):∃ a,l = [a] /\ F a b:=by
 cases h with
 | cons h1 h2=>cases h2; exact ⟨_,rfl,h1⟩
theorem Paired.two {α β:Type} {F:α->β->Prop} {l:List α} {b c:β} (h:Paired F l [b,c]):∃ a a',l = [a,a'] /\ F a b /\ F a' c:=by
 cases h with
 | cons h1 h2=>
  obtain ⟨a,rfl,h3⟩:=Paired.one h2;exact ⟨_,a,rfl,h1,h3⟩
def SX:D1:=λ xs M Φ=>on1 xs λ x=>onQ x M λ ds=>Φ (.dat (.int ds.length)) M
theorem Ja:Jr X (.builtin "len") SX:=by
 refine ⟨_,Ks,λ vs H xs M Φ Q r rv h k=>?_⟩;replace h:=Qm h;obtain ⟨x,rfl,h⟩:=h;replace h:=Wf h;obtain ⟨ds,hx,q⟩:=h;have fin:Q (.int ds.length) H:=k.dat r Step.refl (Dt.int _) q
 rcases hx with rfl | rfl | ⟨l,rfl,hm⟩
 ·obtain ⟨v,rfl,h1⟩:=Paired.one rv;obtain ⟨p,ys,rfl,g1,g2⟩:=ZP.tup h1;exact ⟨p,ys,rfl,.inr g1.sq,by rw [g2.length]; exact fin⟩
 ·obtain ⟨v,rfl,h1⟩:=Paired.one rv;obtain ⟨p,ys,rfl,g1,g2⟩:=ZP.lst h1;exact ⟨p,ys,rfl,.inl g1.sq,by rw [g2.length]; exact fin⟩
 ·obtain ⟨v,rfl,h1⟩:=Paired.one rv;cases (show v = .ref l from h1);obtain ⟨ws,g1,g2⟩:=r.ls l ds hm;exact ⟨l,ws,rfl,.inl (SqL.of g1),by rw [g2.length]; exact fin⟩
def R3:D1:=λ xs M Φ=>on1 xs λ x=>onS x λ z=>z.length <= sizeLine /\ Φ (.dat (.int z.length)) M
def Td:D1:=λ xs M Φ=>on1 xs λ x=>onI x λ i=>i.natAbs.log2 < 1920 /\ Φ (.dat (.str (toString i))) M
def Sa:D1:=λ xs M Φ=>on1 xs λ x=>onI x λ i=>Φ (.dat (.int (if i < 0 then -i else i))) M
theorem YC:Jr X (.builtin "abs") Sa:=by
 refine ⟨_,Li,λ vs H xs M Φ Q r rv h k=>?_⟩;replace h:=Qm h;obtain ⟨x,rfl,h⟩:=h;replace h:=Zw h;obtain ⟨i,rfl,q⟩:=h;obtain ⟨v,rfl,h1⟩:=Paired.one rv;exact ⟨i,by rw [ZP.int h1],k.dat r Step.refl (Dt.int _) q⟩
def δ2I (g:Int->Int->Int):D1:=λ xs M Φ=>on2 xs λ x y=>onI x λ i=>onI y λ j=>Φ (.dat (.int (g i j))) M
theorem JF (hc:X.calm = true):Jr X (.builtin "max") (δ2I λ i j=>max i j):=by
 refine ⟨_,DP hc,λ vs H xs M Φ Q r rv h k=>?_⟩;replace h:=Zp h;obtain ⟨x,y,rfl,h⟩:=h;replace h:=Zw h;obtain ⟨i,rfl,h⟩:=h;replace h:=Zw h;obtain ⟨j,rfl,q⟩:=h;obtain ⟨v,u,rfl,h1,h2⟩:=Paired.two rv;have e:(if j > i then j else i) = max i j:=by rw [Int.max_def]; split <;> split <;> lia
 exact ⟨i,j,by rw [ZP.int h1,ZP.int h2],by rw [e]; exact k.dat r Step.refl (Dt.int _) q⟩
theorem Vn (hc:X.calm = true):Jr X (.builtin "min") (δ2I λ i j=>min i j):=by
 refine ⟨_,C7 hc,λ vs H xs M Φ Q r rv h k=>?_⟩;replace h:=Zp h;obtain ⟨x,y,rfl,h⟩:=h;replace h:=Zw h;obtain ⟨i,rfl,h⟩:=h;replace h:=Zw h;obtain ⟨j,rfl,q⟩:=h;obtain ⟨v,u,rfl,h1,h2⟩:=Paired.two rv;have e:(if j < i then j else i) = min i j:=by rw [Int.min_def]; split <;> split <;> lia
 exact ⟨i,j,by rw [ZP.int h1,ZP.int h2],by rw [e]; exact k.dat r Step.refl (Dt.int _) q⟩
def Gp:D1:=λ xs M Φ=>on1 xs λ x=>onQ x M λ ds=>Φ (.dat (.list ds)) M
theorem BG:Jr X (.type "list") Gp:=by
 refine ⟨_,K2,λ vs H xs M Φ Q r rv h k=>?_⟩;replace h:=Qm h;obtain ⟨x,rfl,h⟩:=h;replace h:=Wf h;obtain ⟨ds,hx,q⟩:=h
 rcases hx with rfl | rfl | ⟨l0,rfl,hm⟩
 ·obtain ⟨v,rfl,h1⟩:=Paired.one rv;obtain ⟨p,ys,rfl,g1,g2⟩:=ZP.tup h1;exact ⟨p,ys,rfl,.inr g1.sq,λ l hl=>k.dat (r.new hl) (Step.new hl) (Dt.VA r hl g2) q⟩
 ·obtain ⟨v,rfl,h1⟩:=Paired.one rv;obtain ⟨p,ys,rfl,g1,g2⟩:=ZP.lst h1;exact ⟨p,ys,rfl,.inl g1.sq,λ l hl=>k.dat (r.new hl) (Step.new hl) (Dt.VA r hl g2) q⟩
 ·obtain ⟨v,rfl,h1⟩:=Paired.one rv;cases (show v = .ref l0 from h1);obtain ⟨ws,g1,g2⟩:=r.ls l0 ds hm;exact ⟨l0,ws,rfl,.inl (SqL.of g1),λ l hl=>k.dat (r.new hl) (Step.new hl) (Dt.VA r hl g2) q⟩
end
mutual
noncomputable def Qn:PyData->Bool
 | .none | .bool _ | .int _ | .str _=>false
 | .list _=>true
 | .tuple xs=>Z1 xs
 | .dict kvs=>Jo kvs
noncomputable def Z1:List PyData->Bool
 | []=>false
 | x :: xs=>Qn x || Z1 xs
noncomputable def Jo:List (PyData × PyData)->Bool
 | []=>false
 | (k,v) :: r=>Qn k || Qn v || Jo r
end
theorem Q1:∀ (ks ds:List PyData),ks.length = ds.length->Jo (ks.zip ds) = false->Z1 ds = false
 | [],[],_,_=>by simp [Z1]
 | k :: ks,d :: ds,h,e=>by
  rw [List.zip_cons_cons,Jo] at e;have e':(Qn k = false /\ Qn d = false) /\ Jo (ks.zip ds) = false:=by simpa using e
  rw [Z1,e'.1.2,Q1 ks ds (by simpa using h) e'.2]; rfl
 | [],_ :: _,h,_=>by simp at h
 | _ :: _,[],h,_=>by simp at h
section
variable {Z:L2.St}
theorem X7:∀ {es:List DictEntry} {kvs:List (Key × Value)},Pairs (ZT P w) es kvs->ReadsAll h (es.map (·.key)) (kvs.map λ kv=>kD kv.1) []
 | _,_,.nil=>.nil
 | _,_,.cons (e:=e) (kv:=kv) h1 _ h3=>by
  rw [List.map_cons,List.map_cons];have hk:Reads h e.key (kD kv.1) []:=by
   rcases ZK (k:=kv.1) (v:=e.key) h1 with ⟨i,t,e1,e2⟩ | ⟨x,t,e1,e2⟩
   ·rw [e1,e2]; exact .int i t
   ·rw [e1,e2]; exact .str x t
  exact .cons (as:=[]) (bs:=[]) hk (X7 h3)
theorem Y1:∀ {es:List DictEntry} {kvs:List (Key × Value)},Pairs (ZT P w) es kvs->es.map (·.val) = kvs.map (·.2)
 | _,_,.nil=>rfl
 | _,_,.cons h1 h2 h3=>by rw [List.map_cons,List.map_cons,h2,Y1 h3]
theorem KV.vals {kvs:List (Key × V)} {vs:List (Key × Value)} (r:KV kvs vs):Vals (kvs.map (·.2)) (vs.map (·.2)) /\ (kvs.map λ kv=>kD kv.1) = vs.map λ kv=>kD kv.1:=by
 unfold KV at r
 induction r with
 | nil=>exact ⟨.nil,rfl⟩
 | cons h _ ih=>exact ⟨.cons h.2 ih.1,by rw [List.map_cons,List.map_cons,h.1,ih.2]⟩
theorem Cs:∀ {ks:List Key} {us:List Value},Vals (ks.map kV) us->ReadsAll h us (ks.map kD) []
 | [],_,r=>by rw [List.map_nil] at r; cases r; exact .nil
 | k :: ks,_,r=>by
  rw [List.map_cons] at r;cases r with
  | cons r1 r2=>
   rw [List.map_cons];refine .cons (as:=[]) (bs:=[]) ?_ (Cs r2);cases k with
   | inl i=>obtain ⟨t,rfl⟩:=r1; exact .int i t
   | inr x=>obtain ⟨t,rfl⟩:=r1; exact .str x t
theorem KT.read (I:Inv X pins Z H s) {xs:List (List Key × Addr × Value)} (r:KT H kvs xs) :
  ReadsAll s.heap (xs.map λ x=>Value.ref x.2.1) (kvs.map λ kv=>PyData.tuple (kv.1.map kD)) [] /\ Vals (kvs.map (·.2)) (xs.map λ x=>x.2.2):=by
 induction r with
 | nil=>exact ⟨.nil,.nil⟩
 | @cons p q ps qs h _ ih=>
  obtain ⟨its,r,⟨o,ho,hc,n,hd⟩,_⟩:=I.tuple (SqT.of (K:=X.K) h.2.1);rw [List.map_cons,List.map_cons,List.map_cons,List.map_cons];exact ⟨.cons (as:=[]) (bs:=[]) (.tuple ho hc hd (by simpa using Cs r)) ih.1,.cons h.2.2 ih.2⟩
mutual
theorem Dt.reads (I:Inv X pins Z H s):∀ {v:V} {d:PyData},Dt X.K M H v d->∀ {u:Value},RelV v u->∃ as,Reads s.heap u d as /\ (Qn d = false->sysModules ∉ as)
 | _,_,.non,_,r=>by cases r; exact ⟨[],.none,λ _ h=>nomatch h⟩
 | _,_,.bl b,_,r=>by cases r; exact ⟨[],.bool b,λ _ h=>nomatch h⟩
 | _,_,.int i,_,r=>by obtain ⟨t,rfl⟩:=r; exact ⟨[],.int i t,λ _ h=>nomatch h⟩
 | _,_,.str x,_,r=>by obtain ⟨t,rfl⟩:=r; exact ⟨[],.str x t,λ _ h=>nomatch h⟩
 | _,_,.tup h1 h2,_,r=>by
  cases r;obtain ⟨its,rv,⟨o,ho,hc,n,hd⟩,_⟩:=I.tuple h1.sq;obtain ⟨as,ra,hs⟩:=Dts.reads I h2 rv;exact ⟨as,.tuple ho hc hd (by simpa using ra),λ h=>hs (by simpa [Qn] using h)⟩
 | _,_,.lst h1 h2,_,r=>by
  cases r;obtain ⟨its,rv,⟨o,n,ho,hc,_,hd⟩,_⟩:=I.list h1.sq;obtain ⟨as,ra,hs⟩:=Dts.reads I h2 rv;exact ⟨_,.list ho hc hd (by simpa using ra),λ h=>by simp [Qn] at h⟩
 | _,_,.dK (a:=a) (kvs:=kvs) (ds:=ds) h0 h1 h2,_,r=>by
  cases r;obtain ⟨_,hsys,vs,rel,o,es,ep,ho,hc,hd,_,hp,_⟩:=(show Z8 X.prog X.w H s.heap a (.dK kvs) from I.hok a _ h1)
  obtain ⟨rv,hk⟩:=KV.vals rel;obtain ⟨bs,rb,hs⟩:=Dts.reads I h2 rv;have hl:(kvs.map λ kv=>kD kv.1).length = ds.length:=by rw [List.length_map,<- h2.length,List.length_map]
  refine ⟨a :: [] ++ bs,.dict (as:=[]) ho hc.1 hd ?_ ?_,λ h=>?_⟩
  ·rw [List.map_fst_zip (Nat.le_of_eq hl),hk];exact X7 hp
  ·rw [List.map_snd_zip (Nat.le_of_eq hl.symm),Y1 hp];exact rb
  ·have h':Z1 ds = false:=Q1 _ _ hl (by rw [Qn] at h; exact h);intro hm
   rcases List.mem_cons.mp hm with e | hm
   ·rw [<- e] at hsys;simp at hsys
   ·exact hs h' hm
 | _,_,.dT (a:=a) (kvs:=kvs) (ds:=ds) h0 h1 h2 _,_,r=>by
  cases r;obtain ⟨_,hsys,xs,rel,o,es,ep,ho,hc,hd,he,_⟩:=(show Z8 X.prog X.w H s.heap a (.dT kvs) from I.hok a _ h1)
  obtain ⟨rk,rv⟩:=KT.read I rel;obtain ⟨bs,rb,hs⟩:=Dts.reads I h2 rv;have hl:(kvs.map λ kv=>PyData.tuple (kv.1.map kD)).length = ds.length:=by rw [List.length_map,<- h2.length,List.length_map]
  refine ⟨a :: [] ++ bs,.dict (as:=[]) ho hc.1 hd ?_ ?_,λ h=>?_⟩
  ·rw [List.map_fst_zip (Nat.le_of_eq hl),he,List.map_map];exact rk
  ·rw [List.map_snd_zip (Nat.le_of_eq hl.symm),he,List.map_map];exact rb
  ·have h':Z1 ds = false:=Q1 _ _ hl (by rw [Qn] at h; exact h);intro hm
   rcases List.mem_cons.mp hm with e | hm
   ·rw [<- e] at hsys;simp at hsys
   ·exact hs h' hm
 | _,_,.dX (a:=a) (dk:=dk) (d:=d) h0 h1 hsys h3 h4 h5,_,r=>by
  cases r;obtain ⟨hφ,_⟩:=(show Z8 X.prog X.w H s.heap a (.ext _) from I.hok a _ h1)
  obtain ⟨o,es,n,u,ho,hc,hd,ek,ev,ru⟩:=h3 s.heap hφ;obtain ⟨as,ra,ha⟩:=Dt.reads I h4 (u:=.ref _) rfl;obtain ⟨bs,rb,hb⟩:=Dt.reads I h5 ru;refine ⟨a :: (as ++ []) ++ (bs ++ []),.dict ho hc hd ?_ ?_,λ h=>?_⟩
  ·rw [ek]; exact .cons ra .nil
  ·rw [ev]; exact .cons rb .nil
  ·have h':Qn dk = false /\ Qn d = false:=by simpa [Qn,Jo] using h
   intro hm;rw [List.append_nil,List.append_nil,List.cons_append] at hm
   rcases List.mem_cons.mp hm with e | hm
   ·rw [<- e] at hsys;simp at hsys
   ·rcases List.mem_append.mp hm with hm | hm
    ·exact ha h'.1 hm
    ·exact hb h'.2 hm
theorem Dts.reads (I:Inv X pins Z H s):∀ {vs:List V} {ds:List PyData},Dts X.K M H vs ds->∀ {us:List Value},Vals vs us->∃ as,ReadsAll s.heap us ds as /\ (Z1 ds = false->sysModules ∉ as)
 | _,_,.nil,_,r=>by cases r; exact ⟨[],.nil,λ _ h=>nomatch h⟩
 | _,_,.cons (d:=d) (ds:=ds) h1 h2,_,r=>by
  cases r with
  | cons r1 r2=>
   obtain ⟨as,ra,ha⟩:=Dt.reads I h1 r1;obtain ⟨bs,rb,hb⟩:=Dts.reads I h2 r2;refine ⟨as ++ bs,.cons ra rb,λ h hm=>?_⟩;have h':Qn d = false /\ Z1 ds = false:=by simpa [Z1] using h
   rcases List.mem_append.mp hm with hm | hm
   ·exact ha h'.1 hm
   ·exact hb h'.2 hm
end
end
structure Shw (d:PyData):Prop where
 s:d.showable = true
 m:(d.hasDict && Qn d) = false
 dp:d.depth <= 64
 z:d.shown.length <= sizeLine
def Zbj:D1:=λ xs M Φ=>on1 xs λ x=>onD x λ d=>Shw d /\ Φ (.dat (.str d.shown)) M
noncomputable def tyN:PyData->String
 | .none => "NoneType"
 | .bool _ => "bool"
 | .int _ => "int"
 | .str _ => "str"
 | .list _ => "list"
 | .tuple _ => "tuple"
 | .dict _ => "dict"
theorem Co:Q6 X (.builtin "isinstance") (λ xs H Q=>∃ v d M T b,xs = [v,.ty T] /\ Dt X.K M H v d /\ PySem.W.kitOne X.K (.type (tyN d)) (.type T) = some b /\ Q (.bl b) H):=by
 intro pins s Z H xs us Q I r h;obtain ⟨v,d,M,T,b,rfl,hd,e,q⟩:=h;obtain ⟨u,w',rfl,ru,rt⟩:=vals2 r;cases (show w' = Value.type T from rt);have fin:∀ tk,EP X pins Z Q (.bool b) { s with toks:=tk }:=λ tk=>⟨.bl b,H,I.tok tk,rfl,q⟩;cases hd with
 | non=>cases ru; exact PySem.W.kia_one PySem.W.kitx_none I.kIn True.intro e (λ z=>nomatch z) fin
 | bl y=>cases ru; exact PySem.W.kia_one PySem.W.kitx_bool I.kIn True.intro e (λ z=>nomatch z) fin
 | int i=>obtain ⟨t,rfl⟩:=ru; exact PySem.W.kia_one PySem.W.kitx_int I.kIn True.intro e (λ z=>nomatch z) fin
 | str y=>obtain ⟨t,rfl⟩:=ru; exact PySem.W.kia_one PySem.W.kitx_str I.kIn True.intro e (λ z=>nomatch z) fin
 | tup h1 _=>
  cases ru;obtain ⟨_,_,⟨o,ho,hc,_⟩,_⟩:=I.tuple h1.sq;exact PySem.W.kia_one PySem.W.kitx_tuple I.kIn ⟨o,ho,hc⟩ e (λ z=>nomatch z) fin
 | lst h1 _=>
  cases ru;obtain ⟨_,_,⟨o,n,ho,hc,_⟩,_⟩:=I.list h1.sq;exact PySem.W.kia_one PySem.W.kitx_list I.kIn ⟨o,ho,hc⟩ e (λ z=>nomatch z) fin
 | dK _ h1 _=>
  cases ru;obtain ⟨_,_,vs,_,p⟩:=(show Z8 X.prog X.w H s.heap _ (.dK _) from I.hok _ _ h1)
  obtain ⟨o,es,ep,g1,g2,_⟩:=p;exact PySem.W.kia_one PySem.W.kitx_dict I.kIn ⟨o,g1,g2.1⟩ e (λ z=>nomatch z) fin
 | dT _ h1 _ _=>
  cases ru;obtain ⟨_,_,xs,_,o,es,ep,g1,g2,_⟩:=(show Z8 X.prog X.w H s.heap _ (.dT _) from I.hok _ _ h1)
  exact PySem.W.kia_one PySem.W.kitx_dict I.kIn ⟨o,g1,g2.1⟩ e (λ z=>nomatch z) fin
 | dX _ h1 _ h3 _ _=>
  cases ru;obtain ⟨hφ,_⟩:=(show Z8 X.prog X.w H s.heap _ (.ext _) from I.hok _ _ h1)
  obtain ⟨o,es,n,u,ho,hc,_⟩:=h3 s.heap hφ;exact PySem.W.kia_one PySem.W.kitx_dict I.kIn ⟨o,ho,hc⟩ e (λ z=>nomatch z) fin
noncomputable def ZE (T:String) (d:PyData):Bool:=tyN d == T || (T == "int" && tyN d == "bool")
theorem FK (K:Fk) (d:PyData):PySem.W.kitOne K (.type (tyN d)) (.type "bool") = some (ZE "bool" d):=by cases d <;> rfl
def OJ (T:String):D1:=λ xs M Φ=>match xs with | [.dat d,.ty t]=>t = T /\ Φ (.dat (.bool (ZE T d))) M | _=>False
theorem Tc {T:String} (ht:∀ d,PySem.W.kitOne X.K (.type (tyN d)) (.type T) = some (ZE T d)):Jr X (.builtin "isinstance") (OJ T):=by
 refine ⟨_,Co,λ vs H xs M Φ Q r rv h k=>?_⟩;replace h:∃ d,xs = [.dat d,.ty T] /\ Φ (.dat (.bool (ZE T d))) M:=by
  unfold OJ at h
  split at h
  ·exact ⟨_,by rw [h.1],h.2⟩
  ·exact h.elim
 obtain ⟨d,rfl,q⟩:=h;obtain ⟨v,u,rfl,h1,h2⟩:=Paired.two rv;cases (show u = .ty T from h2);exact ⟨v,d,M,T,_,rfl,h1,ht d,k.dat r Step.refl (Dt.bl _) q⟩
theorem R4 (hu:X.A.units + 64 < cLine):OpR X (compareOp .Eq) (λ x y H Q=>∃ M d e,Dt X.K M H x d /\ Dt X.K M H y e /\ d.canLay0 = true /\ e.canLay0 = true /\ min d.depth e.depth <= 64 /\ Q (.bl (PyData.eqv d e)) H):=by
 intro pins s Z H x y v u Q I rx ry h;obtain ⟨M,d,e,h1,h2,c1,c2,hdp,q⟩:=h;obtain ⟨as,ra,_⟩:=h1.reads I rx;obtain ⟨bs,rb,_⟩:=h2.reads I ry;exact PySem.SeqAt.compareEq_reads ra rb c1 c2 (by lia) ⟨.bl _,H,I,rfl,q⟩
theorem TU (hu:X.A.units + 64 < cLine):OpR X (compareOp .NotEq) (λ x y H Q=>∃ M d e,Dt X.K M H x d /\ Dt X.K M H y e /\ d.canLay0 = true /\ e.canLay0 = true /\ min d.depth e.depth <= 64 /\ Q (.bl (!PyData.eqv d e)) H):=by
 intro pins s Z H x y v u Q I rx ry h;obtain ⟨M,d,e,h1,h2,c1,c2,hdp,q⟩:=h;obtain ⟨as,ra,_⟩:=h1.reads I rx;obtain ⟨bs,rb,_⟩:=h2.reads I ry;exact PySem.SeqAt.compareNe_reads ra rb c1 c2 (by lia) ⟨.bl _,H,I,rfl,q⟩
noncomputable def Rz (d e:PyData):Bool:=d.canLay0 && e.canLay0 && Nat.ble (min d.depth e.depth) 64
def eqD:PyData->PyData->(Bool->Prop)->Prop
 | .int i,.int j,P=>P (decide (i = j))
 | .str s,.str t,P=>P (decide (s = t))
 | .bool a,.bool b,P=>P (a == b)
 | d,e,P=>Rz d e = true /\ P (PyData.eqv d e)
theorem BY {e:PyData} {P:Bool->Prop} (h:Rz d e = true) (p:P (PyData.eqv d e)):eqD d e P:=by
 unfold eqD
 split
 ·simp only [PyData.eqv] at p;rw [show decide (_ = _) = (_ == _) from (Bool.beq_eq_decide_eq _ _).symm] at *;exact p
 ·simp only [PyData.eqv] at p;rw [show decide (_ = _) = (_ == _) from (Bool.beq_eq_decide_eq _ _).symm] at *;exact p
 ·simp only [PyData.eqv] at p;exact p
 ·exact ⟨h,p⟩
theorem Mu {e:PyData} {P:Bool->Prop} (h:eqD d e P):(d.canLay0 = true /\ e.canLay0 = true /\ min d.depth e.depth <= 64 /\ P (PyData.eqv d e)) \/ ∃ s t,d = .str s /\ e = .str t /\ P (decide (s = t)):=by
 unfold eqD at h
 split at h
 ·refine .inl ⟨by simp [PyData.canLay0],by simp [PyData.canLay0],by simp [PyData.depth],?_⟩;simp only [PyData.eqv];rw [Bool.beq_eq_decide_eq];exact h
 ·exact .inr ⟨_,_,rfl,rfl,h⟩
 ·refine .inl ⟨by simp [PyData.canLay0],by simp [PyData.canLay0],by simp [PyData.depth],?_⟩;simp only [PyData.eqv];exact h
 ·have h1:=h.1;unfold Rz at h1;simp only [Bool.and_eq_true] at h1;exact .inl ⟨h1.1.1,h1.1.2,Nat.le_of_ble_eq_true h1.2,h.2⟩
theorem ZaJ {f:Value->Value->Sem Value} {r1 r2:R2} (h1:OpR X f r1) (h2:OpR X f r2):OpR X f (λ x y H Q=>r1 x y H Q \/ r2 x y H Q):=
 λ pins s Z H x y v u Q I rx ry h=>h.elim (h1 pins s Z H x y v u Q I rx ry) (h2 pins s Z H x y v u Q I rx ry)
def δEq:D2:=λ x y M Φ=>onD x λ d=>onD y λ e=>eqD d e λ b=>Φ (.dat (.bool b)) M
def δNe:D2:=λ x y M Φ=>onD x λ d=>onD y λ e=>eqD d e λ b=>Φ (.dat (.bool (!b))) M
theorem Js {k:Nat} (hr:Vc k X.A):OpD X (compareOp .Eq) δEq:=
 ⟨_,ZaJ (R4 hr.units) Zcf,λ v u H x y M Φ Q r rv ru h k=>by
  obtain ⟨d,e1,h⟩:=JP h;obtain ⟨e,e2,h⟩:=JP h;subst e1 e2
  rcases Mu h with ⟨c1,c2,hdp,q⟩ | ⟨s,t,rfl,rfl,q⟩
  ·exact .inl ⟨M,d,e,rv,ru,c1,c2,hdp,k.dat r Step.refl (Dt.bl _) q⟩
  ·have q':Q (.bl (decide (s = t))) H:=k.dat r Step.refl (Dt.bl _) q;refine .inr ⟨by rw [rv.str,ru.str]; rfl,?_⟩;rw [rv.str,ru.str,XF,Bool.beq_eq_decide_eq]
   exact q'⟩
theorem Yk {k:Nat} (hr:Vc k X.A):OpD X (compareOp .NotEq) δNe:=
 ⟨_,ZaJ (TU hr.units) Zcp,λ v u H x y M Φ Q r rv ru h k=>by
  obtain ⟨d,e1,h⟩:=JP h;obtain ⟨e,e2,h⟩:=JP h;subst e1 e2
  rcases Mu h with ⟨c1,c2,hdp,q⟩ | ⟨s,t,rfl,rfl,q⟩
  ·exact .inl ⟨M,d,e,rv,ru,c1,c2,hdp,k.dat r Step.refl (Dt.bl _) q⟩
  ·have q':Q (.bl (!decide (s = t))) H:=k.dat r Step.refl (Dt.bl _) q;refine .inr ⟨by rw [rv.str,ru.str]; rfl,?_⟩;rw [rv.str,ru.str,XF,Bool.beq_eq_decide_eq]
   exact q'⟩
def Zcd:D2:=λ x y M Φ=>onS x λ s=>onS y λ t=>Φ (.dat (.bool (!decide (s = t)))) M
def Zcx:D2:=λ x y M Φ=>onS x λ s=>onS y λ t=>Φ (.dat (.bool (decide (s = t)))) M
abbrev DTO:=DSt->Mp->(Option Int->Mp->Prop)->Prop
def DO (X:Cx) (e:Option Expr) (τ:DTO):Prop:=∃ t,PO X e t /\ ∀ Z H U M Φ (Q:Option Int->Hp->Prop),Zy X.K M H->Qj X.K M H Z U->τ U M Φ->(∀ o H' M',Zy X.K M' H'->Step M H M' H'->Φ o M'->Q o H')->t Z H Q
def CI:DTO:=λ _ M Φ=>Φ none M
def TR (t:DTE):DTO:=λ U M Φ=>t U M λ x M1=>onI x λ i=>Φ (some i) M1
theorem Nz:DO X none CI:=⟨_,P2,λ _ H _ M _ _ r _ h k=>k none H M r Step.refl h⟩
theorem O4 (h:DE X e te):DO X (some e) (TR te):=by
 obtain ⟨t,p,q⟩:=h;refine ⟨_,Oj p,λ Z H U M Φ Q r e h k=>?_⟩;refine q Z H U M _ _ r e h λ v H1 x M1 r1 st rv hx=>?_;replace hx:=Zw hx;obtain ⟨i,rfl,hx⟩:=hx;exact ⟨i,rv.int,k _ H1 M1 r1 st hx⟩
noncomputable def cutD (xs:List PyData) (lo hi:Option Int):List PyData:=(xs.drop (HT.sIx xs.length 0 lo)).take (HT.sIx xs.length xs.length hi - HT.sIx xs.length 0 lo)
theorem Dts.cut (h:Dts K M H vs ds) (lo hi:Option Int):Dts K M H (Ry vs lo hi) (cutD ds lo hi):=by
 unfold Ry cutD;rw [h.length];exact (h.drop _).take _
def ZdP (te:DTE) (tl th:DTO):DTE:=λ U M Φ=>te U M λ x M1=>tl U M1 λ l M2=>th U M2 λ u M3=>onT x λ ds=>¬ (HT.sIx ds.length 0 l = 0 /\ HT.sIx ds.length ds.length u = ds.length) /\ Φ (.dat (.tuple (cutD ds l u))) M3
end DL
namespace DL
def Zbm:DTS:=λ D U M=>D.nx U M
def Zbn (t u:DTS):DTS:=λ D U M=>t { D with nx:=u D } U M
section
variable {rest:List Stmt} {t u:DTS} {pos:Pos}
theorem ZH:DSs X [] Zbm:=⟨_,Nu,λ Z H U M D E r e h k=>k.nx Z H U M r Step.refl e h⟩
theorem Ze (h1:DS X st t) (h2:DSs X rest u):DSs X (st :: rest) (Zbn t u):=by
 obtain ⟨t1,p1,q1⟩:=h1;obtain ⟨t2,p2,q2⟩:=h2;refine ⟨_,FE p1 p2,λ Z H U M D E r e h k=>?_⟩;refine q1 Z H U M { D with nx:=u D } { E with nx:=t2 E } r e h ⟨λ σ' H' Δ' M' r' st' e' hn=>?_,k.rt,k.bk,k.ct⟩;exact q2 σ' H' Δ' M' D E r' e' hn (k.step st')
theorem Zh (h1:DS X st t):DSs X [st] t:=by
 obtain ⟨t1,p1,q1⟩:=h1;exact ⟨_,Pq p1,q1⟩
def SE:DTS:=λ D U M=>D.bk U M
def ZbW:DTS:=λ D U M=>D.ct U M
def S9 (te:DTE):DTS:=λ D U M=>te U M λ _ M1=>D.nx U M1
theorem Q5 (he:DE X e te) (hs:autoParam (swapsWith e none pos.line X.env = pure false) zz3._auto_1):DS X (.Expr e pos) (S9 te):=by
 obtain ⟨t,p,q⟩:=he;refine ⟨_,Rp p hs,λ Z H U M D E r e h k=>?_⟩;exact q Z H U M _ _ r e h λ v H1 x M1 r1 st rv hx=>k.nx Z H1 U M1 r1 st (e.step st) hx
def Zdv (te:DTE):DTS:=λ D U M=>te U M D.rt
theorem Zo (he:DE X e te):DS X (.Return (some e) pos) (Zdv te):=by
 obtain ⟨t,p,q⟩:=he;exact ⟨_,ZaU p,λ Z H U M D E r e h k=>q Z H U M _ _ r e h k.rt⟩
def Zci:DTS:=λ D _ M=>D.rt (.dat .none) M
def Zdd (c:DTT) (t u:DTS):DTS:=λ D U M=>c U M λ b M1=>if b = true then t D U M1 else u D U M1
theorem QD {c:Expr} {a b:List Stmt} (hc:DT X c tc) (ha:DSs X a t) (hb:DSs X b u):DS X (.If c a b pos) (Zdd tc t u):=by
 obtain ⟨t0,p0,q0⟩:=hc;obtain ⟨t1,p1,q1⟩:=ha;obtain ⟨t2,p2,q2⟩:=hb;refine ⟨_,ZbN p0 p1 p2,λ Z H U M D E r e h k=>?_⟩;refine q0 Z H U M _ _ r e h λ c H1 M1 r1 st hc=>?_;cases c with
 | true=>rw [if_pos rfl]; exact q1 Z H1 U M1 D E r1 (e.step st) (by simpa using hc) (k.step st)
 | false=>rw [if_neg Bool.false_ne_true]; exact q2 Z H1 U M1 D E r1 (e.step st) (by simpa using hc) (k.step st)
abbrev DTG:=DV->DSt->Mp->(DSt->Mp->Prop)->Prop
abbrev Fi:=List DV->DSt->Mp->(DSt->Mp->Prop)->Prop
def DG (X:Cx) (tg:Expr) (τ:DTG):Prop:=∃ t,PG X tg t /\ ∀ v Z H x U M Φ (Q:L2.St->Hp->Prop),Zy X.K M H->Qj X.K M H Z U->ZP X.K M H v x->τ x U M Φ ->
 (∀ σ' H' Δ' M',Zy X.K M' H'->Step M H M' H'->Qj X.K M' H' σ' Δ'->Φ Δ' M'->Q σ' H')->t v Z H Q
def DGs (X:Cx) (ts:List Expr) (τ:Fi):Prop:=∃ t,PGs X ts t /\ ∀ vs Z H xs U M Φ (Q:L2.St->Hp->Prop),Zy X.K M H->Qj X.K M H Z U->JA X.K M H vs xs->τ xs U M Φ ->
 (∀ σ' H' Δ' M',Zy X.K M' H'->Step M H M' H'->Qj X.K M' H' σ' Δ'->Φ Δ' M'->Q σ' H')->t vs Z H Q
def Yh (i:Nat):DTG:=λ x U M Φ=>Φ (U.set i (some x)) M
theorem Zr (i:Nat) (hN:X.N.Nodup) (hi:autoParam (X.N[i]? = some x) zz3._auto_1) (hx:autoParam (Loc X.env.scope x) zz8._auto_1) (hf:autoParam (X.fn x = true \/ X.env.scope.names.lookup x = some .local) zz0._auto_1) :
  DG X (.Name x pos) (Yh i):=
 ⟨_,CC hN hi hx hf,λ v Z H x U M Φ Q r e rv h k=>k _ H _ M r Step.refl (e.set rv) h⟩
def Zas:Fi:=λ xs U M Φ=>match xs with | []=>Φ U M | _=>False
def L4 (t:DTG) (u:Fi):Fi:=λ xs U M Φ=>match xs with | x :: r=>t x U M λ Δ' M'=>u r Δ' M' Φ | []=>False
theorem Dk:DGs X [] Zas:=⟨_,Pa,λ vs Z H xs U M Φ Q r e rv h k=>by
 cases xs with
 | cons x r=>exact h.elim
 | nil=>
 have h2:Φ U M:=h;cases rv
 exact ⟨rfl,k Z H U M r Step.refl e h2⟩⟩
theorem VH {es:List Expr} {t:DTG} {u:Fi} (h1:DG X e t) (h2:DGs X es u)
  (hs:autoParam ((assignEach (e :: es) X.env).map (·.2) = assign e X.env :: (assignEach es X.env).map (·.2)) zz3._auto_1):DGs X (e :: es) (L4 t u):=by
 obtain ⟨t1,p1,q1⟩:=h1;obtain ⟨t2,p2,q2⟩:=h2;refine ⟨_,E5 p1 p2 hs,λ vs Z H xs U M Φ Q r e rv h k=>?_⟩;obtain ⟨x,xr,e1,h⟩:∃ x xr,xs = x :: xr /\ t x U M λ Δ' M'=>u xr Δ' M' Φ:=by
  cases xs with
  | nil=>exact h.elim
  | cons x xr=>exact ⟨x,xr,rfl,h⟩
 subst e1;cases rv with
 | cons ra rr=>
  refine ⟨_,_,rfl,q1 _ Z H x U M _ _ r e ra h λ σ' H' Δ' M' r' st e' h'=>?_⟩;exact q2 _ σ' H' xr Δ' M' Φ Q r' e' (JA.step rr st) h' λ σ2 H2 Δ2 M2 r2 st2 e2 hΦ=>k σ2 H2 Δ2 M2 r2 (st.trans st2) e2 hΦ
def P8:Nat->List PyData->(List DV->Prop)->Prop
 | 0,[],P=>P []
 | n + 1,d :: r,P=>P8 n r λ xs=>P (.dat d :: xs)
 | 0,_ :: _,_=>False
 | _ + 1,[],_=>False
theorem CU:∀ {n:Nat} {ds:List PyData} {P:List DV->Prop},P8 n ds P->ds.length = n /\ P (ds.map DV.dat)
 | 0,[],_,h=>⟨rfl,h⟩
 | n + 1,d :: r,P,h=>by
  obtain ⟨a,b⟩:=CU (n:=n) (ds:=r) h;exact ⟨by rw [List.length_cons,a],b⟩
 | 0,_ :: _,_,h=>h.elim
 | _ + 1,[],_,h=>h.elim
def Zad (n:Nat) (t:Fi):DTG:=λ x U M Φ=>onT x λ ds=>P8 n ds λ xs=>t xs U M Φ
theorem Dts.To:∀ {vs:List V} {ds:List PyData},Dts K M H vs ds->JA K M H vs (ds.map DV.dat)
 | _,_,.nil=>.nil
 | _,_,.cons h1 h2=>.cons h1 (Dts.To h2)
theorem L7 {es:List Expr} {k:Nat} {t:Fi} (hc:X.calm = true) (h:DGs X es t) (hn:autoParam ((assignEach es X.env).length = n) zz3._auto_1) (hst:autoParam ((assignEach es X.env).findIdx? (·.1) = none) zz3._auto_1):DG X (.Tuple es k pos) (Zad n t):=by
 obtain ⟨t1,p1,q1⟩:=h;refine ⟨_,Zbl hc p1 hn hst,λ v Z H x U M Φ Q r e rv h k=>?_⟩;replace h:=Uu h;obtain ⟨ds,rfl,h⟩:=h;replace h:=CU h;obtain ⟨hl,h⟩:=h;obtain ⟨a,xs,rfl,h1,h2⟩:=rv.tup;exact ⟨a,xs,rfl,h1.sq,by rw [h2.length]; exact hl,q1 xs Z H _ U M Φ Q r e h2.To h k⟩
def Zbe (to ti:DTE):DTG:=λ x U M Φ=>to U M λ o M1=>ti U M1 λ i M2=>onO o λ l=>onI i λ k=>onD x λ d=>VF (M2 l) λ ds=>∃ j,ixN ds.length k = some j /\ Φ U (ZJ M2 l (.lst (ds.set j d)))
theorem Mg {o i:Expr} {to ti:DTE} (ho:DE X o to) (hi:DE X i ti)
  (ha:∀ v,assign (.Subscript o i pos) X.env v = (do
   let ov <- holding [v] (eval o X.env)
   let iv <- holding [v,ov] (eval i X.env)
   standAt pos
   holding [v,ov,iv] (setItem ov iv v)
   release [v,ov,iv] []):=by intro _; rfl):DG X (.Subscript o i pos) (Zbe to ti):=by
 obtain ⟨t1,p1,q1⟩:=ho;obtain ⟨t2,p2,q2⟩:=hi;refine ⟨_,Zax p1 p2 set_list ha,λ v Z H x U M Φ Q r e rv h k=>?_⟩;refine Snd.bin q1 q2 r e h λ w1 w2 H2 o' i' M2 r2 st ro ri hs=>?_;replace hs:=Qq hs;obtain ⟨l,rfl,hs⟩:=hs;replace hs:=Zw hs;obtain ⟨kk,rfl,hs⟩:=hs;replace hs:=JP hs;obtain ⟨d,rfl,hs⟩:=hs;replace hs:=QM hs;obtain ⟨ds,hm,j,hj,hΦ⟩:=hs;obtain ⟨vs,g1,g2⟩:=r2.ls l ds hm;cases (show w1 = .ref l from ro);have rv2:Dt X.K M2 H2 v d:=Dt.step st rv;have st2:Step M2 H2 (ZJ M2 l (.lst (ds.set j d))) (upd H2 l (.lst (vs.set j v))):=Step.Y7 hm;refine ⟨l,vs,kk,j,rfl,ri.int,g1,by rw [g2.length]; exact hj,?_⟩;exact k Z _ U _ (r2.Y9 st2 (g2.set rv2 j)) (st.trans st2) (e.step (st.trans st2)) hΦ
def Rv (te:DTE) (g:DTG):DTS:=λ D U M=>te U M λ x M1=>g x U M1 D.nx
theorem Eo {g:DTG} (he:DE X e te) (hg:DG X tg g) (hs:autoParam (swapsWithSole [tg] e pos.line X.env = pure false) zz3._auto_1) (hw:autoParam (swappedStores [tg] e X.env = pure none) zz3._auto_1)
  (h1:autoParam ((assignEach [tg] X.env).map (·.2) = [assign tg X.env]) zz3._auto_1):DS X (.Assign [tg] e pos) (Rv te g):=by
 obtain ⟨t1,p1,q1⟩:=he;obtain ⟨t2,p2,q2⟩:=hg;refine ⟨_,T6 p1 p2 hs hw h1,λ Z H U M D E r e h k=>?_⟩;refine q1 Z H U M _ _ r e h λ v H1 x M1 r1 st rv hx=>?_;exact q2 v Z H1 x U M1 _ _ r1 (e.step st) rv hx λ σ' H' Δ' M' r' st' e' hn=>k.nx σ' H' Δ' M' r' (st.trans st') e' hn
theorem Zl (i:Nat) (hN:X.N.Nodup) (he:DE X e te) (hi:autoParam (X.N[i]? = some x) zz3._auto_1) (hx:autoParam (Loc X.env.scope x) zz8._auto_1) (hs:autoParam (swapsWith e (some (.Name x pos')) pos.line X.env = pure false) zz3._auto_1)
  (hf:autoParam (X.fn x = true \/ X.env.scope.names.lookup x = some .local) zz0._auto_1):DS X (.Assign [.Name x pos'] e pos) (Rv te (Yh i)):=by
 obtain ⟨t1,p1,q1⟩:=he;refine ⟨_,SQ hN hi hx p1 hs hf,λ Z H U M D E r e h k=>?_⟩;refine q1 Z H U M _ _ r e h λ v H1 x M1 r1 st rv hx=>?_;exact k.nx _ H1 _ M1 r1 st ((e.step st).set rv) hx
def Dg (to te:DTE):DTE:=λ U M Φ=>to U M λ x M1=>onO x λ l=>VF (M1 l) λ _=>te U M1 λ y M2=>onD y λ d=>VF (M2 l) λ ds=>ds.length < sizeLine /\ Φ (.dat .none) (ZJ M2 l (.lst (ds ++ [d])))
theorem J4 {o:Expr} {to:DTE} {apos cpos:Pos} (ho:DE X o to) (he:DE X e te) (hbase:autoParam (attributeBase o "append" X.env (eval o X.env) = eval o X.env) zz3._auto_1)
  (hfew:((backTo cpos (starEach [e] X.env)).all (λ x=>!x.1) && (backToKw cpos (keywordEach [] X.env)).all (λ x=>x.1.isSome)
   && decide ([e].length + ([]:List Keyword).length + (if ([]:List Keyword).isEmpty then 0 else 1) < 30)) = true:=by rfl)
  (hline:autoParam ((apos.endLine == cpos.line) = true) zz3._auto_1) (hs:autoParam (starEach [e] X.env = (false,eval e X.env) :: starEach [] X.env) zz3._auto_1) (hplain:autoParam ((backTo cpos (starEach [] X.env)).any (·.1) = false) zz3._auto_1) :
  DE X (.Call (.Attribute o "append" apos) [e] [] cpos) (Dg to te):=by
 obtain ⟨t1,p1,q1⟩:=ho;obtain ⟨t2,p2,q2⟩:=he;refine ⟨_,O1 PySem.F.plainAttrs_list PySem.F.slot_list_append PySem.F.type_list_append Dc p1 (Xd p2 UN hs) hbase hfew hline hs hplain,λ Z H U M Φ Q r e h k=>?_⟩;refine q1 Z H U M _ _ r e h λ v H1 x M1 r1 st rv hx=>?_;replace hx:=Qq hx;obtain ⟨l,rfl,hx⟩:=hx;replace hx:=QM hx;obtain ⟨oo,ho,hx⟩:=hx;cases (show v = .ref l from rv);have ty:tyV X.K "list" (.ref l) H1:=by
  obtain ⟨vs,g1,_⟩:=r1.ls l oo ho;exact .inl ⟨rfl,vs,SqL.of g1⟩
 refine ⟨ty,q2 Z H1 U M1 _ _ r1 (e.step st) hx λ w H2 y M2 r2 st2 rw2 hy=>?_⟩;replace hy:=JP hy;obtain ⟨d,rfl,hy⟩:=hy;replace hy:=QM hy;obtain ⟨ds,hm,hz,hy⟩:=hy;obtain ⟨vs,g1,g2⟩:=r2.ls l ds hm;have st3:Step M2 H2 (ZJ M2 l (.lst (ds ++ [d]))) (upd H2 l (.lst (vs ++ [w]))):=Step.Y7 hm;refine ⟨l,vs,w,rfl,rfl,g1,by rw [g2.length]; exact hz,?_⟩;exact k.dat (r2.Y9 st3 (g2.append (.cons rw2 .nil))) (st.trans (st2.trans st3)) Dt.non hy
end
section
variable {body:List Stmt} {g:DTG} {tb:DTS} {pos:Pos}
def GQ (g:DTG) (tb:DTS) (D:ZV) (ds:List PyData) (U:DSt) (M:Mp):Prop:=
 ∃ J:Nat->DSt->Mp->Prop,J 0 U M /\ (∀ i d U M,ds[i]? = some d->J i U M->g (.dat d) U M λ Δ2 M2=>tb { D with nx:=J (i + 1),ct:=J (i + 1),bk:=D.nx } Δ2 M2) /\ ∀ U M,J ds.length U M->D.nx U M
def Za6 (te:DTE) (g:DTG) (tb:DTS):DTS:=λ D U M=>te U M λ x M1=>onL x λ ds=>GQ g tb D ds U M1
def S3 (te:DTE) (g:DTG) (tb:DTS):DTS:=λ D U M=>te U M λ x M1=>onT x λ ds=>GQ g tb D ds U M1
theorem NR (he:DE X iter te) (hg:DG X tg g) (hb:DSs X body tb) (hp:PassesOwn (model X.prog X.w) X.A X.env X.xe) (hc:X.calm = true) (hs:autoParam (∀ x,foldedSetIterable iter X.env x = pure x) zz2._auto_1) :
  DS X (.For tg iter body [] pos) (Za6 te g tb):=by
 obtain ⟨t1,p1,q1⟩:=he;obtain ⟨t2,p2,q2⟩:=hg;obtain ⟨t3,p3,q3⟩:=hb;refine ⟨_,Y6 hp hc (Ci p1) p2 p3 hs,λ Z H U M D E r e h k=>?_⟩;refine q1 Z H U M _ _ r e h λ v H1 x M1 r1 st rv hx=>?_;replace hx:=L6 hx;obtain ⟨ds,rfl,J,j0,jt,jd⟩:=hx;obtain ⟨a,xs,rfl,h1,h2⟩:=rv.lst
 refine ⟨a,rfl,⟨xs,h1.sq⟩,FN (xs:=xs) (λ i Z H=>∃ U M,Zy X.K M H /\ Step M1 H1 M H /\ Qj X.K M H Z U /\ J i U M) ⟨U,M1,r1,Step.refl,e.step st,j0⟩
  (λ i Z H _ ⟨U,M,_,st',_,_⟩=>(h1.step st').sq) (λ i y Z H hi ⟨U,M,r',st',e',j⟩=>?_) (λ Z H ⟨U,M,r',st',e',j⟩=>?_)⟩
 ·obtain ⟨d,hd,hy⟩:=h2.Rq hi;refine q2 y Z H (.dat d) U M _ _ r' e' (Dt.step st' hy) (jt i d U M hd j) λ σ2 H2 Δ2 M2 r2 st2 e2 hb2=>?_;refine q3 σ2 H2 Δ2 M2 _ _ r2 e2 hb2 ?_;have s12:Step M1 H1 M2 H2:=st'.trans st2
  exact ⟨λ σ' H' Δ' M' a b c d=>⟨Δ',M',a,s12.trans b,c,d⟩,k.rt.step (st.trans s12),λ σ' H' Δ' M' a b c d=>k.nx σ' H' Δ' M' a ((st.trans s12).trans b) c d,
   λ σ' H' Δ' M' a b c d=>⟨Δ',M',a,s12.trans b,c,d⟩⟩
 ·rw [h2.length] at j;exact k.nx Z H U M r' (st.trans st') e' (jd U M j)
theorem CH (he:DE X iter te) (hg:DG X tg g) (hb:DSs X body tb) (hp:PassesOwn (model X.prog X.w) X.A X.env X.xe) (hc:X.calm = true) (hs:autoParam (∀ x,foldedSetIterable iter X.env x = pure x) zz2._auto_1) :
  DS X (.For tg iter body [] pos) (S3 te g tb):=by
 obtain ⟨t1,p1,q1⟩:=he;obtain ⟨t2,p2,q2⟩:=hg;obtain ⟨t3,p3,q3⟩:=hb;refine ⟨_,Y6 hp hc (Mz p1) p2 p3 hs,λ Z H U M D E r e h k=>?_⟩;refine q1 Z H U M _ _ r e h λ v H1 x M1 r1 st rv hx=>?_;replace hx:=Uu hx;obtain ⟨ds,rfl,J,j0,jt,jd⟩:=hx;obtain ⟨a,xs,rfl,h1,h2⟩:=rv.tup
 refine ⟨a,rfl,⟨xs,h1.sq⟩,Ra (xs:=xs) (λ i Z H=>∃ U M,Zy X.K M H /\ Step M1 H1 M H /\ Qj X.K M H Z U /\ J i U M) ⟨U,M1,r1,Step.refl,e.step st,j0⟩
  (λ i Z H _ ⟨U,M,_,st',_,_⟩=>(h1.step st').sq) (λ i y Z H hi ⟨U,M,r',st',e',j⟩=>?_) (λ Z H ⟨U,M,r',st',e',j⟩=>?_)⟩
 ·obtain ⟨d,hd,hy⟩:=h2.Rq hi;refine q2 y Z H (.dat d) U M _ _ r' e' (Dt.step st' hy) (jt i d U M hd j) λ σ2 H2 Δ2 M2 r2 st2 e2 hb2=>?_;refine q3 σ2 H2 Δ2 M2 _ _ r2 e2 hb2 ?_;have s12:Step M1 H1 M2 H2:=st'.trans st2
  exact ⟨λ σ' H' Δ' M' a b c d=>⟨Δ',M',a,s12.trans b,c,d⟩,k.rt.step (st.trans s12),λ σ' H' Δ' M' a b c d=>k.nx σ' H' Δ' M' a ((st.trans s12).trans b) c d,
   λ σ' H' Δ' M' a b c d=>⟨Δ',M',a,s12.trans b,c,d⟩⟩
 ·rw [h2.length] at j;exact k.nx Z H U M r' (st.trans st') e' (jd U M j)
def X9 (g:DTG) (tb:DTS) (D:ZV) (lo:Int) (n:Nat) (U:DSt) (M:Mp):Prop:=
 ∃ J:Nat->DSt->Mp->Prop,J 0 U M /\ (∀ i U M,i < n->J i U M->g (.dat (.int (lo + i))) U M λ Δ2 M2=>tb { D with nx:=J (i + 1),ct:=J (i + 1),bk:=D.nx } Δ2 M2) /\ ∀ U M,J n U M->D.nx U M
theorem Ms {g':TG} {tb':TS} {lo:Int} {n:Nat} (q2:∀ v Z H x U M Φ (Q:L2.St->Hp->Prop),Zy X.K M H->Qj X.K M H Z U->ZP X.K M H v x->g x U M Φ ->
  (∀ σ' H' Δ' M',Zy X.K M' H'->Step M H M' H'->Qj X.K M' H' σ' Δ'->Φ Δ' M'->Q σ' H')->g' v Z H Q)
  (q3:∀ Z H U M D E,Zy X.K M H->Qj X.K M H Z U->tb D U M->V1 X.K M H D E->tb' E Z H) {D:ZV} {E:Ends} {Z:L2.St} {H:Hp} {U:DSt} {M:Mp} (r:Zy X.K M H) (e:Qj X.K M H Z U) (h:X9 g tb D lo n U M) (k:V1 X.K M H D E) :
  ∃ W:Nat->Nat->L2.St->Hp->Prop,(∃ m,W 0 m Z H) /\ ∀ i m Z H,W i m Z H ->
   ((Itr lo n).stop i H /\ E.nx Z H) \/ ((Itr lo n).go i H /\ ∃ N:L2.St->Hp->Prop,(∀ σ' H',N σ' H'->∃ m',m' < m /\ W (i + 1) m' σ' H') /\ ∀ x H',(Itr lo n).yld i H x H'->g' x Z H' λ σ2 H2=>tb' { E with nx:=N,ct:=N,bk:=E.nx } σ2 H2):=by
 obtain ⟨J,j0,jt,jd⟩:=h;refine BC (λ i σ' H'=>∃ Δ' M',Zy X.K M' H' /\ Step M H M' H' /\ Qj X.K M' H' σ' Δ' /\ J i Δ' M') ⟨U,M,r,Step.refl,e,j0⟩ (λ i σ1 H1 hi ⟨Δ1,M1,r',st',e',j⟩=>?_) (λ σ1 H1 ⟨Δ1,M1,r',st',e',j⟩=>?_)
 ·refine q2 _ σ1 H1 (.dat (.int (lo + i))) Δ1 M1 _ _ r' e' (Dt.int _) (jt i Δ1 M1 hi j) λ σ2 H2 Δ2 M2 r2 st2 e2 hb2=>?_;refine q3 σ2 H2 Δ2 M2 _ _ r2 e2 hb2 ?_;have s12:Step M H M2 H2:=st'.trans st2
  exact ⟨λ σ' H' Δ' M' a b c d=>⟨Δ',M',a,s12.trans b,c,d⟩,k.rt.step s12,λ σ' H' Δ' M' a b c d=>k.nx σ' H' Δ' M' a (s12.trans b) c d,
   λ σ' H' Δ' M' a b c d=>⟨Δ',M',a,s12.trans b,c,d⟩⟩
 ·exact k.nx σ1 H1 Δ1 M1 r' st' e' (jd Δ1 M1 j)
def InR (j:Int):Prop:=-(2 ^ 62) <= j /\ j < 2 ^ 62
def MT (ta:DTA) (g:DTG) (tb:DTS):DTS:=λ D U M=>ta U M λ xs M1=>on1 xs λ x=>onI x λ j=>InR j /\ X9 g tb D 0 j.toNat U M1
theorem QK {a:Expr} {ta:DTA} {p p2:Pos} (hg0:Gl X "range") (hm:X.mg "range" = none) (ha:DA X [a] ta) (hg:DG X tg g) (hb:DSs X body tb) (hp:PassesOwn (model X.prog X.w) X.A X.env X.xe) (hc:X.calm = true)
  (hs:autoParam (starEach [a] X.env = [(false,eval a X.env)]) zz3._auto_1) (hs2:autoParam (∀ x,foldedSetIterable (.Call (.Name "range" p) [a] [] p2) X.env x = pure x) zz2._auto_1):DS X (.For tg (.Call (.Name "range" p) [a] [] p2) body [] pos) (MT ta g tb):=by
 obtain ⟨t1,p1,q1⟩:=ha;obtain ⟨t2,p2,q2⟩:=hg;obtain ⟨t3,p3,q3⟩:=hb;refine ⟨_,Y6 hp hc (Cq hg0 hm p1 hs) p2 p3 hs2,λ Z H U M D E r e h k=>?_⟩;refine q1 Z H U M _ _ r e h λ vs H1 xs M1 r1 st rv hx=>?_;replace hx:=Qm hx;obtain ⟨x,rfl,hx⟩:=hx;replace hx:=Zw hx;obtain ⟨j,rfl,⟨h1,h2⟩,hx⟩:=hx;obtain ⟨v,rfl,hv⟩:=Paired.one rv;exact ⟨j,by rw [ZP.int hv],h1,h2,Ms q2 q3 r1 (e.step st) hx (k.step st)⟩
def LX (ta:DTA) (g:DTG) (tb:DTS):DTS:=λ D U M=>ta U M λ xs M1=>on2 xs λ x y=>onI x λ i=>onI y λ j=>(InR i /\ InR j) /\ X9 g tb D i (j - i).toNat U M1
end
abbrev DSp:=List DV->Mp->DK->Prop
def lift (K:Fk) (S:DSp):Sp:=λ vs H Q _=>∃ xs M Φ,Zy K M H /\ JA K M H vs xs /\ S xs M Φ /\ Rch K M H Φ Q
def NB (S:DSp) (t:DTA):DTE:=λ U M Φ=>t U M λ xs M1=>S xs M1 Φ
section
variable {CX:CXT} {k:Nat} {S:DSp} {E:XK} {p pos:Pos} {es:List Expr} {t:DTA}
theorem O0 (F:Qh X.prog X.w X.K X.mg X.base CX k f fd ps (lift X.K S)) (hr:Vc k X.A) (hg:Gl X x) (hm:X.mg x = some (.ref f)) (hk:PySem.W.keepIn X.K (.ref f) = true) (hb:Binds X.K fd ps []) (hx:Passes CX X E)
  (ha:DA X (e :: es) t) (hdb:autoParam ((x == ("__debug__" : Str)) = false) zz1._auto_1) (he:autoParam (starEach (e :: es) X.env = (false,eval e X.env) :: starEach es X.env) zz3._auto_1) (hpl:autoParam ((backTo pos (starEach es X.env)).any (·.1) = false) zz3._auto_1) :
  DE X (.Call (.Name x p) (e :: es) [] pos) (NB S t):=by
 obtain ⟨t1,p1,q1⟩:=ha;refine ⟨_,Rj F hr hg hm hk hb .nil hx p1 hdb he hpl,λ Z H U M Φ Q r e h k=>?_⟩;refine q1 Z H U M _ _ r e h λ vs H1 xs M1 r1 st rv hx=>?_;show lift X.K S (vs ++ []) H1 Q E;rw [List.append_nil];exact ⟨xs,M1,Φ,r1,rv,hx,k.step st⟩
end
section
variable {base:Heap}
theorem okD {k:Nat} {S:DSp} (F:Fun K x qual st f fd) (Sc:Zn N ps (Zf st)) (len:∀ xs M Φ,S xs M Φ->xs.length = ps.length)
  (hbody:∀ (cdv:Value) (A:Around) (outer:List Env) (s:Shared) (H:Hp) (E:XK),Vc k (A.deeper (envOfC qual (Zf st) s.heap.objs.size f cdv)) ->
   ∃ τ,DSs (Nb CX0 P w K mg base N qual (Zf st) f cdv A outer s H E).nox (QN st) τ /\ ∀ xs M Φ,S xs M Φ->τ { nx:=λ _ M'=>Φ (.dat .none) M',rt:=Φ } (Vz N xs) M):Qh P w K mg base CX0 (k + 1) f fd ps (lift K S):=by
 refine F.ok Sc (λ vs H Q E h=>?_) λ cdv A outer s H vs Q E hr h=>?_
 ·obtain ⟨xs,M,Φ,_,rv,hs,_⟩:=h;rw [Paired.length rv];exact len xs M Φ hs
 ·obtain ⟨xs,M,Φ,r,rv,hs,kk⟩:=h;obtain ⟨τ,⟨t,p,q⟩,hτ⟩:=hbody cdv A outer s H E hr;refine ⟨t,p,q (start N vs) H (Vz N xs) M _ _ r (Qj.start rv) (hτ xs M Φ hs) ⟨λ σ' H' Δ' M' r' st' e' hn=>?_,kk,λ _ _ _ _ _ _ _ h=>h.elim,λ _ _ _ _ _ _ _ h=>h.elim⟩⟩;exact kk.dat r' st' Dt.non hn
end
section
variable {k v:Expr} {pos:Pos}
def SG:DTE:=λ _ M Φ=>Φ (.dat (.dict [])) M
def Kc (x:DV) (P:Key->Prop):Prop:=match x with | .dat (.int i)=>P (.inl i) | .dat (.str s)=>P (.inr s) | _=>False
noncomputable def LC:List PyData->Option (List Key)
 | []=>some []
 | .int i :: r=>(LC r).map (.inl i :: ·)
 | .str s :: r=>(LC r).map (.inr s :: ·)
 | _ :: _=>none
def ZcJ (ds:List PyData) (P:List Key->Prop):Prop:=match LC ds with | some ks=>P ks | none=>False
def SK (tk tv:DTE):DTE:=λ U M Φ=>tk U M λ x M1=>tv U M1 λ y M2=>Kc x λ k=>onD y λ d=>Φ (.dat (.dict [(kD k,d)])) M2
def Tw (tk tv tk' tv':DTE):DTE:=λ U M Φ=>tk U M λ x M1=>tv U M1 λ y M2=>tk' U M2 λ x' M3=>tv' U M3 λ y' M4=>Kc x λ k=>onD y λ d=>Kc x' λ k'=>onD y' λ d'=>k ≠ k' /\ Φ (.dat (.dict [(kD k,d),(kD k',d')])) M4
def NW (tk tv:DTE):DTE:=λ U M Φ=>tk U M λ x M1=>tv U M1 λ y M2=>onT x λ ds=>ZcJ ds λ ks=>onD y λ d=>Φ (.dat (.dict [(.tuple (ks.map kD),d)])) M2
theorem SqT.new {o:HO} (h:SqT K H a xs) (hp:H p = none):SqT K (upd H p o) a xs:=by
 rcases h with (h | ⟨ob,h⟩) | h
 ·exact .inl (.inl (by rw [Zv (Zt h hp)]; exact h))
 ·exact .inl (.inr ⟨ob,by rw [Zv (Zt h hp)]; exact h⟩)
 ·exact .inr h
end
mutual
noncomputable def cost:PyData->Nat
 | .none=>4
 | .bool _=>5
 | .int _=>1921
 | .str x=>(reprText x).length
 | .list xs=>Vh xs + 2
 | .tuple xs=>Vh xs + 3
 | .dict kvs=>Kj kvs + 2
noncomputable def Vh:List PyData->Nat
 | []=>0
 | x :: xs=>cost x + 2 + Vh xs
noncomputable def Kj:List (PyData × PyData)->Nat
 | []=>0
 | (k,v) :: r=>cost k + 2 + cost v + 2 + Kj r
end
theorem Yo:∀ (ts:List Str) (k:Nat) (acc:Str),(textFrom k acc ts).length <= acc.length + piled ts
 | [],k,acc=>Nat.le_add_right _ _
 | t :: r,k,acc=>by
  have h:=Yo r (k + 1) (acc ++ (if k > 0 then ", " else "" : String) ++ t);have e:(acc ++ (if k > 0 then ", " else "" : String) ++ t).length = acc.length + (if k > 0 then 2 else 0) + t.length:=by
   rw [strLen_append,strLen_append]
   split <;> rfl
  have d1:(if k > 0 then 2 else 0:Nat) <= 2:=by split <;> lia
  rw [e] at h;rw [piled_cons];show (textFrom (k + 1) _ r).length <= _;lia
theorem DR (ts:List Str):(Str.join ", " ts).length <= piled ts:=by
 by_cases h:ts = []
 ·subst h; exact Nat.le_of_eq rfl
 ·have:=join_length_add ts h;lia
mutual
theorem Jm:∀ d:PyData,d.showable = true->d.shown.length <= cost d
 | .none,_=>by simp only [PyData.shown,cost]; exact Nat.le_of_eq rfl
 | .bool b,_=>by
  simp only [PyData.shown,cost];cases b
  ·exact Nat.le_of_eq rfl
  ·exact (by decide:4 <= 5)
 | .int i,h=>by
  simp only [PyData.shown,cost];exact int_text_len_1921 (by simpa [PyData.showable] using h)
 | .str x,_=>by simp only [PyData.shown,cost]; exact Nat.le_refl _
 | .list xs,h=>by
  have h1:=QV xs (by simpa [PyData.showable] using h);have h2:=Yo (PyData.shownAll xs) 0 "[";have e1:((("[" : String):Str)).length = 1:=rfl;have e2:((("]" : String):Str)).length = 1:=rfl;simp only [PyData.shown,cost];unfold listText;rw [strLen_append,e2];rw [e1] at h2;lia
 | .tuple xs,h=>by
  have h1:=QV xs (by simpa [PyData.showable] using h);have h2:=DR (PyData.shownAll xs);have e1:((("(" : String):Str)).length = 1:=rfl;have e3:(((if (PyData.shownAll xs).length == 1 then ",)" else ")" : String):Str)).length <= 2:=by split <;> decide
  simp only [PyData.shown,cost];unfold tupleText;rw [strLen_append,strLen_append,e1];lia
 | .dict kvs,h=>by
  have h1:=Vp kvs (by simpa [PyData.showable] using h);have h2:=DR (PyData.shownKv kvs);have e:(dictText (PyData.shownKv kvs)).length = 1 + (Str.join ", " (PyData.shownKv kvs)).length + 1:=by
   unfold dictText;rw [strLen_append,strLen_append]; rfl
  simp only [PyData.shown,cost];lia
theorem QV:∀ xs:List PyData,PyData.showableAll xs = true->piled (PyData.shownAll xs) <= Vh xs
 | [],_=>by simp only [PyData.shownAll,Vh]; exact Nat.le_of_eq rfl
 | x :: xs,h=>by
  have h':x.showable = true /\ PyData.showableAll xs = true:=by simpa [PyData.showableAll] using h
  have h1:=Jm x h'.1;have h2:=QV xs h'.2;simp only [PyData.shownAll,Vh];rw [piled_cons];lia
theorem Vp:∀ kvs:List (PyData × PyData),PyData.showableKv kvs = true->piled (PyData.shownKv kvs) <= Kj kvs
 | [],_=>by simp only [PyData.shownKv,Kj]; exact Nat.le_of_eq rfl
 | (k,v) :: r,h=>by
  have h':(k.showable = true /\ v.showable = true) /\ PyData.showableKv r = true:=by simpa [PyData.showableKv] using h
  have h1:=Jm k h'.1.1;have h2:=Jm v h'.1.2;have h3:=Vp r h'.2;have e:((k.shown ++ ": " ++ v.shown:Str)).length = k.shown.length + 2 + v.shown.length:=by rw [strLen_append,strLen_append]; rfl
  simp only [PyData.shownKv,Kj];rw [piled_cons,e];lia
end
theorem Shw.of (s:d.showable = true) (m:(d.hasDict && Qn d) = false) (dp:d.depth <= 64) (z:cost d <= 1000000):Shw d:=
 ⟨s,m,dp,Nat.le_trans (Jm d s) (Nat.le_trans z (by rw [sizeLine_eq]; decide))⟩
structure Own (K:Fk) (mg:Str->Option Value) (x:Str) (st:Stmt) (ps:List Str) (f:Addr) (fd:FuncData):Prop where
 F:Fun K x x st f fd
 m:mg x = some (.ref f)
 b:Binds K fd ps []
def CN:DSp:=λ xs M Φ=>∃ ns:List Int,xs = [.dat (.list (ns.map PyData.int))] /\ ns.length <= 63 /\ ∀ M',Φ (.dat (.bool true)) M'
theorem BN (hl:ns.length <= 63) (_:Zbv H) (hS:SqL K H a (ns.map V.int)):lift K CN [.ref a] H (λ v _=>v = .bl true) λ _ _ _=>False:=by
 refine ⟨[.dat (.list (ns.map PyData.int))],λ _=>none,λ x _=>x = .dat (.bool true),(show Zy K (λ _=>none) H from ⟨λ b o e=>(by cases e)⟩),Paired.cons (Dt.lst ?_ (Dts.ints ns)) Paired.nil,⟨ns,rfl,hl,λ _=>rfl⟩,λ v H' x M' _ _ rv hx=>?_⟩
 ·rcases hS with h | h
  ·exact .inl ⟨rfl,h⟩
  ·exact .inr h
 ·subst hx;exact rv.bool
theorem BM {α:Type} {l:List α} {i:Int} (h0:0 <= i) (h1:i < l.length):∃ d,atI l i = some d /\ d ∈ l:=by
 have hl:i.toNat < l.length:=by lia
 refine ⟨l[i.toNat],?_,List.getElem_mem hl⟩;have q:atI l ((i.toNat:Nat):Int) = some l[i.toNat]:=YA (by simp [hl]);rw [show ((i.toNat:Nat):Int) = i by lia] at q;exact q
theorem Zah:ixN 3 0 = some 0:=rfl
theorem Za7:ixN 3 1 = some 1:=rfl
theorem SU:ixN 3 2 = some 2:=rfl
theorem O9 {j:Int} (h0:0 <= j) (h1:j < ns.length):∃ c:Int,atI (ns.map PyData.int) j = some (.int c):=by
 obtain ⟨d,e,hm⟩:=BM (l:=ns.map PyData.int) h0 (by rw [List.length_map]; exact h1);obtain ⟨c,_,rfl⟩:=List.mem_map.mp hm;exact ⟨c,e⟩
theorem Bh (x:Int) {m:Int} (h:0 < m):0 <= x % m /\ x % m < m:=⟨Int.emod_nonneg _ (by lia),Int.emod_lt_of_pos _ h⟩
def sp1 (f:PyData->Bool):DSp:=λ xs M Φ=>∃ d,xs = [.dat d] /\ Φ (.dat (.bool (f d))) M
theorem ZdB (k:Int) (h:0 <= k /\ k <= 1000000):ZcD 10 k:=⟨h.1,h.2,by decide⟩
theorem Yz {o:OO} (h:M a = none):VV (ZJ M a o) a = M:=by
 funext b
 unfold VV ZJ
 split
 ·rename_i e; rw [e,h]
 ·rfl
theorem Zq {p:Prop} [Decidable p] {A B:Prop} (h1:p->A) (h2:¬ p->B):if decide p = true then A else B:=by
 by_cases h:p
 ·rw [decide_eq_true h,if_pos rfl]; exact h1 h
 ·rw [decide_eq_false h,if_neg Bool.false_ne_true]; exact h2 h
noncomputable def Bm (env:Env):List (Str × NameKind)->List (Str × Addr)->List (Str × Addr)
 | [],cs=>cs
 | (n,k) :: r,cs=>Bm env r (if (k == NameKind.free) = true then (n,(env.cells.lookup n).getD 0) :: cs else cs)
theorem YX {env:Env} (f:Str × NameKind->List (Str × Addr)->Sem (ForInStep (List (Str × Addr)))):∀ (l:List (Str × NameKind)) (cs:List (Str × Addr)),
  (∀ y ∈ l,∀ cs,f y cs = pure (.yield (if (y.2 == NameKind.free) = true then (y.1,(env.cells.lookup y.1).getD 0) :: cs else cs)))->forIn l cs f = pure (Bm env l cs)
 | [],cs,_=>by rw [List.forIn_nil]; rfl
 | (n,k) :: r,cs,h=>by
  rw [List.forIn_cons,h _ List.mem_cons_self,pure_bind];exact YX f r _ λ y hy=>h y (List.mem_cons_of_mem _ hy)
theorem Jd (h:∀ y ∈ scope.names,y.2 = .free->∃ c,env.cells.lookup y.1 = some c):closureFor scope env = pure (Bm env scope.names []):=by
 simp only [closureFor]
 rw [YX (env:=env) _ scope.names [] (λ y hy cs=>by
  obtain ⟨n,k⟩:=y
  by_cases hk:k = .free
  ·subst hk;obtain ⟨c,e⟩:=h _ hy rfl;have e':env.cells.lookup n = some c:=e;simp only [beq_self_eq_true,if_true,cellOf,e',Option.getD_some,pure_bind]
  ·have:(k == NameKind.free) = false:=by simpa using hk
   simp only [this,Bool.false_eq_true,if_false])]
 rfl
theorem Ga:∀ {l:List (Str × NameKind)} {cs:List (Str × Addr)} {x:Str} {c:Addr},(x,c) ∈ Bm env l cs->(x,c) ∈ cs \/ ((x,NameKind.free) ∈ l /\ c = (env.cells.lookup x).getD 0)
 | [],_,_,_,h=>.inl h
 | (n,k) :: r,cs,x,c,h=>by
  rcases Ga (l:=r) h with h | ⟨h1,h2⟩
  ·by_cases hk:k = .free
   ·subst hk;rw [if_pos (by simp)] at h
    rcases List.mem_cons.mp h with h | h
    ·cases h;exact .inr ⟨List.mem_cons_self,rfl⟩
    ·exact .inl h
   ·have:(k == NameKind.free) = false:=by simpa using hk
    rw [if_neg (by rw [this]; exact Bool.false_ne_true)] at h;exact .inl h
  ·exact .inr ⟨List.mem_cons_of_mem _ h1,h2⟩
theorem UK:∀ {l:List (Str × NameKind)} {cs:List (Str × Addr)} {x:Str},((x,NameKind.free) ∈ l \/ ∃ c,(x,c) ∈ cs)->∃ c,(x,c) ∈ Bm env l cs
 | [],_,_,h=>h.elim (λ z=>nomatch z) id
 | (n,k) :: r,cs,x,h=>by
  refine UK (l:=r) ?_
  rcases h with h | ⟨c,h⟩
  ·rcases List.mem_cons.mp h with h | h
   ·cases h;exact .inr ⟨_,by rw [if_pos (by simp)]; exact List.mem_cons_self⟩
   ·exact .inl h
  ·refine .inr ⟨c,?_⟩
   split
   ·exact List.mem_cons_of_mem _ h
   ·exact h
theorem Yr {β:Type}:∀ {l:List (Str × β)} {x:Str} {c:β},(x,c) ∈ l->∃ c',l.lookup x = some c'
 | [],_,_,h=>nomatch h
 | (n,d) :: r,x,c,h=>by
  rw [List.lookup_cons];cases e:x == n with
  | true=>exact ⟨d,rfl⟩
  | false=>
   rcases List.mem_cons.mp h with h | h
   ·cases h;simp at e
   ·exact Yr h
theorem ZQ {names:List (Str × NameKind)} (hf:∀ y ∈ names,y.2 = .free->∃ c,env.cells.lookup y.1 = some c) {c:Addr} (h:(Bm env names []).lookup x = some c) :
  env.cells.lookup x = some c /\ (x,NameKind.free) ∈ names:=by
 rcases Ga (PySem.mem_of_lookup h) with h | ⟨h1,h2⟩
 ·exact nomatch h
 ·obtain ⟨c',e⟩:=hf _ h1 rfl;have e':env.cells.lookup x = some c':=e;rw [e',Option.getD_some] at h2;subst h2;exact ⟨e',h1⟩
theorem Gg {names:List (Str × NameKind)} (hf:∀ y ∈ names,y.2 = .free->∃ c,env.cells.lookup y.1 = some c) (h:(x,NameKind.free) ∈ names):∃ c,(Bm env names []).lookup x = some c /\ env.cells.lookup x = some c:=by
 obtain ⟨c,hm⟩:=UK (env:=env) (cs:=[]) (.inl h);obtain ⟨c',e⟩:=Yr hm;exact ⟨c',e,(ZQ hf e).1⟩
noncomputable def Zs (X:Cx) (scope:Scope) (C:Addr) (N:List Str) (ex:List Addr) (s:Shared) (H:Hp):Cx:=
 { X with N:=N,s₀:=s,H₀:=H,env:=compEnvC scope (Bm X.env scope.names []) C X.env,outer:=X.stack,ex:=ex,fn:=λ _=>false,pn:=[],xe:=λ _ _=>False }
noncomputable def Qc (ix:List (Option Nat)) (Z:L2.St):L2.St:=ix.map λ o=>o.bind λ i=>(Z[i]?).join
noncomputable def Wh (ix:List (Option Nat)) (U:DSt):DSt:=ix.map λ o=>o.bind λ i=>(U[i]?).join
structure QO (X:Cx) (scope:Scope) (N:List Str) (ix:List (Option Nat)):Prop where
 kind:scope.kind = .function
 cellF:∀ y ∈ scope.names,y.2 ≠ .cell
 names:∀ y ∈ scope.names,y.2 = .local->scope.names.lookup y.1 = some .local
 free:∀ y ∈ scope.names,y.2 = .free->X.env.kindOf y.1 = some .cell
 len:N.length = ix.length
 cap:∀ (j:Nat) (x:Str) (i:Nat),N[j]? = some x->ix[j]? = some (some i)->X.N[i]? = some x /\ (x,NameKind.free) ∈ scope.names /\ (relabel scope X.env).names.lookup x = some .cell
theorem Ei {Z:L2.St} (h:(Qc ix Z)[j]? = some (some v)):∃ i,ix[j]? = some (some i) /\ Z[i]? = some (some v):=by
 unfold Qc at h;rw [List.getElem?_map] at h;cases e:ix[j]? with
 | none=>rw [e] at h; cases h
 | some o=>
  rw [e] at h;cases o with
  | none=>simp at h
  | some i=>
   refine ⟨i,rfl,?_⟩;have h':(Z[i]?).join = some v:=by simpa using h
   cases q:Z[i]? with
   | none=>rw [q] at h'; cases h'
   | some o'=>rw [q] at h'; exact congrArg some h'
theorem Qj.cap {Z:L2.St} {U:DSt} (h:Qj K M H Z U) (ix:List (Option Nat)):Qj K M H (Qc ix Z) (Wh ix U):=by
 refine ⟨by unfold Qc Wh; rw [List.length_map,List.length_map],λ j x e=>?_⟩;unfold Wh at e;rw [List.getElem?_map] at e;cases q:ix[j]? with
 | none=>rw [q] at e; cases e
 | some o=>
  rw [q] at e;cases o with
  | none=>simp at e
  | some i=>
   have e':(U[i]?).join = some x:=by simpa using e
   have e2:U[i]? = some (some x):=by
    cases q2:U[i]? with
    | none=>rw [q2] at e'; cases e'
    | some o'=>rw [q2] at e'; exact congrArg some e'
   obtain ⟨v,hv,rv⟩:=h.at' i x e2;refine ⟨v,?_,rv⟩;unfold Qc;rw [List.getElem?_map,q];simp [hv]
section
variable {Z:L2.St} {H2:Hp} {s2:Shared} {C:Addr} {fp:List Addr}
theorem MI (ok:QO X scope N ix) (I2:Inv X pins Z H2 s2):∀ y ∈ scope.names,y.2 = .free->∃ c,X.env.cells.lookup y.1 = some c:=λ y hy hk=>I2.ok.has y.1 (.inl (ok.free y hy hk))
theorem YT (ok:QO X scope N ix) (I2:Inv X pins Z H2 s2) (f2:∀ b ∈ fp,U6 X pins H2 b) (ex:∀ b ∈ fp,∃ o,s2.heap.get? b = some o) (hC:s2.heap.objs.size <= C):(Zs X scope C N fp s2 H2).Ok:=by
 have hf:=MI ok I2
 refine ⟨I2.ok.mod,ok.kind,I2.ok.glob,I2.ok.blt,hC,λ x y c h1 h2=>I2.ok.inj x y c (ZQ hf h1).1 (ZQ hf h2).1,λ x hx=>?_,λ x c h=>absurd h Bool.false_ne_true,I2.ok.hd,I2.ok.frames,.inl rfl,λ b hb=>?_,λ b o e=>I2.bs b o e,Nat.le_trans I2.ok.bsz I2.sz,
  λ b o e hb=>?_,λ b hb z=>?_,I2.stack,I2.DQ⟩
 ·have hx':(relabel scope X.env).names.lookup x = some .cell \/ (relabel scope X.env).names.lookup x = some .free:=hx;have key:(x,NameKind.free) ∈ scope.names:=by
   have go:∀ k',(relabel scope X.env).names.lookup x = some k'->(k' = .cell \/ k' = .free)->(x,NameKind.free) ∈ scope.names:=λ k' e hk=>by
    have hm:=PySem.mem_of_lookup e;obtain ⟨⟨n,k⟩,hn,q⟩:=List.mem_map.mp hm
    by_cases hr:(k == NameKind.free && X.env.scope.kind == .function && X.env.kindOf n == some .cell) = true
    ·have q':(n,NameKind.cell) = (x,k'):=by rw [<- q]; simp [hr]
     cases q';have:k = .free:=by simp only [Bool.and_eq_true] at hr; simpa using hr.1.1
     subst this;exact hn
    ·have q':(n,k) = (x,k'):=by rw [<- q]; simp [hr]
     cases q'
     rcases hk with rfl | rfl
     ·exact absurd rfl (ok.cellF _ hn)
     ·exact hn
   rcases hx' with h | h
   ·exact go _ h (.inl rfl)
   ·exact go _ h (.inr rfl)
  obtain ⟨c,h1,_⟩:=Gg hf key;exact ⟨c,h1⟩
 ·obtain ⟨o,e⟩:=ex b hb;exact ⟨Nat.ne_of_lt (Nat.lt_of_lt_of_le (Heap.lt_size e) hC),λ x c h=>(f2 b hb).2.2.2.2.1 x c (ZQ hf h).1⟩
 ·rcases (f2 b hb).2.2.2.1 with z | z
  ·exact I2.ok.noex b o e z
  ·exact absurd (Nat.lt_of_lt_of_le (Heap.lt_size e) (Nat.le_trans I2.ok.bsz z)) (Nat.lt_irrefl _)
 ·rcases List.mem_cons.mp (I2.Dj b z) with z | z
  ·exact (f2 b hb).2.1 z
  ·exact (f2 b hb).2.2.1 z
theorem VO (ok:QO X scope N ix) (I2:Inv X pins Z H2 s2) (f2:∀ b ∈ fp,U6 X pins H2 b) {m:Str->Option Value} (u:Un (frs X.stack) fp H2 H s2.heap s.heap) :
  ∀ (i:Nat) (x:Str) (v:V),N[i]? = some x->(Qc ix Z)[i]? = some (some v)->∃ w,RelV v w /\ Look (Zs X scope C N fp s2 H2).env s.heap m x w:=λ j x v hN hv=>by
 obtain ⟨i,hi,hs⟩:=Ei hv;obtain ⟨hx,hm,hr⟩:=ok.cap j x i hN hi;have hk:X.env.kindOf x = some .cell:=ok.free _ hm rfl;obtain ⟨m0,_,hl⟩:=I2.loc;obtain ⟨w,r,l⟩:=hl i x v hx hs (.inr (.inl hk));refine ⟨w,r,.inr ⟨.inl hr,?_⟩⟩
 rcases l with ⟨z,_⟩ | ⟨_,c,e,hc⟩
 ·rw [hk] at z; cases z
 ·obtain ⟨c',h1,h2⟩:=Gg (MI ok I2) hm;rw [e] at h2;cases h2;refine ⟨c,h1,?_⟩;obtain ⟨o,ho,hd⟩:=hc;obtain ⟨sl,q⟩:=u.any ho (I2.freeC x c e) λ z=>(f2 c z).2.2.2.2.1 x c e rfl;exact ⟨_,q,hd⟩
end
section
variable {prog:Program} {R:Result->Shared->Prop}
theorem Vs {elt target iter:Expr} {ifs:List Expr} {scope:Scope} {pos:Pos} {it acc:Value} {env:Env} (I:Nat->Shared->Prop)
  (turn:∀ n s,I n s->wpAny (model prog w) A (pyNext it) (λ r s₁=>match r with
   | none=>R (.ok .next) s₁
   | some v=>wpAny (model prog w) A (letOwnedTupleGo target it v) (λ _ s₁'=>wpAny (model prog w) A (assign target env v) (λ _ s₂=>
     wpAny (model prog w) A (forIn ifs true λ c r=>if r = true then do let ok <- isTrue c env (eval c env); pure (ForInStep.yield ok) else pure (ForInStep.yield r)) (λ ok s₃=>
      if ok = true then wpAny (model prog w) A (eval elt env) (λ x s₄=>
       wpAny (model prog w) A (call (.builtin "list.append") [acc,x]) (λ _ s₅=>∃ m,m < n /\ I m s₅) (λ _ _=>False) s₄) (λ _ _=>False) s₃
      else ∃ m,m < n /\ I m s₃) (λ _ _=>False) s₂) (λ _ _=>False) s₁') (λ _ _=>False) s₁) (λ _ _=>False) s)
  (n:Nat) (h:I n s):codeAny (model prog w) A (.compLoop (.ListComp elt [⟨target,iter,ifs,0⟩] scope pos) 0 it acc env) R s:=by
 refine codeAny_loop rfl I (λ n s hI=>?_) n h;show wpAny _ A ((compTurn (.ListComp elt [⟨target,iter,ifs,0⟩] scope pos) 0 it acc env).onRaise (λ x=>do noteFrame x env; theTreesLotGoes x)) _ _ s;refine wpAny_noted ?_;rw [compTurn_list];refine wpAny_bind (wpAny_standAt (wpAny_bind (wpAny_mono (turn n s hI) (λ r s₁ h₁=>?_) λ _ _ h'=>h'.elim)));cases r with
 | none=>exact wpAny_pure h₁
 | some v=>
  refine wpAny_bind (wpAny_mono h₁ (λ _ s₁' h₁'=>?_) λ _ _ h'=>h'.elim);refine wpAny_bind (wpAny_mono h₁' (λ _ s₂ h₂=>wpAny_bind (wpAny_mono h₂ (λ ok s₃ h₃=>?_) λ _ _ h'=>h'.elim)) λ _ _ h'=>h'.elim);cases ok with
  | false=>exact wpAny_pure ⟨rfl,h₃⟩
  | true=>
   exact wpAny_bind (wpAny_bind (wpAny_mono h₃ (λ x s₄ h₄=>wpAny_bind (wpAny_mono h₄ (λ _ s₅ h₅=>wpAny_pure (wpAny_pure ⟨rfl,h₅⟩)) λ _ _ h'=>h'.elim)) λ _ _ h'=>h'.elim))
end
def Yl (K:Fk) (J:It) (ds:List PyData) (M:Mp) (H:Hp):Prop:=∀ M2 H2,Step M H M2 H2->∀ i,
 (i < ds.length->J.go i H2 /\ ∀ x H',J.yld i H2 x H'->Zy K M2 H2->Zy K M2 H' /\ Step M2 H2 M2 H' /\ ∃ d,ds[i]? = some d /\ Dt K M2 H' x d) /\ (ds.length <= i->J.stop i H2)
abbrev JZ:=DSt->Mp->(List PyData->Mp->Prop)->Prop
def DI (X:Cx) (tg iter:Expr) (src:JZ):Prop:=∃ wi,PI X tg iter wi /\ ∀ Z H U M Ψ (R:It->Hp->Prop),Zy X.K M H->Qj X.K M H Z U->src U M Ψ ->
 (∀ J H' M' ds,Zy X.K M' H'->Step M H M' H'->Yl X.K J ds M' H'->Ψ ds M'->R J H')->wi Z H R
def Zdq (te:DTE):JZ:=λ U M Ψ=>te U M λ x M1=>onL x λ ds=>Ψ ds M1
def Zc9 (te:DTE):JZ:=λ U M Ψ=>te U M λ x M1=>onT x λ ds=>Ψ ds M1
theorem JB (he:DE X iter te):DI X tg iter (Zdq te):=by
 obtain ⟨t,p,q⟩:=he;refine ⟨_,Ci p,λ Z H U M Ψ R dr er h k=>?_⟩;refine q Z H U M _ _ dr er h λ v H1 x M1 r1 st rv hx=>?_;replace hx:=L6 hx;obtain ⟨ds,rfl,hΨ⟩:=hx;obtain ⟨a,xs,rfl,h1,h2⟩:=rv.lst;refine ⟨a,rfl,⟨xs,h1.sq⟩,k _ H1 M1 ds r1 st (λ M2 H2 st2 i=>⟨λ hi=>?_,λ hi=>?_⟩) hΨ⟩
 ·have hx:i < xs.length:=by rw [h2.length]; exact hi
  refine ⟨⟨xs,xs[i],(h1.step st2).sq,by simp [hx]⟩,λ x H' y=>?_⟩;obtain ⟨e,y⟩:=y;obtain ⟨d,hd,hy⟩:=(h2.step st2).Rq (y xs (h1.step st2).sq);subst e;exact λ r=>⟨r,Step.refl,d,hd,hy⟩
 ·exact ⟨xs,(h1.step st2).sq,by rw [h2.length]; exact hi⟩
theorem VR (he:DE X iter te):DI X tg iter (Zc9 te):=by
 obtain ⟨t,p,q⟩:=he;refine ⟨_,Mz p,λ Z H U M Ψ R dr er h k=>?_⟩;refine q Z H U M _ _ dr er h λ v H1 x M1 r1 st rv hx=>?_;replace hx:=Uu hx;obtain ⟨ds,rfl,hΨ⟩:=hx;obtain ⟨a,xs,rfl,h1,h2⟩:=rv.tup;refine ⟨a,rfl,⟨xs,h1.sq⟩,k _ H1 M1 ds r1 st (λ M2 H2 st2 i=>⟨λ hi=>?_,λ hi=>?_⟩) hΨ⟩
 ·have hx:i < xs.length:=by rw [h2.length]; exact hi
  refine ⟨⟨xs,xs[i],(h1.step st2).sq,by simp [hx]⟩,λ x H' y=>?_⟩;obtain ⟨e,y⟩:=y;obtain ⟨d,hd,hy⟩:=(h2.step st2).Rq (y xs (h1.step st2).sq);subst e;exact λ r=>⟨r,Step.refl,d,hd,hy⟩
 ·exact ⟨xs,(h1.step st2).sq,by rw [h2.length]; exact hi⟩
noncomputable def Y0 (lo:Int) (n:Nat):List PyData:=(List.range n).map λ (i:Nat)=>PyData.int (lo + (i:Int))
theorem JM (lo:Int) (n:Nat):(Y0 lo n).length = n:=by unfold Y0; rw [List.length_map,List.length_range]
theorem UY {lo:Int} (h:i < n):(Y0 lo n)[i]? = some (.int (lo + (i:Int))):=by
 unfold Y0;rw [List.getElem?_map,List.getElem?_range h];rfl
theorem FP (lo:Int) (n:Nat):Yl K (Itr lo n) (Y0 lo n) M H:=λ M2 H2 st2 i=>by
 rw [JM];refine ⟨λ hi=>⟨hi,λ x H' y=>?_⟩,λ hi=>hi⟩;obtain ⟨e,y⟩:=y;subst y e;exact λ r=>⟨r,Step.refl,_,UY hi,Dt.int _⟩
def Zcw (ta:DTA):JZ:=λ U M Ψ=>ta U M λ xs M1=>on1 xs λ x=>onI x λ j=>InR j /\ Ψ (Y0 0 j.toNat) M1
def RM (ta:DTA):JZ:=λ U M Ψ=>ta U M λ xs M1=>on2 xs λ x y=>onI x λ i=>onI y λ j=>(InR i /\ InR j) /\ Ψ (Y0 i (j - i).toNat) M1
theorem Kh {a b:Expr} {ta:DTA} {p p2:Pos} (hg0:Gl X "range") (hm:X.mg "range" = none) (ha:DA X [a,b] ta) (hs:autoParam (starEach [a,b] X.env = [(false,eval a X.env),(false,eval b X.env)]) zz3._auto_1) (hs2:autoParam (starEach [b] X.env = [(false,eval b X.env)]) zz3._auto_1) :
  DI X tg (.Call (.Name "range" p) [a,b] [] p2) (RM ta):=by
 obtain ⟨t1,p1,q1⟩:=ha;refine ⟨_,K0 hg0 hm p1 hs hs2,λ Z H U M Ψ R dr er h k=>?_⟩;refine q1 Z H U M _ _ dr er h λ vs H1 xs M1 r1 st rv hx=>?_;replace hx:=Zp hx;obtain ⟨x,y,rfl,hx⟩:=hx;replace hx:=Zw hx;obtain ⟨i,rfl,hx⟩:=hx;replace hx:=Zw hx;obtain ⟨j,rfl,⟨⟨a1,a2⟩,a3,a4⟩,hΨ⟩:=hx;have h1:-(2 ^ 62) <= i /\ i < 2 ^ 62 /\ -(2 ^ 62) <= j /\ j < 2 ^ 62:=⟨a1,a2,a3,a4⟩
 obtain ⟨v,u,rfl,hv,hu⟩:=Paired.two rv;exact ⟨i,j,by rw [ZP.int hv,ZP.int hu],h1,k _ H1 M1 _ r1 st (FP i (j - i).toNat) hΨ⟩
def WV (ow:Bool) (Φ:DK) (acc:List PyData) (M:Mp):Prop:=match ow with | true=>∀ p,M p = none->Φ (.own p) (ZJ M p (.lst acc)) | false=>Φ (.dat (.list acc)) M
def GL (ow:Bool) (src:JZ) (ix:List (Option Nat)) (g:DTG) (tc:DTT) (te:DTE):DTE:=λ U M Φ=>src U M λ ds M1=>ds.length <= sizeLine /\ ∃ J:Nat->List PyData->Mp->Prop,J 0 [] M1 /\
 (∀ i d acc M',ds[i]? = some d->J i acc M'->g (.dat d) (Wh ix U) M' λ Δ2 M2=>tc Δ2 M2 λ b M3=>if b = true then te Δ2 M3 λ y M4=>onD y λ e=>J (i + 1) (acc ++ [e]) M4 else J (i + 1) acc M3) /\
 ∀ acc M',J ds.length acc M'->WV ow Φ acc M'
def DTs (X:Cx) (ifs:List Expr) (τ:DTT):Prop:=∀ (pins:List (Addr × Obj)) (s:Shared) (Z:L2.St) (H:Hp) (U:DSt) (M:Mp) (Φ:Bool->Mp->Prop),L2.Inv X pins Z H s->Zy X.K M H->Qj X.K M H Z U->τ U M Φ ->
 wpAny (model X.prog X.w) X.A (forIn ifs true λ c r=>if r = true then do let ok <- isTrue c X.env (eval c X.env); pure (ForInStep.yield ok) else pure (ForInStep.yield r))
  (λ b s'=>∃ H' M',L2.Inv X pins Z H' s' /\ Zy X.K M' H' /\ Step M H M' H' /\ Φ b M') X.xe s
def Zdo:DTT:=λ _ M Φ=>Φ true M
theorem QC:DTs X [] Zdo:=λ pins s Z H U M Φ I dr er h=>wpAny_tests_nil ⟨H,M,I,dr,Step.refl,h⟩
theorem JE {c:Expr} {τ:DTT} (hc:DT X c τ):DTs X [c] τ:=λ pins s Z H U M Φ I dr er h=>by
 obtain ⟨t,p,q⟩:=hc;refine wpAny_tests_one (thn (p pins s Z H (λ b H'=>∃ M',Zy X.K M' H' /\ Step M H M' H' /\ Φ b M') I (q Z H U M Φ _ dr er h λ b H' M' a c d=>⟨M',a,c,d⟩)) λ b s' h=>?_);obtain ⟨H',I',M',a,c,d⟩:=h;exact ⟨H',M',I',a,c,d⟩
def YlG (K:Fk) (J:It) (ds:List PyData) (G:Mp->Prop) (M:Mp) (H:Hp):Prop:=∀ M2 H2,Step M H M2 H2->Zy K M2 H2->G M2->∀ i,
 (i < ds.length->J.go i H2 /\ ∀ x H',J.yld i H2 x H'->Zy K M2 H2->Zy K M2 H' /\ Step M2 H2 M2 H' /\ ∃ d,ds[i]? = some d /\ Dt K M2 H' x d) /\ (ds.length <= i->J.stop i H2)
abbrev V5:=DSt->Mp->(List PyData->(Mp->Prop)->Mp->Prop)->Prop
def DIG (X:Cx) (tg iter:Expr) (src:V5):Prop:=∃ wi,PI X tg iter wi /\ ∀ Z H U M Ψ (R:It->Hp->Prop),Zy X.K M H->Qj X.K M H Z U->src U M Ψ ->
 (∀ J H' M' ds G,Zy X.K M' H'->Step M H M' H'->YlG X.K J ds G M' H'->Ψ ds G M'->R J H')->wi Z H R
section
set_option maxHeartbeats 2000000
abbrev F6 (ds:List PyData) (G:Mp->Prop) (M1:Mp) (U:DSt) (ix:List (Option Nat)) (g:DTG) (tc:DTT) (te:DTE) (ψ:List PyData->Mp->Prop):Prop:=ds.length <= sizeLine /\ ∃ J:Nat->List PyData->Mp->Prop,(∀ i acc M',J i acc M'->G M') /\ J 0 [] M1 /\
 (∀ i d acc M',ds[i]? = some d->J i acc M'->g (.dat d) (Wh ix U) M' λ Δ2 M2=>tc Δ2 M2 λ b M3=>if b = true then te Δ2 M3 λ y M4=>onD y λ e=>J (i + 1) (acc ++ [e]) M4 else J (i + 1) acc M3) /\ ∀ acc M',J ds.length acc M'->ψ acc M'
theorem Y8 {elt:Expr} {ifs:List Expr} {pos ps:Pos} {src:V5} {g:DTG} {tc:DTT} {te:DTE} {use:Option (Value->Sem Unit)} {QQ:Value->Shared->Prop} {ψ:List PyData->Mp->Prop} (ok:QO X scope N ix) (hi:DIG X tg iter src)
  (hg:∀ C ex s H,DG (Zs X scope C N ex s H) tg g) (ht:∀ C ex s H,DTs (Zs X scope C N ex s H) ifs tc) (he:∀ C ex s H,DE (Zs X scope C N ex s H) elt te) (hc:X.calm = true)
  (hs:∀ x,foldedSetIterable iter X.env x = pure x) {Z:L2.St} {H:Hp} {U:DSt} {M:Mp} {pins:List (Addr × Obj)} {s:Shared} (dr:Zy X.K M H) (er:Qj X.K M H Z U) (h:src U M λ ds G M1=>F6 ds G M1 U ix g tc te ψ) (I:L2.Inv X pins Z H s)
  (hfin:∀ (s4:Shared) (C D:Addr) (H':Hp) (M':Mp) (vs:List V) (acc:List PyData),L2.Inv X pins Z (upd H' D (.lst vs)) s4->H' D = none->Zy X.K M' H'->Step M H M' H'->Dts X.K M' H' vs acc->ψ acc M'->(∃ m,s4.heap.Ns C m)->U6 X pins (upd H' D (.lst vs)) C ->
   compPost (model X.prog X.w) X.A X.xe use QQ (.ref D) C (.ok .next) s4) :
  wpAny (model X.prog X.w) X.A (comprehension (.ListComp elt [⟨tg,iter,ifs,0⟩] scope pos) scope X.env ps (newList []) false (eval iter X.env) use) QQ X.xe s:=by
 obtain ⟨wi,pi,qi⟩:=hi;refine wpAny_comprehension_free (use:=use) (cl:=Bm X.env scope.names []) rfl hs (Jd (MI ok I)) ok.kind ok.names ?_;show wpAny _ _ (eval iter X.env) _ _ s
 refine thn (pi pins s Z H (λ J H'=>∃ M' ds G,Zy X.K M' H' /\ Step M H M' H' /\ YlG X.K J ds G M' H' /\ ds.length <= sizeLine /\ ∃ W:Nat->List PyData->Mp->Prop,(∀ i acc M',W i acc M'->G M') /\ W 0 [] M' /\
   (∀ i d acc M',ds[i]? = some d->W i acc M'->g (.dat d) (Wh ix U) M' λ Δ2 M2=>tc Δ2 M2 λ b M3=>if b = true then te Δ2 M3 λ y M4=>onD y λ e=>W (i + 1) (acc ++ [e]) M4 else W (i + 1) acc M3) /\
   ∀ acc M',W ds.length acc M'->ψ acc M') I (qi Z H U M _ _ dr er h λ J H' M' ds G a b c d=>⟨M',ds,G,a,b,c,d⟩)) λ x s1 h1=>thn h1 λ itv s2 h2=>?_
 obtain ⟨it,fp,tn,J,H2,e,I2,T,st2,f2,M1,ds,G,dr1,stp,yl,hz,W,wg,w0,wt,wd⟩:=h2;subst e;have exo:∀ b ∈ fp,∃ o,s2.heap.get? b = some o:=λ b hb=>let ⟨o,q,_⟩:=T.obj 0 _ st2 b hb; ⟨o,q⟩;refine wpAny_newObj_type (wpAny_newFunctionEnv ok.cellF (by intro y hy; simp at hy) (λ h₁ hns₁ hsb₁=>?_) ok.kind);dsimp only at hns₁ hsb₁ ⊢;generalize hH2:s2.heap.push { cls:=.type "list",dict:=none,data:=.seq ([]:List Value).toArray } = HH at hns₁ hsb₁ ⊢;have hC:HH.objs.size = s2.heap.objs.size + 1:=by rw [<- hH2,Heap.size_push]
 have hDC:s2.heap.objs.size ≠ HH.objs.size:=by rw [hC]; exact Nat.ne_of_lt (Nat.lt_succ_self _)
 have hCle:s2.heap.objs.size <= HH.objs.size:=by rw [hC]; exact Nat.le_succ _
 have below:∀ b,b < s2.heap.objs.size->b ≠ HH.objs.size /\ b ≠ s2.heap.objs.size:=λ b hb=>⟨by rw [hC]; exact Nat.ne_of_lt (Nat.lt_succ_of_lt hb),Nat.ne_of_lt hb⟩;have old:∀ b o,s2.heap.get? b = some o->h₁.get? b = some o:=λ b o e=>hsb₁.extBut b o (below b (Heap.lt_size e)).1 (Heap.get?_push_of_some _ (hH2 ▸ Heap.get?_push_of_some _ e));have hacc:h₁.get? s2.heap.objs.size = some { cls:=.type "list",data:=.seq ([]:List Value).toArray }:=hsb₁.extBut _ _ hDC (Heap.get?_push_of_some _ (hH2 ▸ Heap.get?_push_size _ rfl));generalize hCC:HH.objs.size = C at *;generalize hDD:s2.heap.objs.size = D at hDC hacc below hCle;have hDs:s2.heap.objs.size <= D:=Nat.le_of_eq hDD;have hCs:s2.heap.objs.size <= C:=by rw [hDD]; exact hCle
 have fD:∀ b ∈ fp,b ≠ D /\ b ≠ C:=λ b hb=>by
  obtain ⟨o,q⟩:=exo b hb;exact ⟨(below b (by rw [<- hDD]; exact Heap.lt_size q)).2,(below b (by rw [<- hDD]; exact Heap.lt_size q)).1⟩
 have okY:(Zs X scope C N fp s2 H2).Ok:=YT ok I2 f2 exo hCs;have fsD:∀ b ∈ frs X.stack,b < s2.heap.objs.size:=λ b hb=>by
  obtain ⟨_,o,ho,_⟩:=I2.stack.mem hb;exact Heap.lt_size ho
 have cellD:∀ x c,(Zs X scope C N fp s2 H2).env.cells.lookup x = some c->c < s2.heap.objs.size /\ H2 c = none:=λ x c e=>by
  have e':=(ZQ (MI ok I2) e).1;obtain ⟨v,q⟩:=I2.cell x c e';exact ⟨q.lt,I2.freeC x c e'⟩
 have fpY:∀ {H':Hp} {ps:List (Addr × Obj)},(∀ b ∈ fp,H' b = none)->(∀ p ∈ ps,p.1 = D)->∀ b ∈ fp,U6 (Zs X scope C N fp s2 H2) ps H' b:=λ {H' ps} hn hp b hb=>
  ⟨hn b hb,(fD b hb).2,okY.exfs b hb,.inl hb,(okY.exf b hb).2,λ p hp' z=>by
   have q:p ∈ ps:=hp';rw [hp p q] at z
   exact (fD b hb).1 z.symm⟩
 have onlyD:∀ (o:Obj),∀ p ∈ [(D,o)],p.1 = D:=λ o p hp=>by
  have q:p = (D,o):=by simpa using hp
  rw [q]
 have reloc:∀ {ps:List (Addr × Obj)} {σ':L2.St} {H':Hp} {s':Shared} {o:Obj},L2.Inv (Zs X scope C N fp s2 H2) ps σ' H' s'->s'.heap.get? D = some o->H' D = none->(∀ v,o.data ≠ .cell v) ->
   L2.Inv (Zs X scope C N fp s2 H2) [(D,o)] (Qc ix Z) H' s':=λ {ps σ' H' s' o} J' hD hn hd=>by
  obtain ⟨m,hm,_⟩:=J'.loc;refine ⟨J'.ok,J'.os,J'.bare,J'.base,⟨m,hm,λ i x v a b _=>VO ok I2 f2 J'.base i x v a b⟩,J'.cell,J'.free,J'.freeC,λ p hp=>?_,J'.hok,?_⟩
  ·have q:p = (D,o):=by
    have z:p ∈ ([]:List (Addr × Obj)) ++ [(D,o)]:=hp
    simpa using z
   subst q;exact ⟨hD,hn,hDC,λ z=>absurd (fsD D z) (Nat.not_lt.mpr hDs),hd⟩
  ·show (Qc ix Z).length = N.length;unfold Qc;rw [List.length_map,ok.len]
 have start:L2.Inv (Zs X scope C N fp s2 H2) [(D,{ cls:=.type "list",data:=.seq ([]:List Value).toArray })] (Qc ix Z) H2 { s2 with heap:=h₁,toks:=s2.toks + ([]:List (Str × Value)).length }:=by
  refine ⟨okY,rfl,I2.bare,Un.kept old,⟨_,hns₁,λ i x v a b _=>VO ok I2 f2 (Un.kept old) i x v a b⟩,λ x c e=>?_,I2.hok.fresh hCs,λ x c e=>(cellD x c e).2,λ p hp=>?_,I2.hok.kept old,?_⟩
  ·obtain ⟨v,o,ho,hd⟩:=I2.cell x c (ZQ (MI ok I2) e).1;exact ⟨v,o,old c o ho,hd⟩
  ·have q:p = (D,{ cls:=.type "list",data:=.seq ([]:List Value).toArray }):=by
    have z:p ∈ ([]:List (Addr × Obj)) ++ [(D,{ cls:=.type "list",data:=.seq ([]:List Value).toArray })]:=hp
    simpa using z
   subst q;exact ⟨hacc,I2.hok.fresh hDs,hDC,λ z=>absurd (fsD D z) (Nat.not_lt.mpr hDs),λ v z=>nomatch z⟩
  ·show (Qc ix Z).length = N.length;unfold Qc;rw [List.length_map,ok.len]
 have loop:∀ s₃:Shared,s₃ = { s2 with heap:=h₁,toks:=s2.toks + ([]:List (Str × Value)).length } ->
   codeAny (model X.prog X.w) X.A (.compLoop (.ListComp elt [⟨tg,iter,ifs,0⟩] scope pos) 0 (.ref it) (.ref D) (compEnvC scope (Bm X.env scope.names []) C X.env)) (compPost (model X.prog X.w) X.A X.xe use QQ (.ref D) C) s₃:=by
  rintro s₃ rfl
  refine Vs (λ n s'=>∃ (i:Nat) (acc:List PyData) (vs:List V) (its:List Value) (nn:Nat) (H':Hp) (M':Mp),L2.Inv (Zs X scope C N fp s2 H2) [(D,{ cls:=.type "list",data:=.seq its.toArray nn })] (Qc ix Z) H' s' /\
   tn i s'.heap /\ (∀ b ∈ fp,H' b = none) /\ Zy X.K M' H' /\ Step M1 H2 M' H' /\ Vals vs its /\ Dts X.K M' H' vs acc /\ W i acc M' /\ i <= ds.length /\ acc.length <= i /\ n = ds.length - i) ?_ ds.length
   ⟨0,[],[],[],0,H2,M1,start,T.keep _ _ _ st2 (λ b _ o e=>old b o e),λ b hb=>(f2 b hb).1,dr1,Step.refl,.nil,.nil,w0,Nat.zero_le _,Nat.le_refl _,rfl⟩
  rintro n s' ⟨i,acc,vs,its,nn,H',M',IY,ti,fr,dr',stp',rv,rd,wi',hil,hal,rfl⟩;have pinD:=IY.pin (D,{ cls:=.type "list",data:=.seq its.toArray nn }) (by simp);have fok:=fpY (ps:=[(D,{ cls:=.type "list",data:=.seq its.toArray nn })]) fr (onlyD _);obtain ⟨ygo,ystop⟩:=yl M' H' stp' dr' (wg i acc M' wi') i
  by_cases hlt:i < ds.length
  ·obtain ⟨jgo,jyl⟩:=ygo hlt;refine thn (T.item (Zs X scope C N fp s2 H2) rfl rfl rfl hc i _ s' (Qc ix Z) H' (λ _ _=>False) IY fok ti jgo) λ r s4 ⟨u,hr,h4⟩=>?_;subst hr;refine thn h4 λ _ s5 ⟨x,H5,I5,r5,y5,st5,fr5⟩=>?_;obtain ⟨dr5,stp5,d,hd,hxd⟩:=jyl x H5 y5 dr';replace dr':=dr5;replace stp':=stp'.trans stp5;replace rd:=rd.step stp5;have I5':=I5.pinned (fpY (ps:=[(D,{ cls:=.type "list",data:=.seq its.toArray nn })]) fr5 (onlyD _)) (T.obj _ _ st5);obtain ⟨tg',pg,qg⟩:=hg C fp s2 H2
   refine thn (pg _ s5 (Qc ix Z) H5 x u (λ σ6 H6=>∃ Δ6 M6,Zy X.K M6 H6 /\ Step M' H5 M6 H6 /\ Qj X.K M6 H6 σ6 Δ6 /\ tc Δ6 M6 λ b M3=>if b = true then te Δ6 M3 λ y M4=>onD y λ e=>W (i + 1) (acc ++ [e]) M4 else W (i + 1) acc M3) I5' r5
    (qg x (Qc ix Z) H5 (.dat d) (Wh ix U) M' _ _ dr' ((er.step (stp.trans stp')).cap ix) hxd (wt i d acc M' hd wi') λ σ6 H6 Δ6 M6 a b c d=>⟨Δ6,M6,a,b,c,d⟩)) λ _ s6 ⟨σ6,H6,I6,Δ6,M6,dr6,stp6,er6,q6⟩=>?_
   refine thn (ht C fp s2 H2 _ s6 σ6 H6 Δ6 M6 _ I6 dr6 er6 q6) λ b s7 ⟨H7,M7,I7,dr7,stp7,q7⟩=>?_;have keepD:∀ {σz:L2.St} {Hz:Hp} {sz:Shared},L2.Inv (Zs X scope C N fp s2 H2) ([(D,{ cls:=.type "list",data:=.seq its.toArray nn })] ++ YO fp s5.heap) σz Hz sz ->
     sz.heap.get? D = some { cls:=.type "list",data:=.seq its.toArray nn } /\ Hz D = none /\ tn (i + 1) sz.heap /\ ∀ b ∈ fp,Hz b = none:=λ {σz Hz sz} Iz=>by
    have a:=Iz.pin (D,{ cls:=.type "list",data:=.seq its.toArray nn }) (by simp);refine ⟨a.1,a.2.1,T.keep _ _ _ st5 λ b hb o e=>(Iz.pin (b,o) (List.mem_append_right _ (List.mem_append_right _ (Qv hb e)))).1,λ b hb=>?_⟩;obtain ⟨o,e,_⟩:=T.obj _ _ st5 b hb;exact (Iz.pin (b,o) (List.mem_append_right _ (List.mem_append_right _ (Qv hb e)))).2.1
   cases b with
   | false=>
    have q7':W (i + 1) acc M7:=by simpa using q7
    obtain ⟨a1,a2,a3,a4⟩:=keepD I7;have st17:Step M' H5 M7 H7:=stp6.trans stp7;exact ⟨ds.length - (i + 1),by omega,i + 1,acc,vs,its,nn,H7,M7,reloc I7 a1 a2 (λ v z=>nomatch z),a3,a4,dr7,stp'.trans st17,rv,rd.step st17,q7',hlt,by omega,rfl⟩
   | true=>
    have q7':te Δ6 M7 λ y M4=>onD y λ e=>W (i + 1) (acc ++ [e]) M4:=by simpa using q7
    obtain ⟨te',pe',qe'⟩:=he C fp s2 H2
    refine thn (pe' _ s7 σ6 H7 (λ v H8=>∃ e M8,Zy X.K M8 H8 /\ Step M7 H7 M8 H8 /\ Dt X.K M8 H8 v e /\ W (i + 1) (acc ++ [e]) M8) I7 (qe' σ6 H7 Δ6 M7 _ _ dr7 (er6.step stp7) q7' λ v H8 x8 M8 a b c d=>by
     replace d:=JP d;obtain ⟨e,rfl,w8⟩:=d
     exact ⟨e,M8,a,b,c,w8⟩)) λ y s8 ⟨v,H8,I8,r8,e,M8,dr8,stp8,dv8,w8⟩=>?_
    obtain ⟨a1,a2,a3,a4⟩:=keepD I8;have st18:Step M' H5 M8 H8:=stp6.trans (stp7.trans stp8);have lv:=rv.length;have ld:=rd.length;refine call_meets PySem.F.slot_list_append ⟨_,a1,rfl⟩ PySem.F.entry_list_append (PySem.F.args_list_append_2 _ _) (PySem.list_append D its.toArray nn y (by rw [List.size_toArray]; omega)) ⟨a1,?_⟩;have q:=PySem.IsL.update a1 (·.push y);have I8':L2.Inv (Zs X scope C N fp s2 H2) [] σ6 H8 s8:=I8.J8 λ p hp=>nomatch hp;have I9:=I8'.turned (it:=D) (h':=s8.heap.update D (Obj.mapSeq (·.push y))) (t':=s8.toks) (λ b o hb hu=>(Heap.get?_update_other s8.heap (Obj.mapSeq (·.push y)) (Ne.symm hb)).trans hu) a2 hDC (.inr hDs)
     (λ x c e z=>absurd (z ▸ (cellD x c e).1) (Nat.not_lt.mpr hDs)) (λ p hp=>by have z:p ∈ ([]:List (Addr × Obj)) ++ []:=hp; simp at z)
    have ea:(its.toArray.push y) = (its ++ [y]).toArray:=by simp
    rw [ea] at q
    refine ⟨ds.length - (i + 1),by omega,i + 1,acc ++ [e],vs ++ [v],its ++ [y],_,H8,M8,reloc I9 q a2 (λ v z=>nomatch z),T.keep _ _ _ a3 (λ b hb o e=>(Heap.get?_update_other s8.heap (Obj.mapSeq (·.push y)) (Ne.symm (fD b hb).1)).trans e),a4,dr8,stp'.trans st18,
     rv.append (.cons r8 .nil),(rd.step st18).append (.cons dv8 .nil),w8,hlt,by rw [List.length_append,List.length_singleton]; omega,rfl⟩
  ·have hie:i = ds.length:=by omega
   refine thn (T.done (Zs X scope C N fp s2 H2) rfl rfl rfl hc i _ s' (Qc ix Z) H' (λ _ _=>False) IY fok ti (ystop (by omega))) λ r s4 ⟨hr,I4⟩=>?_;subst hr;obtain ⟨m4,hm4,_⟩:=I4.loc;have pD:=I4.pin (D,{ cls:=.type "list",data:=.seq its.toArray nn }) (by simp);have hCn:H' C = none:=I4.free;have hDn:H' D = none:=pD.2.1;have hok4:HOk X.prog X.w (upd H' D (.lst vs)) s4.heap:=λ b u e=>by
    by_cases hb:b = D
    ·subst hb;rw [ZW] at e;cases e;exact ⟨by have:=rv.length; have:=rd.length; omega,its,nn,rv,pD.1⟩
    ·rw [Zv hb] at e;refine (I4.hok b u e).OT (λ c v hc' q=>q) (λ c q=>?_) λ c xs q=>?_
     ·rw [Zv (Zt q pD.2.1)]; exact q
     ·rw [Zv (Zt q pD.2.1)]; exact q
   have bu:Un (frs X.stack) fp H2 H' s2.heap s4.heap:=I4.base;have un4:Un (frs X.stack) fp H2 (upd H' D (.lst vs)) s2.heap s4.heap:=by
    have nD:∀ b o,s2.heap.get? b = some o->b ≠ D /\ b ≠ C:=λ b o e=>⟨λ z=>absurd (z ▸ Heap.lt_size e) (Nat.not_lt.mpr hDs),λ z=>absurd (z ▸ Heap.lt_size e) (Nat.not_lt.mpr hCs)⟩;refine ⟨λ b o e n hb hx=>bu.keep b o e n hb hx,λ b o e n hb hx=>bu.slot b o e n hb hx,λ b o e n hx=>by rw [Zv (nD b o e).1]; exact bu.free b o e n hx,λ b o e hx=>bu.there b o e hx,λ b xs e=>?_,λ b o xs e=>?_,λ b ps e=>?_⟩
    ·have q:=bu.tups b xs e;rw [Zv (Zt q pD.2.1)]; exact q
    ·have q:=bu.frzs b o xs e;rw [Zv (Zt q pD.2.1)]; exact q
    ·obtain ⟨mo,q⟩:=bu.tbls b ps e;exact ⟨mo,by rw [Zv (Zt q pD.2.1)]; exact q⟩
   have os4:s4.os = s2.os:=I4.os;have IX:L2.Inv X pins Z (upd H' D (.lst vs)) s4:=I2.ON (s':=s4) os4 un4 hok4 I4.bare λ b hb=>⟨(f2 b hb).2.2.2.1,(f2 b hb).2.1,(f2 b hb).2.2.2.2.1,(f2 b hb).2.2.2.2.2⟩;subst hie;exact hfin s4 C D H' M' vs acc IX hDn dr' (stp.trans stp') rd (wd acc M' wi') ⟨m4,hm4⟩ (I2.PX hCs (by rw [Zv (Ne.symm hDC)]; exact hCn))
 have hst₁:tn 0 h₁:=T.keep _ _ _ st2 λ b _ o e=>old b o e;exact codeAny_compStart_list (loop _ rfl) (T.self _ 0 _ _ _ hst₁ (loop _ rfl))
theorem S4 {C:Addr} {m:Str->Option Value} (n:h.Ns C m) (k:∀ o,h.get? C = some o->h'.get? C = some o):h'.Ns C m:=by
 obtain ⟨o,es,ep,ho,r⟩:=n;exact ⟨o,es,ep,k o ho,r⟩
theorem gone {Z:L2.St} {C:Addr} (I:L2.Inv X pins Z H s) (f:U6 X pins H C) (hsb:Heap.SameBut C s.heap h'):L2.Inv X pins Z H { s with heap:=h' }:=
 I.turned (t':=s.toks) (λ b o hb e=>hsb.extBut b o hb e) f.1 f.2.1 f.2.2.2.1 f.2.2.2.2.1 f.2.2.2.2.2
theorem S8 {ow:Bool} {Φ:DK} {Q:VK} {M':Mp} {D:Addr} {acc:List PyData} (dr':Zy X.K M' H') (st:Step M H M' H') (rd:Dts X.K M' H' vs acc) (hDn:H' D = none) (fin:WV ow Φ acc M') (k:Rch X.K M H Φ Q):Q (.ref D) (upd H' D (.lst vs)):=by
 cases ow with
 | true=>
  have fin':∀ p,M' p = none->Φ (.own p) (ZJ M' p (.lst acc)):=by simpa [WV] using fin
  exact k _ _ (.own D) _ (dr'.Y9 (Step.QY hDn) rd) (st.trans (Step.QY hDn)) rfl (fin' D (dr'.tracked hDn))
 | false=>
  have fin':Φ (.dat (.list acc)) M':=by simpa [WV] using fin
  exact k.dat (dr'.new hDn) (st.trans (Step.new hDn)) (Dt.VA dr' hDn rd) fin'
def K9 (ow:Bool) (src:V5) (ix:List (Option Nat)) (g:DTG) (tc:DTT) (te:DTE):DTE:=λ U M Φ=>src U M λ ds G M1=>ds.length <= sizeLine /\ ∃ J:Nat->List PyData->Mp->Prop,(∀ i acc M',J i acc M'->G M') /\ J 0 [] M1 /\
 (∀ i d acc M',ds[i]? = some d->J i acc M'->g (.dat d) (Wh ix U) M' λ Δ2 M2=>tc Δ2 M2 λ b M3=>if b = true then te Δ2 M3 λ y M4=>onD y λ e=>J (i + 1) (acc ++ [e]) M4 else J (i + 1) acc M3) /\ ∀ acc M',J ds.length acc M'->WV ow Φ acc M'
theorem HD:type_of% @K9.eq_1:=λ _ _ _ _ _ _ _ _ _=>qI
theorem Gj (ow:Bool) {elt:Expr} {ifs:List Expr} {pos:Pos} {src:V5} {g:DTG} {tc:DTT} {te:DTE} (ok:QO X scope N ix) (hi:DIG X tg iter src)
  (hg:∀ C ex s H,DG (Zs X scope C N ex s H) tg g) (ht:∀ C ex s H,DTs (Zs X scope C N ex s H) ifs tc) (he:∀ C ex s H,DE (Zs X scope C N ex s H) elt te) (hc:X.calm = true)
  (hs:autoParam (∀ x,foldedSetIterable iter X.env x = pure x) zz2._auto_1):DE X (.ListComp elt [⟨tg,iter,ifs,0⟩] scope pos) (K9 ow src ix g tc te):=by
 refine ⟨λ Z H Q=>∀ pins s,L2.Inv X pins Z H s->wpAny (model X.prog X.w) X.A (eval (.ListComp elt [⟨tg,iter,ifs,0⟩] scope pos) X.env) (EP X pins Z Q) X.xe s,λ pins s Z H Q I h=>h pins s I,λ Z H U M Φ Q dr er h k pins s I=>?_⟩;rw [eval_ListComp];refine Y8 (ψ:=WV ow Φ) ok hi hg ht he hc hs dr er h I λ s4 C D H' M' vs acc IX hDn dr' st rd fin hm f=>?_;obtain ⟨m,hm⟩:=hm;exact ⟨m,hm,λ h' hsb=>⟨.ref D,_,gone IX f hsb,rfl,S8 dr' st rd hDn fin k⟩⟩
theorem Hg (i:Nat) (ow:Bool) {x:Str} {pos' spos:Pos} (hN:X.N.Nodup) {elt:Expr} {ifs:List Expr} {pos:Pos} {src:V5} {g:DTG} {tc:DTT} {te:DTE} (ok:QO X scope N ix) (hi:DIG X tg iter src)
  (hg:∀ C ex s H,DG (Zs X scope C N ex s H) tg g) (ht:∀ C ex s H,DTs (Zs X scope C N ex s H) ifs tc) (he:∀ C ex s H,DE (Zs X scope C N ex s H) elt te) (hc:X.calm = true)
  (hs:autoParam (∀ x,foldedSetIterable iter X.env x = pure x) zz2._auto_1) (hin:autoParam (X.N[i]? = some x) zz3._auto_1) (hx:autoParam (Loc X.env.scope x) zz8._auto_1)
  (hsw:autoParam (swapsWith (.ListComp elt [⟨tg,iter,ifs,0⟩] scope pos) (some (.Name x pos')) spos.line X.env = pure true) zz3._auto_1)
  (hf:autoParam (X.fn x = true \/ X.env.scope.names.lookup x = some .local) zz0._auto_1) :
  DS X (.Assign [.Name x pos'] (.ListComp elt [⟨tg,iter,ifs,0⟩] scope pos) spos) (Rv (K9 ow src ix g tc te) (Yh i)):=by
 refine ⟨λ E Z H=>∀ pins s,L2.Inv X pins Z H s->wpAny (model X.prog X.w) X.A (exec (.Assign [.Name x pos'] (.ListComp elt [⟨tg,iter,ifs,0⟩] scope pos) spos) X.env) (SP X pins E) X.xe s,λ pins s Z H E I h=>h pins s I,λ Z H U M D E dr er h k pins s I=>?_⟩;rw [exec_Assign_Name_used _ _ _ _ hsw];refine wpAny_bind (wpAny_standAt (wpAny_bind ?_));show wpAny _ _ (do let _ <- comprehension (.ListComp elt [⟨tg,iter,ifs,0⟩] scope pos) scope X.env _ (newList []) false (eval iter X.env) (some (assign (.Name x pos') X.env))) _ _ s
 refine wpAny_bind (wpAny_mono (Y8 (QQ:=λ _ s'=>SP X pins E .next s') (use:=some (assign (.Name x pos') X.env)) (ψ:=WV ow λ y M1=>D.nx (U.set i (some y)) M1) ok hi hg ht he hc hs dr er h I λ s4 C DD H' M' vs acc IX hDn dr' st rd fin hm f=>?_)
  (λ _ s' hq=>wpAny_pure (wpAny_pure hq)) λ _ _ e=>e)
 obtain ⟨m,hm⟩:=hm;have hm0:=hm;obtain ⟨oC,es,ep,hoC,hr1,hr2⟩:=hm0;have IP:L2.Inv X (pins ++ [(C,oC)]) Z (upd H' DD (.lst vs)) s4:=IX.J8 λ p hp=>by
  rcases List.mem_append.mp hp with hp | hp
  ·exact IX.pin p (List.mem_append_right _ hp)
  ·rw [List.mem_singleton.mp hp];exact ⟨hoC,f.1,f.2.1,f.2.2.1,λ v z=>nomatch (hr1.symm.trans z)⟩
 have nxt:∀ Q':L2.St->Hp->Prop,(Q' (Z.set i (some (.ref DD))) (upd H' DD (.lst vs)))->wpAny (model X.prog X.w) X.A (assign (.Name x pos') X.env (.ref DD)) (λ _ s'=>∃ σ' H',L2.Inv X (pins ++ [(C,oC)]) σ' H' s' /\ Q' σ' H') X.xe s4:=λ Q' hq=>
  CC (pos:=pos') hN hin hx hf _ s4 Z _ (.ref DD) (.ref DD) Q' IP rfl hq
 have kq:E.nx (Z.set i (some (.ref DD))) (upd H' DD (.lst vs)):=by
  cases ow with
  | true=>
   have fin':∀ p,M' p = none->D.nx (U.set i (some (.own p))) (ZJ M' p (.lst acc)):=by simpa [WV] using fin
   have st2:Step M H (ZJ M' DD (.lst acc)) (upd H' DD (.lst vs)):=st.trans (Step.QY hDn);exact k.nx _ _ _ _ (dr'.Y9 (Step.QY hDn) rd) st2 ((er.step st2).set (v:=.ref DD) (x:=.own DD) rfl) (fin' DD (dr'.tracked hDn))
  | false=>
   have fin':D.nx (U.set i (some (.dat (.list acc)))) M':=by simpa [WV] using fin
   have st2:Step M H M' (upd H' DD (.lst vs)):=st.trans (Step.new hDn);exact k.nx _ _ _ _ (dr'.new hDn) st2 ((er.step st2).set (v:=.ref DD) (x:=.dat (.list acc)) (Dt.VA dr' hDn rd)) fin'
 show wpAny _ _ (assign (.Name x pos') X.env (.ref DD)) _ _ s4;refine thn (nxt (λ σ' H'=>σ' = Z.set i (some (.ref DD)) /\ E.nx σ' H') ⟨rfl,kq⟩) λ _ s5 ⟨σ5,H5,I5,_,q5⟩=>?_;have p5:=I5.pin (C,oC) (by simp);refine ⟨m,S4 hm λ o ho=>?_,λ h' hsb=>⟨σ5,H5,?_,q5⟩⟩
 ·rw [hoC] at ho;cases ho;exact p5.1
 ·have I6:L2.Inv X pins σ5 H5 s5:=I5.J8 λ p hp=>I5.pin p (List.mem_append_right _ (List.mem_append_left _ hp));exact gone I6 ⟨p5.2.1,f.2⟩ hsb
def toG (src:JZ):V5:=λ U M Ψ=>src U M λ ds M1=>Ψ ds (λ _=>True) M1
theorem DI.toG {src:JZ} (h:DI X tg iter src):DIG X tg iter (toG src):=by
 obtain ⟨wi,p,q⟩:=h;exact ⟨wi,p,λ Z H U M Ψ R dr er hs k=>q Z H U M _ R dr er hs λ J H' M' ds a b c d=>k J H' M' ds _ a b (λ M2 H2 st _ _=>c M2 H2 st) d⟩
theorem De (ow:Bool) (src:JZ) (ix:List (Option Nat)) (g:DTG) (tc:DTT) (te:DTE):GL ow src ix g tc te = K9 ow (toG src) ix g tc te:=by
 funext U M Φ
 unfold GL K9 toG;simp only [implies_true,true_and]
theorem Z6 (ow:Bool) {elt:Expr} {ifs:List Expr} {pos:Pos} {src:JZ} {g:DTG} {tc:DTT} {te:DTE} (ok:QO X scope N ix) (hi:DI X tg iter src)
  (hg:∀ C ex s H,DG (Zs X scope C N ex s H) tg g) (ht:∀ C ex s H,DTs (Zs X scope C N ex s H) ifs tc) (he:∀ C ex s H,DE (Zs X scope C N ex s H) elt te) (hc:X.calm = true)
  (hs:autoParam (∀ x,foldedSetIterable iter X.env x = pure x) zz2._auto_1):DE X (.ListComp elt [⟨tg,iter,ifs,0⟩] scope pos) (GL ow src ix g tc te):=by
 rw [De];exact Gj ow ok hi.toG hg ht he hc hs
theorem Px (i:Nat) (ow:Bool) {x:Str} {pos' spos:Pos} (hN:X.N.Nodup) {elt:Expr} {ifs:List Expr} {pos:Pos} {src:JZ} {g:DTG} {tc:DTT} {te:DTE} (ok:QO X scope N ix) (hi:DI X tg iter src)
  (hg:∀ C ex s H,DG (Zs X scope C N ex s H) tg g) (ht:∀ C ex s H,DTs (Zs X scope C N ex s H) ifs tc) (he:∀ C ex s H,DE (Zs X scope C N ex s H) elt te) (hc:X.calm = true)
  (hs:autoParam (∀ x,foldedSetIterable iter X.env x = pure x) zz2._auto_1) (hin:autoParam (X.N[i]? = some x) zz3._auto_1) (hx:autoParam (Loc X.env.scope x) zz8._auto_1)
  (hsw:autoParam (swapsWith (.ListComp elt [⟨tg,iter,ifs,0⟩] scope pos) (some (.Name x pos')) spos.line X.env = pure true) zz3._auto_1)
  (hf:autoParam (X.fn x = true \/ X.env.scope.names.lookup x = some .local) zz0._auto_1) :
  DS X (.Assign [.Name x pos'] (.ListComp elt [⟨tg,iter,ifs,0⟩] scope pos) spos) (Rv (GL ow src ix g tc te) (Yh i)):=by
 rw [De];exact Hg i ow hN ok hi.toG hg ht he hc hs hin hx hsw hf
end
def QX (xs:List DV) (M:Mp) (ns:List Int):Prop:=xs = [.dat (.list (ns.map PyData.int))] \/ ∃ l,xs = [.own l] /\ M l = some (.lst (ns.map PyData.int))
theorem QX.sq {xs:List DV} (h:QX xs M ns) (r:Zy X.K M H) (rv:JA X.K M H vs xs):∃ p,vs = [.ref p] /\ SqL X.K H p (ns.map V.int):=by
 rcases h with rfl | ⟨l,rfl,hm⟩
 ·obtain ⟨v,rfl,h1⟩:=Paired.one rv;obtain ⟨p,ys,rfl,g1,g2⟩:=ZP.lst h1;rw [Vg g2] at g1;exact ⟨p,rfl,g1.sq⟩
 ·obtain ⟨v,rfl,h1⟩:=Paired.one rv;cases (show v = .ref l from h1);obtain ⟨ws,g1,g2⟩:=r.ls l _ hm;rw [Vg g2] at g1;exact ⟨l,rfl,SqL.of g1⟩
def OM:D1:=λ xs M Φ=>∃ ns:List Int,QX xs M ns /\ ns.length < 64 /\ ∀ ns':List Int,ns'.Perm ns->ns'.Pairwise (· <= ·)->Φ (.dat (.list (ns'.map PyData.int))) M
theorem Bw (hc:X.calm = true):Q6 X (.builtin "min") (λ xs H Q=>∃ (p:Addr) (ns:List Int),xs = [.ref p] /\ SqL X.K H p (ns.map V.int) /\ 0 < ns.length /\ ∀ m ∈ ns,(∀ a ∈ ns,m <= a)->Q (.int m) H):=by
 intro pins s Z H xs us Q I r h;obtain ⟨p,ns,rfl,hq,h0,q⟩:=h;obtain ⟨u,rfl,rx⟩:=vals1 r;cases rx;obtain ⟨its,rv,pl,hz⟩:=I.list hq;have hi:IntsAre its ns:=intsAre_of rv;obtain ⟨xs,e⟩:=hi.allInts.items;have hns:ns = xs.toList.map (·.1):=by rw [<- hi.numsOf,<- nums_intItems,<- e]
 have hsz:0 < xs.size:=by
  have h3:=h0; rw [hns,List.length_map,Array.length_toList] at h3; exact h3
 have hl:=pl.isList;rw [e] at hl;refine min_intList (I.ok.hd hc) hl hsz λ v h' tk hv hk=>?_;obtain ⟨t,rfl⟩:=intItems_at hv;obtain ⟨h1,h2⟩:=argBest_lt (numAt xs) (xs.size - 1);refine ⟨.int _,H,I.kept hk,⟨t,rfl⟩,q _ ?_ λ a ha=>?_⟩
 ·rw [hns,numAt_eq]; exact getD_mem (by rw [List.length_map,Array.length_toList]; lia)
 ·rw [hns] at ha;obtain ⟨j,hj,rfl⟩:=mem_getD ha;rw [List.length_map,Array.length_toList] at hj;rw [<- numAt_eq]; exact h2 j (by lia)
theorem Ef (hc:X.calm = true):Q6 X (.builtin "max") (λ xs H Q=>∃ (p:Addr) (ns:List Int),xs = [.ref p] /\ SqL X.K H p (ns.map V.int) /\ 0 < ns.length /\ ∀ m ∈ ns,(∀ a ∈ ns,a <= m)->Q (.int m) H):=by
 intro pins s Z H xs us Q I r h;obtain ⟨p,ns,rfl,hq,h0,q⟩:=h;obtain ⟨u,rfl,rx⟩:=vals1 r;cases rx;obtain ⟨its,rv,pl,hz⟩:=I.list hq;have hi:IntsAre its ns:=intsAre_of rv;obtain ⟨xs,e⟩:=hi.allInts.items;have hns:ns = xs.toList.map (·.1):=by rw [<- hi.numsOf,<- nums_intItems,<- e]
 have hsz:0 < xs.size:=by
  have h3:=h0; rw [hns,List.length_map,Array.length_toList] at h3; exact h3
 have hl:=pl.isList;rw [e] at hl;refine max_intList (I.ok.hd hc) hl hsz λ v h' tk hv hk=>?_;obtain ⟨t,rfl⟩:=intItems_at hv;obtain ⟨h1,h2⟩:=argBest_gt (numAt xs) (xs.size - 1);refine ⟨.int _,H,I.kept hk,⟨t,rfl⟩,q _ ?_ λ a ha=>?_⟩
 ·rw [hns,numAt_eq]; exact getD_mem (by rw [List.length_map,Array.length_toList]; omega)
 ·rw [hns] at ha;obtain ⟨j,hj,rfl⟩:=mem_getD ha;rw [List.length_map,Array.length_toList] at hj;rw [<- numAt_eq]; exact h2 j (by omega)
def Mv:D1:=λ xs M Φ=>∃ ns:List Int,QX xs M ns /\ 0 < ns.length /\ ∀ m ∈ ns,(∀ a ∈ ns,m <= a)->Φ (.dat (.int m)) M
def MY:D1:=λ xs M Φ=>∃ ns:List Int,QX xs M ns /\ 0 < ns.length /\ ∀ m ∈ ns,(∀ a ∈ ns,a <= m)->Φ (.dat (.int m)) M
theorem Xa (hc:X.calm = true):Jr X (.builtin "min") Mv:=by
 refine ⟨_,Bw hc,λ vs H xs M Φ Q r rv h k=>?_⟩;obtain ⟨ns,hx,h0,q⟩:=h;obtain ⟨p,rfl,hs⟩:=hx.sq r rv;exact ⟨p,ns,rfl,hs,h0,λ m a b=>k.dat r Step.refl (Dt.int m) (q m a b)⟩
theorem Dh (hc:X.calm = true):Jr X (.builtin "max") MY:=by
 refine ⟨_,Ef hc,λ vs H xs M Φ Q r rv h k=>?_⟩;obtain ⟨ns,hx,h0,q⟩:=h;obtain ⟨p,rfl,hs⟩:=hx.sq r rv;exact ⟨p,ns,rfl,hs,h0,λ m a b=>k.dat r Step.refl (Dt.int m) (q m a b)⟩
theorem Paired.three {α β:Type} {F:α->β->Prop} {l:List α} {b c d:β} (h:Paired F l [b,c,d]):∃ a a' a'',l = [a,a',a''] /\ F a b /\ F a' c /\ F a'' d:=by
 cases h with
 | cons h1 h2=>
  obtain ⟨a,a',rfl,h3,h4⟩:=Paired.two h2;exact ⟨_,a,a',rfl,h1,h3,h4⟩
def δ3I (g:Int->Int->Int->Int):D1:=λ xs M Φ=>on3 xs λ x y z=>onI x λ i=>onI y λ j=>onI z λ l=>Φ (.dat (.int (g i j l))) M
theorem CA (hc:X.calm = true):Q6 X (.builtin "max") (λ xs H Q=>∃ i j l,xs = [.int i,.int j,.int l] /\ Q (.int (max i (max j l))) H):=by
 intro pins s Z H xs us Q I r h;obtain ⟨i,j,l,rfl,q⟩:=h;obtain ⟨u,hu⟩:∃ u,us = u:=⟨us,rfl⟩
 cases r with
 | cons r1 r2=>
  obtain ⟨u2,u3,rfl,r3,r4⟩:=vals2 r2;obtain ⟨t1,rfl⟩:=r1;obtain ⟨t2,rfl⟩:=r3;obtain ⟨t3,rfl⟩:=r4;refine max_three_ints (I.ok.hd hc) λ h' tk k=>⟨.int (max i (max j l)),H,I.kept k,?_,q⟩
  by_cases c1:j > i
  ·rw [if_pos c1]
   by_cases c2:l > j
   ·rw [if_pos c2]; exact ⟨t3,by rw [show max i (max j l) = l by lia]⟩
   ·rw [if_neg c2]; exact ⟨t2,by rw [show max i (max j l) = j by lia]⟩
  ·rw [if_neg c1]
   by_cases c2:l > i
   ·rw [if_pos c2]; exact ⟨t3,by rw [show max i (max j l) = l by lia]⟩
   ·rw [if_neg c2]; exact ⟨t1,by rw [show max i (max j l) = i by lia]⟩
theorem O8 (hc:X.calm = true):Jr X (.builtin "max") (δ3I λ i j l=>max i (max j l)):=by
 refine ⟨_,CA hc,λ vs H xs M Φ Q r rv h k=>?_⟩;replace h:=QR h;obtain ⟨x,y,z,rfl,h⟩:=h;replace h:=Zw h;obtain ⟨i,rfl,h⟩:=h;replace h:=Zw h;obtain ⟨j,rfl,h⟩:=h;replace h:=Zw h;obtain ⟨l,rfl,q⟩:=h;obtain ⟨v,u,w',rfl,h1,h2,h3⟩:=Paired.three rv;exact ⟨i,j,l,by rw [ZP.int h1,ZP.int h2,ZP.int h3],k.dat r Step.refl (Dt.int _) q⟩
def Cy:D1:=λ xs M Φ=>on1 xs λ x=>onQ x M λ ds=>Φ (.dat (.tuple ds)) M
theorem Jq:Jr X (.type "tuple") Cy:=by
 refine ⟨_,XB,λ vs H xs M Φ Q r rv h k=>?_⟩;replace h:=Qm h;obtain ⟨x,rfl,h⟩:=h;replace h:=Wf h;obtain ⟨ds,hx,q⟩:=h;have hx':x = .dat (.list ds) \/ x = .dat (.tuple ds) \/ ∃ l,x = .own l /\ M l = some (.lst ds):=by
  rcases hx with a | a | a
  ·exact .inr (.inl a)
  ·exact .inl a
  ·exact .inr (.inr a)
 rcases hx' with rfl | rfl | ⟨l,rfl,hm⟩
 ·obtain ⟨v,rfl,h1⟩:=Paired.one rv;obtain ⟨p,ys,rfl,g1,g2⟩:=ZP.lst h1;exact ⟨p,ys,rfl,.inl ⟨g1.sq,λ l hl=>k.dat (r.new hl) (Step.new hl) (Dt.UD r hl g2) q⟩⟩
 ·obtain ⟨v,rfl,h1⟩:=Paired.one rv;obtain ⟨p,ys,rfl,g1,g2⟩:=ZP.tup h1;exact ⟨p,ys,rfl,.inr ⟨g1.sq,k.dat r Step.refl (Dt.tup g1 g2) q⟩⟩
 ·obtain ⟨v,rfl,h1⟩:=Paired.one rv;cases (show v = .ref l from h1);obtain ⟨ws,g1,g2⟩:=r.ls l _ hm;exact ⟨l,ws,rfl,.inl ⟨SqL.of g1,λ l hl=>k.dat (r.new hl) (Step.new hl) (Dt.UD r hl g2) q⟩⟩
def onW (x:DV) (P:List PyData->Prop):Prop:=match x with | .dat (.tuple ds)=>P ds | .dat (.list ds)=>P ds | _=>False
noncomputable def okIn (d:PyData) (ds:List PyData):Bool:=d.canLay0 && PyData.canLayAll0 ds && Nat.ble d.depth 64
def δIn:D2:=λ x y M Φ=>onD x λ d=>onW y λ ds=>okIn d ds = true /\ Φ (.dat (.bool (ds.any λ e=>PyData.eqv e d))) M
def Ed (to te:DTE):DTE:=λ U M Φ=>to U M λ x M1=>onO x λ l=>VF (M1 l) λ _=>te U M1 λ y M2=>onO y λ b=>VF (M2 l) λ ds=>VF (M2 b) λ es=>b ≠ l /\ ds.length + es.length <= sizeLine /\ Φ (.dat .none) (VV (ZJ M2 l (.lst (ds ++ es))) b)
theorem Yv {o:Expr} {to:DTE} {apos cpos:Pos} (ho:DE X o to) (he:DE X e te) (hbase:autoParam (attributeBase o "extend" X.env (eval o X.env) = eval o X.env) zz3._auto_1)
  (hfew:((backTo cpos (starEach [e] X.env)).all (λ x=>!x.1) && (backToKw cpos (keywordEach [] X.env)).all (λ x=>x.1.isSome)
   && decide ([e].length + ([]:List Keyword).length + (if ([]:List Keyword).isEmpty then 0 else 1) < 30)) = true:=by rfl)
  (hline:autoParam ((apos.endLine == cpos.line) = true) zz3._auto_1) (hs:autoParam (starEach [e] X.env = (false,eval e X.env) :: starEach [] X.env) zz3._auto_1) (hplain:autoParam ((backTo cpos (starEach [] X.env)).any (·.1) = false) zz3._auto_1) :
  DE X (.Call (.Attribute o "extend" apos) [e] [] cpos) (Ed to te):=by
 obtain ⟨t1,p1,q1⟩:=ho;obtain ⟨t2,p2,q2⟩:=he;refine ⟨_,O1 PySem.F.plainAttrs_list PySem.F.slot_list_extend PySem.F.type_list_extend K5 p1 (Xd p2 UN hs) hbase hfew hline hs hplain,λ Z H U M Φ Q r e h k=>?_⟩;refine q1 Z H U M _ _ r e h λ v H1 x M1 r1 st rv hx=>?_;replace hx:=Qq hx;obtain ⟨l,rfl,hx⟩:=hx;replace hx:=QM hx;obtain ⟨oo,ho,hx⟩:=hx;cases (show v = .ref l from rv);have ty:tyV X.K "list" (.ref l) H1:=by
  obtain ⟨vs,g1,_⟩:=r1.ls l oo ho;exact .inl ⟨rfl,vs,SqL.of g1⟩
 refine ⟨ty,q2 Z H1 U M1 _ _ r1 (e.step st) hx λ w H2 y M2 r2 st2 rw2 hy=>?_⟩;replace hy:=Qq hy;obtain ⟨b,rfl,hy⟩:=hy;replace hy:=QM hy;obtain ⟨ds,hm,hy⟩:=hy;replace hy:=QM hy;obtain ⟨es,hb,hne,hz,hy⟩:=hy;cases (show w = .ref b from rw2);obtain ⟨vs,g1,g2⟩:=r2.ls l ds hm;obtain ⟨ws,g3,g4⟩:=r2.ls b es hb;have st3:Step M2 H2 (ZJ M2 l (.lst (ds ++ es))) (upd H2 l (.lst (vs ++ ws))):=Step.Y7 hm;refine ⟨l,b,vs,ws,rfl,rfl,g1,g3,by rw [g2.length,g4.length]; exact hz,?_⟩;exact k.dat (r2.Y9 st3 (g2.append g4)).frz (st.trans (st2.trans (st3.trans Step.frz))) Dt.non hy
theorem VL {a b:Expr} {body:List Stmt} {g:DTG} {tb:DTS} {pos:Pos} {ta:DTA} {p p2:Pos} (hg0:Gl X "range") (hm:X.mg "range" = none) (ha:DA X [a,b] ta) (hg:DG X tg g) (hb:DSs X body tb) (hp:PassesOwn (model X.prog X.w) X.A X.env X.xe) (hc:X.calm = true)
  (hs:autoParam (starEach [a,b] X.env = [(false,eval a X.env),(false,eval b X.env)]) zz3._auto_1) (hs':autoParam (starEach [b] X.env = [(false,eval b X.env)]) zz3._auto_1) (hs2:autoParam (∀ x,foldedSetIterable (.Call (.Name "range" p) [a,b] [] p2) X.env x = pure x) zz2._auto_1) :
  DS X (.For tg (.Call (.Name "range" p) [a,b] [] p2) body [] pos) (LX ta g tb):=by
 obtain ⟨t1,p1,q1⟩:=ha;obtain ⟨t2,p2,q2⟩:=hg;obtain ⟨t3,p3,q3⟩:=hb;refine ⟨_,Y6 hp hc (K0 hg0 hm p1 hs hs') p2 p3 hs2,λ Z H U M D E r e h k=>?_⟩;refine q1 Z H U M _ _ r e h λ vs H1 xs M1 r1 st rv hx=>?_;replace hx:=Zp hx;obtain ⟨xx,yy,rfl,hx⟩:=hx;replace hx:=Zw hx;obtain ⟨i,rfl,hx⟩:=hx;replace hx:=Zw hx;obtain ⟨j,rfl,⟨⟨a1,a2⟩,a3,a4⟩,hx⟩:=hx;have h1:-(2 ^ 62) <= i /\ i < 2 ^ 62 /\ -(2 ^ 62) <= j /\ j < 2 ^ 62:=⟨a1,a2,a3,a4⟩
 obtain ⟨v,u,rfl,hv,hu⟩:=Paired.two rv;exact ⟨i,j,by rw [ZP.int hv,ZP.int hu],h1,Ms q2 q3 r1 (e.step st) hx (k.step st)⟩
def ZdM (te:DTE) (tl th:DTO):DTE:=λ U M Φ=>te U M λ x M1=>tl U M1 λ l M2=>th U M2 λ u M3=>onL x λ ds=>Φ (.dat (.list (cutD ds l u))) M3
noncomputable def HG (scope sc:Scope):List (Str × NameKind):=scope.names.map λ (n,k)=>if (k == .free && sc.kind == .function && sc.names.lookup n == some .cell) then (n,.cell) else (n,k)
noncomputable def RX (sc:Scope) (XN:List Str) (scope:Scope) (N:List Str) (ix:List (Option Nat)) (j:Nat):Bool:=
 match N[j]?,ix[j]? with
 | some x,some (some i)=>decide (XN[i]? = some x) && (decide ((x,NameKind.free) ∈ scope.names) && decide ((HG scope sc).lookup x = some .cell))
 | _,_=>true
theorem Zx {sc:Scope} {XN:List Str} {scope:Scope} {N:List Str} {ix:List (Option Nat)} (hsc:X.env.scope = sc) (hN:X.N = XN)
  (h:scope.kind = .function /\ (∀ y ∈ scope.names,y.2 ≠ .cell) /\ (∀ y ∈ scope.names,y.2 = .local->scope.names.lookup y.1 = some .local) /\ (∀ y ∈ scope.names,y.2 = .free->sc.names.lookup y.1 = some .cell) /\ N.length = ix.length /\
   ∀ j ∈ List.range N.length,RX sc XN scope N ix j = true):QO X scope N ix:=by
 obtain ⟨h1,h2,h3,h4,h5,h6⟩:=h;subst hsc hN;refine ⟨h1,h2,h3,h4,h5,λ j x i hx hi=>?_⟩;have hj:j < N.length:=(List.getElem?_eq_some_iff.mp hx).1;have q:=h6 j (List.mem_range.mpr hj);unfold RX at q;rw [hx,hi] at q;simp only [Bool.and_eq_true,decide_eq_true_eq] at q;exact ⟨q.1,q.2.1,q.2.2⟩
theorem W6 {b:Addr} {o o2 o3:OO} (h:ZJ M p o b = none):VV (ZJ (ZJ (ZJ M p o) b o2) p o3) b = ZJ M p o3:=by
 have hne:b ≠ p:=λ e=>by rw [e,ZD] at h; cases h
 rw [ZC hne] at h
 funext c
 unfold VV ZJ
 by_cases h1:c = b
 ·rw [if_pos h1,if_neg (by rw [h1]; exact hne),h1,h]
 ·rw [if_neg h1]
  by_cases h2:c = p
  ·rw [if_pos h2,if_pos h2]
  ·rw [if_neg h2,if_neg h1,if_neg h2,if_neg h2]
theorem fresh_ne {b:Addr} {o:OO} (h:ZJ M p o b = none):b ≠ p:=λ e=>by rw [e,ZD] at h; cases h
theorem take_snoc {α β:Type} {l:List α} {i:Nat} {a:α} (f:α->β) (h:l[i]? = some a):(l.take i).map f ++ [f a] = (l.take (i + 1)).map f:=by
 rw [List.take_add_one,h,List.map_append];rfl
theorem Br {α β:Type} {l:List α} {i:Nat} {a:α} (f:α->List β) (h:l[i]? = some a):(l.take i).flatMap f ++ f a = (l.take (i + 1)).flatMap f:=by
 rw [List.take_add_one,h,List.flatMap_append];simp
theorem ZU {α β:Type} {l:List α} {f:α->β} {i:Nat} {b:β} (h:(l.map f)[i]? = some b):∃ a,l[i]? = some a /\ f a = b:=by
 rw [List.getElem?_map] at h;cases q:l[i]? with
 | none=>rw [q] at h; cases h
 | some a=>rw [q] at h; exact ⟨a,rfl,by simpa using h⟩
theorem Um {lo:Int} (h:(Y0 lo n)[i]? = some d):i < n /\ d = .int (lo + (i:Int)):=by
 have hi:i < n:=by
  have:=(List.getElem?_eq_some_iff.mp h).1
  rwa [JM] at this
 rw [UY hi] at h;cases h;exact ⟨hi,rfl⟩
theorem VI {α β:Type} (f:α->List β) (n:Nat):∀ l:List α,(∀ a ∈ l,(f a).length <= n)->(l.flatMap f).length <= l.length * n
 | [],_=>by simp
 | a :: l,h=>by
  have h1:=h a List.mem_cons_self;have h2:=VI f n l λ b hb=>h b (List.mem_cons_of_mem _ hb);rw [List.flatMap_cons,List.length_append,List.length_cons,Nat.succ_mul];lia
def gc (Φ:DK):DK:=λ x M=>∃ ps:List Addr,Φ x (ps.foldl VV M)
theorem RZ {Φ:DK} {Q:VK} (k:Rch K M H Φ Q) {x:DV}:∀ (ps:List Addr) (M':Mp),Zy K M' H'->Step M H M' H'->ZP K M' H' v x->Φ x (ps.foldl VV M')->Q v H'
 | [],M',r,st,rv,f=>k v H' x M' r st rv f
 | p :: ps,M',r,st,rv,f=>RZ k ps (VV M' p) r.frz (st.trans Step.frz) (rv.step Step.frz) f
theorem LV {Φ:DK} {Q:VK} (k:Rch K M H Φ Q):Rch K M H (gc Φ) Q:=λ _ _ _ M' r st rv ⟨ps,f⟩=>RZ k ps M' r st rv f
theorem okG {P:Program} {w:World} {mg:Str->Option Value} {base:Heap} {k:Nat} {S:DSp} (F:Fun K x qual st f fd) (Sc:Zn N ps (Zf st)) (len:∀ xs M Φ,S xs M Φ->xs.length = ps.length)
  (hbody:∀ (cdv:Value) (A:Around) (outer:List Env) (s:Shared) (H:Hp) (E:XK),Vc k (A.deeper (envOfC qual (Zf st) s.heap.objs.size f cdv)) ->
   ∃ τ,DSs (Nb CX0 P w K mg base N qual (Zf st) f cdv A outer s H E).nox (QN st) τ /\ ∀ xs M Φ,S xs M Φ->τ { nx:=λ _ M'=>gc Φ (.dat .none) M',rt:=gc Φ } (Vz N xs) M):Qh P w K mg base CX0 (k + 1) f fd ps (lift K S):=by
 refine F.ok Sc (λ vs H Q E h=>?_) λ cdv A outer s H vs Q E hr h=>?_
 ·obtain ⟨xs,M,Φ,_,rv,hs,_⟩:=h;rw [Paired.length rv];exact len xs M Φ hs
 ·obtain ⟨xs,M,Φ,r,rv,hs,kk⟩:=h;obtain ⟨τ,⟨t,p,q⟩,hτ⟩:=hbody cdv A outer s H E hr;refine ⟨t,p,q (start N vs) H (Vz N xs) M _ _ r (Qj.start rv) (hτ xs M Φ hs) ⟨λ σ' H' Δ' M' r' st' e' hn=>?_,LV kk,λ _ _ _ _ _ _ _ h=>h.elim,λ _ _ _ _ _ _ _ h=>h.elim⟩⟩;exact (LV kk).dat r' st' Dt.non hn
theorem Zcq {Φ:DK} {x:DV} (h:Φ x M):gc Φ x M:=⟨[],h⟩
theorem UE {k:Nat} (h:n < 2 ^ k) (hk:0 < k):n.log2 < k:=by
 by_cases h0:n = 0
 ·subst h0; simpa using hk
 ·exact (Nat.log2_lt h0).mpr h
def Mid (i:Int):Prop:=-(10 ^ 70) <= i /\ i <= 10 ^ 70
theorem Mid.show {i:Int} (h:Mid i):(PyData.int i).showable = true:=by
 have h1:i.natAbs.log2 < 240:=UE (by unfold Mid at h; omega) (by decide);simp only [PyData.showable,decide_eq_true_eq];omega
theorem Du (hc:X.calm = true):Q6 X (.builtin "sum") (λ xs H Q=>∃ (p:Addr) (ns:List Int),xs = [.ref p] /\ SqL X.K H p (ns.map V.int) /\ Q (.int ns.sum) H):=by
 intro pins s Z H xs us Q I r h;obtain ⟨p,ns,rfl,hq,q⟩:=h;obtain ⟨u,rfl,rx⟩:=vals1 r;cases rx;obtain ⟨its,rv,pl,hz⟩:=I.list hq;have hi:IntsAre its ns:=intsAre_of rv;obtain ⟨xs,e⟩:=hi.allInts.items;have hns:ns = xs.toList.map (·.1):=by rw [<- hi.numsOf,<- nums_intItems,<- e]
 have hl:=pl.isList;rw [e] at hl;refine sum_intListG (I.ok.hd hc) hl λ h' tk t' hk=>?_;have e2:preSum (numAt xs) xs.size = ns.sum:=by
  rw [preSum_eq,List.take_of_length_le (by simp),hns]
 rw [e2];exact ⟨.int _,H,I.kept hk,⟨_,rfl⟩,q⟩
def L5:D1:=λ xs M Φ=>∃ ns:List Int,QX xs M ns /\ Φ (.dat (.int ns.sum)) M
theorem ZaS (hc:X.calm = true):Jr X (.builtin "sum") L5:=by
 refine ⟨_,Du hc,λ vs H xs M Φ Q r rv h k=>?_⟩;obtain ⟨ns,hx,q⟩:=h;obtain ⟨p,rfl,hs⟩:=hx.sq r rv;exact ⟨p,ns,rfl,hs,k.dat r Step.refl (Dt.int _) q⟩
theorem Ke:∀ {bs:List Bool} {us:List Value},Vals (bs.map V.bl) us->∀ (i:Nat) (v:Value),us[i]? = some v->∃ b,bs[i]? = some b /\ v = .bool b
 | [],_,r,i,v,e=>by rw [List.map_nil] at r; cases r; simp at e
 | b :: bs,_,r,i,v,e=>by
  rw [List.map_cons] at r;cases r with
  | cons r1 r2=>
   cases i with
   | zero=>
    simp at e;subst e;exact ⟨b,rfl,r1⟩
   | succ i=>simpa using Ke r2 i v (by simpa using e)
theorem G3 (bs:List Bool):((List.range bs.length).any λ i=>(bs[i]?).getD false) = bs.any id:=by
 rw [Bool.eq_iff_iff,List.any_eq_true,List.any_eq_true];constructor
 ·rintro ⟨i,hi,e⟩;have hi':=List.mem_range.mp hi;rw [List.getElem?_eq_getElem hi',Option.getD_some] at e;exact ⟨_,List.getElem_mem hi',e⟩
 ·rintro ⟨b,hb,e⟩;obtain ⟨i,hi,rfl⟩:=List.getElem_of_mem hb;exact ⟨i,List.mem_range.mpr hi,by rw [List.getElem?_eq_getElem hi,Option.getD_some]; exact e⟩
theorem Eb (hk:∀ b x,b ∉ [s.heap.objs.size]->(s.heap.push o).get? b = some x->h'.get? b = some x):∀ b x,s.heap.get? b = some x->h'.get? b = some x:=
 λ b x e=>hk b x (λ hm=>absurd (Heap.lt_size e) (by rw [List.mem_singleton.mp hm]; exact Nat.lt_irrefl _)) (Heap.get?_push_of_some _ e)
theorem Cw (hc:X.calm = true):Q6 X (.builtin "any") (λ xs H Q=>∃ (p:Addr) (bs:List Bool),xs = [.ref p] /\ SqL X.K H p (bs.map V.bl) /\ Q (.bl (bs.any id)) H):=by
 intro pins s Z H xs us Q I r h;obtain ⟨p,bs,rfl,hq,q⟩:=h;obtain ⟨u,rfl,rx⟩:=vals1 r;cases rx;obtain ⟨its,rv,pl,hz⟩:=I.list hq;have hl:=pl.isList;have hlt:p < s.heap.objs.size:=by obtain ⟨_,e,_⟩:=hl; exact Heap.lt_size e
 refine call_any_walk (wpAny_pyIter_list hl ?_)
 refine ⟨s.heap.objs.size,[s.heap.objs.size,p],[s.heap.objs.size],its.toArray.size,_,_,λ i=>(bs[i]?).getD false,rfl,Walks.list (A:=X.A.in1) (I.ok.hd hc) _ p (Nat.ne_of_lt hlt) its.toArray,
  ⟨⟨_,Heap.get?_push_size _ rfl,rfl,rfl⟩,hl.push _⟩,λ i v s' Q' E' hP hQ=>?_,λ h' tk hk=>?_⟩
 ·obtain ⟨b,e,rfl⟩:=Ke rv i v (by simpa using hP);simp only [e,Option.getD_some] at hQ;exact wpAny_truthy_bool hQ
 ·have e:((List.range its.toArray.size).any λ i=>(bs[i]?).getD false) = bs.any id:=by
   have hln:=rv.length;rw [List.length_map] at hln;rw [List.size_toArray,<- hln]; exact G3 bs
  rw [e];exact ⟨.bl _,H,I.kept (Eb hk),rfl,q⟩
theorem V9:∀ {vs:List V} {bs:List Bool},Dts K M H vs (bs.map PyData.bool)->vs = bs.map V.bl
 | vs,[],h=>by
  rw [List.map_nil] at h;cases h;rfl
 | vs,n :: ns,h=>by
  rw [List.map_cons] at h;cases h with
  | cons h1 h2=>
   cases h1;rw [V9 h2,List.map_cons]
def SV:D1:=λ xs M Φ=>∃ bs:List Bool,xs = [.dat (.list (bs.map PyData.bool))] /\ Φ (.dat (.bool (bs.all id))) M
def MK:D1:=λ xs M Φ=>∃ bs:List Bool,xs = [.dat (.list (bs.map PyData.bool))] /\ Φ (.dat (.bool (bs.any id))) M
theorem TH (hc:X.calm = true):Jr X (.builtin "any") MK:=by
 refine ⟨_,Cw hc,λ vs H xs M Φ Q r rv h k=>?_⟩;obtain ⟨bs,rfl,q⟩:=h;obtain ⟨v,rfl,h1⟩:=Paired.one rv;obtain ⟨p,ys,rfl,g1,g2⟩:=ZP.lst h1;rw [V9 g2] at g1;exact ⟨p,bs,rfl,g1.sq,k.dat r Step.refl (Dt.bl _) q⟩
def MG:D1:=λ xs M Φ=>on1 xs λ x=>onB x λ b=>Φ (.dat (.int (if b = true then 1 else 0))) M
theorem Gu:Jr X (.type "int") MG:=by
 refine ⟨_,Dx,λ vs H xs M Φ Q r rv h k=>?_⟩;replace h:=Qm h;obtain ⟨x,rfl,h⟩:=h;replace h:=Gq h;obtain ⟨b,rfl,q⟩:=h;obtain ⟨v,rfl,h1⟩:=Paired.one rv;cases (show v = .bl b from ZP.bool h1);exact .inr ⟨b,rfl,k.dat r Step.refl (Dt.int _) q⟩
def ZdK (i j:Nat) (ta:DTA):DTS:=λ D U M=>ta U M λ xs M1=>on2 xs λ x y=>D.nx ((U.set i (some x)).set j (some y)) M1
def Zbp (x:DV) (M:Mp) (ds:List PyData):Prop:=x = .dat (.list ds) \/ ∃ l,x = .own l /\ M l = some (.lst ds)
theorem Zbp.sq {x:DV} (h:Zbp x M ds) (r:Zy X.K M H) (rv:ZP X.K M H v x):∃ p ys,v = .ref p /\ SqL X.K H p ys /\ Dts X.K M H ys ds:=by
 rcases h with rfl | ⟨l,rfl,hm⟩
 ·obtain ⟨p,ys,rfl,g1,g2⟩:=ZP.lst rv;exact ⟨p,ys,rfl,g1.sq,g2⟩
 ·cases (show v = .ref l from rv);obtain ⟨ws,g1,g2⟩:=r.ls l _ hm;exact ⟨l,ws,rfl,SqL.of g1,g2⟩
def MX:D2:=λ x y M Φ=>onK x M λ ds=>onK y M λ es=>ds.length + es.length <= sizeLine /\ Φ (.dat (.list (ds ++ es))) M
theorem Py:OpD X (binaryOp .Add) MX:=by
 refine ⟨_,F2,λ v u H x y M Φ Q r rv ru h k=>?_⟩;replace h:=MM h;obtain ⟨ds,hx,h⟩:=h;replace h:=MM h;obtain ⟨es,hy,hz,q⟩:=h;replace hx:Zbp x M ds:=hx;replace hy:Zbp y M es:=hy;obtain ⟨a,xs,rfl,h1,h2⟩:=hx.sq r rv;obtain ⟨b,ys,rfl,h3,h4⟩:=hy.sq r ru;exact ⟨a,b,xs,ys,rfl,rfl,h1,h3,by rw [h2.length,h4.length]; exact hz,λ p hp=>k.dat (r.new hp) (Step.new hp) (Dt.VA r hp (h2.append h4)) q⟩
def ZdF (te:DTE) (tl th:DTO):DTE:=λ U M Φ=>te U M λ x M1=>tl U M1 λ l M2=>th U M2 λ u M3=>onK x M3 λ ds=>Φ (.dat (.list (cutD ds l u))) M3
def PM (ta:DTA):DTE:=λ U M Φ=>ta U M λ xs M1=>on2 xs λ x y=>onI x λ i=>onI y λ j=>(InR i /\ InR j) /\ (j - i).toNat <= 16777216 /\ Φ (.dat (.list (Y0 i (j - i).toNat))) M1
def Zdi (i:Nat) (te:DTE) (f:Int->Int->Int):DTS:=λ D U M=>onV U[i]? λ z=>onI z λ a=>te U M λ x M1=>onI x λ b=>D.nx (U.set i (some (.dat (.int (f a b))))) M1
theorem RO (i:Nat) {op:Operator} {f:Int->Int->Int} {pos' pos:Pos} (hN:X.N.Nodup) (he:DE X e te) (ho:PIp X op (ipI f)) (hi:autoParam (X.N[i]? = some x) zz3._auto_1) (hx:autoParam (Loc X.env.scope x) zz8._auto_1)
  (hf:autoParam (X.fn x = true \/ X.env.scope.names.lookup x = some .local) zz0._auto_1):DS X (.AugAssign (.Name x pos') op e pos) (Zdi i te f):=by
 obtain ⟨t1,p1,q1⟩:=he;refine ⟨_,ZaM hN hi hx p1 ho hf,λ Z H U M D E r e h k=>?_⟩;replace h:=Uo h;obtain ⟨z,ea,h⟩:=h;replace h:=Zw h;obtain ⟨a,rfl,h⟩:=h;obtain ⟨v,ev,rv⟩:=e.at' i _ ea;cases (show v = .int a from ZP.int rv);refine ⟨.int a,ev,q1 Z H U M _ _ r e h λ u H1 x M1 r1 st ru hx=>?_⟩;replace hx:=Zw hx;obtain ⟨b,rfl,hx⟩:=hx;cases (show u = .int b from ZP.int ru);exact ⟨a,b,rfl,rfl,k.nx _ H1 _ M1 r1 st ((e.step st).set (x:=.dat (.int (f a b))) (show ZP X.K M1 H1 (.int (f a b)) (.dat (.int (f a b))) from Dt.int _)) hx⟩
def Ru (h:Heap) (v:Value) (q:Int × Int):Prop:=∃ a o n t u,v = .ref a /\ h.get? a = some o /\ o.cls = .type "tuple" /\ o.data = .seq #[.int q.1 t,.int q.2 u] n
theorem Ru.keep {v:Value} (p:Ru h v q) (k:∀ b o,h.get? b = some o->h'.get? b = some o):Ru h' v q:=by
 obtain ⟨a,o,n,t,u,e,g,c,d⟩:=p;exact ⟨a,o,n,t,u,e,k _ _ g,c,d⟩
noncomputable def ltP (p q:Int × Int):Bool:=if p.1 = q.1 then decide (p.2 < q.2) else decide (p.1 < q.1)
theorem get_none {b:Addr} (hb:h.objs.size <= b):h.get? b = none:=by
 cases q:h.get? b with
 | none=>rfl
 | some o=>exact absurd (Heap.lt_size q) (Nat.not_lt.mpr hb)
theorem DH (p:Int × Int):ltP p p = false:=by unfold ltP; rw [if_pos rfl]; exact decide_eq_false (by lia)
theorem SN {p r:Int × Int} (h1:ltP r q = false) (h2:ltP p q = true):ltP r p = false:=by
 unfold ltP at *
 split at h1 <;> split at h2 <;> split <;> simp only [decide_eq_false_iff_not,decide_eq_true_eq] at * <;> lia
theorem YQ (f:Nat->Int × Int):∀ k,argBest (λ i j=>ltP (f i) (f j)) k <= k /\ ∀ j,j <= k->ltP (f j) (f (argBest (λ i j=>ltP (f i) (f j)) k)) = false
 | 0=>⟨Nat.le_refl _,λ j hj=>by rw [show j = 0 by lia]; exact DH _⟩
 | k + 1=>by
  have ih:=YQ f k;unfold argBest
  split
  ·rename_i c;refine ⟨Nat.le_refl _,λ j hj=>?_⟩
   by_cases e:j = k + 1
   ·rw [e]; exact DH _
   ·exact SN (ih.2 j (by lia)) c
  ·rename_i c;refine ⟨by lia,λ j hj=>?_⟩
   by_cases e:j = k + 1
   ·rw [e]; exact Bool.of_not_eq_true c
   ·exact ih.2 j (by lia)
theorem sub_tt:isSubtype (.type "tuple") (.type "tuple") = pure true:=by rw [isSubtype_type]; kernel_rfl
section
variable {prog:Program} {E:Value->Shared->Prop}
theorem Mj {M:Model} {items n} {Q:Array Value->Shared->Prop} (ho:s.heap.get? a = some o) (hd:o.data = .seq items n) (h:Q items s):wpAny M A (Builtin.Tuple.tupleItemsOf (.ref a)) Q E s:=by
 unfold Builtin.Tuple.tupleItemsOf;exact wpAny_bind (wpAny_seqItems ho hd (wpAny_pure h))
theorem Xo {p q:Int × Int} {b:Addr} {oa ob:Obj} {na nb:Nat} {t1 t2 u1 u2:Tok} {P:Fin->Shared->Prop} (ha:s.heap.get? a = some oa) (da:oa.data = .seq #[.int p.1 t1,.int p.2 t2] na)
  (hb:s.heap.get? b = some ob) (cb:ob.cls = .type "tuple") (db:ob.data = .seq #[.int q.1 u1,.int q.2 u2] nb) (h:P (.done (.ret (.bool (ltP p q)))) s) :
  wpAny (model prog w) A (Builtin.«tuple.__lt__» ⟨[.ref a,.ref b],[]⟩) P E s:=by
 have hT:s.TypeIs (.ref b) "tuple" := ⟨ob,hb,cb⟩
 show wpAny _ _ (isInstance (.ref b) (.type "tuple") >>= _) _ _ s;refine wpAny_bind (wpAny_isInstance hT sub_tt ?_);simp only [Bool.not_true,Bool.false_eq_true,if_false];refine wpAny_bind (Mj ha da (wpAny_bind (Mj hb db (wpAny_bind ?_))));show wpAny _ _ (forIn [(Value.int p.1 t1,Value.int q.1 u1),(Value.int p.2 t2,Value.int q.2 u2)] _ _) _ _ s;rw [List.forIn_cons];refine wpAny_bind (wpAny_bind (wpAny_eqBool_int ?_));unfold ltP at h
 by_cases e1:p.1 = q.1
 ·rw [if_pos e1] at h;rw [show (p.1 == q.1) = true from beq_iff_eq.mpr e1];simp only [Bool.not_true,Bool.false_eq_true,if_false];refine wpAny_pure ?_;show wpAny _ _ (forIn [(Value.int p.2 t2,Value.int q.2 u2)] (none,()) _) _ _ s;rw [List.forIn_cons];refine wpAny_bind (wpAny_bind (wpAny_eqBool_int ?_))
  by_cases e2:p.2 = q.2
  ·rw [show (p.2 == q.2) = true from beq_iff_eq.mpr e2];simp only [Bool.not_true,Bool.false_eq_true,if_false];refine wpAny_pure ?_;show wpAny _ _ (forIn [] (none,()) _) _ _ s;rw [List.forIn_nil];refine wpAny_pure ?_;rw [decide_eq_false (by lia)] at h;exact wpAny_pure h
  ·rw [show (p.2 == q.2) = false from beq_eq_false_iff_ne.mpr e2];simp only [Bool.not_false,if_true];exact wpAny_bind (wpAny_rule (wpAny_bind (wpAny_lt_int (wpAny_bind (wpAny_pure (wpAny_pure (wpAny_pure (wpAny_pure h))))))))
 ·rw [if_neg e1] at h;rw [show (p.1 == q.1) = false from beq_eq_false_iff_ne.mpr e1];simp only [Bool.not_false,if_true];exact wpAny_bind (wpAny_rule (wpAny_bind (wpAny_lt_int (wpAny_bind (wpAny_pure (wpAny_pure (wpAny_pure (wpAny_pure h))))))))
theorem Ha {p:Int × Int} {v u:Value} (hu:A.units < cLine) (hv:Ru s.heap v p) (hw:Ru s.heap u q) (h:Q (.bool (ltP p q)) s):wpAny (model prog w) A (richCompare .Lt v u) Q E s:=by
 obtain ⟨a,oa,na,t1,t2,rfl,ha,ca,da⟩:=hv;obtain ⟨b,ob,nb,u1,u2,rfl,hb,cb,db⟩:=hw;have hTa:s.TypeIs (.ref a) "tuple" := ⟨oa,ha,ca⟩
 have hTb:s.TypeIs (.ref b) "tuple" := ⟨ob,hb,cb⟩
 exact wpAny_richCompare_same_room (op:=.Lt) hTa hTb F.slot_tuple_lt (wpAny_call_entry F.slot_tuple_lt hTa F.entry_tuple_lt (Xo ha da hb cb db ⟨_,rfl,(λ z=>nomatch z),h⟩) (F.args_tuple_lt_2 _ _)) hu
end
section
variable {prog:Program} {R:Result->Shared->Prop} {I:Addr} {fp wr:List Addr} {P:Nat->Value->Prop} {St:Nat->Heap->Prop}
def Sv (prog:Program) (w:World) (A:Around) (h0:Heap) (P:Nat->Value->Prop) (bt:Nat->Nat->Bool):Prop:=
 ∀ i j x y (s:Shared) (Q:Value->Shared->Prop) (E:Value->Shared->Prop),(∀ b o,h0.get? b = some o->s.heap.get? b = some o)->P i x->P j y->Q (.bool (bt i j)) s->wpAny (model prog w) A (richCompare .Lt x y) Q E s
theorem Ji:(toString "min" ++ toString ".loop" : String) = "min.loop" := by decide
theorem Wr {kw:List (Str × Value)} {h0:Heap} {bt:Nat->Nat->Bool} (C:Sv prog w A.in1 h0 P bt) (W:Walks prog w A.in1 I fp wr n P St) (hSf:S ∉ fp) (nS:h0.get? S = none) (nw:∀ b ∈ wr,h0.get? b = none) :
  ∀ (k j:Nat) (s:Shared) (best:Value) (c:Nat),n - (j + 1) = k->j + 1 <= n->(∀ b o,h0.get? b = some o->s.heap.get? b = some o)->St (j + 1) s.heap->P (argBest bt j) best->s.heap.get? S = some { cls:=.type "list",dict:=none,data:=.seq #[best,best] c,slots:=#[] } ->
   (∀ v h' tk,P (argBest bt (n - 1)) v->(∀ b o,h0.get? b = some o->h'.get? b = some o)->R (.ok (.ret v)) { s with heap:=h',toks:=tk }) ->
   codeAny (model prog w) A (.builtin "min.loop" ⟨[.ref I,.none,.ref S],kw⟩) R s:=by
 have hSw:S ∉ wr:=λ z=>hSf (W.sub _ z);have old:∀ {b:Addr} {o:Obj},h0.get? b = some o->b ∉ wr /\ b ≠ S:=λ {b o} e=>⟨λ z=>(by rw [nw b z] at e; cases e),λ z=>(by rw [z,nS] at e; cases e)⟩;intro k
 induction k with
 | zero=>
  intro j s best c hk hj h0s hst hPb hS hR;obtain rfl:j + 1 = n:=by omega
  refine codeAny_builtin F.entry_min_loop ?_;rw [Around.under_plainId F.plain_min_loop _];show wpAny _ A.in1 (seqItems? (.ref S) >>= _) _ _ s;refine wpAny_bind (wpAny_seqItems hS rfl ?_);show wpAny _ A.in1 (tryCatch (pyNext (.ref I)) _ >>= _) _ _ s;refine wpAny_bind (wpAny_tryCatch (W.done s _ _ hst λ h' tk keep=>?_));have hS':=keep S _ hSw hS;show wpAny _ A.in1 (updateSeq S (λ _=>#[]) >>= _) _ _ _;refine wpAny_bind (wpAny_updateSeq hS' rfl (wpAny_bind (wpAny_letGo (wpAny_pure ?_))));exact hR best _ tk hPb λ b o e=>(Heap.get?_update_other _ _ (Ne.symm (old e).2)).trans (keep b o (old e).1 (h0s b o e))
 | succ k ih=>
  intro j s best c hk hj h0s hst hPb hS hR;have hlt:j + 1 < n:=by omega
  refine codeAny_builtin F.entry_min_loop ?_;rw [Around.under_plainId F.plain_min_loop _];show wpAny _ A.in1 (seqItems? (.ref S) >>= _) _ _ s;refine wpAny_bind (wpAny_seqItems hS rfl ?_);show wpAny _ A.in1 (tryCatch (pyNext (.ref I)) _ >>= _) _ _ s;refine wpAny_bind (wpAny_tryCatch (W.item (j + 1) s _ _ hlt hst λ v h' tk hP hst' keep=>?_));have hS':=keep S _ hSw hS;have h0':∀ b o,h0.get? b = some o->h'.get? b = some o:=λ b o e=>keep b o (old e).1 (h0s b o e);show wpAny _ A.in1 (tryCatch (holding [v,v] (richCompare .Lt v best >>= _)) _ >>= _) _ _ _;refine wpAny_bind (wpAny_tryCatch (wpAny_holding (wpAny_bind (C (j + 1) (argBest bt j) v best _ _ _ h0' hP hPb ?_))));refine wpAny_bind (wpAny_holding (wpAny_truthy_bool (wpAny_bind (wpAny_letGo (wpAny_pure ?_)))));cases q:bt (j + 1) (argBest bt j) with
  | true=>
   simp only [if_true];refine wpAny_bind (wpAny_updateSeq hS' rfl (wpAny_bind (wpAny_letGo ?_)));rw [Ji];refine wpAny_pure ⟨plainId_quiet F.plain_min_loop _,ih (j + 1) _ v _ (by omega) hlt (λ b o e=>(Heap.get?_update_other _ _ (Ne.symm (old e).2)).trans (h0' b o e)) (W.frame _ _ _ hst' λ b m o e=>?_) (by simp only [argBest,q,if_true]; exact hP) (Heap.get?_update_self _ hS' rfl) λ v' h'' tk'' hP' hk''=>hR v' h'' tk'' hP' hk''⟩;exact (Heap.get?_update_other _ _ (λ z:S = b=>hSf (by rw [z]; exact m))).trans e
  | false=>
   simp only [Bool.false_eq_true,if_false];refine wpAny_bind (wpAny_letGo ?_);rw [Ji];exact wpAny_pure ⟨plainId_quiet F.plain_min_loop _,ih (j + 1) _ best c (by omega) hlt h0' hst' (by simp only [argBest,q,Bool.false_eq_true,if_false]; exact hPb) hS' λ v' h'' tk'' hP' hk''=>hR v' h'' tk'' hP' hk''⟩
end
section
variable {prog:Program} {E:Value->Shared->Prop}
theorem Bf {x:Value} {Q:Value->Shared->Prop} {h0:Heap}
  (h:wpAny (model prog w) A.in1 (pyIter x) (λ it s2=>∃ I fp wr n P St bt,it = .ref I /\ Walks prog w A.in1 I fp wr n P St /\ St 0 s2.heap /\ (∀ b ∈ fp,b < s2.heap.objs.size) /\ (∀ b ∈ wr,h0.get? b = none) /\ (∀ b o,h0.get? b = some o->s2.heap.get? b = some o) /\ h0.get? s2.heap.objs.size = none /\ 0 < n /\ Sv prog w A.in1 h0 P bt /\
   ∀ v h' tk,P (argBest bt (n - 1)) v->(∀ b o,h0.get? b = some o->h'.get? b = some o)->Q v { s2 with heap:=h',toks:=tk }) E s):wpAny (model prog w) A (call (.builtin "min") [x]) Q E s:=by
 refine call_function_tree F.kind_min F.plain_min F.entry_min (F.args_min1 _) ?_;show wpAny _ A.in1 (Builtin.Builtins.bindParams "min" ["key", "default"] 0 ⟨[],[]⟩ >>= _) _ _ s;refine wpAny_bind (wpAny_of_eq (show Builtin.Builtins.bindParams "min" ["key", "default"] 0 ⟨[],[]⟩ = pure [none,none] from rfl) (wpAny_bind (wpAny_pure ?_)));refine wpAny_bind (wpAny_mono h (λ it s2 h2=>?_) λ _ _ z=>z);obtain ⟨I,fp,wr,n,P,St,bt,rfl,W,hst,hfp,nw,h0s,nS,hn,C,hQ⟩:=h2;refine wpAny_bind (wpAny_newObj_type ?_);have hSf:s2.heap.objs.size ∉ fp:=λ z=>Nat.lt_irrefl _ (hfp _ z);have hSw:s2.heap.objs.size ∉ wr:=λ z=>hSf (W.sub _ z);have old:∀ {b:Addr} {o:Obj},h0.get? b = some o->b ∉ wr /\ b ≠ s2.heap.objs.size:=λ {b o} e=>⟨λ z=>(by rw [nw b z] at e; cases e),λ z=>(by rw [z,nS] at e; cases e)⟩;rw [Ji];refine wpAny_pure ⟨plainId_quiet F.plain_min_loop _,?_⟩;refine codeAny_builtin F.entry_min_loop ?_;rw [Around.under_plainId F.plain_min_loop _];show wpAny _ A.in1 (seqItems? (.ref s2.heap.objs.size) >>= _) _ _ _;refine wpAny_bind (wpAny_seqItems (Heap.get?_push_size _ rfl) rfl ?_);show wpAny _ A.in1 (tryCatch (pyNext (.ref I)) _ >>= _) _ _ _;refine wpAny_bind (wpAny_tryCatch (W.item 0 _ _ _ hn (W.frame _ _ _ hst λ b _ o e=>Heap.get?_push_of_some _ e) λ v h' tk hP hst' keep=>?_));have hS':=keep s2.heap.objs.size _ hSw (Heap.get?_push_size _ rfl);show wpAny _ A.in1 (updateSeq s2.heap.objs.size (λ _=>#[v,v]) >>= _) _ _ _;refine wpAny_bind (wpAny_updateSeq hS' rfl ?_);rw [Ji];refine wpAny_pure ⟨plainId_quiet F.plain_min_loop _,Wr C W hSf nS nw _ 0 _ v _ rfl hn (λ b o e=>(Heap.get?_update_other _ _ (Ne.symm (old e).2)).trans (keep b o (old e).1 (Heap.get?_push_of_some _ (h0s b o e)))) (W.frame _ _ _ hst' λ b m o e=>?_) hP (Heap.get?_update_self _ hS' rfl) λ v' h'' tk'' hP' hk''=>hQ v' h'' tk'' hP' hk''⟩;exact (Heap.get?_update_other _ _ (λ z:s2.heap.objs.size = b=>hSf (by rw [z]; exact m))).trans e
theorem Wu {its:Array Value} {qs:List (Int × Int)} {Q:Value->Shared->Prop} (hh:A.handled = none) (hu:A.in1.units < cLine) (hl:s.heap.IsList l its) (hz:its.size = qs.length) (hne:0 < qs.length)
  (hq:∀ i v,its[i]? = some v->Ru s.heap v (qs.getD i (0,0)))
  (h:∀ i v h' tk,its[i]? = some v->i < qs.length->(∀ j,j < qs.length->ltP (qs.getD j (0,0)) (qs.getD i (0,0)) = false)->(∀ b o,s.heap.get? b = some o->h'.get? b = some o)->Q v { s with heap:=h',toks:=tk }) :
  wpAny (model prog w) A (call (.builtin "min") [.ref l]) Q E s:=by
 have hlt:l < s.heap.objs.size:=by obtain ⟨_,e,_⟩:=hl; exact Heap.lt_size e
 refine Bf (h0:=s.heap) (wpAny_pyIter_list hl ?_);refine ⟨s.heap.objs.size,[s.heap.objs.size,l],[s.heap.objs.size],its.size,_,_,λ i j=>ltP (qs.getD i (0,0)) (qs.getD j (0,0)),rfl,Walks.list (A:=A.in1) hh _ l (Nat.ne_of_lt hlt) its,⟨⟨_,Heap.get?_push_size _ rfl,rfl,rfl⟩,hl.push _⟩,λ b hb=>?_,λ b hb=>?_,λ b o e=>Heap.get?_push_of_some _ e,?_,by lia,λ i j x y s' Q' E' old hx hy hQ=>?_,λ v h' tk hP keep=>?_⟩
 ·show b < (s.heap.push _).objs.size;rw [Heap.size_push]
  rcases List.mem_cons.mp hb with rfl | hb
  ·exact Nat.lt_succ_self _
  ·rw [List.mem_singleton.mp hb];exact Nat.lt_succ_of_lt hlt
 ·rw [List.mem_singleton.mp hb];exact get_none (Nat.le_refl _)
 ·show s.heap.get? (s.heap.push _).objs.size = none;rw [Heap.size_push];exact get_none (Nat.le_succ _)
 ·exact Ha hu ((hq i x hx).keep old) ((hq j y hy).keep old) hQ
 ·have b:=YQ (λ i=>qs.getD i (0,0)) (its.size - 1);exact h _ v h' tk hP (by lia) (λ j hj=>b.2 j (by lia)) keep
end
def Za5 (i j:Int):Prop:=0 < j /\ j.natAbs.log2 < 9000
theorem FG:OpR X (binaryOp .FloorDiv) (rI Za5 λ i j=>.int (i / j)):=opI λ i j _ _ _ _ _ hc q=>by
 have h1:(0:Int) < j:=hc.1;exact floordiv_int (by lia) (by rw [Int.fdiv_eq_ediv_of_nonneg i (by lia)]; exact q) (.inl (PyProof.noPylong_of_log2 hc.2))
theorem Hr:OpD X (binaryOp .FloorDiv) (δI Za5 λ i j=>.int (i / j)):=Za9 FG
theorem Vals.back {u:Value} (r:Vals xs us) (e:us[i]? = some u):∃ x,xs[i]? = some x /\ RelV x u:=by
 cases q:xs[i]? with
 | none=>rw [r.none_of q] at e; cases e
 | some x=>
  obtain ⟨u',e',h⟩:=r.get q;rw [e] at e';cases e';exact ⟨x,rfl,h⟩
theorem C0 (hc:X.calm = true) (hu:X.A.in1.units < cLine):Q6 X (.builtin "min") (λ xs H Q=>∃ (p:Addr) (vs:List V) (qs:List (Int × Int)),xs = [.ref p] /\ SqL X.K H p vs /\ vs.length = qs.length /\ (∀ (i:Nat) (q:Int × Int),qs[i]? = some q->∃ a:Addr,vs[i]? = some (V.ref a) /\ SqT X.K H a [.int q.1,.int q.2]) /\ 0 < qs.length /\
  ∀ (i:Nat) (q:Int × Int) (v:V),qs[i]? = some q->vs[i]? = some v->(∀ r ∈ qs,ltP r q = false)->Q v H):=by
 intro pins s Z H xs us Q I r h;obtain ⟨p,vs,qs,rfl,hq,hz,hp,h0,q⟩:=h;obtain ⟨u,rfl,rx⟩:=vals1 r;cases rx;obtain ⟨its,rv,pl,_⟩:=I.list hq;have hlen:=rv.length;have get:∀ i,i < qs.length->qs[i]? = some (qs.getD i (0,0)):=λ i hi=>by rw [List.getElem?_eq_getElem hi,List.getD_eq_getElem?_getD,List.getElem?_eq_getElem hi]; rfl
 refine Wu (I.ok.hd hc) hu pl.isList (by rw [List.size_toArray,<- hlen]; exact hz) h0 (λ i v hv=>?_) λ i v h' tk hv hi hm hk=>?_
 ·have hv':its[i]? = some v:=by simpa using hv
  have hi:i < qs.length:=by
   have:=(List.getElem?_eq_some_iff.mp hv').1;lia
  obtain ⟨a,e,sq⟩:=hp i _ (get i hi);obtain ⟨w',e',rl⟩:=rv.get e;rw [hv'] at e';cases e';cases (show v = .ref a from rl);obtain ⟨jts,rt,⟨o,eo,co,n,d⟩,_⟩:=I.tuple sq;obtain ⟨x1,x2,rfl,⟨t1,rfl⟩,⟨t2,rfl⟩⟩:=Vals.two rt;exact ⟨a,o,n,t1,t2,rfl,eo,co,d⟩
 ·have hv':its[i]? = some v:=by simpa using hv
  obtain ⟨x,e,rl⟩:=Vals.back rv hv';refine ⟨x,H,I.kept hk,rl,q i _ x (get i hi) e λ r hr=>?_⟩;obtain ⟨j,hj,rfl⟩:=List.getElem_of_mem hr;have:=hm j hj
  rwa [List.getD_eq_getElem?_getD,List.getElem?_eq_getElem hj] at this
noncomputable def prD (q:Int × Int):PyData:=.tuple [.int q.1,.int q.2]
def LY:D1:=λ xs M Φ=>∃ qs:List (Int × Int),xs = [.dat (.list (qs.map prD))] /\ 0 < qs.length /\ ∀ q ∈ qs,(∀ r ∈ qs,ltP r q = false)->Φ (.dat (prD q)) M
theorem WG {k:Nat} (hr:Vc k X.A) (hc:X.calm = true):Jr X (.builtin "min") LY:=by
 refine ⟨_,C0 hc (by have:=hr.un; show X.A.units + 1 < _; lia),λ vs H xs M Φ Q r rv h k=>?_⟩;obtain ⟨qs,rfl,h0,q⟩:=h;obtain ⟨v,rfl,h1⟩:=Paired.one rv;obtain ⟨p,ys,rfl,g1,g2⟩:=ZP.lst h1;refine ⟨p,ys,qs,rfl,g1.sq,by rw [g2.length,List.length_map],λ i q' e=>?_,h0,λ i q' v e ev hm=>?_⟩
 ·obtain ⟨v,ev,d⟩:=g2.get (i:=i) (d:=prD q') (by rw [List.getElem?_map,e]; rfl);cases d with
  | tup t1 t2=>
   cases t2 with
   | cons a b=>
    cases a;cases b with
    | cons a b=>
     cases a;cases b;exact ⟨_,ev,t1.sq⟩
 ·obtain ⟨v',ev',d⟩:=g2.get (i:=i) (d:=prD q') (by rw [List.getElem?_map,e]; rfl);rw [ev] at ev';cases ev';exact k.dat r Step.refl d (q q' (List.mem_of_getElem? e) hm)
noncomputable def Fy {α:Type} [DecidableEq α] (ks:List α) (k:α):Bool:=decide (k ∈ ks)
theorem DM {α:Type} [DecidableEq α] (kvs:List (α × V)) (k:α):(Xk kvs k).isSome = decide (k ∈ kvs.map (·.1)):=by
 rw [<- VM,Bool.eq_iff_iff,List.any_eq_true,decide_eq_true_eq,List.mem_map];constructor
 ·rintro ⟨x,hx,e⟩;exact ⟨x,hx,of_decide_eq_true e⟩
 ·rintro ⟨x,hx,e⟩;exact ⟨x,hx,decide_eq_true e⟩
noncomputable def Zc7 {α:Type} [DecidableEq α] (ks:List α) (k:α):List α:=if k ∈ ks then ks else ks ++ [k]
def NT:DTE:=λ _ M Φ=>∀ p,M p = none->Φ (.own p) (ZJ M p (.dct []))
noncomputable def kP (i j:Int):List Key:=[.inl i,.inl j]
def Zct (td:DTE) (ta:DTA) (tv:DTE):DTS:=λ D U M=>tv U M λ x M1=>td U M1 λ y M2=>ta U M2 λ zs M3=>onD x λ _=>onO y λ l=>on2 zs λ p q=>onI p λ i=>onI q λ j=>O2 (M3 l) λ ks=>ks.length < sizeLine /\ D.nx U (ZJ M3 l (.dct (Zc7 ks (kP i j))))
theorem MO {Z:L2.St} {b:Addr} {ks:List Key} (I:L2.Inv X pins Z H s) (h:SqT X.K H b (ks.map kV)):(tupleKind (ZT X.prog X.w)).is s.heap ks b:=by
 obtain ⟨its,r,⟨o,e,c,n,d⟩,_⟩:=I.tuple h;exact ⟨o,its.toArray,n,e,c,d,by simpa using Yj r⟩
def onP (x:DV) (P:Int->Int->Prop):Prop:=match x with | .dat (.tuple [.int i,.int j])=>P i j | _=>False
theorem QA {x:DV} {P:Int->Int->Prop} (h:onP x P):∃ i j,x = .dat (.tuple [.int i,.int j]) /\ P i j:=by
 unfold onP at h
 split at h
 ·exact ⟨_,_,rfl,h⟩
 ·exact h.elim
def ZcC:D2:=λ x y M Φ=>onP x λ i j=>onO y λ l=>O2 (M l) λ ks=>Φ (.dat (.bool (Fy ks (kP i j)))) M
section
variable {prog:Program} {E:Value->Shared->Prop}
end
def ZbX (te ts:DTE):DTE:=λ U M Φ=>te U M λ x M1=>ts U M1 λ y M2=>onT x λ ds=>onI y λ i=>i = -1 /\ Φ (.dat (.tuple ds.reverse)) M2
section
variable {prog:Program} {E:Value->Shared->Prop}
theorem Be {t sl:Addr} {items:Array Value} {vl vu:Value} {lo hi:Option Int} {Q:Value->Shared->Prop} (ht:IsTup s.heap t items) (hs:s.heap.IsSliceOf sl vl vu .none) (pl:IsPart vl lo) (pu:IsPart vu hi)
  (hw:HT.sIx items.size 0 lo = 0 /\ HT.sIx items.size items.size hi = items.size) (h:Q (.ref t) s):wpAny (model prog w) A (getItem (.ref t) (.ref sl)) Q E s:=by
 obtain ⟨os,hos,hcs,hds⟩:=id hs;have hTs:s.TypeIs (.ref sl) "slice" := ⟨os,hos,hcs⟩
 unfold getItem
 try with_reducible refine wpAny_holding ?_
 first | refine wpAny_bind (wpAny_pure ?_) | skip
 refine wpAny_bind (wpAny_sequenceKey ht.typeIs (by decide) ?_);refine wpAny_bind (wpAny_callSpecial?_slot (name:=Str.ofString "__getitem__") ht.typeIs PyProof.Rows.slot_tuple_getitem (wpAny_call_entry PyProof.Rows.slot_tuple_getitem ht.typeIs entry_tuple_getitem ?_ (args_tuple_getitem _ _)));show wpAny _ _ (Builtin.Tuple.tupleItemsOf (.ref t) >>= _) _ _ s;refine wpAny_bind (tupleItemsOf_ ht (wpAny_bind (wpAny_typeOf hTs ?_)));rw [if_pos (by decide)];refine wpAny_bind (HT.QZ hs pl pu ?_);rw [hw.1,hw.2,Nat.sub_zero];show wpAny _ _ (if ((((0:Nat):Int) == 0) && ((1:Int) == 1) && (items.size == items.size)) = true then _ else _) _ _ s;rw [if_pos (by simp)];unfold Builtin.Tuple.tupleIsExact;refine wpAny_bind (wpAny_bind (wpAny_typeOf ht.typeIs (wpAny_pure ?_)));rw [if_pos (by decide)];exact wpAny_bind (wpAny_rule (wpAny_pure ⟨_,rfl,wpAny_pure h⟩))
end
def Zcs (K:Fk):V->Option Int->Option Int->Hp->VK->Prop:=λ x lo hi H Q=>∃ a xs,x = .ref a /\ SqT K H a xs /\ (HT.sIx xs.length 0 lo = 0 /\ HT.sIx xs.length xs.length hi = xs.length) /\ Q (.ref a) H
theorem OW:SlR X (Zcs X.K):=by
 intro pins s Z H x v vl vu lo hi sl Q I rx hs pl pu h;obtain ⟨a,xs,rfl,hx,hw,q⟩:=h;cases (show v = .ref a from rx);obtain ⟨its,r,ht,hz⟩:=I.tuple hx;have hlen:its.toArray.size = xs.length:=by rw [List.size_toArray]; exact r.length.symm
 exact ⟨"tuple",_,PyProof.Rows.slot_tuple_getitem.lookup,ht.typeIs,Be ht hs pl pu (by rw [hlen]; exact hw) ⟨.ref a,H,I,rfl,q⟩⟩
def TJ (te:DTE) (tl th:DTO):DTE:=λ U M Φ=>te U M λ x M1=>tl U M1 λ l M2=>th U M2 λ u M3=>onT x λ ds=>Φ (.dat (.tuple (cutD ds l u))) M3
theorem GH {lo hi:Option Expr} {tl th:DTO} {p2 pos:Pos} (he:DE X e te) (hl:DO X lo tl) (hu:DO X hi th):DE X (.Subscript e (.Slice lo hi none p2) pos) (TJ te tl th):=by
 obtain ⟨t1,p1,q1⟩:=he;obtain ⟨t2,p2,q2⟩:=hl;obtain ⟨t3,p3,q3⟩:=hu;refine ⟨_,EZ (ZaD.or OW) p1 p2 p3,λ Z H U M Φ Q r e h k=>?_⟩;refine q1 Z H U M _ _ r e h λ v H1 x M1 r1 st rv hx=>?_;refine q2 Z H1 U M1 _ _ r1 (e.step st) hx λ l H2 M2 r2 st2 hl=>?_;refine q3 Z H2 U M2 _ _ r2 (e.step (st.trans st2)) hl λ u H3 M3 r3 st3 hu=>?_;replace hu:=Uu hu;obtain ⟨ds,rfl,hu⟩:=hu;obtain ⟨a,xs,rfl,h1,h2⟩:=(rv.step (st2.trans st3)).tup
 by_cases hw:HT.sIx xs.length 0 l = 0 /\ HT.sIx xs.length xs.length u = xs.length
 ·refine .inr ⟨a,xs,rfl,h1.sq,hw,k.dat r3 (st.trans (st2.trans st3)) (Dt.tup h1 h2) ?_⟩;have e:cutD ds l u = ds:=by
   unfold cutD;rw [<- h2.length,hw.1,hw.2,List.drop_zero,Nat.sub_zero,h2.length,List.take_length]
  rw [e] at hu;exact hu
 ·refine .inl ⟨a,xs,rfl,h1.sq,hw,λ p hp=>?_⟩;exact k.dat (r3.new hp) ((st.trans (st2.trans st3)).trans (Step.new hp)) (Dt.UD r3 hp (h2.cut l u)) hu
def Zbs (x:DV) (M:Mp) (Φ:DK):Prop:=match x with | .dat (.list ds)=>Φ (.dat (.list ds)) M | .own l=>VF (M l) λ ds=>Φ (.dat (.list ds)) (VV M l) | _=>False
def ZbF (t:DTE):DTE:=λ U M Φ=>t U M λ x M1=>Zbs x M1 Φ
theorem NA {τ τ':DTE} (h:DE X e τ) (k:∀ U M Φ,τ' U M Φ->τ U M Φ):DE X e τ':=by
 obtain ⟨t,p,q⟩:=h;exact ⟨t,p,λ Z H U M Φ Q a b c d=>q Z H U M Φ Q a b (k _ _ _ c) d⟩
theorem Rk {s:Stmt} {τ τ':DTS} (h:DS X s τ) (k:∀ D U M,τ' D U M->τ D U M):DS X s τ':=by
 obtain ⟨t,p,q⟩:=h;exact ⟨t,p,λ Z H U M D E a b c d=>q Z H U M D E a b (k _ _ _ c) d⟩
def ZbC (src:JZ):JZ:=λ U M Ψ=>∃ Ψ',src U M Ψ' /\ ∀ ds M1,Ψ' ds M1->Ψ ds M1
theorem DI.mono {src:JZ} (h:DI X tg iter src):DI X tg iter (ZbC src):=by
 obtain ⟨wi,p,q⟩:=h;exact ⟨wi,p,λ Z H U M Ψ R dr er ⟨Ψ',h1,h2⟩ k=>q Z H U M Ψ' R dr er h1 λ J H' M' ds a b c d=>k J H' M' ds a b c (h2 _ _ d)⟩
def Qk (g:DTG) (tc:DTT) (te:DTE) (Δc:DSt) (fin:List PyData->Mp->Prop):List PyData->List PyData->Mp->Prop
 | [],acc,M=>fin acc M
 | d :: ds,acc,M=>g (.dat d) Δc M λ Δ2 M2=>tc Δ2 M2 λ b M3=>if b = true then te Δ2 M3 λ y M4=>onD y λ e=>Qk g tc te Δc fin ds (acc ++ [e]) M4 else Qk g tc te Δc fin ds acc M3
theorem CK (g:DTG) (tc:DTT) (te:DTE) (Δc:DSt) (fin:List PyData->Mp->Prop) (acc:List PyData) (M:Mp):Qk g tc te Δc fin [] acc M = fin acc M:=by rw [Qk]
theorem Es (g:DTG) (tc:DTT) (te:DTE) (Δc:DSt) (fin:List PyData->Mp->Prop) (d:PyData) (ds acc:List PyData) (M:Mp):Qk g tc te Δc fin (d :: ds) acc M =
  g (.dat d) Δc M λ Δ2 M2=>tc Δ2 M2 λ b M3=>if b = true then te Δ2 M3 λ y M4=>onD y λ e=>Qk g tc te Δc fin ds (acc ++ [e]) M4 else Qk g tc te Δc fin ds acc M3:=by rw [Qk]
theorem Hk {g:DTG} {Δc:DSt} {fin:List PyData->Mp->Prop} (h:Qk g tc te Δc fin ds [] M):∃ J:Nat->List PyData->Mp->Prop,J 0 [] M /\
 (∀ i d acc M',ds[i]? = some d->J i acc M'->g (.dat d) Δc M' λ Δ2 M2=>tc Δ2 M2 λ b M3=>if b = true then te Δ2 M3 λ y M4=>onD y λ e=>J (i + 1) (acc ++ [e]) M4 else J (i + 1) acc M3) /\
 ∀ acc M',J ds.length acc M'->fin acc M':=by
 refine ⟨λ i acc M'=>Qk g tc te Δc fin (ds.drop i) acc M',by simpa using h,λ i d acc M' e k=>?_,λ acc M' k=>?_⟩
 ·have ed:ds.drop i = d :: ds.drop (i + 1):=by
   obtain ⟨hi,e'⟩:=List.getElem?_eq_some_iff.mp e;rw [<- e',List.drop_eq_getElem_cons hi]
  dsimp only at k;rw [ed] at k;exact k
 ·dsimp only at k;rw [List.drop_length] at k;exact k
def UX (ow:Bool) (src:JZ) (ix:List (Option Nat)) (g:DTG) (tc:DTT) (te:DTE):DTE:=λ U M Φ=>src U M λ ds M1=>ds.length <= sizeLine /\ Qk g tc te (Wh ix U) (WV ow Φ) ds [] M1
theorem Gb {ow:Bool} {src:JZ} {g:DTG} (U:DSt) (M:Mp) (Φ:DK) (h:UX ow src ix g tc te U M Φ):GL ow (ZbC src) ix g tc te U M Φ:=
 ⟨_,h,λ _ _ ⟨a,b⟩=>⟨a,Hk b⟩⟩
theorem FD (ow:Bool) {elt:Expr} {ifs:List Expr} {pos:Pos} {src:JZ} {g:DTG} {tc:DTT} {te:DTE} (ok:QO X scope N ix) (hi:DI X tg iter src)
  (hg:∀ C ex s H,DG (Zs X scope C N ex s H) tg g) (ht:∀ C ex s H,DTs (Zs X scope C N ex s H) ifs tc) (he:∀ C ex s H,DE (Zs X scope C N ex s H) elt te) (hc:X.calm = true)
  (hs:autoParam (∀ x,foldedSetIterable iter X.env x = pure x) zz2._auto_1):DE X (.ListComp elt [⟨tg,iter,ifs,0⟩] scope pos) (UX ow src ix g tc te):=
 NA (Z6 ow ok hi.mono hg ht he hc hs) Gb
theorem Gm (i:Nat) (ow:Bool) {x:Str} {pos' spos:Pos} (hN:X.N.Nodup) {elt:Expr} {ifs:List Expr} {pos:Pos} {src:JZ} {g:DTG} {tc:DTT} {te:DTE} (ok:QO X scope N ix) (hi:DI X tg iter src)
  (hg:∀ C ex s H,DG (Zs X scope C N ex s H) tg g) (ht:∀ C ex s H,DTs (Zs X scope C N ex s H) ifs tc) (he:∀ C ex s H,DE (Zs X scope C N ex s H) elt te) (hc:X.calm = true)
  (hs:autoParam (∀ x,foldedSetIterable iter X.env x = pure x) zz2._auto_1) (hin:autoParam (X.N[i]? = some x) zz3._auto_1) (hx:autoParam (Loc X.env.scope x) zz8._auto_1)
  (hsw:autoParam (swapsWith (.ListComp elt [⟨tg,iter,ifs,0⟩] scope pos) (some (.Name x pos')) spos.line X.env = pure true) zz3._auto_1)
  (hf:autoParam (X.fn x = true \/ X.env.scope.names.lookup x = some .local) zz0._auto_1) :
  DS X (.Assign [.Name x pos'] (.ListComp elt [⟨tg,iter,ifs,0⟩] scope pos) spos) (Rv (UX ow src ix g tc te) (Yh i)):=
 Rk (Px i ow hN ok hi.mono hg ht he hc hs hin hx hsw hf) λ D U M h=>Gb U M _ h
def Vy (g:DTG) (tb:DTS) (D:ZV):List PyData->DSt->Mp->Prop
 | [],U,M=>D.nx U M
 | d :: ds,U,M=>g (.dat d) U M λ Δ2 M2=>tb { D with nx:=Vy g tb D ds,ct:=Vy g tb D ds,bk:=D.nx } Δ2 M2
theorem FY (g:DTG) (tb:DTS) (D:ZV) (U:DSt) (M:Mp):Vy g tb D [] U M = D.nx U M:=by rw [Vy]
theorem LR (g:DTG) (tb:DTS) (D:ZV) (d:PyData) (ds:List PyData) (U:DSt) (M:Mp):Vy g tb D (d :: ds) U M = g (.dat d) U M λ Δ2 M2=>tb { D with nx:=Vy g tb D ds,ct:=Vy g tb D ds,bk:=D.nx } Δ2 M2:=by rw [Vy]
theorem Ut (lo:Int) (n:Nat):Y0 lo (n + 1) = .int lo :: Y0 (lo + 1) n:=by
 unfold Y0;rw [List.range_succ_eq_map,List.map_cons,List.map_map]
 congr 1
 ·simp
 ·refine List.map_congr_left λ i _=>?_;show PyData.int _ = PyData.int _
  congr 1
  simp;lia
theorem ZaA (lo:Int):Y0 lo 0 = []:=rfl
theorem Na (lo:Int):Y0 lo 1 = [.int lo]:=by rw [Ut]; rfl
theorem Mo (lo:Int):Y0 lo 2 = [.int lo,.int (lo + 1)]:=by rw [Ut,Na]
theorem L3 (lo:Int):Y0 lo 3 = [.int lo,.int (lo + 1),.int (lo + 1 + 1)]:=by rw [Ut,Mo]
theorem Tr (lo:Int):Y0 lo 4 = [.int lo,.int (lo + 1),.int (lo + 1 + 1),.int (lo + 1 + 1 + 1)]:=by rw [Ut,L3]
theorem Fq {A B:DTS} {D:ZV} {U:DSt} (h:∀ R,R = B->Zbn A R D U M):Zbn A B D U M:=h B rfl
theorem Ni {l:List Int} {r:Int} (h0:0 <= r) (h1:r < l.length):∃ w ∈ l,atI (l.map PyData.int) r = some (.int w):=by
 obtain ⟨d,e,hm⟩:=BM (l:=l.map PyData.int) h0 (by rw [List.length_map]; exact h1);obtain ⟨w,hw,rfl⟩:=List.mem_map.mp hm;exact ⟨w,hw,e⟩
theorem Ui  : ZE "int" .none = false:=rfl
theorem WE (b:Bool):ZE "int" (.bool b) = true:=rfl
theorem GJ (i:Int):ZE "int" (.int i) = true:=rfl
theorem GP (z:Str):ZE "int" (.str z) = false:=rfl
theorem WY (l:List PyData):ZE "int" (.list l) = false:=rfl
theorem X1 (l:List PyData):ZE "int" (.tuple l) = false:=rfl
theorem WI (l:List (PyData × PyData)):ZE "int" (.dict l) = false:=rfl
theorem KJ  : ZE "bool" .none = false:=rfl
theorem Kd (b:Bool):ZE "bool" (.bool b) = true:=rfl
theorem Wy (i:Int):ZE "bool" (.int i) = false:=rfl
theorem Ww (z:Str):ZE "bool" (.str z) = false:=rfl
theorem Ki (l:List PyData):ZE "bool" (.list l) = false:=rfl
theorem XR (l:List PyData):ZE "bool" (.tuple l) = false:=rfl
theorem Km (l:List (PyData × PyData)):ZE "bool" (.dict l) = false:=rfl
theorem Xg  : ZE "tuple" .none = false:=rfl
theorem XH (b:Bool):ZE "tuple" (.bool b) = false:=rfl
theorem X6 (i:Int):ZE "tuple" (.int i) = false:=rfl
theorem Ku (z:Str):ZE "tuple" (.str z) = false:=rfl
theorem XJ (l:List PyData):ZE "tuple" (.list l) = false:=rfl
theorem YJ (l:List PyData):ZE "tuple" (.tuple l) = true:=rfl
theorem Xz (l:List (PyData × PyData)):ZE "tuple" (.dict l) = false:=rfl
theorem Kl  : ZE "list" .none = false:=rfl
theorem Kb (b:Bool):ZE "list" (.bool b) = false:=rfl
theorem WT (i:Int):ZE "list" (.int i) = false:=rfl
theorem Uc (z:Str):ZE "list" (.str z) = false:=rfl
theorem Kt (l:List PyData):ZE "list" (.list l) = true:=rfl
theorem Xc (l:List PyData):ZE "list" (.tuple l) = false:=rfl
theorem KI (l:List (PyData × PyData)):ZE "list" (.dict l) = false:=rfl
theorem Wl  : ZE "str" .none = false:=rfl
theorem Wx (b:Bool):ZE "str" (.bool b) = false:=rfl
theorem GD (i:Int):ZE "str" (.int i) = false:=rfl
theorem G8 (z:Str):ZE "str" (.str z) = true:=rfl
theorem W4 (l:List PyData):ZE "str" (.list l) = false:=rfl
theorem We (l:List PyData):ZE "str" (.tuple l) = false:=rfl
theorem WD (l:List (PyData × PyData)):ZE "str" (.dict l) = false:=rfl
theorem KC  : ZE "dict" .none = false:=rfl
theorem X8 (b:Bool):ZE "dict" (.bool b) = false:=rfl
theorem W9 (i:Int):ZE "dict" (.int i) = false:=rfl
theorem WM (z:Str):ZE "dict" (.str z) = false:=rfl
theorem KW (l:List PyData):ZE "dict" (.list l) = false:=rfl
theorem XY (l:List PyData):ZE "dict" (.tuple l) = false:=rfl
theorem Ka (l:List (PyData × PyData)):ZE "dict" (.dict l) = true:=rfl
theorem PV (i j:Int):(PyData.int i).eqv (.int j) = decide (i = j):=by
 simp only [PyData.eqv]
 first | rfl | exact Bool.beq_eq_decide_eq _ _ | (rw [Bool.eq_iff_iff]; simp)
theorem Zcv (x y:Str):(PyData.str x).eqv (.str y) = decide (x = y):=by
 simp only [PyData.eqv]
 first | rfl | (rw [Bool.eq_iff_iff]; simp)
theorem Zcn (x y:Bool):(PyData.bool x).eqv (.bool y) = (x == y):=by
 simp only [PyData.eqv]
theorem ZbM:PyData.none.eqv .none = true:=by simp only [PyData.eqv]
theorem S1 (x y:List PyData):(PyData.tuple x).eqv (.tuple y) = PyData.eqvAll x y:=by simp only [PyData.eqv]
theorem EA (x y:List PyData):(PyData.list x).eqv (.list y) = PyData.eqvAll x y:=by simp only [PyData.eqv]
theorem XW:PyData.eqvAll [] [] = true:=by simp only [PyData.eqvAll]
theorem XG (x y:PyData) (xs ys:List PyData):PyData.eqvAll (x :: xs) (y :: ys) = (x.eqv y && PyData.eqvAll xs ys):=by simp only [PyData.eqvAll]
theorem EH (x:PyData) (xs:List PyData):PyData.eqvAll (x :: xs) [] = false:=by simp only [PyData.eqvAll]
theorem Tf (x:PyData) (xs:List PyData):PyData.eqvAll [] (x :: xs) = false:=by simp only [PyData.eqvAll]
section
variable {pos:Pos}
def Za1 (tc:DTT) (tb:DTS):DTS:=λ D U M=>∃ J:Nat->DSt->Mp->Prop,(∃ m,J m U M) /\ ∀ n U M,J n U M->tc U M λ b M1=>
 if b = true then tb { D with nx:=λ Δ' M'=>∃ m,m < n /\ J m Δ' M',ct:=λ Δ' M'=>∃ m,m < n /\ J m Δ' M',bk:=D.nx } U M1 else D.nx U M1
def Zdz (to:DTE):DTE:=λ U M Φ=>to U M λ x M1=>onO x λ l=>∃ ds d,M1 l = some (.lst (ds ++ [d])) /\ Φ (.dat d) (ZJ M1 l (.lst ds))
noncomputable def isNone:PyData->Bool
 | .none=>true
 | _=>false
def onN (x:DV) (P:Prop):Prop:=match x with | .dat .none=>P | _=>False
def ZbH (b:Bool):D2:=λ x y M Φ=>onD x λ d=>onN y <| Φ (.dat (.bool (isNone d != b))) M
theorem isNone_none:isNone .none = true:=rfl
theorem WK (b:Bool):isNone (.bool b) = false:=rfl
theorem GG (b:Int):isNone (.int b) = false:=rfl
theorem G9 (b:Str):isNone (.str b) = false:=rfl
theorem Wz (b:List PyData):isNone (.list b) = false:=rfl
theorem KZ (b:List PyData):isNone (.tuple b) = false:=rfl
theorem Ug (b:List (PyData × PyData)):isNone (.dict b) = false:=rfl
def NC:D2:=λ x y M Φ=>onD x λ d=>onW y λ ds=>okIn d ds = true /\ Φ (.dat (.bool (!(ds.any λ e=>PyData.eqv e d)))) M
def LN:D2:=λ x y M Φ=>onP x λ i j=>onO y λ l=>O2 (M l) λ ks=>Φ (.dat (.bool (!Fy ks (kP i j)))) M
end
section
variable {prog:Program} {E:Value->Shared->Prop}
end
theorem HA (x:DV) (P:DV->Prop):onV (some (some x)) P = P x:=qI
theorem FF (i:Int) (P:Int->Prop):onI (.dat (.int i)) P = P i:=qI
theorem Fe (i:Bool) (P:Bool->Prop):onB (.dat (.bool i)) P = P i:=qI
theorem Hi (i:List PyData) (P:List PyData->Prop):onT (.dat (.tuple i)) P = P i:=qI
theorem FJ (i:List PyData) (P:List PyData->Prop):onL (.dat (.list i)) P = P i:=qI
theorem Hx (i:PyData) (P:PyData->Prop):onD (.dat i) P = P i:=qI
theorem LD (i:Addr) (P:Addr->Prop):onO (.own i) P = P i:=qI
theorem En (ds:List PyData) (P:List PyData->Prop):VF (some (.lst ds)) P = P ds:=qI
theorem PH (ds:List PyData) (M:Mp) (P:List PyData->Prop):onQ (.dat (.tuple ds)) M P = P ds:=qI
theorem NN (ds:List PyData) (M:Mp) (P:List PyData->Prop):onQ (.dat (.list ds)) M P = P ds:=qI
theorem PB (l:Addr) (M:Mp) (P:List PyData->Prop):onQ (.own l) M P = VF (M l) P:=qI
theorem Pf (ds:List PyData) (M:Mp) (P:List PyData->Prop):onK (.dat (.list ds)) M P = P ds:=qI
theorem Ph (l:Addr) (M:Mp) (P:List PyData->Prop):onK (.own l) M P = VF (M l) P:=qI
theorem EW (x:DV) (P:DV->Prop):on1 [x] P = P x:=qI
theorem Lw (x y:DV) (P:DV->DV->Prop):on2 [x,y] P = P x y:=qI
theorem FU (x y z:DV) (P:DV->DV->DV->Prop):on3 [x,y,z] P = P x y z:=qI
theorem E4 (P:List PyData->Prop):YK [] P = P []:=qI
theorem Hm (a0:PyData) (P:List PyData->Prop):YK [.dat a0] P = P [a0]:=qI
theorem Fd (a0 a1:PyData) (P:List PyData->Prop):YK [.dat a0,.dat a1] P = P [a0,a1]:=qI
theorem Fl (a0 a1 a2:PyData) (P:List PyData->Prop):YK [.dat a0,.dat a1,.dat a2] P = P [a0,a1,a2]:=qI
theorem HN (a0 a1 a2 a3:PyData) (P:List PyData->Prop):YK [.dat a0,.dat a1,.dat a2,.dat a3] P = P [a0,a1,a2,a3]:=qI
theorem HK (a0 a1 a2 a3 a4:PyData) (P:List PyData->Prop):YK [.dat a0,.dat a1,.dat a2,.dat a3,.dat a4] P = P [a0,a1,a2,a3,a4]:=qI
theorem HL (a0 a1 a2 a3 a4 a5:PyData) (P:List PyData->Prop):YK [.dat a0,.dat a1,.dat a2,.dat a3,.dat a4,.dat a5] P = P [a0,a1,a2,a3,a4,a5]:=qI
theorem Zav:type_of% @Zdh.eq_1:=λ _ _ _ _=>qI
theorem Zd4:type_of% @dC.eq_1:=λ _ _ _ _=>qI
theorem Zb8:type_of% @dTy.eq_1:=λ _ _ _ _=>qI
theorem ZbT:type_of% @dOp.eq_1:=λ _ _ _ _ _ _=>qI
theorem ZdN:type_of% @dB.eq_1:=λ _ _ _ _=>qI
theorem LK:type_of% @C5.eq_1:=λ _ _ _ _ _ _ _ _=>qI
theorem ZaO:type_of% @Zdf.eq_1:=λ _ _ _ _ _=>qI
theorem Zcr:type_of% @dOr.eq_1:=λ _ _ _ _ _=>qI
theorem Zac:type_of% @Zdb.eq_1:=λ _ _ _ _=>qI
theorem OF:type_of% @Tu.eq_1:=λ _ _ _ _ _=>qI
theorem ZcP:type_of% @dIf.eq_1:=λ _ _ _ _ _ _=>qI
theorem ZaN:type_of% @Zc6.eq_1:=λ _ _ _ _ _=>qI
theorem ZbQ:type_of% @δI.eq_1:=λ _ _ _ _ _ _=>qI
theorem SA:type_of% @δI0.eq_1:=λ _ _ _ _ _=>qI
theorem T8  (z0:DSt) (M:Mp) (Φ:List DV->Mp->Prop):Zdl z0 M Φ = (Φ [] M):=qI
theorem Pn:type_of% @Zaz.eq_1:=λ _ _ _ _ _=>qI
theorem Zay:type_of% @Zdr.eq_1:=λ _ _ _ _=>qI
theorem Zat:type_of% @Zc1.eq_1:=λ _ _ _ _=>qI
theorem PR:type_of% @ZaI.eq_1:=λ _ _ _ _=>qI
theorem RA:type_of% @Zdp.eq_1:=λ _ _ _ _=>qI
theorem Ll (a:PyData) (l:List PyData) (P:PyData->Prop):YI (a :: l) 0 P = P a:=qI
theorem HM (a b:PyData) (l:List PyData) (P:PyData->Prop):YI (a :: b :: l) 1 P = P b:=qI
theorem Fs (a b c:PyData) (l:List PyData) (P:PyData->Prop):YI (a :: b :: c :: l) 2 P = P c:=qI
theorem Zbc  (x:DV) (y:DV) (M:Mp) (Φ:DK):δIx x y M Φ = (onQ x M λ ds=>onI y λ i=>YI ds i λ d=>Φ (.dat d) M):=qI
theorem ZcM:type_of% @dCB.eq_1:=λ _ _ _ _ _=>qI
theorem PY  (xs:List DV) (M:Mp) (Φ:DK):SX xs M Φ = (on1 xs λ x=>onQ x M λ ds=>Φ (.dat (.int ds.length)) M):=qI
theorem PD  (xs:List DV) (M:Mp) (Φ:DK):Sa xs M Φ = (on1 xs λ x=>onI x λ i=>Φ (.dat (.int (if i < 0 then -i else i))) M):=qI
theorem Sk:type_of% @δ2I.eq_1:=λ _ _ _ _=>qI
theorem Bj  (xs:List DV) (M:Mp) (Φ:DK):Gp xs M Φ = (on1 xs λ x=>onQ x M λ ds=>Φ (.dat (.list ds)) M):=qI
theorem Ba (T:String) (d:PyData) (t:String) (M:Mp) (Φ:DK):OJ T [.dat d,.ty t] M Φ = (t = T /\ Φ (.dat (.bool (ZE T d))) M):=qI
theorem Fo (i j:Int) (P:Bool->Prop):eqD (.int i) (.int j) P = P (decide (i = j)):=qI
theorem Hf (i j:Str) (P:Bool->Prop):eqD (.str i) (.str j) P = P (decide (i = j)):=qI
theorem H0 (i j:Bool) (P:Bool->Prop):eqD (.bool i) (.bool j) P = P (i == j):=qI
theorem Zag  (x:DV) (y:DV) (M:Mp) (Φ:DK):δEq x y M Φ = (onD x λ d=>onD y λ e=>eqD d e λ b=>Φ (.dat (.bool b)) M):=qI
theorem SO  (x:DV) (y:DV) (M:Mp) (Φ:DK):δNe x y M Φ = (onD x λ d=>onD y λ e=>eqD d e λ b=>Φ (.dat (.bool (!b))) M):=qI
theorem BO  (z0:DSt) (M:Mp) (Φ:Option Int->Mp->Prop):CI z0 M Φ = (Φ none M):=qI
theorem OS:type_of% @TR.eq_1:=λ _ _ _ _=>qI
theorem Pe  (D:ZV) (U:DSt) (M:Mp):Zbm D U M = (D.nx U M):=qI
theorem SF:type_of% @Zbn.eq_1:=λ _ _ _ _ _=>qI
theorem N3:type_of% @S9.eq_1:=λ _ _ _ _=>qI
theorem T4:type_of% @Zdv.eq_1:=λ _ _ _ _=>qI
theorem Zba:type_of% @Zdd.eq_1:=λ _ _ _ _ _ _=>qI
theorem JI:type_of% @Yh.eq_1:=λ _ _ _ _ _=>qI
theorem G5 (U:DSt) (M:Mp) (Φ:DSt->Mp->Prop):Zas [] U M Φ = Φ U M:=qI
theorem Wi (t:DTG) (u:Fi) (x:DV) (r:List DV) (U:DSt) (M:Mp) (Φ:DSt->Mp->Prop):L4 t u (x :: r) U M Φ = t x U M λ Δ' M'=>u r Δ' M' Φ:=qI
theorem Fw (P:List DV->Prop):P8 0 [] P = P []:=qI
theorem EN (n:Nat) (d:PyData) (r:List PyData) (P:List DV->Prop):P8 (n + 1) (d :: r) P = P8 n r λ xs=>P (.dat d :: xs):=qI
theorem NM:type_of% @Zad.eq_1:=λ _ _ _ _ _ _=>qI
theorem Oh:type_of% @Zbe.eq_1:=λ _ _ _ _ _ _=>qI
theorem ZaY:type_of% @Rv.eq_1:=λ _ _ _ _ _=>qI
theorem BF:type_of% @Dg.eq_1:=λ _ _ _ _ _=>qI
theorem Pm:type_of% @Za6.eq_1:=λ _ _ _ _ _ _=>qI
theorem Oy:type_of% @S3.eq_1:=λ _ _ _ _ _ _=>qI
theorem Fj:type_of% @MT.eq_1:=λ _ _ _ _ _ _=>qI
theorem Hc:type_of% @LX.eq_1:=λ _ _ _ _ _ _=>qI
theorem OG:type_of% @NB.eq_1:=λ _ _ _ _ _=>qI
theorem Sg:type_of% @Zdq.eq_1:=λ _ _ _ _=>qI
theorem RJ:type_of% @Zc9.eq_1:=λ _ _ _ _=>qI
theorem N2:type_of% @RM.eq_1:=λ _ _ _ _=>qI
theorem F9 (Φ:DK) (acc:List PyData) (M:Mp):WV true Φ acc M = ∀ p,M p = none->Φ (.own p) (ZJ M p (.lst acc)):=qI
theorem LA (Φ:DK) (acc:List PyData) (M:Mp):WV false Φ acc M = Φ (.dat (.list acc)) M:=qI
theorem Nh:type_of% @GL.eq_1:=λ _ _ _ _ _ _ _ _ _=>qI
theorem T2  (z0:DSt) (M:Mp) (Φ:Bool->Mp->Prop):Zdo z0 M Φ = (Φ true M):=qI
theorem Ls  (xs:List DV) (M:Mp) (Φ:DK):Mv xs M Φ = (∃ ns:List Int,QX xs M ns /\ 0 < ns.length /\ ∀ m ∈ ns,(∀ a ∈ ns,m <= a)->Φ (.dat (.int m)) M):=qI
theorem E1  (xs:List DV) (M:Mp) (Φ:DK):MY xs M Φ = (∃ ns:List Int,QX xs M ns /\ 0 < ns.length /\ ∀ m ∈ ns,(∀ a ∈ ns,a <= m)->Φ (.dat (.int m)) M):=qI
theorem Za8:type_of% @δ3I.eq_1:=λ _ _ _ _=>qI
theorem Ca  (xs:List DV) (M:Mp) (Φ:DK):Cy xs M Φ = (on1 xs λ x=>onQ x M λ ds=>Φ (.dat (.tuple ds)) M):=qI
theorem EC:type_of% @Ed.eq_1:=λ _ _ _ _ _=>qI
theorem F0  (xs:List DV) (M:Mp) (Φ:DK):L5 xs M Φ = (∃ ns:List Int,QX xs M ns /\ Φ (.dat (.int ns.sum)) M):=qI
theorem Hl  (xs:List DV) (M:Mp) (Φ:DK):MK xs M Φ = (∃ bs:List Bool,xs = [.dat (.list (bs.map PyData.bool))] /\ Φ (.dat (.bool (bs.any id))) M):=qI
theorem Hw  (xs:List DV) (M:Mp) (Φ:DK):MG xs M Φ = (on1 xs λ x=>onB x λ b=>Φ (.dat (.int (if b = true then 1 else 0))) M):=qI
theorem HB  (x:DV) (y:DV) (M:Mp) (Φ:DK):MX x y M Φ = (onK x M λ ds=>onK y M λ es=>ds.length + es.length <= sizeLine /\ Φ (.dat (.list (ds ++ es))) M):=qI
theorem Ta:type_of% @Zdi.eq_1:=λ _ _ _ _ _ _=>qI
theorem Gi  (xs:List DV) (M:Mp) (Φ:DK):LY xs M Φ = (∃ qs:List (Int × Int),xs = [.dat (.list (qs.map prD))] /\ 0 < qs.length /\ ∀ q ∈ qs,(∀ r ∈ qs,ltP r q = false)->Φ (.dat (prD q)) M):=qI
theorem HF (i j:Int) (P:Int->Int->Prop):onP (.dat (.tuple [.int i,.int j])) P = P i j:=qI
theorem Nt:type_of% @TJ.eq_1:=λ _ _ _ _ _ _=>qI
theorem Ln:type_of% @UX.eq_1:=λ _ _ _ _ _ _ _ _ _=>qI
section
variable {prog:Program} {E:Value->Shared->Prop}
end
section
variable {pos p kp kpos:Pos} {a:Expr} {t:TA} {kj}
end
section
variable {a b:Expr} {ta tb:DTE} {pos:Pos}
end
end DL
namespace DL
open PySem.W
section
variable {prog:Program} {E:Value->Shared->Prop}
end
section
variable {prog:Program} {E:Value->Shared->Prop}
end
section
variable {Z:L2.St}
end
theorem RU {base:Heap} {k:Nat} {S:DSp} (h:∀ xs M Φ,¬ S xs M Φ):Qh P w K mg base CX0 k f fd ps (lift K S):=
 ⟨λ vs H Q E z=>by obtain ⟨xs,M,Φ,_,_,z,_⟩:=z; exact absurd z (h _ _ _),λ A outer s H args us vs Q E _ _ _ _ z=>by obtain ⟨xs,M,Φ,_,_,z,_⟩:=z; exact absurd z (h _ _ _)⟩
section
variable {prog:Program} {E:Value->Shared->Prop}
end
section
variable {pos:Pos}
end
end DL
namespace DL
open PySem.W PySem.SeqAt PySem.MeetsSeq
theorem Qo (l:Addr) (es:Array DictEntry) (n:Nat) (dd:Option Addr) (sl:Array (Option Value)) (b:Str) (u:Tok) :
  Meets (Builtin.«dict.__eq__» ⟨[.ref l,.str b u],[]⟩) (λ _ R s=>s.heap.get? l = some { cls:=.type "dict",dict:=dd,data:=.dict es n,slots:=sl } /\ R (.ok (.ret .notImplemented)) s):=
 .of_wp λ prog w A R s h=>by
  obtain ⟨hp,g,d,tk,os⟩:=s; obtain ⟨hl,h⟩:=h;have f1:=F.sub_str_dict
  wp_walk using wpAny_loadPart' hl
  exact ⟨_,rfl,h⟩
theorem Qp (b:Str) (u:Tok) (l:Addr) (c:Value) (es:Array DictEntry) (n:Nat) (dd:Option Addr) (sl:Array (Option Value)) :
  Meets (Builtin.«str.__eq__» ⟨[.str b u,.ref l],[]⟩) (λ _ R s=>s.heap.get? l = some { cls:=c,dict:=dd,data:=.dict es n,slots:=sl } /\ R (.ok (.ret .notImplemented)) s):=
 .of_wp λ prog w A R s h=>by obtain ⟨hp,g,d,tk,os⟩:=s; obtain ⟨hl,h⟩:=h; wp_walk using wpAny_loadPart' hl,wpAny_load hl; exact ⟨_,rfl,h⟩
def ZbA (h:Heap) (l:Addr):Prop:=∃ (o:Obj) (es:Array DictEntry) (n:Nat),h.get? l = some o /\ o.cls = .type "dict" /\ o.data = .dict es n
theorem WL (b:Str) (u:Tok) (hl:ZbA s.heap l) (hu:A.units < cLine):RcAt A s (.str b u) (.ref l) false:=λ prog w E Q h=>by
 obtain ⟨⟨cls,dd,data,sl⟩,es,n,ho,hc,hd⟩:=hl;simp only at hc hd;subst hc hd;exact rc_eq_decline_or (k:=false) (typeIs_str s b u) ⟨_,ho,rfl⟩ (by decide) F.sub_dict_str F.slot_str_eq F.slot_dict_eq_refl
  (λ _ hq=>call_meets F.slot_str_eq (typeIs_str s b u) F.entry_str_eq (F.args_str_eq_2 _ _) (Qp b u l (.type "dict") es n dd sl) ⟨ho,hq⟩)
  (λ _ hq=>call_meets F.slot_dict_eq_refl ⟨_,ho,rfl⟩ F.entry_dict_eq (F.args_dict_eq_2 _ _) (Qo l es n dd sl b u) ⟨ho,hq⟩)
  (λ _ hq=>wpAny_of_eq (rfl:isSame (.str b u) (.ref l) = pure false) hq) (.inr hu) h
theorem Ws (b:Str) (u:Tok) (hl:ZbA s.heap l) (hu:A.units < cLine):EqAt A s (.str b u) (.ref l) false:=λ prog w E Q h=>by
 unfold eqBool;refine wpAny_holding ?_;refine wpAny_ite_split (λ hab=>absurd (eq_of_beq hab) nofun) (λ _=>?_);exact wpAny_bind (WL b u hl hu prog w E _ (wpAny_truthy_bool h))
inductive Bs (h:Heap) (b:Bool) (t:Str):Value->Prop
 | non:b = false->Bs h b t .none
 | bl (k:Bool):b = false->Bs h b t (.bool k)
 | int (i:Int) (u:Tok):b = false->Bs h b t (.int i u)
 | str (x:Str) (u:Tok):b = decide (x = t)->Bs h b t (.str x u)
 | tup {a:Addr} {items:Array Value}:h.IsTuple a items->b = false->Bs h b t (.ref a)
 | lst {a:Addr} {items:Array Value}:h.IsList a items->b = false->Bs h b t (.ref a)
 | dic {a:Addr}:ZbA h a->b = false->Bs h b t (.ref a)
theorem Bs.eq {b:Bool} {t:Str} {v:Value} (u:Tok) (h:Bs s.heap b t v) (hu:A.units < cLine):EqAt A s (.str t u) v b:=by
 cases h with
 | non e=>rw [e]; exact EqAt.str_none t u
 | bl k e=>rw [e]; exact EqAt.str_bool t u k
 | int i w e=>rw [e]; exact EqAt.str_int t u i w
 | str x w e=>
  have e2:b = (t == x):=by rw [e,Bool.beq_eq_decide_eq,decide_eq_decide]; exact eq_comm
  rw [e2];exact EqAt.str_str t u x w
 | tup p e=>rw [e]; exact EqAt.str_tuple t u p hu
 | lst p e=>rw [e]; exact EqAt.str_list t u p hu
 | dic p e=>rw [e]; exact Ws t u p hu
end DL
namespace DL
open PySem.W
section
variable {pos:Pos}
end
end DL
namespace DL
open PySem.W PySem.SeqAt PySem.MeetsSeq
end DL
namespace DL
open PySem.W
noncomputable def Zdt (as bs:List PyData):List PyData:=List.zipWith (λ a b=>.tuple [a,b]) as bs
def Rsg (l:List Nat):Prop:=l.Pairwise (· < ·)
theorem Rsg.lt {l:List Nat} (h:Rsg l) {u v:Nat} (hi:l[i]? = some u) (hj:l[j]? = some v) (hij:i < j):u < v:=by
 obtain ⟨h1,rfl⟩:=List.getElem?_eq_some_iff.mp hi;obtain ⟨h2,rfl⟩:=List.getElem?_eq_some_iff.mp hj;exact (List.pairwise_iff_getElem.mp h) i j h1 h2 hij
def Spl (l:List Nat) (j r:Nat):Prop:=(∀ k v,k < r->l[k]? = some v->v < j) /\ (∀ k v,r <= k->l[k]? = some v->j <= v) /\ r <= l.length
theorem XQ {xs:Array Nat} (h:Rsg xs.toList) (j:Nat):∀ fuel lo hi,hi - lo <= fuel->lo <= hi->hi <= xs.size->(∀ k v,k < lo->xs.toList[k]? = some v->v < j)->(∀ k v,hi <= k->xs.toList[k]? = some v->j <= v)->Spl xs.toList j (SetTable.below.go xs j fuel lo hi)
 | 0,lo,hi,hf,hl,hs,h1,h2=>by
  have e:hi = lo:=by lia
  subst e;exact ⟨h1,h2,by rw [Array.length_toList]; exact hs⟩
 | fuel + 1,lo,hi,hf,hl,hs,h1,h2=>by
  unfold SetTable.below.go
  by_cases hlt:lo < hi
  ·rw [if_pos hlt];dsimp only;have hm:(lo + hi) / 2 < xs.size:=by lia
   have hg:xs.toList[(lo + hi) / 2]? = some (xs.getD ((lo + hi) / 2) j):=by
    rw [Array.getElem?_toList,Array.getElem?_eq_getElem hm];simp [Array.getD,hm]
   by_cases hc:xs.getD ((lo + hi) / 2) j < j
   ·rw [if_pos hc];refine XQ h j fuel _ _ (by lia) (by lia) hs (λ k v hk hv=>?_) h2
    by_cases e:k = (lo + hi) / 2
    ·rw [e,hg] at hv;cases hv;exact hc
    ·exact Nat.lt_trans (h.lt hv hg (by lia)) hc
   ·rw [if_neg hc];refine XQ h j fuel _ _ (by lia) (by lia) (by lia) h1 (λ k v hk hv=>?_)
    by_cases e:k = (lo + hi) / 2
    ·rw [e,hg] at hv;cases hv;lia
    ·have:=h.lt hg hv (by lia);lia
  ·rw [if_neg hlt];have e:hi = lo:=by lia
   subst e;exact ⟨h1,h2,by rw [Array.length_toList]; exact hs⟩
theorem Yc {xs:Array Nat} (h:Rsg xs.toList) (j:Nat):Spl xs.toList j (SetTable.below xs j):=by
 unfold SetTable.below;exact XQ h j _ _ _ (by lia) (by lia) (Nat.le_refl _) (λ k v hk=>absurd hk (by lia)) λ k v hk hv=>by
  have:=(List.getElem?_eq_some_iff.mp hv).1;rw [Array.length_toList] at this;lia
theorem GS {xs:Array Nat} (h:Rsg xs.toList) (hn:xs[SetTable.below xs j]? ≠ some j):Rsg (SetTable.insertAt xs (SetTable.below xs j) j).toList:=by
 obtain ⟨h1,h2,h3⟩:=Yc h j;rw [SetTable.toList_insertAt];have hd:∀ v ∈ xs.toList.drop (SetTable.below xs j),j < v:=λ v hv=>by
  obtain ⟨k,hk⟩:=List.mem_iff_getElem?.mp hv;rw [List.getElem?_drop] at hk;have l1:=h2 _ v (Nat.le_add_right _ k) hk
  by_cases e:k = 0
  ·rw [e,Nat.add_zero,Array.getElem?_toList] at hk
   rcases Nat.lt_or_eq_of_le l1 with z | z
   ·exact z
   ·rw [<- z] at hk;exact absurd hk hn
  ·have hb:=(List.getElem?_eq_some_iff.mp hk).1;have:=h.lt (List.getElem?_eq_getElem (show SetTable.below xs j < xs.toList.length by lia)) hk (by lia);have:=h2 _ _ (Nat.le_refl _) (List.getElem?_eq_getElem (show SetTable.below xs j < xs.toList.length by lia));lia
 have ht:∀ u ∈ xs.toList.take (SetTable.below xs j),u < j:=λ u hu=>by
  obtain ⟨k,hk⟩:=List.mem_iff_getElem?.mp hu;rw [List.getElem?_take] at hk
  split at hk
  ·exact h1 k u (by assumption) hk
  ·cases hk
 refine List.pairwise_append.mpr ⟨h.sublist (List.take_sublist _ _),List.pairwise_cons.mpr ⟨hd,h.sublist (List.drop_sublist _ _)⟩,λ u hu v hv=>?_⟩
 rcases List.mem_cons.mp hv with rfl | hv
 ·exact ht u hu
 ·exact Nat.lt_trans (ht u hu) (hd v hv)
structure TOk (bt:Bool) (t:SetTable):Prop where
 led:t.led = !bt
 dm:t.dummies = #[]
 up:t.plain = true->Rsg t.place.toList
theorem OL {t:SetTable} (h:t.dummies = #[]) (j:Nat):t.slot j ≠ .dummy:=by
 unfold SetTable.slot SetTable.has;rw [h];dsimp only
 split
 ·exact λ e=>nomatch e
 ·simp
theorem VT {t:SetTable} {f:Nat->Int} {h:Int} (hd:t.dummies = #[]):∀ (fuel:Nat) (p:SetTable.Probe),p.dummy = none->∀ j d,SetTable.probe.go t f h fuel p = some (.empty j d)->d = none /\ t.slot j = .empty
 | 0,p,_,j,d,e=>by unfold SetTable.probe.go at e; cases e
 | fuel + 1,p,hp,j,d,e=>by
  unfold SetTable.probe.go at e;cases q:t.slot p.j with
  | empty=>
   rw [q] at e;cases e;exact ⟨hp,q⟩
  | dummy=>exact absurd q (OL hd _)
  | live i=>
   rw [q] at e;dsimp only at e
   split at e
   ·cases e
   ·refine VT hd fuel _ ?_ j d e;unfold SetTable.advance
    split
    ·exact hp
    ·exact hp
theorem FA {t:SetTable} {h:Int} {b:Bool} (hd:t.dummies = #[]) (e:t.freeSlot h = some (j,b)):t.place[SetTable.below t.place j]? ≠ some j:=by
 unfold SetTable.freeSlot at e
 split at e
 ·rename_i j' d' q;unfold SetTable.probe at q;obtain ⟨rfl,hs⟩:=VT hd _ _ rfl _ _ q;simp only [Option.getD_none,Option.isSome_none,Option.some.injEq,Prod.mk.injEq] at e;obtain ⟨rfl,_⟩:=e;unfold SetTable.slot at hs;dsimp only at hs;intro z;rw [if_pos (by rw [z]; simp)] at hs;cases hs
 ·cases e
theorem TOk.FQ {bt:Bool} {t:SetTable} (h:TOk bt t) (n:Nat):TOk bt (t.standIn n):=⟨h.led,rfl,λ e=>by simp [SetTable.standIn] at e⟩
theorem TOk.new {bt:Bool} {t:SetTable} (h:TOk bt t) (es:Array (Int × Value)) (k:Int) (x:Value):TOk bt (layNew t es k x).2.1:=by
 unfold layNew
 split
 ·rename_i sl wd e;have hn:=FA h.dm e;have hp:TOk bt (t.put sl).1:=by
   unfold SetTable.put;refine ⟨h.led,?_,λ e=>GS (h.up e) hn⟩;show (if SetTable.has t.dummies sl = true then _ else t.dummies) = #[];rw [h.dm]
   split
   ·simp [SetTable.eraseAt]
   ·rfl
  dsimp only;unfold SetTable.orStandIn
  split
  ·exact hp
  ·exact hp.FQ _
 ·exact h.FQ _
theorem N9 (f:Nat->Option Nat) (n:Nat):Rsg ((((List.range n).filterMap λ j=>(f j).map (j,·)).map (·.1))):=by
 have h:(((List.range n).filterMap λ j=>(f j).map (j,·)).map (·.1)).Sublist (List.range n):=by
  induction (List.range n) with
  | nil=>exact .slnil
  | cons a l ih=>
   rw [List.filterMap_cons];cases f a with
   | none=>exact ih.cons a
   | some v=>exact ih.cons₂ a
 exact List.pairwise_lt_range.sublist h
theorem TOk.re {bt:Bool} {t:SetTable} (h:TOk bt t) (es:Array (Int × Value)) (n:Nat):TOk bt (relayAll t es n).2.1:=by
 unfold relayAll
 split
 ·rename_i t' order e;dsimp only
  split
  ·unfold SetTable.relaid SetTable.laid at e;cases q:SetTable.layClean (SetTable.sizeAbove n - 1) (es.map (·.1)) with
   | none=>rw [q] at e; cases e
   | some ow=>
    rw [q] at e;simp only [Option.pure_def,Option.bind_eq_bind,Option.bind_some,Option.some.injEq,Prod.mk.injEq] at e;obtain ⟨rfl,_⟩:=e;exact ⟨h.led,rfl,λ _=>by simpa using N9 (λ j=>ow.getD j none) _⟩
  ·exact h.FQ _
 ·exact h.FQ _
noncomputable def Bv:Value->Int
 | .int i _=>i
 | _=>0
abbrev Bp:=Array (Int × Value)
noncomputable def Yu (es:Bp):List Int:=es.toList.map λ e=>Bv e.2
structure Zbt (P:Program) (w:World) (o:Obj) (es:Bp) (t:SetTable):Prop where
 ex:o.ExactSet
 dt:∃ ep,o.data = .set es ep t
 el:ElemsOf (intKind P w) es.toList
 bd:es.size < scanBound
 ft:t.fits es.size = true
 ok:TOk (w.params.followText "set-order") t
 nd:(Yu es).Nodup
def SI (P:Program) (w:World) (h:Heap) (a:Addr) (ks:List Int):Prop:=∃ o es t,h.get? a = some o /\ Zbt P w o es t /\ ks = Yu es
section
variable {E:Value->Shared->Prop}
theorem U0 {es:List (Int × Value)} (h:ElemsOf (intKind P w) es) {e:Int × Value} (he:e ∈ es):∃ t,e.2 = .int (Bv e.2) t:=by
 obtain ⟨⟨k,hk,_⟩,_⟩:=h e he;obtain ⟨t,q⟩:=Value.isInt_shape (k:=k) (v:=e.2) hk;rw [q];exact ⟨t,rfl⟩
theorem SI.size (hS:SI P w h a ks):ks.length < scanBound:=by
 obtain ⟨o,es,t,_,so,rfl⟩:=hS;unfold Yu;rw [List.length_map,Array.length_toList];exact so.bd
theorem SI.same (hS:SI P w h a ks) (k:∀ o,h.get? a = some o->h'.get? a = some o):SI P w h' a ks:=by
 obtain ⟨o,es,t,g,r⟩:=hS;exact ⟨o,es,t,k o g,r⟩
theorem stored {es es':Bp} {t t':SetTable} (g:s.heap.get? a = some o) (so:Zbt P w o es t) (el:ElemsOf (intKind P w) es'.toList) (bd:es'.size < scanBound) (ft:t'.fits es'.size = true) (ok:TOk (w.params.followText "set-order") t') (nd:(Yu es').Nodup) :
  ∃ o',(s.heap.update a (Obj.putSet es' t')).get? a = some o' /\ Zbt P w o' es' t':=by
 obtain ⟨ep,hd⟩:=so.dt;have e:=putSet_of es' t' hd;have q:=Heap.get?_update_self (Obj.putSet es' t') g (by rw [e]; rfl);rw [e] at q;exact ⟨_,q,so.ex,⟨_,rfl⟩,el,bd,ft,ok,nd⟩
theorem MD {es es':Bp} {t t':SetTable} {Q:Unit->Shared->Prop} (g:s.heap.get? a = some o) (so:Zbt P w o es t) (bd:es'.size < scanBound) (h:Q () { s with heap:=s.heap.update a (Obj.putSet es' t') }):wpAny (model P w) A (storeSet a es' t') Q E s:=by
 obtain ⟨ep,hd⟩:=so.dt;exact wpAny_storeSet_of g hd h (fits_of_scanBound bd)
theorem OI {k:Int} {tok:Tok} {Q:Bool->Shared->Prop} (hS:SI P w s.heap a ks) (room:ks.length + 1 < scanBound)
  (h:∀ h' ks' b,Heap.SameBut a s.heap h'->SI P w h' a ks'->(∀ z,z ∈ ks' ↔ z ∈ ks \/ z = k)->ks'.length <= ks.length + 1->Q b { s with heap:=h' }) :
  wpAny (model P w) A (setAddHashed a (.int k tok) ((intKind P w).hash k)) Q E s:=by
 obtain ⟨o,es,t,g,so,rfl⟩:=hS;obtain ⟨ep,hd⟩:=so.dt;have len:(Yu es).length = es.size:=by unfold Yu; rw [List.length_map,Array.length_toList]
 have key:(intKind P w).is k (.int k tok) = true:=intKind_is _ _ _ _;have gv:∀ (b:Bool) {s₁:Shared} {Q':Unit->Shared->Prop},Q' () s₁->wpAny (model P w) A (match b with | true=>rule "set.scan.the-table-gave-way" | false=>pure ()) Q' E s₁:=
  λ b s₁ Q' hq=>match b with | false=>wpAny_pure hq | true=>wpAny_rule hq
 unfold setAddHashed setAddHashedIn;refine wpAny_holding (wpAny_bind (wpAny_setState_of g hd so.ft ?_)); dsimp only;rw [byScan_of (knd:=intKind P w) (x:=.int k tok) rfl so.bd so.el]; simp only [↓reduceIte]; unfold setAddByScan;refine wpAny_bind (wpAny_bind (wpAny_rule (wpAny_bind (wpAny_setScan_of key g hd so.ft so.el ?_))));cases hr:List.findIdx? (λ e=>(intKind P w).is k e.2) es.toList with
 | some j=>
  obtain ⟨hj,hpj,_⟩:=List.findIdx?_eq_some_iff_getElem.mp hr;have hin:k ∈ Yu es:=by
   obtain ⟨t',q⟩:=Value.isInt_shape (k:=k) hpj;exact List.mem_map.mpr ⟨es.toList[j],List.getElem_mem hj,by rw [q]; rfl⟩
  refine wpAny_pure (wpAny_pure ?_);exact h s.heap (Yu es) false (Heap.SameBut.refl a s.heap) ⟨o,es,t,g,so,rfl⟩ (λ z=>⟨.inl,λ q=>q.elim id λ e=>e ▸ hin⟩) (Nat.le_succ _)
 | none=>
  have hno:k ∉ Yu es:=λ hm=>by
   obtain ⟨e,he,q⟩:=List.mem_map.mp hm;obtain ⟨t',q'⟩:=U0 so.el he;have:=List.findIdx?_eq_none_iff.mp hr e he;rw [q',q] at this;exact absurd (intKind_is P w k t') (by rw [this]; exact Bool.false_ne_true)
  have pm:=layNew_perm t es ((intKind P w).hash k) (.int k tok);have ft:=layNew_fits t es ((intKind P w).hash k) (.int k tok);have tk:=so.ok.new es ((intKind P w).hash k) (.int k tok);dsimp only;generalize layNew t es ((intKind P w).hash k) (.int k tok) = L at pm ft tk ⊢;obtain ⟨e1,t1,wd,gave⟩:=L; dsimp only at pm ft tk ⊢; rw [Array.toList_push] at pm;have el1:ElemsOf (intKind P w) e1.toList:=(so.el.push key rfl).perm pm;have pk:(Yu e1).Perm (Yu es ++ [k]):=by
   have:=pm.map λ e:Int × Value=>Bv e.2;rw [List.map_append] at this;exact this
  have sz1:e1.size = es.size + 1:=by rw [<- Array.length_toList,pm.length_eq,List.length_append,Array.length_toList]; rfl
  have bd1:e1.size < scanBound:=by lia
  have nd1:(Yu e1).Nodup:=pk.nodup_iff.mpr (List.nodup_append.mpr ⟨so.nd,List.nodup_cons.mpr ⟨(λ q=>nomatch q),List.nodup_nil⟩,λ x hx y hy e=>hno (by rw [List.mem_singleton.mp hy] at e; rw [<- e]; exact hx)⟩);have mem1:∀ z,z ∈ Yu e1 ↔ z ∈ Yu es \/ z = k:=λ z=>by rw [pk.mem_iff,List.mem_append,List.mem_singleton]
  have fin:∀ (t2:SetTable),t2.fits e1.size = true->TOk (w.params.followText "set-order") t2->wpAny (model P w) A (do
     storeSet a e1 t2
     if (!wd && t2.tooFull) = true then do
       (match (relayAll t2 e1 (SetTable.grown e1.size)).2.2 with | true=>rule "set.scan.the-table-gave-way" | false=>pure ())
       storeSet a (relayAll t2 e1 (SetTable.grown e1.size)).1 (relayAll t2 e1 (SetTable.grown e1.size)).2.1
       pure (some true)
      else pure (some true)) (λ r s'=>∃ h' ks',s' = { s with heap:=h' } /\ r = some true /\ Heap.SameBut a s.heap h' /\ SI P w h' a ks' /\ (∀ z,z ∈ ks' ↔ z ∈ Yu es \/ z = k) /\ ks'.length <= (Yu es).length + 1) E s:=λ t2 ft2 tk2=>by
   obtain ⟨o1,g1,so1⟩:=stored (s:=s) g so el1 bd1 ft2 tk2 nd1;refine wpAny_bind (MD g so bd1 ?_);have sb1:=Heap.SameBut.update s.heap a (Obj.putSet e1 t2);have ln1:(Yu e1).length <= (Yu es).length + 1:=by rw [pk.length_eq,List.length_append]; exact Nat.le_refl _
   split
   ·have pm2:=relayAll_perm t2 e1 (SetTable.grown e1.size);have ft3:=relayAll_fits t2 e1 (SetTable.grown e1.size);have tk3:=tk2.re e1 (SetTable.grown e1.size);generalize relayAll t2 e1 (SetTable.grown e1.size) = L at pm2 ft3 tk3 ⊢;obtain ⟨e2,t3,gave2⟩:=L; dsimp only at pm2 ft3 tk3 ⊢;have pk2:(Yu e2).Perm (Yu e1):=pm2.map _;have sz2:e2.size = e1.size:=by rw [<- Array.length_toList,pm2.length_eq,Array.length_toList]
    have bd2:e2.size < scanBound:=by lia
    obtain ⟨o2,g2,so2⟩:=stored (s:={ s with heap:=s.heap.update a (Obj.putSet e1 t2) }) g1 so1 (el1.perm pm2) bd2 ft3 tk3 (pk2.nodup_iff.mpr nd1);refine wpAny_bind (gv _ (wpAny_bind (MD (s:={ s with heap:=s.heap.update a (Obj.putSet e1 t2) }) g1 so1 bd2 (wpAny_pure ?_))));exact ⟨_,_,rfl,rfl,sb1.trans (Heap.SameBut.update _ a _),⟨o2,e2,t3,g2,so2,rfl⟩,λ z=>(pk2.mem_iff).trans (mem1 z),by rw [pk2.length_eq]; exact ln1⟩
   ·exact wpAny_pure ⟨_,_,rfl,rfl,sb1,⟨o1,e1,t2,g1,so1,rfl⟩,mem1,ln1⟩
  refine wpAny_bind (gv _ ?_)
  split
  ·rw [hashByValue_scannable 8 (x:=.int k tok) rfl];refine wpAny_bind (wpAny_pure ?_);rw [show plainKind (Value.int k tok) = true from rfl]; simp only [↓reduceIte];exact wpAny_mono (fin t1 ft tk) (λ r s' ⟨h',ks',e1,e2,sb,hs,hm,hl⟩=>by subst e1 e2; exact wpAny_pure (h h' ks' true sb hs hm hl)) λ _ _ q=>q
  ·refine wpAny_bind (wpAny_pure ?_); simp only [↓reduceIte];exact wpAny_mono (fin t1 ft tk) (λ r s' ⟨h',ks',e1,e2,sb,hs,hm,hl⟩=>by subst e1 e2; exact wpAny_pure (h h' ks' true sb hs hm hl)) λ _ _ q=>q
end
section
variable {R:Result->Shared->Prop} {I:Addr} {fp wr:List Addr} {G:Array GenState->Array GenState->Prop} {Pv:Nat->Value->Prop} {St:Nat->Shared->Prop}
theorem Fp (W:WalksS P w A.in1 I fp wr G n Pv St) (S:Addr) (hSf:S ∉ fp) (val:Nat->Int) (hval:∀ i v,Pv i v->∃ t,v = .int (val i) t) (hb:n + 1 < scanBound) :
  ∀ (k i:Nat) (s:Shared) (ks:List Int),n - i = k->i <= n->St i s->SI P w s.heap S ks->ks.length <= i->(∀ z,z ∈ ks ↔ ∃ j,j < i /\ z = val j) ->
   (∀ s' ks',Moved (S :: wr) G s s'->SI P w s'.heap S ks'->(∀ z,z ∈ ks' ↔ ∃ j,j < n /\ z = val j)->ks'.length <= n->R (.ok (.ret .none)) s') ->
   codeAny (model P w) A (.builtin "set.update.loop" ⟨[.ref S,.ref I],[]⟩) R s:=by
 have hSw:S ∉ wr:=λ h=>hSf (W.sub _ h);have up:∀ b,b ∈ wr->b ∈ S :: wr:=λ _ h=>List.mem_cons_of_mem _ h;intro k
 induction k with
 | zero=>
  intro i s ks hk hi hst hS hl hm hR;obtain rfl:i = n:=by lia
  refine codeAny_builtin PyProof.Rows.F.entry_set_update_loop ?_; rw [Around.under_plainId PyProof.Rows.F.plain_set_update_loop _];refine wpAny_bind (W.done s _ _ hst λ s' mv=>wpAny_pure ?_);exact hR s' ks (mv.mono up) (hS.same λ o e=>mv.heap S o hSw e) hm hl
 | succ k ih=>
  intro i s ks hk hi hst hS hl hm hR;have hlt:i < n:=by lia
  refine codeAny_builtin PyProof.Rows.F.entry_set_update_loop ?_; rw [Around.under_plainId PyProof.Rows.F.plain_set_update_loop _];refine wpAny_bind (W.item i s _ _ hlt hst λ v s' hP hst' mv=>?_);obtain ⟨t,rfl⟩:=hval i v hP;have hS':SI P w s'.heap S ks:=hS.same λ o e=>mv.heap S o hSw e;refine wpAny_bind (wpAny_holding ?_); unfold setAdd;refine wpAny_holding (wpAny_bind ((intKind P w).pyHash (k:=val i) (intKind_is _ _ _ _) ?_));refine OI (s:={ s' with toks:=s'.toks + 1 }) hS' (by lia) λ h' ks' b sb hS2 hm2 hl2=>?_;refine wpAny_pure ⟨plainId_quiet PyProof.Rows.F.plain_set_update_loop _,ih (i + 1) _ ks' (by lia) hlt (W.frame _ s' _ _ hst' (Nat.le_succ _) λ b hb o e=>?_) hS2 (by lia) (λ z=>?_) λ s'' ks'' mv'' hS'' hm'' hl''=>?_⟩
  ·exact (sb.2 b λ h:b = S=>hSf (by rw [<- h]; exact hb)).trans e
  ·rw [hm2,hm];constructor
   ·rintro (⟨j,hj,e⟩ | e)
    ·exact ⟨j,by lia,e⟩
    ·exact ⟨i,by lia,e⟩
   ·rintro ⟨j,hj,e⟩
    by_cases ej:j = i
    ·exact .inr (by rw [e,ej])
    ·exact .inl ⟨j,by lia,e⟩
  ·exact hR s'' ks'' (Moved.trans W.gtrans ((mv.mono up).then_heap (Nat.le_succ _) λ b o hb e=>(sb.2 b λ h:b = S=>hb (by rw [h]; exact List.mem_cons_self)).trans e) mv'') hS'' hm'' hl''
end
section
variable {E:Value->Shared->Prop}
noncomputable def Jc (w:World):Obj:={ cls:=.type "set",dict:=none,data:=.set #[] 0 (.fresh 0 0 (!w.params.followText "set-order")) }
theorem Ld (g:h.get? a = some (Jc w)):SI P w h a []:=
 ⟨_,#[],_,g,⟨⟨rfl,rfl,rfl⟩,⟨0,rfl⟩,λ e he=>by simp at he,by decide,rfl,⟨rfl,rfl,λ _=>List.Pairwise.nil⟩,by simp [Yu]⟩,rfl⟩
theorem RR (a:Value) {Q₁:Value->Shared->Prop} (h:Q₁ (.ref s.heap.objs.size) { s with heap:=s.heap.push (Jc w) }) :
  codeAny (model P w) A (.call (.builtin "set.__new__") ⟨[.type "set",a],[]⟩) (wants Q₁ E) s:=by
 refine codeAny_of_tree ?_;refine wpAny_bind (m:=checkBuiltinCall "set.__new__" ⟨[.type "set",a],[]⟩) (wpAny_of_eq (PySem.F.newCall_set_1 a) (wpAny_pure ⟨plainId_quiet PySem.F.plain_set_new _,codeAny_builtin PySem.F.entry_set_new ?_⟩));rw [Around.under_plainId PySem.F.plain_set_new _]; unfold Builtin.«set.__new__» Builtin.Frozenset.newClass;have hsub:=sub_set_self;obtain ⟨hp,g,d,tk,os⟩:=s; dsimp only; wp_walk;refine wpAny_askSetting (wpAny_pure ?_); dsimp only; simp only [newObj];exact wpAny_bind (wpAny_alloc (wpAny_pure (wpAny_pure h)))
theorem getD_mem (hn:ns.length = n) (z:Int):(∃ j,j < n /\ z = ns.getD j 0) ↔ z ∈ ns:=by
 subst hn;constructor
 ·rintro ⟨j,hj,rfl⟩;rw [List.getD_eq_getElem?_getD,List.getElem?_eq_getElem hj];exact List.getElem_mem hj
 ·intro hz;obtain ⟨j,hj,e⟩:=List.mem_iff_getElem.mp hz;exact ⟨j,hj,by rw [List.getD_eq_getElem?_getD,List.getElem?_eq_getElem hj]; exact e.symm⟩
set_option maxHeartbeats 4000000 in
theorem set_list {items:Array Value} {Q:Value->Shared->Prop} (hh:A.handled = none) (hl:s.heap.IsList l items) (hi:IntsAre items.toList ns) (hb:items.size + 1 < scanBound)
  (h:∀ (h':Heap) (tk:Nat) (ks:List Int),SI P w h' s.heap.objs.size ks->(∀ z,z ∈ ks ↔ z ∈ ns)->ks.length <= ns.length->(∀ b o,b < s.heap.objs.size->s.heap.get? b = some o->h'.get? b = some o)->Q (.ref s.heap.objs.size) { s with heap:=h',toks:=tk }) :
  wpAny (model P w) A (call (.type "set") [.ref l]) Q E s:=by
 obtain ⟨c,tl,hmro⟩:=PySem.F.called_set.mro;have ln:ns.length = items.size:=by rw [<- IntsAre.length hi,Array.length_toList]
 have hmade:=PySem.F.called_set.made; have hsub:=PySem.F.called_set.sub;refine wpAny_call (codeAny_of_tree ?_); show wpAny _ _ (callAny (.type "set") _) _ _ _;refine wpAny_pure ⟨Code.quiet_builtin _ (by walk_at "k"),codeAny_builtin PySem.F.entry_type_call ?_⟩;rw [Around.under_plain (weight_type_call_type "set" [.ref l] []) rfl];have h1:=PySem.F.called_set.notType; have h2:=PySem.F.called_set.canCreate; have hct:=PySem.F.typeCall_set_1 (.ref l)
 repeat (any_goals (first | assumption | wp_step))
 refine codeAny_mono (RR (P:=P) (w:=w) (.ref l) (E:=E) (Q₁:=λ obj s₁=>obj = .ref s.heap.objs.size /\ s₁ = { s with heap:=s.heap.push (Jc w) }) ⟨rfl,rfl⟩) λ r s₁ hr=>?_;cases r with
 | error e=>exact hr
 | ok fl=>
  cases fl with
  | ret obj=>
   obtain ⟨rfl,rfl⟩:=hr;have hS:(s.heap.push (Jc w)).get? s.heap.objs.size = some (Jc w):=Heap.get?_push_size _ rfl;have hT:Shared.TypeIs { s with heap:=s.heap.push (Jc w) } (.ref s.heap.objs.size) "set" := ⟨_,hS,rfl⟩
   have hli:=PySem.F.called_set.init.lookup; have hbi:=PySem.F.called_set.init.bind (.ref s.heap.objs.size)
   repeat (any_goals (first | assumption | wp_step))
   refine codeAny_mono (codeAny_call_builtin (R:=wants (λ r s₂=>r = .none /\ ∃ h' tk ks,s₂ = { s with heap:=h',toks:=tk } /\ SI P w h' s.heap.objs.size ks /\ (∀ z,z ∈ ks ↔ z ∈ ns) /\ ks.length <= ns.length /\ (∀ b o,b < s.heap.objs.size->s.heap.get? b = some o->h'.get? b = some o)) E)
    PySem.F.called_set.init.plain PySem.F.entry_set_init (check_set_init_1 hT ?_)) λ r₂ s₂ hr₂=>?_
   ·obtain ⟨ol,hol,hcl,nl,hdl⟩:=hl;obtain ⟨ocls,odict,odata,oslots⟩:=ol;simp only at hcl hdl;subst hcl; subst hdl;have hol':(s.heap.push (Jc w)).get? l = some { cls:=.type "list",dict:=odict,data:=.seq items nl,slots:=oslots }:=Heap.get?_push_of_some _ hol;have hsls:=PySem.F.sub_list_set; have hslf:=PySem.F.sub_list_frozenset; have hne:(Value.type "list" == Value.type "dict") = false:=by decide
    have hl1:(s.heap.push (Jc w)).IsList l items:=⟨_,hol',rfl,nl,rfl⟩
    unfold Builtin.«set.__init__» noKeywords Builtin.Frozenset.updateFrom;generalize hPI:pyIter = PI; wp_walk; subst hPI;refine wpAny_pyIter_list hl1 (wpAny_bind (wpAny_runValue ?_));have lS:l < s.heap.objs.size:=Heap.lt_size hol;have nI:l ≠ (s.heap.push (Jc w)).objs.size:=by rw [Heap.size_push]; exact Nat.ne_of_lt (Nat.lt_succ_of_lt lS)
    have nS:s.heap.objs.size ∉ [(s.heap.push (Jc w)).objs.size,l]:=by
     rw [Heap.size_push]; simp only [List.mem_cons,List.not_mem_nil,or_false,not_or]; exact ⟨Nat.ne_of_lt (Nat.lt_succ_self _),Nat.ne_of_gt lS⟩
    refine Fp (P:=P) (w:=w) ((Walks.list (show A.in1.in1.in1.handled = none by simp [hh]) _ l nI items).toS) s.heap.objs.size nS (λ i=>ns.getD i 0) (λ i v hv=>IntsAre.int_at hi i v (by rw [Array.getElem?_toList]; exact hv)) hb (items.size - 0) 0 _ [] (by lia) (Nat.zero_le _)
     ⟨⟨_,Heap.get?_push_size _ rfl,rfl,rfl⟩,(hl1.push _)⟩ (Ld (Heap.get?_push_of_some _ hS)) (Nat.le_refl _) (λ z=>⟨λ q=>(nomatch q),λ ⟨j,hj,_⟩=>by lia⟩) ?_
    intro s' ks mv hS' hm hlk;obtain ⟨h',g',d',tk',os'⟩:=s';have eg:g' = s.gens:=mv.gens;have ed:d' = s.drawn:=mv.drawn;have eo:os' = s.os:=mv.os;subst eg ed eo;refine wpAny_pure (wpAny_pure ⟨rfl,h',tk',ks,rfl,hS',λ z=>(hm z).trans (getD_mem ln z),by rw [ln]; exact hlk,λ b o hb e=>?_⟩);have b2:b ≠ (s.heap.push (Jc w)).objs.size:=by rw [Heap.size_push]; exact Nat.ne_of_lt (Nat.lt_succ_of_lt hb)
    exact mv.heap b o (by simp only [List.mem_cons,List.not_mem_nil,or_false,not_or]; exact ⟨Nat.ne_of_lt hb,b2⟩) (Heap.get?_push_of_some _ (Heap.get?_push_of_some _ e))
   ·cases r₂ with
    | error e=>exact hr₂
    | ok fl₂=>
     cases fl₂ with
     | ret r=>
      obtain ⟨rfl,h',tk,ks,rfl,q1,q2,q3,q4⟩:=hr₂
      repeat (any_goals (first | assumption | wp_step))
      exact h _ _ ks q1 q2 q3 q4
     | _=>exact hr₂.elim
  | _=>exact hr.elim
end
section
variable {E:Value->Shared->Prop}
theorem Dr {src:Source} {Q:Nat->Shared->Prop} (hn:n ≠ 0) (h:∀ r,r < n->Q r { s with drawn:=s.drawn.bump src }):wpAny (model P w) A (choose src n) Q E s:=λ _ _ _=>⟨hn,h _ (Nat.mod_lt _ (Nat.pos_of_ne_zero hn))⟩
theorem Vl {α:Type}:∀ (l:List α) (r:Nat) (h:r < l.length),(l[r] :: l.eraseIdx r).Perm l
 | a :: l,0,_=>.refl _
 | a :: l,r + 1,h=>by
  rw [List.getElem_cons_succ,List.eraseIdx_cons_succ];exact (List.Perm.swap a _ _).trans ((Vl l r (Nat.lt_of_succ_lt_succ h)).cons a)
theorem El {α:Type}:∀ (n:Nat) (xs:List α) (s:Shared) (Q:List α->Shared->Prop),xs.length = n->(∀ ys d,ys.Perm xs->Q ys { s with drawn:=d })->wpAny (model P w) A (drawOrder n xs) Q E s
 | 0,xs,s,Q,hl,h=>by
  cases xs with
  | nil=>exact wpAny_pure (h [] s.drawn (.refl _))
  | cons a l=>cases hl
 | n + 1,[],s,Q,hl,h=>by cases hl
 | n + 1,a :: l,s,Q,hl,h=>by
  unfold drawOrder;refine wpAny_bind (Dr (by simp) λ r hr=>?_);rw [List.getElem?_eq_getElem hr]; dsimp only;refine wpAny_bind (El n _ _ _ (by rw [List.length_eraseIdx,if_pos hr]; simpa using hl) λ ys d hp=>wpAny_pure ?_);exact h _ d ((hp.cons _).trans (Vl _ _ hr))
theorem CP {α:Type} (next:Nat->Nat):∀ (fuel k:Nat) (left:List α) (out:Array α),left.length = fuel->(pickOrder.go next fuel k left out).toList.Perm (out.toList ++ left)
 | 0,k,left,out,hl=>by
  rw [List.length_eq_zero_iff.mp hl,List.append_nil];unfold pickOrder.go;exact .refl _
 | fuel + 1,k,left,out,hl=>by
  have hr:next k % left.length < left.length:=Nat.mod_lt _ (by lia);unfold pickOrder.go;rw [List.getElem?_eq_getElem hr]; dsimp only;refine (CP next fuel (k + 1) _ _ (by rw [List.length_eraseIdx,if_pos hr,hl]; rfl)).trans ?_;rw [Array.toList_push,List.append_assoc];exact (List.Perm.refl _).append (Vl _ _ hr)
theorem JK {α:Type} (next:Nat->Nat) (xs:Array α):(pickOrder next xs).toList.Perm xs.toList:=by
 unfold pickOrder;have:=CP next xs.size 0 xs.toList #[] (by rw [Array.length_toList])
 simpa using this
abbrev Q7 (h:Heap) (it:Addr) (first:Value) (i:Nat) (S:Addr) (n ep:Nat):Prop:=
 h.get? it = some { cls:=.type "set_iterator",dict:=none,data:=.fields #[first,rawInt i,.ref S,rawInt n,rawInt ep],slots:=#[] }
def Md (w:World) (h:Heap) (first:Value) (i:Nat) (S:Addr) (es:Bp) (ep:Nat) (t:SetTable) (L:List Value):Prop:=
 (w.params.followText "set-order" = true /\ first = rawInt 0 /\ L = (pickOrder (w.params.setOrder S ep) es).toList.map (·.2)) \/
 (w.params.followText "set-order" = false /\ ∃ (T:Addr) (ps:List Nat),first = .ref T /\ IsTup h T (ps.map λ p:Nat=>rawInt (p:Int)).toArray /\ ps.Perm (List.range es.size) /\ L = ps.map λ p=>(es.getD p (0,.none)).2) \/
 (w.params.followText "set-order" = false /\ first = rawInt (if i = 0 then 0 else t.place.getD (i - 1) 0 + 1) /\ Rsg t.place.toList /\ t.led = true /\ (t.plain = true \/ es.size <= 1) /\ L = es.toList.map (·.2))
theorem TM {it:Addr} {first x:Value} {z:Int} {Q:PySem.Fin->Shared->Prop} (hit:Q7 s.heap it first i S n ep) (hQ:∀ h',Q7 h' it (rawInt z) (i + 1) S n ep->Heap.SameBut it s.heap h'->Q (.done (.ret x)) { s with heap:=h' }) :
  wpAny (model P w) A (do setField (.ref it) 0 (rawInt z); setField (.ref it) 1 (rawInt ((i:Int) + 1)); ret x) Q E s:=by
 refine wpAny_bind (wpAny_setField_rec hit (by simp) λ h1 g1 s1=>?_);refine wpAny_bind (wpAny_setField_rec (s:={ s with heap:=h1 }) g1 (by simp) λ h2 g2 s2=>wpAny_pure ?_);exact hQ h2 g2 (s1.trans s2)
theorem ZcG {it:Addr} {first x:Value} {Q:PySem.Fin->Shared->Prop} (hit:Q7 s.heap it first i S n ep) (hQ:∀ h',Q7 h' it first (i + 1) S n ep->Heap.SameBut it s.heap h'->Q (.done (.ret x)) { s with heap:=h' }) :
  wpAny (model P w) A (do setField (.ref it) 1 (rawInt ((i:Int) + 1)); ret x) Q E s:=
 wpAny_bind (wpAny_setField_rec hit (by simp) λ h1 g1 s1=>wpAny_pure (hQ h1 g1 s1))
theorem BI {es:Bp} {t:SetTable} {Q:Bp->Shared->Prop} (ho:s.heap.get? S = some o) (hd:o.data = .set es ep t) (hf:t.fits es.size = true) (bt:w.params.followText "set-order" = true) (h:Q (pickOrder (w.params.setOrder S ep) es) s):wpAny (model P w) A (setWalk S) Q E s:=by
 unfold setWalk setsByText;refine wpAny_bind (wpAny_setState_of ho hd hf ?_); dsimp only;refine wpAny_bind (wpAny_bind (wpAny_askSetting (wpAny_pure ?_)));rw [if_pos (show (model P w).w.params.followText "set-order" = true from bt)];exact wpAny_bind (wpAny_askSetting (wpAny_pure h))
theorem below_at {xs:Array Nat} (h:Rsg xs.toList) (hi:i < xs.size):SetTable.below xs (if i = 0 then 0 else xs.getD (i - 1) 0 + 1) = i:=by
 have sp:=Yc h (if i = 0 then 0 else xs.getD (i - 1) 0 + 1);generalize SetTable.below xs (if i = 0 then 0 else xs.getD (i - 1) 0 + 1) = r at sp;obtain ⟨s1,s2,s3⟩:=sp;rw [Array.length_toList] at s3;have at':∀ k,k < xs.size->xs.toList[k]? = some (xs.getD k 0):=λ k hk=>by rw [Array.getElem?_toList,Array.getElem?_eq_getElem hk]; simp [Array.getD,hk]
 by_cases e:i = 0
 ·subst e;rw [if_pos rfl] at s1
  by_cases hr:r = 0
  ·exact hr
  ·exact absurd (s1 0 _ (by omega) (at' 0 (by omega))) (Nat.not_lt_zero _)
 ·rw [if_neg e] at s1 s2;have h1:¬ r <= i - 1:=λ z=>by
   have:=s2 _ _ z (at' (i - 1) (by omega));omega
  have h2:¬ i < r:=λ z=>by
   have a:=s1 i _ z (at' i hi);have b:=h.lt (at' (i - 1) (by omega)) (at' i hi) (by omega);omega
  omega
theorem Pw {it:Addr} {first:Value} {es:Bp} {t:SetTable} {L:List Value} {Q:Fin->Shared->Prop} (hit:Q7 s.heap it first i S n ep) (ho:s.heap.get? S = some o) (hd:o.data = .set es ep t) (hf:t.fits es.size = true) (hn:es.size = n)
  (md:Md w s.heap first i S es ep t L) (hi:i < n)
  (hQ:∀ h' v first',L[i]? = some v->Q7 h' it first' (i + 1) S n ep->Heap.SameBut it s.heap h'->(∀ h'',(∀ b o,s.heap.get? b = some o->b ≠ it->h''.get? b = some o)->Md w h'' first' (i + 1) S es ep t L)->(∀ T',first' = .ref T'->first = .ref T')->Q (.done (.ret v)) { s with heap:=h' }) :
  wpAny (model P w) A (Builtin.«set_iterator.__next__» ⟨[.ref it],[]⟩) Q E s:=by
 subst hn;show wpAny _ _ (fieldsOf (.ref it) >>= _) _ _ _;refine wpAny_bind (wpAny_fieldsOf hit rfl ?_);refine wpAny_bind (wpAny_setEntries_of ho hd hf ?_);rw [if_neg (by simp)]; dsimp only
 rcases md with ⟨bt,rfl,rfl⟩ | ⟨bt,T,ps,rfl,hT,hp,rfl⟩ | ⟨bt,rfl,up,led,pl,rfl⟩
 ·show wpAny _ _ (setNext S 0 ((i:Int)).toNat ((ep:Int)).toNat >>= _) _ _ _;rw [Int.toNat_natCast,Int.toNat_natCast];unfold setNext setsByText;refine wpAny_bind (wpAny_bind (wpAny_setState_of ho hd hf ?_)); dsimp only;refine wpAny_bind (wpAny_bind (wpAny_askSetting (wpAny_pure ?_)));rw [if_pos (show (model P w).w.params.followText "set-order" = true from bt),if_neg (by simp)];refine wpAny_bind (BI ho hd hf bt (wpAny_pure ?_));have lp:(pickOrder (w.params.setOrder S ep) es).size = es.size:=by rw [<- Array.length_toList,(JK _ es).length_eq,Array.length_toList]
  rw [Array.getElem?_eq_getElem (by rw [lp]; exact hi)];refine TM (z:=((0:Nat):Int)) hit λ h' g sb=>hQ h' _ _ ?_ g sb (λ h'' _=>.inl ⟨bt,rfl,rfl⟩) λ T' e=>nomatch e;rw [List.getElem?_map,Array.getElem?_toList,Array.getElem?_eq_getElem (by rw [lp]; exact hi)];rfl
 ·show wpAny _ _ (seqItems? (.ref T) >>= _) _ _ _;obtain ⟨oT,gT,cT,nT,dT⟩:=hT;have lp:ps.length = es.size:=by rw [hp.length_eq,List.length_range]
  refine wpAny_bind (wpAny_seqItems gT dT ?_); dsimp only;have ip:i < ps.length:=by lia
  have pe:ps[i] < es.size:=List.mem_range.mp (hp.mem_iff.mp (List.getElem_mem ip));rw [Int.toNat_natCast,List.getElem?_toArray,List.getElem?_map,List.getElem?_eq_getElem ip];show wpAny _ _ (setNextDrawn S ((ps[i]:Int)).toNat ((ep:Int)).toNat >>= _) _ _ _;rw [Int.toNat_natCast,Int.toNat_natCast]; unfold setNextDrawn;refine wpAny_bind (wpAny_bind (wpAny_setState_of ho hd hf ?_)); dsimp only;rw [if_neg (by simp),Array.getElem?_eq_getElem pe]; dsimp only;refine wpAny_pure (ZcG hit λ h' g sb=>hQ h' _ _ ?_ g sb (λ h'' kk=>.inr (.inl ⟨bt,T,ps,rfl,⟨oT,kk T oT gT ?_,cT,nT,dT⟩,hp,rfl⟩)) λ T' e=>e)
  ·rw [List.getElem?_map,List.getElem?_eq_getElem ip];simp [Array.getD,pe]
  ·intro e;rw [e,hit] at gT;cases gT;exact absurd (Value.type.inj cT) (by decide)
 ·have sz:t.place.size = es.size:=by
   unfold SetTable.fits at hf;rw [Bool.and_eq_true] at hf;exact eq_of_beq hf.1
  show wpAny _ _ (setNext S ((if i = 0 then (0:Int) else (t.place.getD (i - 1) 0:Int) + 1)).toNat ((i:Int)).toNat ((ep:Int)).toNat >>= _) _ _ _;have ez:(if i = 0 then (0:Int) else (t.place.getD (i - 1) 0:Int) + 1).toNat = (if i = 0 then 0 else t.place.getD (i - 1) 0 + 1):=by split <;> lia
  rw [ez,Int.toNat_natCast,Int.toNat_natCast];unfold setNext setsByText;refine wpAny_bind (wpAny_bind (wpAny_setState_of ho hd hf ?_)); dsimp only;refine wpAny_bind (wpAny_bind (wpAny_askSetting (wpAny_pure ?_)));rw [if_neg (show ¬ (model P w).w.params.followText "set-order" = true by rw [show (model P w).w.params.followText "set-order" = false from bt]; exact Bool.false_ne_true)];have nd:(!t.plain && decide (es.size > 1)) = false:=by
   rcases pl with pl | pl
   ·rw [pl]; rfl
   ·rw [decide_eq_false (by lia),Bool.and_false]
  show wpAny _ _ (if (!t.plain && decide (es.size > 1)) = true then _ else _) _ _ _;rw [nd,if_neg Bool.false_ne_true];show wpAny _ _ ((if (!t.led && !es.isEmpty) = true then unsupported "set:maker-not-led" else pure ()) >>= _) _ _ _;rw [led]; simp only [Bool.not_true,Bool.false_and,Bool.false_eq_true,if_false];refine wpAny_bind (wpAny_pure (wpAny_pure ?_));rw [below_at up (by rw [sz]; exact hi),Array.getElem?_eq_getElem hi,Array.getElem?_eq_getElem (by rw [sz]; exact hi)]; dsimp only;refine TM (z:=((t.place[i]'(by rw [sz]; exact hi) + 1:Nat):Int)) hit λ h' g sb=>hQ h' _ _ ?_ g sb (λ h'' _=>.inr (.inr ⟨bt,?_,up,led,pl,rfl⟩)) λ T' e=>nomatch e
  ·rw [List.getElem?_map,Array.getElem?_toList,Array.getElem?_eq_getElem hi];rfl
  ·rw [if_neg (Nat.succ_ne_zero i)];simp [Array.getD,sz,hi]
end
theorem QH:Slot "set_iterator" "__next__" "set_iterator.__next__" := .of (owner := "set_iterator") (n := "__next__") (by rw [typeLookup_type,builtinLookup_eq_fast]; kernel_rfl) (by walk_at "k") (by walk_at "k") (by walk_at "k") (by first | exact .inl (by walk_at "k") | exact .inr (by walk_at "k")) (by rw [isSubtype_type]; kernel_rfl)
theorem KR:entryFor table "set_iterator.__next__" = some Builtin.«set_iterator.__next__» := entryFor_of_tree (by kernel_rfl)
theorem Uy (a:Value):argsOk "set_iterator.__next__" ⟨[a],[]⟩:=by unfold argsOk; kernel_rfl
theorem KN:Slot "set_iterator" "__iter__" "set_iterator.__iter__" := .of (owner := "set_iterator") (n := "__iter__") (by rw [typeLookup_type,builtinLookup_eq_fast]; kernel_rfl) (by walk_at "k") (by walk_at "k") (by walk_at "k") (by first | exact .inl (by walk_at "k") | exact .inr (by walk_at "k")) (by rw [isSubtype_type]; kernel_rfl)
theorem Gy:entryFor table "set_iterator.__iter__" = some Builtin.«dict_keyiterator.__iter__» :=
 entryFor_alias (id' := "dict_keyiterator.__iter__") (by kernel_rfl) (by first | rfl | decide +kernel | (unfold String.splitOn; simp +decide [String.splitOnAux])) (by walk_at "k") (by kernel_rfl)
theorem C6 (a:Value):argsOk "set_iterator.__iter__" ⟨[a],[]⟩:=by unfold argsOk; kernel_rfl
theorem Wn:entryFor table "set.__iter__" = some Builtin.«frozenset.__iter__» :=
 entryFor_alias (id' := "frozenset.__iter__") (by kernel_rfl) (by first | rfl | decide +kernel | (unfold String.splitOn; simp +decide [String.splitOnAux])) (by walk_at "k") (by kernel_rfl)
section
variable {E:Value->Shared->Prop}
theorem BB {α:Type} {Q:α->Shared->Prop} (hh:A.handled = none) (hE:∀ h' e,(∀ b o,s.heap.get? b = some o->h'.get? b = some o)->(∃ o,h'.get? e = some o /\ o.cls = .type "StopIteration")->E (.ref e) { s with heap:=h' }) :
  wpAny (model P w) A (newExc (.type "StopIteration") [] >>= λ e=>(raiseNew e:Sem α)) Q E s:=by
 refine wpAny_bind ?_;simp only [newExc,newTuple];refine wpAny_bind (wpAny_newObj_type ?_ (by size_fits));refine wpAny_bind (m:=firstArgMember _ _) (wpAny_of_eq (a:=Value.none) (by first | rfl | (simp only [firstArgMember]; rfl)) ?_);refine wpAny_newObj_type ?_ (by size_fits);simp only [raiseNew];refine wpAny_bind (wpAny_handled ?_);rw [hh];refine wpAny_bind (wpAny_pure (wpAny_throw ?_));exact hE _ _ (λ b o q=>Heap.get?_push_of_some _ (Heap.get?_push_of_some _ q)) ⟨_,Heap.get?_push_size _ rfl,rfl⟩
theorem Zaa {it:Addr} {first:Value} {es:Bp} {t:SetTable} {L:List Value} {Q:PySem.Fin->Shared->Prop} (hh:A.handled = none) (hit:Q7 s.heap it first n S n ep) (ho:s.heap.get? S = some o) (hd:o.data = .set es ep t) (hf:t.fits es.size = true) (hn:es.size = n)
  (md:Md w s.heap first n S es ep t L) (hE:∀ h' e,(∀ b o,b ≠ it->s.heap.get? b = some o->h'.get? b = some o)->(∃ o,h'.get? e = some o /\ o.cls = .type "StopIteration")->E (.ref e) { s with heap:=h' }) :
  wpAny (model P w) A (Builtin.«set_iterator.__next__» ⟨[.ref it],[]⟩) Q E s:=by
 subst hn;have fin:wpAny (model P w) A (do setField (.ref it) 2 .none; raiseNew (<- newExc (.type "StopIteration") []):Sem PySem.Fin) Q E s:=
  wpAny_bind (wpAny_setField_rec hit (by simp) λ h1 g1 s1=>BB (s:={ s with heap:=h1 }) hh λ h' e k x=>hE h' e (λ b o hb q=>k b o ((s1.2 b hb).trans q)) x)
 show wpAny _ _ (fieldsOf (.ref it) >>= _) _ _ _;refine wpAny_bind (wpAny_fieldsOf hit rfl (wpAny_bind (wpAny_setEntries_of ho hd hf ?_)));rw [if_neg (by simp)]; dsimp only
 rcases md with ⟨bt,rfl,rfl⟩ | ⟨bt,T,ps,rfl,hT,hp,rfl⟩ | ⟨bt,rfl,up,led,pl,rfl⟩
 ·show wpAny _ _ (setNext S 0 ((es.size:Int)).toNat ((ep:Int)).toNat >>= _) _ _ _;rw [Int.toNat_natCast,Int.toNat_natCast]; unfold setNext setsByText;refine wpAny_bind (wpAny_bind (wpAny_setState_of ho hd hf (wpAny_bind (wpAny_bind (wpAny_askSetting (wpAny_pure ?_))))));rw [if_pos (show (model P w).w.params.followText "set-order" = true from bt),if_neg (by simp)];refine wpAny_bind (BI ho hd hf bt (wpAny_pure ?_));have lp:(pickOrder (w.params.setOrder S ep) es).size = es.size:=by rw [<- Array.length_toList,(JK _ es).length_eq,Array.length_toList]
  rw [Array.getElem?_eq_none (by rw [lp]; exact Nat.le_refl _)];exact fin
 ·show wpAny _ _ (seqItems? (.ref T) >>= _) _ _ _;obtain ⟨oT,gT,cT,nT,dT⟩:=hT;have lp:ps.length = es.size:=by rw [hp.length_eq,List.length_range]
  refine wpAny_bind (wpAny_seqItems gT dT ?_); dsimp only;rw [Int.toNat_natCast,List.getElem?_toArray,List.getElem?_map,List.getElem?_eq_none (by lia)]; dsimp only [Option.map_none];refine wpAny_bind (wpAny_setField_rec hit (by simp) λ h0 g0 s0=>?_);exact wpAny_bind (wpAny_setField_rec (s:={ s with heap:=h0 }) g0 (by simp) λ h1 g1 s1=>BB (s:={ s with heap:=h1 }) hh λ h' e k x=>hE h' e (λ b o hb q=>k b o ((s1.2 b hb).trans ((s0.2 b hb).trans q))) x)
 ·have sz:t.place.size = es.size:=by
   unfold SetTable.fits at hf;rw [Bool.and_eq_true] at hf;exact eq_of_beq hf.1
  show wpAny _ _ (setNext S ((if es.size = 0 then (0:Int) else (t.place.getD (es.size - 1) 0:Int) + 1)).toNat ((es.size:Int)).toNat ((ep:Int)).toNat >>= _) _ _ _;rw [Int.toNat_natCast,Int.toNat_natCast]; unfold setNext setsByText;refine wpAny_bind (wpAny_bind (wpAny_setState_of ho hd hf (wpAny_bind (wpAny_bind (wpAny_askSetting (wpAny_pure ?_))))));rw [if_neg (show ¬ (model P w).w.params.followText "set-order" = true by rw [show (model P w).w.params.followText "set-order" = false from bt]; exact Bool.false_ne_true)];have nd:(!t.plain && decide (es.size > 1)) = false:=by
   rcases pl with pl | pl
   ·rw [pl]; rfl
   ·rw [decide_eq_false (by lia),Bool.and_false]
  show wpAny _ _ (if (!t.plain && decide (es.size > 1)) = true then _ else _) _ _ _;rw [nd,if_neg Bool.false_ne_true];show wpAny _ _ ((if (!t.led && !es.isEmpty) = true then unsupported "set:maker-not-led" else pure ()) >>= _) _ _ _;rw [led]; simp only [Bool.not_true,Bool.false_and,Bool.false_eq_true,if_false];refine wpAny_bind (wpAny_pure (wpAny_pure ?_));have bl:SetTable.below t.place ((if es.size = 0 then (0:Int) else (t.place.getD (es.size - 1) 0:Int) + 1)).toNat = es.size:=by
   obtain ⟨s1,s2,s3⟩:=Yc up ((if es.size = 0 then (0:Int) else (t.place.getD (es.size - 1) 0:Int) + 1)).toNat;rw [Array.length_toList,sz] at s3
   by_cases e:es.size = 0
   ·lia
   ·rw [if_neg e] at s1 s2 s3 ⊢
    by_cases hr:SetTable.below t.place ((t.place.getD (es.size - 1) 0:Int) + 1).toNat <= es.size - 1
    ·have:=s2 _ _ hr (show t.place.toList[es.size - 1]? = some (t.place.getD (es.size - 1) 0) by rw [Array.getElem?_toList,Array.getElem?_eq_getElem (by lia)]; simp [Array.getD,sz]; lia);lia
    ·lia
  rw [bl,Array.getElem?_eq_none (Nat.le_refl _)];exact fin
def Zak (w:World) (it S T:Addr) (es:Bp) (ep:Nat) (t:SetTable) (L:List Value) (i:Nat) (h:Heap):Prop:=
 ∃ first o,Q7 h it first i S es.size ep /\ h.get? S = some o /\ o.data = .set es ep t /\ t.fits es.size = true /\ Md w h first i S es ep t L /\ ∀ T',first = .ref T'->T' = T
theorem Md.keep {first:Value} {es:Bp} {t:SetTable} {L:List Value} (md:Md w h first i S es ep t L) (k:∀ T,first = .ref T->∀ o,h.get? T = some o->h'.get? T = some o):Md w h' first i S es ep t L:=by
 rcases md with md | ⟨bt,T,ps,e,⟨o,g,r⟩,r'⟩ | md
 ·exact .inl md
 ·exact .inr (.inl ⟨bt,T,ps,e,⟨o,k T e o g,r⟩,r'⟩)
 ·exact .inr (.inr md)
theorem Ey {es:Bp} {t:SetTable} {L:List Value} (hh:A.handled = none) (it S T:Addr) (hS:S ≠ it) (hT:T ≠ it):Walks P w A it [it,S,T] [it] es.size (λ i v=>L[i]? = some v) (Zak w it S T es ep t L) where
 sub:=λ b hb=>by simp at hb; simp [hb]
 frame:=λ i h h' st hk=>by
  obtain ⟨first,o,g1,g2,d,f,md,hf⟩:=st;exact ⟨first,o,hk it (by simp) _ g1,hk S (by simp) _ g2,d,f,md.keep λ T' e o q=>hk T' (by rw [hf T' e]; simp) o q,hf⟩
 item:=λ i s Q E hi st hQ=>by
  obtain ⟨first,o,g1,g2,d,f,md,hf⟩:=st;have hTy:s.TypeIs (.ref it) "set_iterator" := ⟨_,g1,rfl⟩
  unfold pyNext;refine wpAny_bind (wpAny_attempt (wpAny_callSpecial?_slot (name:=Str.ofString "__next__") hTy QH (wpAny_call_entry QH hTy KR (Pw g1 g2 d f rfl md hi λ h' v first' hv g' sb mk fr=>⟨v,rfl,wpAny_pure ?_⟩) (Uy _))));exact hQ v h' s.toks hv ⟨first',o,g',(sb.2 S hS).trans g2,d,f,mk h' λ b o q hb=>(sb.2 b hb).trans q,λ T' e=>hf T' (fr T' e)⟩ λ b o hb q=>(sb.2 b λ e=>hb (by simp [e])).trans q
 done:=λ s Q E st hQ=>by
  obtain ⟨first,o,g1,g2,d,f,md,hf⟩:=st;have hTy:s.TypeIs (.ref it) "set_iterator" := ⟨_,g1,rfl⟩
  unfold pyNext;refine wpAny_bind (wpAny_attempt (wpAny_callSpecial?_slot (name:=Str.ofString "__next__") hTy QH (wpAny_call_entry QH hTy KR (Zaa (by first | exact hh | simp [hh]) g1 g2 d f rfl md λ h' e k x=>?_) (Uy _))));obtain ⟨oe,ge,ce⟩:=x;refine wpAny_bind (wpAny_isInstance (T := "StopIteration") (b:=true) ⟨oe,ge,ce⟩ isSubtype_stop (wpAny_pure ?_));exact hQ h' s.toks λ b o hb q=>k b o (λ e=>hb (by simp [e])) q
 self:=λ i s Q E st hQ=>by
  obtain ⟨first,o,g1,_⟩:=st;have hTy:s.TypeIs (.ref it) "set_iterator" := ⟨_,g1,rfl⟩
  refine wpAny_pyIter_slot hTy KN (wpAny_call_entry KN hTy Gy ?_ (C6 _));exact wpAny_pure ⟨_,rfl, "set_iterator",_,hTy,QH.lookup,hQ⟩
theorem P0 {Q:Value->Shared->Prop} (hS:SI P w s.heap S ks)
  (hQ:∀ it T es ep t L h' d,Zak w it S T es ep t L 0 h'->S ≠ it->T ≠ it->s.heap.objs.size <= it->(T = S \/ s.heap.objs.size <= T)->(L.map Bv).Perm ks->(∀ v ∈ L,∃ t,v = .int (Bv v) t)->es.size = ks.length->(∀ b o,s.heap.get? b = some o->h'.get? b = some o)->Q (.ref it) { s with heap:=h',drawn:=d }) :
  wpAny (model P w) A (pyIter (.ref S)) Q E s:=by
 obtain ⟨o,es,t,g,so,rfl⟩:=hS;obtain ⟨ep,hd⟩:=so.dt;have hTy:s.TypeIs (.ref S) "set" := ⟨o,g,so.ex.1⟩
 have all:∀ v ∈ es.toList.map (·.2),∃ t,v = .int (Bv v) t:=λ v hv=>by
  obtain ⟨e,he,rfl⟩:=List.mem_map.mp hv;exact U0 so.el he
 have len:es.size = (Yu es).length:=by unfold Yu; rw [List.length_map,Array.length_toList]
 have lt:S < s.heap.objs.size:=Heap.lt_size g;refine wpAny_pyIter_slot hTy PySem.F.slot_set_iter (wpAny_call_entry PySem.F.slot_set_iter hTy Wn ?_ (PySem.F.args_set_iter_1 _));show wpAny _ _ (Builtin.Frozenset.sizeOf S >>= _) _ _ _;unfold Builtin.Frozenset.sizeOf;refine wpAny_bind (wpAny_bind (wpAny_setEntries_of g hd so.ft (wpAny_pure ?_)));unfold setDrawn setsByText;refine wpAny_bind (wpAny_bind (wpAny_setState_of g hd so.ft ?_)); dsimp only;refine wpAny_bind (wpAny_bind (wpAny_askSetting (wpAny_pure (wpAny_pure ?_))))
 have fin:∀ (first:Value) (s₁:Shared),s₁.heap.get? S = some o->wpAny (model P w) A.in1 (do
    let e <- setEpoch S
    let it <- newFields "set_iterator" [first,rawInt 0,Value.ref S,rawInt (es.size:Int),rawInt (e:Int)]
    ret it) (λ fin s'=>∃ v,fin = PySem.Fin.done (Flow.ret v) /\ v = .ref s₁.heap.objs.size /\ s' = { s₁ with heap:=s₁.heap.push { cls:=.type "set_iterator",dict:=none,data:=.fields #[first,rawInt 0,.ref S,rawInt es.size,rawInt ep],slots:=#[] } }) E s₁:=λ first s₁ g₁=>by
  refine wpAny_bind (wpAny_setEpoch_of g₁ hd so.ft ?_);unfold newFields;refine wpAny_bind (wpAny_newObj_type ?_ (by size_fits));exact wpAny_pure ⟨_,rfl,rfl,rfl⟩
 have nx:∀ (s':Shared) (it:Addr) (first:Value),s'.heap.get? it = some { cls:=.type "set_iterator",dict:=none,data:=.fields #[first,rawInt 0,.ref S,rawInt es.size,rawInt ep],slots:=#[] }->s'.TypeIs (.ref it) "set_iterator" := λ _ _ _ q=>⟨_,q,rfl⟩;show wpAny _ _ (if (!w.params.followText "set-order" && (!t.plain && decide (es.size > 1))) = true then _ else _) _ _ _;cases bt:w.params.followText "set-order" with
 | true=>
  simp only [Bool.not_true,Bool.false_and,Bool.false_eq_true,if_false];refine wpAny_bind (wpAny_pure (wpAny_mono (fin (rawInt 0) s g) (λ r s' ⟨v,e1,e2,e3⟩=>?_) λ _ _ q=>q));subst e1 e2 e3;have gi:(s.heap.push { cls:=.type "set_iterator",dict:=none,data:=.fields #[rawInt 0,rawInt 0,.ref S,rawInt es.size,rawInt ep],slots:=#[] }).get? s.heap.objs.size = some _:=Heap.get?_push_size _ rfl;refine ⟨_,rfl, "set_iterator",_,nx _ _ _ gi,QH.lookup,hQ _ S es ep t _ _ s.drawn ⟨_,o,gi,Heap.get?_push_of_some _ g,hd,so.ft,.inl ⟨bt,rfl,rfl⟩,λ T' e=>nomatch e⟩ (Nat.ne_of_lt lt) (Nat.ne_of_lt lt) (Nat.le_refl _) (.inl rfl) ?_ ?_ len λ b o q=>Heap.get?_push_of_some _ q⟩
  ·rw [List.map_map];exact (JK _ es).map _
  ·intro v hv;exact all v (((JK _ es).map _).mem_iff.mp hv)
 | false=>
  cases dr:(!t.plain && decide (es.size > 1)) with
  | false=>
   simp only [Bool.not_false,Bool.true_and,Bool.false_eq_true,if_false];refine wpAny_bind (wpAny_pure (wpAny_mono (fin (rawInt 0) s g) (λ r s' ⟨v,e1,e2,e3⟩=>?_) λ _ _ q=>q));subst e1 e2 e3;have gi:(s.heap.push { cls:=.type "set_iterator",dict:=none,data:=.fields #[rawInt 0,rawInt 0,.ref S,rawInt es.size,rawInt ep],slots:=#[] }).get? s.heap.objs.size = some _:=Heap.get?_push_size _ rfl;have pl:t.plain = true \/ es.size <= 1:=by
    cases hp:t.plain with
    | true=>exact .inl rfl
    | false=>
     rw [hp] at dr;have:=of_decide_eq_false (show decide (es.size > 1) = false from dr);exact .inr (by lia)
   have up:Rsg t.place.toList:=by
    rcases pl with pl | pl
    ·exact so.ok.up pl
    ·have sz:t.place.toList.length <= 1:=by
      have hf:=so.ft;unfold SetTable.fits at hf;rw [Bool.and_eq_true] at hf;rw [Array.length_toList,eq_of_beq hf.1];exact pl
     match t.place.toList,sz with
     | [],_=>exact List.Pairwise.nil
     | [a],_=>exact List.pairwise_singleton _ _
   refine ⟨_,rfl, "set_iterator",_,nx _ _ _ gi,QH.lookup,hQ _ S es ep t _ _ s.drawn ⟨_,o,gi,Heap.get?_push_of_some _ g,hd,so.ft,.inr (.inr ⟨bt,rfl,up,by rw [so.ok.led,bt]; rfl,pl,rfl⟩),λ T' e=>nomatch e⟩ (Nat.ne_of_lt lt) (Nat.ne_of_lt lt) (Nat.le_refl _) (.inl rfl) ?_ all len λ b o q=>Heap.get?_push_of_some _ q⟩;rw [List.map_map];exact .refl _
  | true=>
   simp only [Bool.not_false,Bool.true_and,if_true];refine wpAny_bind (El _ _ _ _ List.length_range λ ps d hp=>?_);have lp:ps.length = es.size:=by rw [hp.length_eq,List.length_range]
   refine wpAny_bind (wpAny_newTuple ?_ (by rw [List.length_map,lp]; exact fits_of_scanBound so.bd));refine wpAny_mono (fin (.ref s.heap.objs.size) _ (Heap.get?_push_of_some _ g)) (λ r s' ⟨v,e1,e2,e3⟩=>?_) λ _ _ q=>q;subst e1 e2 e3;have sz:(s.heap.push { cls:=.type "tuple",data:=.seq (ps.map λ p:Nat=>rawInt (p:Int)).toArray }).objs.size = s.heap.objs.size + 1:=Heap.size_push ..;have gT:(s.heap.push { cls:=.type "tuple",data:=.seq (ps.map λ p:Nat=>rawInt (p:Int)).toArray }).get? s.heap.objs.size = some _:=Heap.get?_push_size _ rfl;have gi:((s.heap.push { cls:=.type "tuple",data:=.seq (ps.map λ p:Nat=>rawInt (p:Int)).toArray }).push { cls:=.type "set_iterator",dict:=none,data:=.fields #[.ref s.heap.objs.size,rawInt 0,.ref S,rawInt es.size,rawInt ep],slots:=#[] }).get? (s.heap.push { cls:=.type "tuple",data:=.seq (ps.map λ p:Nat=>rawInt (p:Int)).toArray }).objs.size = some _:=Heap.get?_push_size _ rfl;have pm:(ps.map λ p=>(es.getD p (0,Value.none)).2).Perm (es.toList.map (·.2)):=by
    refine (hp.map _).trans (.of_eq ?_);refine List.ext_getElem (by simp) λ i h1 h2=>?_;have hi:i < es.size:=by simpa using h1
    simp [Array.getD,hi]
   refine ⟨_,rfl, "set_iterator",_,nx _ _ _ gi,QH.lookup,hQ _ s.heap.objs.size es ep t _ _ d ⟨_,o,gi,Heap.get?_push_of_some _ (Heap.get?_push_of_some _ g),hd,so.ft,.inr (.inl ⟨bt,s.heap.objs.size,ps,rfl,⟨_,Heap.get?_push_of_some _ gT,rfl,_,rfl⟩,hp,rfl⟩),λ T' e=>by cases e; rfl⟩ ?_ ?_ ?_ (.inr (Nat.le_refl _)) ?_ ?_ len λ b o q=>Heap.get?_push_of_some _ (Heap.get?_push_of_some _ q)⟩
   ·intro e;rw [sz] at e;exact absurd e (Nat.ne_of_lt (Nat.lt_succ_of_lt lt))
   ·intro e;rw [sz] at e;exact absurd e (Nat.ne_of_lt (Nat.lt_succ_self _))
   ·rw [sz];exact Nat.le_succ _
   ·have:=pm.map Bv;rw [List.map_map (f:=λ x:Int × Value=>x.2)] at this;exact this
   ·intro v hv;exact all v (pm.mem_iff.mp hv)
end
theorem ND:Slot "set" "__len__" "set.__len__" := .of (owner := "set") (n := "__len__") (by rw [typeLookup_type,builtinLookup_eq_fast]; kernel_rfl) (by walk_at "k") (by walk_at "k") (by walk_at "k") (by first | exact .inl (by walk_at "k") | exact .inr (by walk_at "k")) (by rw [isSubtype_type]; kernel_rfl)
theorem Cd:∀ L:List Value,(∀ v ∈ L,∃ t,v = .int (Bv v) t)->IntsAre L (L.map Bv)
 | [],_=>.nil
 | v :: L,h=>by
  obtain ⟨t,e⟩:=h v List.mem_cons_self;have:=Cd L λ x hx=>h x (List.mem_cons_of_mem _ hx);rw [List.map_cons,e];exact .cons _ t this
section
variable {E:Value->Shared->Prop}
theorem Ue {Q:List Value->Shared->Prop} (hh:A.handled = none) (hS:SI P w s.heap S ks)
  (hQ:∀ (vs:List Value) (s':Shared),IntsAre vs (vs.map Bv)->(vs.map Bv).Perm ks->s'.gens = s.gens->s'.os = s.os->s.toks <= s'.toks->(∀ b o,s.heap.get? b = some o->s'.heap.get? b = some o)->Q vs s') :
  wpAny (model P w) A (collect (.ref S)) Q E s:=by
 have hz:=hS.size;obtain ⟨o,es0,t0,g,so,e0⟩:=id hS;have lt:S < s.heap.objs.size:=Heap.lt_size g;unfold collect;refine wpAny_bind (wpAny_runValue (codeAny_builtin PySem.F.entry_proto_collect ?_)); rw [Around.under_plainId PySem.F.plain_proto_collect _];show wpAny _ A.in1 (newList [] >>= λ l=>again (.builtin "list.__iadd__" ⟨[l,.ref S],[]⟩)) _ _ s;refine wpAny_bind (wpAny_newObj_type (wpAny_pure ⟨plainId_quiet PySem.F.plain_list_iadd _,codeAny_builtin PySem.F.entry_list_iadd ?_⟩)); rw [Around.under_plainId PySem.F.plain_list_iadd _];show wpAny _ A.in1 (Builtin.List.listExtendWith (.ref s.heap.objs.size) (.ref S) (.ref s.heap.objs.size)) _ _ _;have hS1:SI P w (s.heap.push { cls:=.type "list",data:=.seq ([]:List Value).toArray }) S ks:=hS.same λ o q=>Heap.get?_push_of_some _ q;have hTy:Shared.TypeIs { s with heap:=s.heap.push { cls:=.type "list",data:=.seq ([]:List Value).toArray } } (.ref S) "set" := ⟨o,Heap.get?_push_of_some _ g,so.ex.1⟩
 unfold Builtin.List.listExtendWith;refine wpAny_bind (wpAny_typeOf hTy ?_);have h1:Builtin.List.listSameRef (.ref s.heap.objs.size) (.ref S) = false:=by simp [Builtin.List.listSameRef]; exact λ e=>absurd e (Nat.ne_of_gt lt)
 simp only [h1,show (Value.type "set" == Value.type "list") = false by decide,show (Value.type "set" == Value.type "tuple") = false by decide,Bool.or_false,Bool.false_eq_true,if_false];refine wpAny_bind (P0 hS1 λ it T es ep t L h2 d st nS nT lit lT pL hL len k2=>?_);have hTy2:Shared.TypeIs { s with heap:=h2,drawn:=d } (.ref S) "set" := ⟨o,k2 S o (Heap.get?_push_of_some _ g),so.ex.1⟩
 refine wpAny_bind (wpAny_holding ?_);unfold Builtin.List.listLengthHint;refine wpAny_bind (wpAny_specialOf hTy2 ND.lookup ?_)
 (generalize hid:("set.__len__" : String) = id0; (fail_if_success (clear hid id0)); wp_delta; rw [show splitId id0 = some ("set", "__len__") from by subst hid; decide +kernel]; subst hid)
 refine wpAny_bind (wpAny_isInstance (b:=true) hTy2 sub_set_self ?_);rw [if_neg (by decide)]; dsimp only;rw [if_pos (by walk_at "k")];refine wpAny_bind (wpAny_typeOf hTy2 (wpAny_pure ?_));rw [if_pos (by walk_at "k")];have gN:h2.get? s.heap.objs.size = some { cls:=.type "list",data:=.seq ([]:List Value).toArray }:=k2 _ _ (Heap.get?_push_size _ rfl);have szp:(s.heap.push { cls:=.type "list",data:=.seq ([]:List Value).toArray }).objs.size = s.heap.objs.size + 1:=size_push' _ _;have nN:s.heap.objs.size ∉ [it,S,T]:=λ hm=>by
  rw [show (Shared.heap { s with heap:=s.heap.push { cls:=.type "list",data:=.seq ([]:List Value).toArray } }).objs.size = s.heap.objs.size + 1 from szp] at lit lT;simp at hm
  rcases hm with e | e | e
  ·lia
  ·exact absurd e (Nat.ne_of_gt lt)
  ·rcases lT with q | q
   ·exact absurd (e.trans q) (Nat.ne_of_gt lt)
   ·lia
 have W:=(Ey (P:=P) (w:=w) (A:=A.in1) (es:=es) (ep:=ep) (t:=t) (L:=L) hh it S T nS nT)
 have g2:=Heap.get?_update_self (Obj.mapSeq (·.push Value.none)) gN rfl;have g3:=Heap.get?_update_self (Obj.mapSeq (·.pop)) g2 rfl;have oth:∀ b o,b ≠ s.heap.objs.size->h2.get? b = some o->((h2.update s.heap.objs.size (Obj.mapSeq (·.push Value.none))).update s.heap.objs.size (Obj.mapSeq (·.pop))).get? b = some o:=
  λ b o hb e=>(Heap.get?_update_other _ _ (Ne.symm hb)).trans ((Heap.get?_update_other _ _ (Ne.symm hb)).trans e)
 refine wpAny_bind (wpAny_rule (wpAny_bind ?_));show wpAny _ A.in1 (updateSeq s.heap.objs.size (·.push .none) >>= λ _=>updateSeq s.heap.objs.size (·.pop)) _ _ _;refine wpAny_bind (wpAny_updateSeq gN rfl (wpAny_updateSeq g2 rfl ?_));have lL:L.length = es.size:=by rw [len,<- pL.length_eq,List.length_map]
 refine wpAny_pure ⟨plainId_quiet PySem.F.plain_extend_loop _,codeAny_extend_loopS W.toS (by rw [len]; exact Nat.le_trans (Nat.le_of_lt hz) (by decide)) _ nN _ es.size 0 _ _ _ rfl (Nat.zero_le _) (W.frame 0 h2 _ st λ b hb o e=>oth b o (λ q=>nN (q ▸ hb)) e) g3 (ItemsOf.nil _) λ s' acc c hm hS' hacc=>?_⟩;have eL:acc.toList = L:=by
  refine List.ext_getElem? λ j=>?_
  by_cases hj:j < acc.size
  ·rw [Array.getElem?_toList,Array.getElem?_eq_getElem hj];exact (hacc.2 j _ (Array.getElem?_eq_getElem hj)).symm
  ·rw [List.getElem?_eq_none (by rw [Array.length_toList]; lia),List.getElem?_eq_none (by rw [lL,<- hacc.1]; lia)]
 show wpAny _ A (load s.heap.objs.size >>= _) _ _ s';refine wpAny_bind (wpAny_load hS' (wpAny_pure ?_));rw [eL];refine hQ L s' (Cd L hL) pL hm.gens hm.os hm.toks λ b o q=>?_;have bl:b < s.heap.objs.size:=Heap.lt_size q;refine hm.heap b o (λ hb=>?_) (oth b o (Nat.ne_of_lt bl) (k2 b o (Heap.get?_push_of_some _ q)));rw [show (Shared.heap { s with heap:=s.heap.push { cls:=.type "list",data:=.seq ([]:List Value).toArray } }).objs.size = s.heap.objs.size + 1 from szp] at lit
 rcases List.mem_cons.mp hb with e | e
 ·exact absurd e (Nat.ne_of_lt bl)
 ·rw [List.mem_singleton.mp e] at bl; exact absurd (Nat.lt_of_lt_of_le bl (Nat.le_of_succ_le lit)) (Nat.lt_irrefl _)
end
theorem SI.nodup (q:SI P w h a ks):ks.Nodup:=by
 obtain ⟨o,es,t,_,so,rfl⟩:=q;exact so.nd
theorem F1 {vs:List Value} {out:Array Value} {b:Addr} (q:h.get? b = some o):(sortedHeap (h.push (seqObj "list" vs.toArray 0)) h.objs.size vs out).get? b = some o:=by
 have bl:b < h.objs.size:=Heap.lt_size q;unfold sortedHeap;exact (Heap.get?_update_other _ _ (Nat.ne_of_gt bl)).trans (Heap.get?_push_of_some _ (Heap.get?_push_of_some _ ((Heap.get?_update_other _ _ (Nat.ne_of_gt bl)).trans (Heap.get?_push_of_some _ q))))
theorem NF (h:Heap) (vs:List Value) (out:Array Value):∃ e,(sortedHeap (h.push (seqObj "list" vs.toArray 0)) h.objs.size vs out).get? h.objs.size = some (seqObj "list" out e):=by
 unfold sortedHeap;have h1:(h.push (seqObj "list" vs.toArray 0)).get? h.objs.size = some (seqObj "list" vs.toArray 0):=Heap.get?_push_size _ rfl;exact ⟨_,get?_update_seq (Heap.get?_push_of_some _ (Heap.get?_push_of_some _ (get?_update_seq h1 (λ _=>#[])))) (λ _=>out)⟩
section
variable {E:Value->Shared->Prop}
theorem GZ {Q:Value->Shared->Prop} (hh:A.handled = none) (hS:SI P w s.heap S ks) (h64:ks.length < 64)
  (h:∀ (out:Array Value) (ns:List Int) (s1:Shared) (h':Heap) (e:Nat),IntsAre out.toList ns->ns.Perm ks->ns.Pairwise (· <= ·)->s1.gens = s.gens->s1.os = s.os->(∀ b o,s.heap.get? b = some o->s1.heap.get? b = some o)->(∀ b o,s1.heap.get? b = some o->h'.get? b = some o)->h'.get? s1.heap.objs.size = some (seqObj "list" out e)->Q (.ref s1.heap.objs.size) { s1 with heap:=h' }) :
  wpAny (model P w) A (call (.builtin "sorted") [.ref S]) Q E s:=by
 refine Calls.call_function_entry kind_sorted plain_sorted entry_sorted (args_sorted1 _) ?_; unfold Builtin.«sorted»;refine wpAny_bind (m:=checkCount "sorted" 1 1 _) (wpAny_pure (wpAny_bind (Ue (by exact hh) hS λ vs s1 a1 a2 a3 a4 a5 a6=>wpAny_bind (wpAny_newList ?_ (by have:=a2.length_eq; rw [List.length_map] at this; rw [sizeLine_eq]; lia)))));have hoL:(s1.heap.push (seqObj "list" vs.toArray 0)).get? s1.heap.objs.size = some (seqObj "list" vs.toArray 0):=Heap.get?_push_size _ rfl;have hl:vs.length < 64:=by have:=a2.length_eq; rw [List.length_map] at this; lia
 show wpAny _ _ _ _ _ { s1 with heap:=s1.heap.push (seqObj "list" vs.toArray 0) };refine wpAny_bind (wpAny_holding (wpAny_call_entry slot_list_sort ⟨_,hoL,rfl⟩ entry_list_sort (list_sort_tree hoL a1 hl λ out ns' b1 b2 b3=>⟨_,rfl,?_⟩) (args_list_sort _)));obtain ⟨e,he⟩:=NF s1.heap vs out;exact wpAny_pure ⟨_,rfl,h out ns' s1 _ e b1 (b2.trans a2) b3 a3 a4 a6 (λ b o q=>F1 q) he⟩
end
section
variable {t:TA} {p pos p2 pos2:Pos}
def tSS (X:Cx) (t:TA):TE:=λ Z H Q=>t Z H λ xs H1=>∃ (l:Addr) (ns:List Int),xs = [.ref l] /\ SqL X.K H1 l (ns.map V.int) /\ ns.length < 64 /\ ∀ ks:List Int,ks.Pairwise (· <= ·)->ks.Nodup->(∀ z,z ∈ ks ↔ z ∈ ns)->∀ l,H1 l = none->Q (.ref l) (upd H1 l (.lst (ks.map V.int)))
theorem X4 (hc:X.calm = true) (hg:Gl X "sorted") (hm:X.mg "sorted" = none) (hg2:Gl X "set") (hm2:X.mg "set" = none) (ha:PA X [e] t) (he:autoParam (starEach [e] X.env = [(false,eval e X.env)]) zz3._auto_1) :
  PE X (.Call (.Name "sorted" p) [.Call (.Name "set" p2) [e] [] pos2] [] pos) (tSS X t):=by
 intro pins s Z H Q I h;refine wpAny_Call_Name_kw (Ys I hg hm (u:=.builtin "sorted") (by rfl) ?_ (by decide) (by decide));refine PyProof.Rows.callWith_builtin1 ?_ (by rfl) (by rfl);refine Calls.spliced_cons (wpAny_Call_Name_kw (Ys I hg2 hm2 (u:=.type "set") (by rfl) ?_ (by decide) (by decide)));refine PyProof.Rows.callWith_type1 (thn (ha pos2 pins s Z H _ I h) λ us s1 ⟨vs,H1,I1,r1,q1⟩=>?_) he (by rfl);obtain ⟨l,ns,rfl,hq,h64,q⟩:=q1;obtain ⟨u,rfl,rx⟩:=vals1 r1;cases rx;obtain ⟨its,rv,pl,hz⟩:=I1.list hq;have hi:IntsAre its ns:=intsAre_of rv;have hlen:its.length < 64:=by have:=rv.length; rw [List.length_map] at this; lia
 refine set_list (I1.ok.hd hc) pl.isList (by simpa using hi) (by simpa using Nat.lt_trans (Nat.succ_lt_succ hlen) (by decide)) λ h' tk ks a1 a2 a3 a4=>?_;have k1:∀ b o,s1.heap.get? b = some o->h'.get? b = some o:=λ b o q=>a4 b o (Heap.lt_size q) q;refine Calls.spliced_nil ?_;refine GZ (s:={ s1 with heap:=h',toks:=tk }) (I1.ok.hd hc) a1 (by lia) λ out ns' s2 h2 e b1 b2 b3 b4 b5 b6 b7 b8=>?_;have I2:=I1.kept (t':=tk) k1;have I3:Inv X pins Z H1 s2:=I2.ON (ch:=[]) b5 (Un.kept b6) (I2.hok.kept b6) (by rw [b4]; exact I2.bare) (λ _ z=>nomatch z);have hn:H1 s2.heap.objs.size = none:=I3.hok.fresh (Nat.le_refl _);refine ⟨.ref s2.heap.objs.size,_,I3.laid (t':=s2.toks) (a:=s2.heap.objs.size) (o:=.lst (ns'.map V.int)) b7 (Nat.le_refl _) ⟨?_,out.toList,e,VZ b1,b8⟩,rfl,q ns' b3 ?_ (λ z=>(b2.mem_iff).trans (a2 z)) _ hn⟩
 ·rw [List.length_map,b2.length_eq,sizeLine_eq];lia
 ·exact b2.nodup_iff.mpr (SI.nodup a1)
def dSS (t:DTA):DTE:=λ U M Φ=>t U M λ xs M1=>∃ ns:List Int,QX xs M1 ns /\ ns.length < 64 /\ ∀ ks:List Int,ks.Pairwise (· <= ·)->ks.Nodup->(∀ z,z ∈ ks ↔ z ∈ ns)->Φ (.dat (.list (ks.map PyData.int))) M1
theorem ZcI:type_of% @dSS.eq_1:=λ _ _ _ _=>qI
theorem X3 {t:DTA} (hg:Gl X "sorted") (hm:X.mg "sorted" = none) (hg2:Gl X "set") (hm2:X.mg "set" = none) (ha:DA X [e] t) (hc:autoParam (X.calm = true) zz3._auto_1) (he:autoParam (starEach [e] X.env = [(false,eval e X.env)]) zz3._auto_1) :
  DE X (.Call (.Name "sorted" p) [.Call (.Name "set" p2) [e] [] pos2] [] pos) (dSS t):=by
 obtain ⟨u,pa,q⟩:=ha;refine ⟨_,X4 hc hg hm hg2 hm2 pa he,λ Z H U M Φ Q r e h k=>?_⟩;refine q Z H U M _ _ r e h λ vs H1 xs M1 r1 st rv hx=>?_;obtain ⟨ns,hx,h64,q⟩:=hx;obtain ⟨p,rfl,hs⟩:=hx.sq r1 rv;exact ⟨p,ns,rfl,hs,h64,λ ks a b c l hl=>(k.step st).dat (r1.new hl) (Step.new hl) (Dt.VA r1 hl (Dts.ints ks)) (q ks a b c)⟩
end
end DL
namespace DL
def Zc3 (τ:DTE):DTT:=λ U M Φ=>τ U M λ x M1=>onQ x M1 λ ds=>Φ (!ds.isEmpty) M1
theorem RH:type_of% @Zc3.eq_1:=λ _ _ _ _=>qI
theorem V8 (h:Dts K M H vs ds):(!vs.isEmpty) = !ds.isEmpty:=by
 have:=Dts.length h;cases vs <;> cases ds <;> simp at this ⊢
theorem Mb {τ:DTE} (h:DE X e τ) (he:autoParam (∀ whole,isTrue e X.env whole = (do let v <- whole; standAt e.pos; holding [v] (truthy v))) zz2._auto_1):DT X e (Zc3 τ):=by
 obtain ⟨t,p,q⟩:=h;refine ⟨_,FL p he,λ Z H U M Φ Q dr e h k=>?_⟩;refine q Z H U M _ _ dr e h λ v H1 x M1 r1 st rv hx=>?_;replace hx:=Wf hx;obtain ⟨ds,hx,hq⟩:=hx;refine ⟨!ds.isEmpty,?_,k _ _ _ r1 st hq⟩
 rcases hx with rfl | rfl | ⟨l,rfl,hm⟩
 ·obtain ⟨p,xs,rfl,h1,h2⟩:=rv.tup;exact .inr (.inl ⟨xs,h1.sq,(V8 h2).symm⟩)
 ·obtain ⟨p,xs,rfl,h1,h2⟩:=rv.lst;exact .inl ⟨xs,h1.sq,(V8 h2).symm⟩
 ·cases (show v = .ref l from rv);obtain ⟨vs,g1,g2⟩:=r1.ls l ds hm;exact .inl ⟨vs,SqL.of g1,(V8 g2).symm⟩
end DL
namespace DL
open PySem.W
structure Gives (it l:Addr) (xs:Array Value) (st:Nat->Heap->Prop):Prop where
 frame:∀ {i:Nat} {h h':Heap},st i h->(∀ b,b = it \/ b = l->∀ o,h.get? b = some o->h'.get? b = some o)->st i h'
 live:∀ {i:Nat} {h:Heap},st i h->∃ o,h.get? it = some o
 item:∀ {prog:Program} {w:World} {A:Around} {E:Value->Shared->Prop} {s:Shared} {Q:Value->Shared->Prop} {i:Nat} {x:Value},st i s.heap->xs[i]? = some x ->
  (∀ h',st (i + 1) h'->Heap.SameBut it s.heap h'->Q x { s with heap:=h' })->wpAny (model prog w) A (Builtin.SmallTypes.nextOf (.ref it)) Q E s
 done:∀ {prog:Program} {w:World} {A:Around} {E:Value->Shared->Prop} {s:Shared} {Q:Value->Shared->Prop} {i:Nat},A.handled = none->st i s.heap->xs[i]? = none ->
  (∀ h' e,Heap.ExtBut it s.heap h'->(∃ o,h'.get? e = some o /\ o.cls = .type "StopIteration")->E (.ref e) { s with heap:=h' })->wpAny (model prog w) A (Builtin.SmallTypes.nextOf (.ref it)) Q E s
section
variable {prog:Program} {E:Value->Shared->Prop} {z TI TO q m:Addr} {xs ys:Array Value} {f g:Nat->Heap->Prop}
end
section
variable {prog:Program} {E:Value->Shared->Prop}
end
def Zcj (ta:DTA):JZ:=λ U M Ψ=>ta U M λ xs M1=>on2 xs λ x y=>onT x λ as=>onL y λ bs=>Ψ (Zdt as bs) M1
section
variable {g:DTG} {tb:DTS} {body:List Stmt} {pos:Pos}
def Zcb (src:JZ) (g:DTG) (tb:DTS):DTS:=λ D U M=>src U M λ ds M1=>GQ g tb D ds U M1
def MA (ds:List PyData) (P:List Str->Prop):Prop:=∃ ss,ds = ss.map PyData.str /\ P ss
def Zd5 (to te:DTE):DTE:=λ U M Φ=>to U M λ x M1=>onL x λ ds=>te U M1 λ y M2=>onS y λ t=>MA ds λ ss=>t ∈ ss /\ Φ (.dat (.int (ss.idxOf t:Nat))) M2
def Rw (x:DV) (P:List PyData->Prop):Prop:=match x with | .dat (.tuple ds)=>P ds | .dat (.list ds)=>P ds | _=>False
def iTL (K:Fk) (tl:TE):TI:=λ Z H R=>tl Z H λ x H1=>∃ a,x = .ref a /\ (((∃ xs,SqL K H1 a xs) /\ R (Itl K a) H1) \/ (∃ xs,SqT K H1 a xs) /\ R (Itt K a) H1)
theorem RN {tl:TE} (hl:PE X iter tl):PI X tg iter (iTL X.K tl):=by
 intro pins s Z H R I h;refine thn (hl pins s Z H _ I h) λ v s1 ⟨x,H1,I1,r1,q1⟩=>?_;obtain ⟨a,e,q⟩:=q1;subst e;cases r1;have fp:∀ b ∈ [s1.heap.objs.size],U6 X pins H1 b:=λ b hb=>by
  rw [List.mem_singleton.mp hb];exact I1.PX (Nat.le_refl _) (I1.hok.fresh (Nat.le_refl _))
 have IP:∀ o:Obj,L2.Inv X pins Z H1 { s1 with heap:=s1.heap.push o,toks:=s1.toks }:=λ o=>I1.kept (t':=s1.toks) λ b o e=>Heap.get?_push_of_some _ e
 rcases q with ⟨⟨xs,hq⟩,q⟩ | ⟨⟨xs,hq⟩,q⟩
 ·obtain ⟨its,rv,p,hz⟩:=I1.list hq;exact wpAny_pyIter_list p.isList ⟨s1.heap.objs.size,_,_,_,H1,rfl,IP _,Kk a _,⟨_,Heap.get?_push_size _ rfl,rfl,rfl⟩,fp,q⟩
 ·obtain ⟨its,rv,p,hz⟩:=I1.tuple hq;exact wpAny_pyIter_tuple (show s1.heap.IsTuple a its.toArray from p) ⟨s1.heap.objs.size,_,_,_,H1,rfl,IP _,YW a _,⟨_,Heap.get?_push_size _ rfl,rfl,rfl⟩,fp,q⟩
def Sw (te:DTE):JZ:=λ U M Ψ=>te U M λ x M1=>Rw x λ ds=>Ψ ds M1
theorem Pz:type_of% @Sw.eq_1:=λ _ _ _ _=>qI
theorem ZbB (he:DE X iter te):DI X tg iter (Sw te):=by
 obtain ⟨t,p,q⟩:=he;refine ⟨_,RN p,λ Z H U M Ψ R dr er h k=>?_⟩;refine q Z H U M _ _ dr er h λ v H1 x M1 r1 st rv hx=>?_;have two:∃ ds,(x = .dat (.tuple ds) \/ x = .dat (.list ds)) /\ Ψ ds M1:=by
  unfold Rw at hx
  split at hx
  ·exact ⟨_,.inl rfl,hx⟩
  ·exact ⟨_,.inr rfl,hx⟩
  ·exact hx.elim
 obtain ⟨ds,rfl | rfl,hΨ⟩:=two
 ·obtain ⟨a,xs,rfl,h1,h2⟩:=rv.tup;refine ⟨a,rfl,.inr ⟨⟨xs,h1.sq⟩,k _ H1 M1 ds r1 st (λ M2 H2 st2 i=>⟨λ hi=>?_,λ hi=>⟨xs,(h1.step st2).sq,by rw [h2.length]; exact hi⟩⟩) hΨ⟩⟩;have hx:i < xs.length:=by rw [h2.length]; exact hi
  refine ⟨⟨xs,xs[i],(h1.step st2).sq,by simp [hx]⟩,λ x H' ⟨e,y⟩=>?_⟩;obtain ⟨d,hd,hy⟩:=(h2.step st2).Rq (y xs (h1.step st2).sq);subst e;exact λ r=>⟨r,Step.refl,d,hd,hy⟩
 ·obtain ⟨a,xs,rfl,h1,h2⟩:=rv.lst;refine ⟨a,rfl,.inl ⟨⟨xs,h1.sq⟩,k _ H1 M1 ds r1 st (λ M2 H2 st2 i=>⟨λ hi=>?_,λ hi=>⟨xs,(h1.step st2).sq,by rw [h2.length]; exact hi⟩⟩) hΨ⟩⟩;have hx:i < xs.length:=by rw [h2.length]; exact hi
  refine ⟨⟨xs,xs[i],(h1.step st2).sq,by simp [hx]⟩,λ x H' ⟨e,y⟩=>?_⟩;obtain ⟨d,hd,hy⟩:=(h2.step st2).Rq (y xs (h1.step st2).sq);subst e;exact λ r=>⟨r,Step.refl,d,hd,hy⟩
end
end DL
namespace DL
structure ZcK (X:Cx) (scope:Scope) (k:Str) (N:List Str) (ix:List (Option Nat)):Prop where
 kind:scope.kind = .function
 cf:∀ n cl,cellsFrom n scope.names cl = (k,n) :: cl
 pc:∀ h,pushCells h scope.names = h.push { cls:=.type "cell",data:=.cell none }
 cellK:∀ y ∈ scope.names,y.2 = .cell->y.1 = k
 nk:∀ y ∈ scope.names,y.2 = .free->y.1 ≠ k
 names:∀ y ∈ scope.names,y.2 = .local->scope.names.lookup y.1 = some .local
 free:∀ y ∈ scope.names,y.2 = .free->X.env.kindOf y.1 = some .cell
 len:N.length = ix.length
 cap:∀ (j:Nat) (x:Str) (i:Nat),N[j]? = some x->ix[j]? = some (some i)->X.N[i]? = some x /\ (x,NameKind.free) ∈ scope.names /\ (relabel scope X.env).names.lookup x = some .cell
section
variable {Z:L2.St} {H2:Hp} {s2:Shared} {k:Str} {C:Addr} {fp:List Addr}
end
end DL
namespace DL
open PySem.W
theorem VR0.rel {x:DV} (h:VR0 K M H v x):ZP K M H v x:=by
 cases x with
 | dat d=>exact h
 | own b=>exact h
 | ty n=>exact h.elim
 | mix xs=>exact h
theorem ZP.zero {x:DV} (h:ZP K M H v x) (n:∀ t,x ≠ .ty t):VR0 K M H v x:=by
 cases x with
 | dat d=>exact h
 | own b=>exact h
 | ty t=>exact absurd rfl (n t)
 | mix xs=>exact h
section
variable {o i value:Expr} {td ti tv:DTE} {pos:Pos}
def BE (x:DV) (P:Prop):Prop:=match x with | .ty _=>False | _=>P
theorem HY (d:PyData) (P:Prop):BE (.dat d) P = P:=qI
theorem B2 {x:DV} {P:Prop} (h:BE x P):(∀ t,x ≠ .ty t) /\ P:=by
 cases x with
 | dat d=>exact ⟨λ t e=>(by cases e),h⟩
 | own a=>exact ⟨λ t e=>(by cases e),h⟩
 | ty t=>exact h.elim
 | mix xs=>exact ⟨λ t e=>(by cases e),h⟩
end
section
open PySem.SeqAt
open PySem.AutoSeq1 (wpAny_loadPart')
open PySem.MeetsSeq PySem.MeetsSeq2 PySem.MeetsSeq3
variable {prog:Program} {E:Value->Shared->Prop}
end
theorem Step.all:Step M H (λ _=>none) H:=⟨λ _ _ _ h=>h,λ _ _ _ _=>rfl⟩
end DL
namespace DL
end DL
namespace DL
open PySem.W
def SJ (i:Nat) (t:DTS):DTS:=λ D U M=>onV U[i]? λ x=>onO x λ l=>VF (M l) λ ds=>t D (U.set i (some (.dat (.list ds)))) (VV M l)
theorem P7:type_of% @SJ.eq_1:=λ _ _ _ _ _=>qI
theorem N0 (i:Nat) {s:Stmt} {t:DTS} (h:DS X s t):DS X s (SJ i t):=by
 obtain ⟨u,p,k⟩:=h;refine ⟨u,p,λ Z H U M D E r er h e=>?_⟩;obtain ⟨x,hx,h⟩:=Uo h;obtain ⟨l,rfl,h⟩:=Qq h;obtain ⟨ds,hm,h⟩:=QM h;obtain ⟨vs,e1,e2⟩:=r.ls l ds hm;obtain ⟨v,hv,rv⟩:=er.at' i _ hx;cases (show v = .ref l from rv);have er2:=(er.step Step.frz).set (i:=i) (v:=.ref l) (x:=.dat (.list ds)) (Dt.lst (.inl ⟨VW,.inl e1⟩) (e2.step Step.frz));have es:Z.set i (some (.ref l)) = Z:=by
  obtain ⟨hi,e⟩:=List.getElem?_eq_some_iff.mp hv;rw [<- e];exact List.set_getElem_self hi
 rw [es] at er2;exact k Z H _ _ D E r.frz er2 h (e.step Step.frz)
section
variable {l:Expr} {tl:TE}
end
theorem Ts (k:Key):Dt K M H (kV k) (kD k):=by
 cases k with
 | inl i=>exact Dt.int i
 | inr x=>exact Dt.str x
section
variable {g:DTG} {tb:DTS} {body:List Stmt} {pos:Pos}
def Mr (G:Mp->Prop) (g:DTG) (tb:DTS) (D:ZV) (ds:List PyData) (U:DSt) (M:Mp):Prop:=
 ∃ J:Nat->DSt->Mp->Prop,(∀ i U M,J i U M->G M) /\ J 0 U M /\ (∀ i d U M,ds[i]? = some d->J i U M->g (.dat d) U M λ Δ2 M2=>tb { D with nx:=J (i + 1),ct:=J (i + 1),bk:=D.nx } Δ2 M2) /\ ∀ U M,J ds.length U M->D.nx U M
def TB (src:V5) (g:DTG) (tb:DTS):DTS:=λ D U M=>src U M λ ds G M1=>Mr G g tb D ds U M1
theorem NZ:type_of% @TB.eq_1:=λ _ _ _ _ _ _=>qI
theorem Ot {src:V5} (hi:DIG X tg iter src) (hg:DG X tg g) (hb:DSs X body tb) (hp:PassesOwn (model X.prog X.w) X.A X.env X.xe) (hc:X.calm = true) (hs:autoParam (∀ x,foldedSetIterable iter X.env x = pure x) zz2._auto_1) :
  DS X (.For tg iter body [] pos) (TB src g tb):=by
 obtain ⟨wi,p1,q1⟩:=hi;obtain ⟨t2,p2,q2⟩:=hg;obtain ⟨t3,p3,q3⟩:=hb;refine ⟨_,Y6 hp hc p1 p2 p3 hs,λ Z H U M D E r e h k=>?_⟩;refine q1 Z H U M _ _ r e h λ J H1 M1 ds G r1 st yl hx=>?_;obtain ⟨I,jg,j0,jt,jd⟩:=hx;refine ⟨λ i m Z H=>(∃ U M,Zy X.K M H /\ Step M1 H1 M H /\ Qj X.K M H Z U /\ I i U M) /\ i + m = ds.length,⟨ds.length,⟨U,M1,r1,Step.refl,e.step st,j0⟩,Nat.zero_add _⟩,λ i m Z H hW=>?_⟩;obtain ⟨⟨U,M,r',st',e',j⟩,hm⟩:=hW
 by_cases hi:i < ds.length
 ·obtain ⟨go,yd⟩:=(yl M H st' r' (jg i U M j) i).1 hi;refine .inr ⟨go,λ σ' H'=>∃ Δ' M',Zy X.K M' H' /\ Step M1 H1 M' H' /\ Qj X.K M' H' σ' Δ' /\ I (i + 1) Δ' M',λ σ' H' h=>⟨m - 1,by lia,h,by lia⟩,λ x H' hy=>?_⟩;obtain ⟨r2,st2,d,hd,hv⟩:=yd x H' hy r';refine q2 x Z H' (.dat d) U M _ _ r2 (e'.step st2) hv (jt i d U M hd j) λ σ3 H3 Δ3 M3 r3 st3 e3 hb3=>?_;refine q3 σ3 H3 Δ3 M3 _ _ r3 e3 hb3 ?_;have s12:Step M1 H1 M3 H3:=(st'.trans st2).trans st3
  exact ⟨λ σ' H' Δ' M' a b c d=>⟨Δ',M',a,s12.trans b,c,d⟩,k.rt.step (st.trans s12),λ σ' H' Δ' M' a b c d=>k.nx σ' H' Δ' M' a ((st.trans s12).trans b) c d,
   λ σ' H' Δ' M' a b c d=>⟨Δ',M',a,s12.trans b,c,d⟩⟩
 ·have ei:i = ds.length:=by lia
  refine .inl ⟨(yl M H st' r' (jg i U M j) i).2 (by lia),?_⟩;rw [ei] at j;exact k.nx Z H U M r' (st.trans st') e' (jd U M j)
end
section
variable {o i:Expr} {td ti:DTE} {pos:Pos}
end
end DL
namespace DL
open PySem.W Builtin Builtin.Str
section
variable {a b:Expr} {rest:List Expr} {ta tb:DTE} {pos:Pos}
end
end DL
namespace DL
open PySem.W
theorem Paired.getL {α β:Type} {F:α->β->Prop}:∀ {l:List α} {m:List β} {i:Nat} {a:α},Paired F l m->l[i]? = some a->∃ b,m[i]? = some b /\ F a b
 | _,_,_,_,.nil,e=>by simp at e
 | _,_,0,_,.cons h _,e=>by simp at e; subst e; exact ⟨_,rfl,h⟩
 | _,_,i + 1,a,.cons _ h,e=>by
  obtain ⟨b,h1,h2⟩:=Paired.getL (i:=i) (a:=a) h (by simpa using e);exact ⟨b,by simpa using h1,h2⟩
theorem Paired.atI {α β:Type} {F:α->β->Prop} {l:List α} {m:List β} {i:Int} {b:β} (h:Paired F l m) (e:L2.atI m i = some b):∃ a,L2.atI l i = some a /\ F a b:=by
 unfold L2.atI at e ⊢;rw [Paired.length h];cases q:ixN m.length i with
 | none=>rw [q] at e; cases e
 | some j=>
  rw [q] at e;exact Paired.ZcR h e
theorem Paired.app {α β:Type} {F:α->β->Prop}:∀ {l l':List α} {m m':List β},Paired F l m->Paired F l' m'->Paired F (l ++ l') (m ++ m')
 | _,_,_,_,.nil,h=>h
 | _,_,_,_,.cons h1 h2,h=>.cons h1 (Paired.app h2 h)
section
variable {M':Mp}
theorem Zy.lv (r:Zy K M H) {xs:List DV} (h:M a = some (.lsv n xs)):∃ vs,H a = some (.lst vs) /\ Paired (VR0 K M H) vs xs:=r.ok a _ h
theorem Zy.Rn (r:Zy K M H) {xs:List DV} (st:Step M H (ZJ M p (.lsv n xs)) (upd H p (.lst vs))) (h:Paired (VR0 K M H) vs xs):Zy K (ZJ M p (.lsv n xs)) (upd H p (.lst vs)):=
 r.KS st ⟨vs,ZW,Paired.Cr h λ _ _ z=>z.step st⟩
theorem Mxs.of:∀ {vs:List V} {xs:List DV},Paired (VR0 K M H) vs xs->Mxs K M H vs xs
 | _,_,.nil=>.nil
 | _,.dat d :: _,.cons h1 h2=>.dat h1 (Mxs.of h2)
 | _,.own b :: _,.cons h1 h2=>by
  cases (show _ = V.ref b from h1);exact .own (Mxs.of h2)
 | _,.mix ys :: _,.cons h1 h2=>.mix h1 (Mxs.of h2)
 | _,.ty t :: _,.cons h1 h2=>h1.elim
theorem Mxs.vr:∀ {vs:List V} {xs:List DV},Mxs K M H vs xs->Paired (VR0 K M H) vs xs
 | _,_,.nil=>.nil
 | _,_,.dat h1 h2=>.cons h1 (Mxs.vr h2)
 | _,_,.own h2=>.cons rfl (Mxs.vr h2)
 | _,_,.mix h1 h2=>.cons h1 (Mxs.vr h2)
theorem Dts.vr:∀ {vs:List V} {ds:List PyData},Dts K M H vs ds->Paired (VR0 K M H) vs (ds.map DV.dat)
 | _,_,.nil=>.nil
 | _,_,.cons h1 h2=>.cons h1 (Dts.vr h2)
mutual
inductive AsD (M:Mp):DV->PyData->Prop
 | dat (d:PyData):AsD M (.dat d) d
 | lsv {a:Addr} {n:Nat} {xs:List DV} {ds:List PyData}:M a = some (.lsv n xs)->EM M xs ds->AsD M (.own a) (.list ds)
 | mix {xs:List DV} {ds:List PyData}:EM M xs ds->AsD M (.mix xs) (.tuple ds)
 | lst {a:Addr} {ds:List PyData}:M a = some (.lst ds)->AsD M (.own a) (.list ds)
 | dkv {a:Addr} {ps:List (Key × PyData)}:M a = some (.dkv ps)->AsD M (.own a) (.dict (ps.map λ q=>(kD q.1,q.2)))
inductive EM (M:Mp):List DV->List PyData->Prop
 | nil:EM M [] []
 | cons {x:DV} {xs:List DV} {d:PyData} {ds:List PyData}:AsD M x d->EM M xs ds->EM M (x :: xs) (d :: ds)
end
theorem Sn (r:Zy K M H) {ps:List (Key × PyData)} (hm:M a = some (.dkv ps)):Dt K (λ _=>none) H (.ref a) (.dict (ps.map λ q=>(kD q.1,q.2))):=by
 obtain ⟨kvs,g1,g2,g3⟩:=(show OOk K M H a (.dkv ps) from r.ok a _ hm)
 have e:(kvs.map λ kv=>kD kv.1) = ps.map λ q=>kD q.1:=by
  have:=congrArg (List.map kD) g2
  rwa [List.map_map,List.map_map] at this
 have z:=Dt.dK (K:=K) (M:=λ _=>none) (H:=H) (a:=a) rfl g1 (g3.step Step.all);rw [e,List.zip_map'] at z;exact z
mutual
theorem AsD.dt (r:Zy K M H):∀ {x:DV} {d:PyData},AsD M x d->∀ {v:V},VR0 K M H v x->Dt K (λ _=>none) H v d
 | _,_,.dat _,_,h=>Dt.step Step.all h
 | _,_,.lsv hm hs,_,h=>by
  cases (show _ = V.ref _ from h);exact .lst (.inl ⟨rfl,.inl (r.lv hm).choose_spec.1⟩) (EM.dt r hs (r.lv hm).choose_spec.2)
 | _,_,.mix hs,_,h=>by
  cases (show Mx K M H _ _ from h) with
  | mk h1 h2 h3=>exact .tup (.inl ⟨rfl,.inl h2⟩) (EM.dt r hs h3.vr)
 | _,_,.lst hm,_,h=>by
  cases (show _ = V.ref _ from h);exact .lst (.inl ⟨rfl,.inl (r.ls _ _ hm).choose_spec.1⟩) ((r.ls _ _ hm).choose_spec.2.step Step.all)
 | _,_,.dkv hm,_,h=>by
  cases (show _ = V.ref _ from h);exact Sn r hm
theorem EM.dt (r:Zy K M H):∀ {xs:List DV} {ds:List PyData},EM M xs ds->∀ {vs:List V},Paired (VR0 K M H) vs xs->Dts K (λ _=>none) H vs ds
 | _,_,.nil,_,h=>by cases h; exact .nil
 | _,_,.cons h1 h2,_,h=>by
  cases h with
  | cons a b=>exact .cons (AsD.dt r h1 a) (EM.dt r h2 b)
end
mutual
noncomputable def YG:PyData->Bool
 | .none=>true
 | .bool _=>true
 | .int _=>true
 | .str _=>true
 | .tuple ds=>KY ds
 | _=>false
noncomputable def KY:List PyData->Bool
 | []=>true
 | d :: ds=>YG d && KY ds
end
theorem C2 (r:Zy K M H) (h:Rd H a (.tup xs)):M a = none:=by
 cases q:M a with
 | none=>rfl
 | some o=>
  have g:=r.ok a o q;exfalso;have no:∀ u,H a = some u->(∀ ys,u ≠ .tup ys)->(∀ o ys,u ≠ .frz o (.tup ys))->False:=λ u e n1 n2=>by
   rcases h with h | ⟨o,h⟩
   ·rw [h] at e; cases e; exact n1 _ rfl
   ·rw [h] at e; cases e; exact n2 _ _ rfl
  cases o with
  | lst ds=>obtain ⟨vs,e,_⟩:=g; exact no _ e (λ _ z=>nomatch z) (λ _ _ z=>nomatch z)
  | dct ks=>obtain ⟨vs,e,_⟩:=g; exact no _ e (λ _ z=>nomatch z) (λ _ _ z=>nomatch z)
  | dtv ps=>obtain ⟨vs,e,_⟩:=g; exact no _ e (λ _ z=>nomatch z) (λ _ _ z=>nomatch z)
  | dkv ps=>obtain ⟨vs,e,_⟩:=g; exact no _ e (λ _ z=>nomatch z) (λ _ _ z=>nomatch z)
  | dko ps=>obtain ⟨vs,e,_⟩:=g; exact no _ e (λ _ z=>nomatch z) (λ _ _ z=>nomatch z)
  | fdk o ps=>obtain ⟨vs,e,_⟩:=g; exact no _ e (λ _ z=>nomatch z) (λ _ _ z=>(by cases z))
  | lsv n xs=>obtain ⟨vs,e,_⟩:=g; exact no _ e (λ _ z=>nomatch z) (λ _ _ z=>nomatch z)
  | ext φ=>exact no _ g (λ _ z=>nomatch z) (λ _ _ z=>nomatch z)
  | gst N₀ H₀=>obtain ⟨⟨vs,e,_⟩,_⟩:=g; exact no _ e (λ _ z=>nomatch z) (λ _ _ z=>nomatch z)
  | fdc o ks=>obtain ⟨vs,e,_⟩:=g; exact no _ e (λ _ z=>nomatch z) (λ _ _ z=>(by cases z))
  | fdt o ps=>obtain ⟨vs,e,_⟩:=g; exact no _ e (λ _ z=>nomatch z) (λ _ _ z=>(by cases z))
  | tab φ=>obtain ⟨⟨vs,e,_⟩,_⟩:=g; exact no _ e (λ _ z=>nomatch z) (λ _ _ z=>nomatch z)
theorem Ly (r:Zy K M H) (h:TupAt K M' H a xs):TupAt K M H a xs:=by
 rcases h with ⟨_,h⟩ | h
 ·exact .inl ⟨C2 r h,h⟩
 ·exact .inr h
mutual
theorem Dt.back (r:Zy K M H):∀ {v:V} {d:PyData},Dt K M' H v d->YG d = true->Dt K M H v d
 | _,_,.non,_=>.non
 | _,_,.bl b,_=>.bl b
 | _,_,.int i,_=>.int i
 | _,_,.str x,_=>.str x
 | _,_,.tup h1 h2,l=>.tup (Ly r h1) (Dts.back r h2 (by rw [YG] at l; exact l))
 | _,_,.lst _ _,l=>by simp [YG] at l
 | _,_,.dK _ _ _,l=>by simp [YG] at l
 | _,_,.dT _ _ _ _,l=>by simp [YG] at l
 | _,_,.dX _ _ _ _ _ _,l=>by simp [YG] at l
theorem Dts.back (r:Zy K M H):∀ {vs:List V} {ds:List PyData},Dts K M' H vs ds->KY ds = true->Dts K M H vs ds
 | _,_,.nil,_=>.nil
 | _,_,.cons h1 h2,l=>.cons (Dt.back r h1 (by rw [KY,Bool.and_eq_true] at l; exact l.1)) (Dts.back r h2 (by rw [KY,Bool.and_eq_true] at l; exact l.2))
end
end
noncomputable def QF:DSt->DSt
 | []=>[]
 | _ :: r=>none :: QF r
theorem KP:QF [] = []:=by rw [QF]
theorem Xn (y:Option DV) (r:DSt):QF (y :: r) = none :: QF r:=by rw [QF]
theorem Y2:∀ (U:DSt),(QF U).length = U.length
 | []=>rfl
 | _ :: r=>by rw [QF,List.length_cons,List.length_cons,Y2 r]
theorem Y3:∀ (U:DSt) (j:Nat) (y:DV),(QF U)[j]? ≠ some (some y)
 | [],j,y,h=>by simp [QF] at h
 | _ :: r,0,y,h=>by simp [QF] at h
 | _ :: r,j + 1,y,h=>by rw [QF,List.getElem?_cons_succ] at h; exact Y3 r j y h
section
variable {o i:Expr} {es:List Expr} {to ti:DTE} {t:DTA} {pos:Pos}
def D4 (o:Option OO) (P:Nat->List DV->Prop):Prop:=match o with | some (.lsv n xs)=>P n xs | _=>False
theorem C3 (n:Nat) (xs:List DV) (P:Nat->List DV->Prop):D4 (some (.lsv n xs)) P = P n xs:=qI
theorem XT {o:Option OO} {P:Nat->List DV->Prop} (h:D4 o P):∃ n xs,o = some (.lsv n xs) /\ P n xs:=by
 unfold D4 at h
 split at h
 ·exact ⟨_,_,rfl,h⟩
 ·exact h.elim
theorem ZP.Zcm {x:DV} (h:ZP K M H v x) (a:AsD M x d):VR0 K M H v x:=h.zero λ t e=>by subst e; cases a
def EK:List DV->Prop->Prop
 | [],P=>P
 | x :: r,P=>BE x (EK r P)
theorem Bl (P:Prop):EK [] P = P:=qI
theorem W0 (x:DV) (r:List DV) (P:Prop):EK (x :: r) P = BE x (EK r P):=qI
theorem F3 (ys:List DV) (P:Prop):BE (.mix ys) P = P:=qI
theorem W3 {K:Fk} {M:Mp} {H:Hp}:∀ {xs:List DV} {P:Prop},EK xs P->(∀ {vs:List V},JA K M H vs xs->Paired (VR0 K M H) vs xs) /\ P
 | [],P,h=>⟨λ q=>by cases q; exact .nil,h⟩
 | x :: r,P,h=>by
  obtain ⟨n,h2⟩:=B2 (show BE x (EK r P) from h);obtain ⟨h3,h4⟩:=W3 (K:=K) (M:=M) (H:=H) h2;refine ⟨λ q=>?_,h4⟩;cases q with
  | cons a b=>exact .cons (ZP.zero a n) (h3 b)
def Ss (n:Nat) (t:DTA):DTE:=λ U M Φ=>t U M λ xs M1=>EK xs (Nat.ble xs.length 100 = true /\ ∀ p,M1 p = none->Φ (.own p) (ZJ M1 p (.lsv n xs)))
theorem Ro:type_of% @Ss.eq_1:=λ _ _ _ _ _=>qI
theorem Nj (n:Nat) (h:DA X es t):DE X (.List es pos) (Ss n t):=by
 obtain ⟨u,p,q⟩:=h;refine ⟨_,CS p,λ Z H U M Φ Q r e h k=>?_⟩;refine q Z H U M _ _ r e h λ vs H1 xs M1 r1 st rv hx=>?_;obtain ⟨hz,hl,hx⟩:=W3 (K:=X.K) (M:=M1) (H:=H1) hx;have hlen:vs.length = xs.length:=Paired.length rv;have hl':=Nat.le_of_ble_eq_true hl;refine ⟨by rw [hlen,sizeLine_eq]; lia,λ a ha=>?_⟩;exact k _ _ (.own a) _ (r1.Rn (Step.QY ha) (hz rv)) (st.trans (Step.QY ha)) rfl (hx a (r1.tracked ha))
end
def ZaZ (x:DV) (M:Mp) (P:List DV->(Mp->Prop)->Prop):Prop:=match x with
 | .dat (.tuple ds)=>P (ds.map DV.dat) (λ _=>True)
 | .mix xs=>P xs (λ _=>True)
 | .own l=>D4 (M l) λ n xs=>P xs (λ M2=>M2 l = some (.lsv n xs))
 | _=>False
theorem FC (l:Addr) (M:Mp) (P:List DV->(Mp->Prop)->Prop):ZaZ (.own l) M P = D4 (M l) λ n xs=>P xs (λ M2=>M2 l = some (.lsv n xs)):=qI
def YlV (K:Fk) (J:It) (xs:List DV) (G:Mp->Prop) (M:Mp) (H:Hp):Prop:=∀ M2 H2,Step M H M2 H2->Zy K M2 H2->G M2->∀ i,
 (i < xs.length->J.go i H2 /\ ∀ x H',J.yld i H2 x H'->H' = H2 /\ ∃ y,xs[i]? = some y /\ ZP K M2 H2 x y) /\ (xs.length <= i->J.stop i H2)
theorem Za3 {xs:List DV}:YlV K (Itl K l) xs (λ M2=>M2 l = some (.lsv n xs)) M H:=by
 intro M2 H2 st2 r2 hG i;obtain ⟨vs,g1,g2⟩:=r2.lv hG;have hl:vs.length = xs.length:=Paired.length g2;refine ⟨λ hi=>?_,λ hi=>⟨vs,SqL.of g1,by rw [hl]; exact hi⟩⟩;have hv:i < vs.length:=by rw [hl]; exact hi
 refine ⟨⟨vs,vs[i],SqL.of g1,by simp [hv]⟩,λ x H' z=>?_⟩;obtain ⟨e,y⟩:=z;obtain ⟨b,e1,e2⟩:=Paired.getL g2 (y vs (SqL.of g1));exact ⟨e,b,e1,e2.rel⟩
theorem ME {xs:List DV} (hp:∀ M2 H2,Step M H M2 H2->SqT K H2 a vs /\ Paired (VR0 K M2 H2) vs xs):YlV K (Itt K a) xs (λ _=>True) M H:=by
 intro M2 H2 st2 r2 hG i;obtain ⟨g1,g2⟩:=hp M2 H2 st2;have hl:vs.length = xs.length:=Paired.length g2;refine ⟨λ hi=>?_,λ hi=>⟨vs,g1,by rw [hl]; exact hi⟩⟩;have hv:i < vs.length:=by rw [hl]; exact hi
 refine ⟨⟨vs,vs[i],g1,by simp [hv]⟩,λ x H' z=>?_⟩;obtain ⟨e,y⟩:=z;obtain ⟨b,e1,e2⟩:=Paired.getL g2 (y vs g1);exact ⟨e,b,e1,e2.rel⟩
section
variable {g:DTG} {tb:DTS} {body:List Stmt} {pos:Pos}
def L1 (G:Mp->Prop) (g:DTG) (tb:DTS) (D:ZV) (xs:List DV) (U:DSt) (M:Mp):Prop:=
 ∃ J:Nat->DSt->Mp->Prop,(∀ i U M,J i U M->G M) /\ J 0 U M /\ (∀ i x U M,xs[i]? = some x->J i U M->g x U M λ Δ2 M2=>tb { D with nx:=J (i + 1),ct:=J (i + 1),bk:=D.nx } Δ2 M2) /\ ∀ U M,J xs.length U M->D.nx U M
def R5 (te:DTE) (g:DTG) (tb:DTS):DTS:=λ D U M=>te U M λ x M1=>ZaZ x M1 λ xs G=>L1 G g tb D xs U M1
theorem NG:type_of% @R5.eq_1:=λ _ _ _ _ _ _=>qI
theorem Rf {x:DV} {P:List DV->(Mp->Prop)->Prop} (h:ZaZ x M P) (r:Zy X.K M H) (rv:ZP X.K M H v x) :
  ∃ a xs G J,v = .ref a /\ (((∃ vs,SqL X.K H a vs) /\ J = Itl X.K a) \/ ((∃ vs,SqT X.K H a vs) /\ J = Itt X.K a)) /\ YlV X.K J xs G M H /\ P xs G:=by
 unfold ZaZ at h
 split at h
 ·obtain ⟨a,xs,rfl,h1,h2⟩:=ZP.tup rv;exact ⟨a,_,_,_,rfl,.inr ⟨⟨xs,h1.sq⟩,rfl⟩,ME (λ M2 H2 st=>⟨(h1.step st).sq,(h2.step st).vr⟩),h⟩
 ·cases (show Mx X.K M H v _ from rv) with
  | mk h1 h2 h3=>exact ⟨_,_,_,_,rfl,.inr ⟨⟨_,SqT.of h2⟩,rfl⟩,ME (λ M2 H2 st=>⟨SqT.of (st.keep _ _ h1 h2),(h3.step st).vr⟩),h⟩
 ·obtain ⟨n,xs,hm,h⟩:=XT h;cases (show v = .ref _ from rv);obtain ⟨vs,g1,g2⟩:=r.lv hm;exact ⟨_,_,_,_,rfl,.inl ⟨⟨_,SqL.of g1⟩,rfl⟩,Za3 (n:=n),h⟩
 ·exact h.elim
theorem Oe (he:DE X iter te) (hg:DG X tg g) (hb:DSs X body tb) (hp:PassesOwn (model X.prog X.w) X.A X.env X.xe) (hc:X.calm = true) (hs:autoParam (∀ x,foldedSetIterable iter X.env x = pure x) zz2._auto_1) :
  DS X (.For tg iter body [] pos) (R5 te g tb):=by
 obtain ⟨t1,p1,q1⟩:=he;obtain ⟨t2,p2,q2⟩:=hg;obtain ⟨t3,p3,q3⟩:=hb;refine ⟨_,Y6 hp hc (RN p1) p2 p3 hs,λ Z H U M D E r e h k=>?_⟩;refine q1 Z H U M _ _ r e h λ v H1 x M1 r1 st rv hx=>?_;obtain ⟨a,xs,G,Jt,rfl,hJ,yl,I,jg,j0,jt,jd⟩:=Rf hx r1 rv;have main:∃ W:Nat->Nat->L2.St->Hp->Prop,(∃ m,W 0 m Z H1) /\ ∀ i m Z H,W i m Z H ->
   (Jt.stop i H /\ E.nx Z H) \/ (Jt.go i H /\ ∃ N:L2.St->Hp->Prop,(∀ σ' H',N σ' H'->∃ m',m' < m /\ W (i + 1) m' σ' H') /\ ∀ x H',Jt.yld i H x H'->t2 x Z H' λ σ2 H2=>t3 { E with nx:=N,ct:=N,bk:=E.nx } σ2 H2):=by
  refine ⟨λ i m Z H=>(∃ U M,Zy X.K M H /\ Step M1 H1 M H /\ Qj X.K M H Z U /\ I i U M) /\ i + m = xs.length,⟨xs.length,⟨U,M1,r1,Step.refl,e.step st,j0⟩,Nat.zero_add _⟩,λ i m Z H hW=>?_⟩;obtain ⟨⟨U,M,r',st',e',j⟩,hm⟩:=hW
  by_cases hi:i < xs.length
  ·obtain ⟨go,yd⟩:=(yl M H st' r' (jg i U M j) i).1 hi;refine .inr ⟨go,λ σ' H'=>∃ Δ' M',Zy X.K M' H' /\ Step M1 H1 M' H' /\ Qj X.K M' H' σ' Δ' /\ I (i + 1) Δ' M',λ σ' H' h=>⟨m - 1,by lia,h,by lia⟩,λ x H' hy=>?_⟩;obtain ⟨rfl,y,hd,hv⟩:=yd x H' hy;refine q2 x Z H' y U M _ _ r' e' hv (jt i y U M hd j) λ σ3 H3 Δ3 M3 r3 st3 e3 hb3=>?_;refine q3 σ3 H3 Δ3 M3 _ _ r3 e3 hb3 ?_;have s12:Step M1 H1 M3 H3:=st'.trans st3
   exact ⟨λ σ' H' Δ' M' a b c d=>⟨Δ',M',a,s12.trans b,c,d⟩,k.rt.step (st.trans s12),λ σ' H' Δ' M' a b c d=>k.nx σ' H' Δ' M' a ((st.trans s12).trans b) c d,
    λ σ' H' Δ' M' a b c d=>⟨Δ',M',a,s12.trans b,c,d⟩⟩
  ·have ei:i = xs.length:=by lia
   refine .inl ⟨(yl M H st' r' (jg i U M j) i).2 (by lia),?_⟩;rw [ei] at j;exact k.nx Z H U M r' (st.trans st') e' (jd U M j)
 rcases hJ with ⟨hq,rfl⟩ | ⟨hq,rfl⟩
 ·exact ⟨a,rfl,.inl ⟨hq,main⟩⟩
 ·exact ⟨a,rfl,.inr ⟨hq,main⟩⟩
end
abbrev Xv (ds:List PyData) (M1:Mp) (U:DSt) (ix:List (Option Nat)) (g:DTG) (tc:DTT) (te:DTE) (ψ:List DV->Mp->Prop):Prop:=ds.length <= sizeLine /\ ∃ J:Nat->List DV->Mp->Prop,J 0 [] M1 /\
 (∀ i d acc M',ds[i]? = some d->J i acc M'->g (.dat d) (Wh ix U) M' λ Δ2 M2=>tc Δ2 M2 λ b M3=>if b = true then te Δ2 M3 λ y M4=>BE y (J (i + 1) (acc ++ [y]) M4) else J (i + 1) acc M3) /\ ∀ acc M',J ds.length acc M'->ψ acc M'
set_option maxHeartbeats 2000000 in
theorem Gw {elt:Expr} {ifs:List Expr} {pos ps:Pos} {src:JZ} {g:DTG} {tc:DTT} {te:DTE} {use:Option (Value->Sem Unit)} {QQ:Value->Shared->Prop} {ψ:List DV->Mp->Prop} (ok:QO X scope N ix) (hi:DI X tg iter src)
  (hg:∀ C ex s H,DG (Zs X scope C N ex s H) tg g) (ht:∀ C ex s H,DTs (Zs X scope C N ex s H) ifs tc) (he:∀ C ex s H,DE (Zs X scope C N ex s H) elt te) (hc:X.calm = true)
  (hs:∀ x,foldedSetIterable iter X.env x = pure x) {Z:L2.St} {H:Hp} {U:DSt} {M:Mp} {pins:List (Addr × Obj)} {s:Shared} (dr:Zy X.K M H) (er:Qj X.K M H Z U) (h:src U M λ ds M1=>Xv ds M1 U ix g tc te ψ) (I:L2.Inv X pins Z H s)
  (hfin:∀ (s4:Shared) (C D:Addr) (H':Hp) (M':Mp) (vs:List V) (acc:List DV),L2.Inv X pins Z (upd H' D (.lst vs)) s4->H' D = none->Zy X.K M' H'->Step M H M' H'->Paired (VR0 X.K M' H') vs acc->ψ acc M'->(∃ m,s4.heap.Ns C m)->U6 X pins (upd H' D (.lst vs)) C ->
   compPost (model X.prog X.w) X.A X.xe use QQ (.ref D) C (.ok .next) s4) :
  wpAny (model X.prog X.w) X.A (comprehension (.ListComp elt [⟨tg,iter,ifs,0⟩] scope pos) scope X.env ps (newList []) false (eval iter X.env) use) QQ X.xe s:=by
 obtain ⟨wi,pi,qi⟩:=hi;refine wpAny_comprehension_free (use:=use) (cl:=Bm X.env scope.names []) rfl hs (Jd (MI ok I)) ok.kind ok.names ?_;show wpAny _ _ (eval iter X.env) _ _ s
 refine thn (pi pins s Z H (λ J H'=>∃ M' ds,Zy X.K M' H' /\ Step M H M' H' /\ Yl X.K J ds M' H' /\ ds.length <= sizeLine /\ ∃ W:Nat->List DV->Mp->Prop,W 0 [] M' /\
   (∀ i d acc M',ds[i]? = some d->W i acc M'->g (.dat d) (Wh ix U) M' λ Δ2 M2=>tc Δ2 M2 λ b M3=>if b = true then te Δ2 M3 λ y M4=>BE y (W (i + 1) (acc ++ [y]) M4) else W (i + 1) acc M3) /\
   ∀ acc M',W ds.length acc M'->ψ acc M') I (qi Z H U M _ _ dr er h λ J H' M' ds a b c d=>⟨M',ds,a,b,c,d⟩)) λ x s1 h1=>thn h1 λ itv s2 h2=>?_
 obtain ⟨it,fp,tn,J,H2,e,I2,T,st2,f2,M1,ds,dr1,stp,yl,hz,W,w0,wt,wd⟩:=h2;subst e;have exo:∀ b ∈ fp,∃ o,s2.heap.get? b = some o:=λ b hb=>let ⟨o,q,_⟩:=T.obj 0 _ st2 b hb; ⟨o,q⟩;refine wpAny_newObj_type (wpAny_newFunctionEnv ok.cellF (by intro y hy; simp at hy) (λ h₁ hns₁ hsb₁=>?_) ok.kind);dsimp only at hns₁ hsb₁ ⊢;generalize hH2:s2.heap.push { cls:=.type "list",dict:=none,data:=.seq ([]:List Value).toArray } = HH at hns₁ hsb₁ ⊢;have hC:HH.objs.size = s2.heap.objs.size + 1:=by rw [<- hH2,Heap.size_push]
 have hDC:s2.heap.objs.size ≠ HH.objs.size:=by rw [hC]; exact Nat.ne_of_lt (Nat.lt_succ_self _)
 have hCle:s2.heap.objs.size <= HH.objs.size:=by rw [hC]; exact Nat.le_succ _
 have below:∀ b,b < s2.heap.objs.size->b ≠ HH.objs.size /\ b ≠ s2.heap.objs.size:=λ b hb=>⟨by rw [hC]; exact Nat.ne_of_lt (Nat.lt_succ_of_lt hb),Nat.ne_of_lt hb⟩;have old:∀ b o,s2.heap.get? b = some o->h₁.get? b = some o:=λ b o e=>hsb₁.extBut b o (below b (Heap.lt_size e)).1 (Heap.get?_push_of_some _ (hH2 ▸ Heap.get?_push_of_some _ e));have hacc:h₁.get? s2.heap.objs.size = some { cls:=.type "list",data:=.seq ([]:List Value).toArray }:=hsb₁.extBut _ _ hDC (Heap.get?_push_of_some _ (hH2 ▸ Heap.get?_push_size _ rfl));generalize hCC:HH.objs.size = C at *;generalize hDD:s2.heap.objs.size = D at hDC hacc below hCle;have hDs:s2.heap.objs.size <= D:=Nat.le_of_eq hDD;have hCs:s2.heap.objs.size <= C:=by rw [hDD]; exact hCle
 have fD:∀ b ∈ fp,b ≠ D /\ b ≠ C:=λ b hb=>by
  obtain ⟨o,q⟩:=exo b hb;exact ⟨(below b (by rw [<- hDD]; exact Heap.lt_size q)).2,(below b (by rw [<- hDD]; exact Heap.lt_size q)).1⟩
 have okY:(Zs X scope C N fp s2 H2).Ok:=YT ok I2 f2 exo hCs;have fsD:∀ b ∈ frs X.stack,b < s2.heap.objs.size:=λ b hb=>by
  obtain ⟨_,o,ho,_⟩:=I2.stack.mem hb;exact Heap.lt_size ho
 have cellD:∀ x c,(Zs X scope C N fp s2 H2).env.cells.lookup x = some c->c < s2.heap.objs.size /\ H2 c = none:=λ x c e=>by
  have e':=(ZQ (MI ok I2) e).1;obtain ⟨v,q⟩:=I2.cell x c e';exact ⟨q.lt,I2.freeC x c e'⟩
 have fpY:∀ {H':Hp} {ps:List (Addr × Obj)},(∀ b ∈ fp,H' b = none)->(∀ p ∈ ps,p.1 = D)->∀ b ∈ fp,U6 (Zs X scope C N fp s2 H2) ps H' b:=λ {H' ps} hn hp b hb=>
  ⟨hn b hb,(fD b hb).2,okY.exfs b hb,.inl hb,(okY.exf b hb).2,λ p hp' z=>by
   have q:p ∈ ps:=hp';rw [hp p q] at z
   exact (fD b hb).1 z.symm⟩
 have onlyD:∀ (o:Obj),∀ p ∈ [(D,o)],p.1 = D:=λ o p hp=>by
  have q:p = (D,o):=by simpa using hp
  rw [q]
 have reloc:∀ {ps:List (Addr × Obj)} {σ':L2.St} {H':Hp} {s':Shared} {o:Obj},L2.Inv (Zs X scope C N fp s2 H2) ps σ' H' s'->s'.heap.get? D = some o->H' D = none->(∀ v,o.data ≠ .cell v) ->
   L2.Inv (Zs X scope C N fp s2 H2) [(D,o)] (Qc ix Z) H' s':=λ {ps σ' H' s' o} J' hD hn hd=>by
  obtain ⟨m,hm,_⟩:=J'.loc;refine ⟨J'.ok,J'.os,J'.bare,J'.base,⟨m,hm,λ i x v a b _=>VO ok I2 f2 J'.base i x v a b⟩,J'.cell,J'.free,J'.freeC,λ p hp=>?_,J'.hok,?_⟩
  ·have q:p = (D,o):=by
    have z:p ∈ ([]:List (Addr × Obj)) ++ [(D,o)]:=hp
    simpa using z
   subst q;exact ⟨hD,hn,hDC,λ z=>absurd (fsD D z) (Nat.not_lt.mpr hDs),hd⟩
  ·show (Qc ix Z).length = N.length;unfold Qc;rw [List.length_map,ok.len]
 have start:L2.Inv (Zs X scope C N fp s2 H2) [(D,{ cls:=.type "list",data:=.seq ([]:List Value).toArray })] (Qc ix Z) H2 { s2 with heap:=h₁,toks:=s2.toks + ([]:List (Str × Value)).length }:=by
  refine ⟨okY,rfl,I2.bare,Un.kept old,⟨_,hns₁,λ i x v a b _=>VO ok I2 f2 (Un.kept old) i x v a b⟩,λ x c e=>?_,I2.hok.fresh hCs,λ x c e=>(cellD x c e).2,λ p hp=>?_,I2.hok.kept old,?_⟩
  ·obtain ⟨v,o,ho,hd⟩:=I2.cell x c (ZQ (MI ok I2) e).1;exact ⟨v,o,old c o ho,hd⟩
  ·have q:p = (D,{ cls:=.type "list",data:=.seq ([]:List Value).toArray }):=by
    have z:p ∈ ([]:List (Addr × Obj)) ++ [(D,{ cls:=.type "list",data:=.seq ([]:List Value).toArray })]:=hp
    simpa using z
   subst q;exact ⟨hacc,I2.hok.fresh hDs,hDC,λ z=>absurd (fsD D z) (Nat.not_lt.mpr hDs),λ v z=>nomatch z⟩
  ·show (Qc ix Z).length = N.length;unfold Qc;rw [List.length_map,ok.len]
 have loop:∀ s₃:Shared,s₃ = { s2 with heap:=h₁,toks:=s2.toks + ([]:List (Str × Value)).length } ->
   codeAny (model X.prog X.w) X.A (.compLoop (.ListComp elt [⟨tg,iter,ifs,0⟩] scope pos) 0 (.ref it) (.ref D) (compEnvC scope (Bm X.env scope.names []) C X.env)) (compPost (model X.prog X.w) X.A X.xe use QQ (.ref D) C) s₃:=by
  rintro s₃ rfl
  refine Vs (λ n s'=>∃ (i:Nat) (acc:List DV) (vs:List V) (its:List Value) (nn:Nat) (H':Hp) (M':Mp),L2.Inv (Zs X scope C N fp s2 H2) [(D,{ cls:=.type "list",data:=.seq its.toArray nn })] (Qc ix Z) H' s' /\
   tn i s'.heap /\ (∀ b ∈ fp,H' b = none) /\ Zy X.K M' H' /\ Step M1 H2 M' H' /\ Vals vs its /\ Paired (VR0 X.K M' H') vs acc /\ W i acc M' /\ i <= ds.length /\ acc.length <= i /\ n = ds.length - i) ?_ ds.length
   ⟨0,[],[],[],0,H2,M1,start,T.keep _ _ _ st2 (λ b _ o e=>old b o e),λ b hb=>(f2 b hb).1,dr1,Step.refl,.nil,.nil,w0,Nat.zero_le _,Nat.le_refl _,rfl⟩
  rintro n s' ⟨i,acc,vs,its,nn,H',M',IY,ti,fr,dr',stp',rv,rd,wi',hil,hal,rfl⟩;have pinD:=IY.pin (D,{ cls:=.type "list",data:=.seq its.toArray nn }) (by simp);have fok:=fpY (ps:=[(D,{ cls:=.type "list",data:=.seq its.toArray nn })]) fr (onlyD _);obtain ⟨ygo,ystop⟩:=yl M' H' stp' i
  by_cases hlt:i < ds.length
  ·obtain ⟨jgo,jyl⟩:=ygo hlt;refine thn (T.item (Zs X scope C N fp s2 H2) rfl rfl rfl hc i _ s' (Qc ix Z) H' (λ _ _=>False) IY fok ti jgo) λ r s4 ⟨u,hr,h4⟩=>?_;subst hr;refine thn h4 λ _ s5 ⟨x,H5,I5,r5,y5,st5,fr5⟩=>?_;obtain ⟨dr5,stp5,d,hd,hxd⟩:=jyl x H5 y5 dr';replace dr':=dr5;replace stp':=stp'.trans stp5;replace rd:=Paired.Cr rd λ _ _ z=>z.step stp5;have I5':=I5.pinned (fpY (ps:=[(D,{ cls:=.type "list",data:=.seq its.toArray nn })]) fr5 (onlyD _)) (T.obj _ _ st5);obtain ⟨tg',pg,qg⟩:=hg C fp s2 H2
   refine thn (pg _ s5 (Qc ix Z) H5 x u (λ σ6 H6=>∃ Δ6 M6,Zy X.K M6 H6 /\ Step M' H5 M6 H6 /\ Qj X.K M6 H6 σ6 Δ6 /\ tc Δ6 M6 λ b M3=>if b = true then te Δ6 M3 λ y M4=>BE y (W (i + 1) (acc ++ [y]) M4) else W (i + 1) acc M3) I5' r5
    (qg x (Qc ix Z) H5 (.dat d) (Wh ix U) M' _ _ dr' ((er.step (stp.trans stp')).cap ix) hxd (wt i d acc M' hd wi') λ σ6 H6 Δ6 M6 a b c d=>⟨Δ6,M6,a,b,c,d⟩)) λ _ s6 ⟨σ6,H6,I6,Δ6,M6,dr6,stp6,er6,q6⟩=>?_
   refine thn (ht C fp s2 H2 _ s6 σ6 H6 Δ6 M6 _ I6 dr6 er6 q6) λ b s7 ⟨H7,M7,I7,dr7,stp7,q7⟩=>?_;have keepD:∀ {σz:L2.St} {Hz:Hp} {sz:Shared},L2.Inv (Zs X scope C N fp s2 H2) ([(D,{ cls:=.type "list",data:=.seq its.toArray nn })] ++ YO fp s5.heap) σz Hz sz ->
     sz.heap.get? D = some { cls:=.type "list",data:=.seq its.toArray nn } /\ Hz D = none /\ tn (i + 1) sz.heap /\ ∀ b ∈ fp,Hz b = none:=λ {σz Hz sz} Iz=>by
    have a:=Iz.pin (D,{ cls:=.type "list",data:=.seq its.toArray nn }) (by simp);refine ⟨a.1,a.2.1,T.keep _ _ _ st5 λ b hb o e=>(Iz.pin (b,o) (List.mem_append_right _ (List.mem_append_right _ (Qv hb e)))).1,λ b hb=>?_⟩;obtain ⟨o,e,_⟩:=T.obj _ _ st5 b hb;exact (Iz.pin (b,o) (List.mem_append_right _ (List.mem_append_right _ (Qv hb e)))).2.1
   cases b with
   | false=>
    have q7':W (i + 1) acc M7:=by simpa using q7
    obtain ⟨a1,a2,a3,a4⟩:=keepD I7;have st17:Step M' H5 M7 H7:=stp6.trans stp7;exact ⟨ds.length - (i + 1),by omega,i + 1,acc,vs,its,nn,H7,M7,reloc I7 a1 a2 (λ v z=>nomatch z),a3,a4,dr7,stp'.trans st17,rv,(Paired.Cr rd λ _ _ z=>z.step st17),q7',hlt,by omega,rfl⟩
   | true=>
    have q7':te Δ6 M7 λ y M4=>BE y (W (i + 1) (acc ++ [y]) M4):=by simpa using q7
    obtain ⟨te',pe',qe'⟩:=he C fp s2 H2
    refine thn (pe' _ s7 σ6 H7 (λ v H8=>∃ e M8,Zy X.K M8 H8 /\ Step M7 H7 M8 H8 /\ VR0 X.K M8 H8 v e /\ W (i + 1) (acc ++ [e]) M8) I7 (qe' σ6 H7 Δ6 M7 _ _ dr7 (er6.step stp7) q7' λ v H8 x8 M8 a b c d=>by
     obtain ⟨nt,w8⟩:=B2 d
     exact ⟨x8,M8,a,b,ZP.zero c nt,w8⟩)) λ y s8 ⟨v,H8,I8,r8,e,M8,dr8,stp8,dv8,w8⟩=>?_
    obtain ⟨a1,a2,a3,a4⟩:=keepD I8;have st18:Step M' H5 M8 H8:=stp6.trans (stp7.trans stp8);have lv:=rv.length;have ld:=Paired.length rd;refine call_meets PySem.F.slot_list_append ⟨_,a1,rfl⟩ PySem.F.entry_list_append (PySem.F.args_list_append_2 _ _) (PySem.list_append D its.toArray nn y (by rw [List.size_toArray]; omega)) ⟨a1,?_⟩;have q:=PySem.IsL.update a1 (·.push y);have I8':L2.Inv (Zs X scope C N fp s2 H2) [] σ6 H8 s8:=I8.J8 λ p hp=>nomatch hp;have I9:=I8'.turned (it:=D) (h':=s8.heap.update D (Obj.mapSeq (·.push y))) (t':=s8.toks) (λ b o hb hu=>(Heap.get?_update_other s8.heap (Obj.mapSeq (·.push y)) (Ne.symm hb)).trans hu) a2 hDC (.inr hDs)
     (λ x c e z=>absurd (z ▸ (cellD x c e).1) (Nat.not_lt.mpr hDs)) (λ p hp=>by have z:p ∈ ([]:List (Addr × Obj)) ++ []:=hp; simp at z)
    have ea:(its.toArray.push y) = (its ++ [y]).toArray:=by simp
    rw [ea] at q
    refine ⟨ds.length - (i + 1),by omega,i + 1,acc ++ [e],vs ++ [v],its ++ [y],_,H8,M8,reloc I9 q a2 (λ v z=>nomatch z),T.keep _ _ _ a3 (λ b hb o e=>(Heap.get?_update_other s8.heap (Obj.mapSeq (·.push y)) (Ne.symm (fD b hb).1)).trans e),a4,dr8,stp'.trans st18,
     rv.append (.cons r8 .nil),Paired.app (Paired.Cr rd λ _ _ z=>z.step st18) (.cons dv8 .nil),w8,hlt,by rw [List.length_append,List.length_singleton]; omega,rfl⟩
  ·have hie:i = ds.length:=by omega
   refine thn (T.done (Zs X scope C N fp s2 H2) rfl rfl rfl hc i _ s' (Qc ix Z) H' (λ _ _=>False) IY fok ti (ystop (by omega))) λ r s4 ⟨hr,I4⟩=>?_;subst hr;obtain ⟨m4,hm4,_⟩:=I4.loc;have pD:=I4.pin (D,{ cls:=.type "list",data:=.seq its.toArray nn }) (by simp);have hCn:H' C = none:=I4.free;have hDn:H' D = none:=pD.2.1;have hok4:HOk X.prog X.w (upd H' D (.lst vs)) s4.heap:=λ b u e=>by
    by_cases hb:b = D
    ·subst hb;rw [ZW] at e;cases e;exact ⟨by have:=rv.length; have:=Paired.length rd; omega,its,nn,rv,pD.1⟩
    ·rw [Zv hb] at e;refine (I4.hok b u e).OT (λ c v hc' q=>q) (λ c q=>?_) λ c xs q=>?_
     ·rw [Zv (Zt q pD.2.1)]; exact q
     ·rw [Zv (Zt q pD.2.1)]; exact q
   have bu:Un (frs X.stack) fp H2 H' s2.heap s4.heap:=I4.base;have un4:Un (frs X.stack) fp H2 (upd H' D (.lst vs)) s2.heap s4.heap:=by
    have nD:∀ b o,s2.heap.get? b = some o->b ≠ D /\ b ≠ C:=λ b o e=>⟨λ z=>absurd (z ▸ Heap.lt_size e) (Nat.not_lt.mpr hDs),λ z=>absurd (z ▸ Heap.lt_size e) (Nat.not_lt.mpr hCs)⟩;refine ⟨λ b o e n hb hx=>bu.keep b o e n hb hx,λ b o e n hb hx=>bu.slot b o e n hb hx,λ b o e n hx=>by rw [Zv (nD b o e).1]; exact bu.free b o e n hx,λ b o e hx=>bu.there b o e hx,λ b xs e=>?_,λ b o xs e=>?_,λ b ps e=>?_⟩
    ·have q:=bu.tups b xs e;rw [Zv (Zt q pD.2.1)]; exact q
    ·have q:=bu.frzs b o xs e;rw [Zv (Zt q pD.2.1)]; exact q
    ·obtain ⟨mo,q⟩:=bu.tbls b ps e;exact ⟨mo,by rw [Zv (Zt q pD.2.1)]; exact q⟩
   have os4:s4.os = s2.os:=I4.os;have IX:L2.Inv X pins Z (upd H' D (.lst vs)) s4:=I2.ON (s':=s4) os4 un4 hok4 I4.bare λ b hb=>⟨(f2 b hb).2.2.2.1,(f2 b hb).2.1,(f2 b hb).2.2.2.2.1,(f2 b hb).2.2.2.2.2⟩;subst hie;exact hfin s4 C D H' M' vs acc IX hDn dr' (stp.trans stp') rd (wd acc M' wi') ⟨m4,hm4⟩ (I2.PX hCs (by rw [Zv (Ne.symm hDC)]; exact hCn))
 have hst₁:tn 0 h₁:=T.keep _ _ _ st2 λ b _ o e=>old b o e;exact codeAny_compStart_list (loop _ rfl) (T.self _ 0 _ _ _ hst₁ (loop _ rfl))
def MP (n:Nat) (src:JZ) (ix:List (Option Nat)) (g:DTG) (tc:DTT) (te:DTE):DTE:=λ U M Φ=>src U M λ ds M1=>Xv ds M1 U ix g tc te λ acc M'=>∀ p,M' p = none->Φ (.own p) (ZJ M' p (.lsv n acc))
theorem HI (n:Nat) {elt:Expr} {ifs:List Expr} {pos:Pos} {src:JZ} {g:DTG} {tc:DTT} {te:DTE} (ok:QO X scope N ix) (hi:DI X tg iter src)
  (hg:∀ C ex s H,DG (Zs X scope C N ex s H) tg g) (ht:∀ C ex s H,DTs (Zs X scope C N ex s H) ifs tc) (he:∀ C ex s H,DE (Zs X scope C N ex s H) elt te) (hc:X.calm = true)
  (hs:autoParam (∀ x,foldedSetIterable iter X.env x = pure x) zz2._auto_1):DE X (.ListComp elt [⟨tg,iter,ifs,0⟩] scope pos) (MP n src ix g tc te):=by
 refine ⟨λ Z H Q=>∀ pins s,L2.Inv X pins Z H s->wpAny (model X.prog X.w) X.A (eval (.ListComp elt [⟨tg,iter,ifs,0⟩] scope pos) X.env) (EP X pins Z Q) X.xe s,λ pins s Z H Q I h=>h pins s I,λ Z H U M Φ Q dr er h k pins s I=>?_⟩;rw [eval_ListComp];refine Gw ok hi hg ht he hc hs dr er h I λ s4 C D H' M' vs acc IX hDn dr' st rd fin hm f=>?_;obtain ⟨m,hm⟩:=hm;exact ⟨m,hm,λ h' hsb=>⟨.ref D,_,gone IX f hsb,rfl,k _ _ (.own D) _ (dr'.Rn (Step.QY hDn) rd) (st.trans (Step.QY hDn)) rfl (fin D (dr'.tracked hDn))⟩⟩
theorem LO:type_of% @MP.eq_1:=λ _ _ _ _ _ _ _ _ _=>qI
section
variable {o f:Expr} {td tf:DTE} {p pos apos cpos:Pos}
end
def B1 (te:DTE) (U:DSt) (M:Mp) (Φ:DK):List Nat->DSt->Prop
 | [],Δ0=>te Δ0 (λ _=>none) λ y _=>onD y λ c=>YG c = true /\ Φ (.dat c) M
 | n :: ns,Δ0=>onV U[n]? λ x=>∃ d,AsD M x d /\ B1 te U M Φ ns (Δ0.set n (some (.dat d)))
theorem R0 (te:DTE) (U:DSt) (M:Mp) (Φ:DK) (Δ0:DSt):B1 te U M Φ [] Δ0 = (te Δ0 (λ _=>none) λ y _=>onD y λ c=>YG c = true /\ Φ (.dat c) M):=by rw [B1]
theorem TZ (te:DTE) (U:DSt) (M:Mp) (Φ:DK) (n:Nat) (ns:List Nat) (Δ0:DSt):B1 te U M Φ (n :: ns) Δ0 = (onV U[n]? λ x=>∃ d,AsD M x d /\ B1 te U M Φ ns (Δ0.set n (some (.dat d)))):=by rw [B1]
def R9 (ns:List Nat) (te:DTE):DTE:=λ U M Φ=>B1 te U M Φ ns (QF U)
theorem OR (ns:List Nat) (te:DTE) (U:DSt) (M:Mp) (Φ:DK):R9 ns te U M Φ = B1 te U M Φ ns (QF U):=qI
theorem Qj.putD {Z:L2.St} {U:DSt} (e:Qj K M H Z U) (hv:Z[n]? = some (some v)) (hd:Dt K M H v d):Qj K M H Z (U.set n (some (.dat d))):=⟨by rw [List.length_set]; exact e.len,λ j y z=>by
 by_cases q:n = j
 ·subst q
  by_cases hl:n < U.length
  ·rw [List.getElem?_set_self hl] at z;cases z;exact ⟨v,hv,hd⟩
  ·rw [List.getElem?_eq_none (by rw [List.length_set]; lia)] at z;cases z
 ·rw [List.getElem?_set_ne q] at z
  exact e.at' j y z⟩
theorem Oq (ns:List Nat) (h:DE X e te):DE X e (R9 ns te):=by
 obtain ⟨u,p,q⟩:=h;refine ⟨u,p,λ Z H U M Φ Q r er h k=>?_⟩;have r0:Zy X.K (λ _=>none) H:=⟨λ a o z=>nomatch z⟩
 have go:∀ (ns:List Nat) (Δ0:DSt),Qj X.K (λ _=>none) H Z Δ0->B1 te U M Φ ns Δ0->u Z H Q:=λ ns=>by
  induction ns with
  | nil=>
   intro Δ0 e0 h;rw [B1] at h;refine q Z H _ _ _ _ r0 e0 h λ w H' y M' r' st' rw' hy=>?_;replace hy:=JP hy;obtain ⟨c,rfl,lf,f⟩:=hy;have st:Step M H M H':=⟨λ b o _ z=>st'.keep b o rfl z,λ b o z _=>z⟩
   have r2:Zy X.K M H':=r.step_same st λ a u _ z=>st'.keep a u rfl z;exact k _ _ (.dat c) M r2 st (Dt.back r2 rw' lf) f
  | cons n ns ih=>
   intro Δ0 e0 h;rw [B1] at h;replace h:=Uo h;obtain ⟨x,ex,d,hd,h⟩:=h;obtain ⟨v,ev,rv⟩:=er.at' n x ex;exact ih _ (e0.putD ev (AsD.dt r hd (rv.Zcm hd))) h
 exact go ns _ ⟨by rw [Y2]; exact er.len,λ j y z=>absurd z (Y3 U j y)⟩ h
def Gx (h:Heap) (d:Addr) (ks:List Value) (ep:Nat):Prop:=∃ o es,h.get? d = some o /\ o.ExactDict /\ o.data = .dict es ep /\ es.toList.map (·.key) = ks
section
variable {E:Value->Shared->Prop} {d it:Addr} {ks:List Value}
theorem Gx.ty (h:Gx s.heap d ks ep):s.TypeIs (.ref d) "dict" := let ⟨o,_,ho,hx,_⟩:=h; ⟨o,ho,hx.1⟩
theorem E3 {Q:Value->Shared->Prop} (hd:(d == sysModules) = false) (hm:Gx s.heap d ks ep)
  (hQ:Q (.ref s.heap.objs.size) { s with heap:=s.heap.push { cls:=.type "dict_keyiterator",data:=.fields #[.ref d,.int 0 0,.int ks.length 0,.int ep 0] } }):wpAny (model P w) A (pyIter (.ref d)) Q E s:=by
 obtain ⟨o,es,ho,hc,hdat,hk⟩:=id hm;have hT:=hm.ty;refine wpAny_pyIter_slot hT PySem.F.slot_dict_iter (wpAny_call_entry PySem.F.slot_dict_iter hT PySem.F.entry_dict_iter ?_ (PySem.F.args_dict_iter_1 _)); unfold Builtin.«dict.__iter__»; refine wpAny_bind ?_; unfold Builtin.Dict.dictSlotNone;refine wpAny_bind (wpAny_notOrdered_dict hT ?_); show wpAny _ _ (pure (Value.ref d)) _ _ s; refine wpAny_pure ?_; show wpAny _ _ (Builtin.Dict.showsAll d >>= _) _ _ s; unfold Builtin.Dict.showsAll;rw [if_neg (by rw [hd]; exact Bool.false_ne_true)]; refine wpAny_bind (wpAny_pure ?_); refine wpAny_bind (wpAny_dictEntries ho hdat ?_); refine wpAny_bind (wpAny_dictEpoch ho hdat ?_);have hsz:es.size = ks.length:=by rw [<- hk]; simp
 refine wpAny_bind (wpAny_newObj_type (wpAny_pure ⟨_,rfl, "dict_keyiterator",_,⟨_,Heap.get?_push_size _ rfl,rfl⟩,PySem.F.slot_dict_keyiterator_next.lookup,?_⟩)); simpa [rawInt,hsz] using hQ
theorem EX {k:Value} {Q:Option Value->Shared->Prop} (hit:s.heap.IsKeyIter it d i ks.length ep) (hm:Gx s.heap d ks ep) (hx:ks[i]? = some k)
  (hQ:∀ h',h'.IsKeyIter it d (i + 1) ks.length ep->Heap.SameBut it s.heap h'->Q (some k) { s with heap:=h' }):wpAny (model P w) A (pyNext (.ref it)) Q E s:=by
 obtain ⟨o,ho,hc,hd⟩:=id hit; obtain ⟨od,es,hod,hcd,hdd,hk⟩:=id hm; unfold pyNext;refine wpAny_bind (wpAny_attempt (wpAny_callSpecial?_slot (name:=Str.ofString "__next__") hit.typeIs PySem.F.slot_dict_keyiterator_next (wpAny_call_entry PySem.F.slot_dict_keyiterator_next hit.typeIs PySem.F.entry_dict_keyiterator_next ?_ (PySem.F.args_dict_keyiterator_next_1 _)))); refine wpAny_bind (wpAny_pure ?_); refine wpAny_bind ?_; refine wpAny_bind ?_
 first | refine wpAny_bind (wpAny_typeNameOfWhole_keyiter hit.typeIs (wpAny_pure ?_)); skip | refine wpAny_bind (wpAny_typeNameOf_keyiter hit.typeIs (wpAny_pure ?_)); skip
 refine wpAny_bind (wpAny_fieldsOf ho hd ?_); have hown:Builtin.Dict_items.ownsTuple "dict_keyiterator" = false:=by decide
 simp only [hown,Bool.false_eq_true,if_false]; show wpAny _ _ (if (Value.ref d == Value.none) = true then _ else _) _ _ s; rw [if_neg (show ¬ ((Value.ref d == Value.none) = true) from Bool.false_ne_true)]; refine wpAny_bind (wpAny_pure ?_); refine wpAny_bind (wpAny_dictEntries hod hdd ?_);have hsz:es.size = ks.length:=by rw [<- hk]; simp
 rw [if_neg (by rw [hsz]; simp)]; refine wpAny_bind (wpAny_pure ?_); refine wpAny_bind (wpAny_dictEpoch hod hdd ?_); rw [if_neg (by simp)]; refine wpAny_pure ?_;have hlt':i < es.size:=by
  rw [hsz];exact (List.getElem?_eq_some_iff.mp hx).1
 have ek:es[i].key = k:=by
  rw [<- hk,List.getElem?_map,Array.getElem?_toList,Array.getElem?_eq_getElem hlt'] at hx;exact Option.some.inj hx
 simp only [show ¬ ((i:Int) < 0) from by lia,if_false,Int.toNat_natCast,Array.getElem?_eq_getElem hlt']; refine wpAny_bind ?_
 first | refine wpAny_bind (wpAny_typeNameOfWhole_keyiter hit.typeIs (wpAny_pure ?_)); skip | refine wpAny_bind (wpAny_typeNameOf_keyiter hit.typeIs (wpAny_pure ?_)); skip
 refine wpAny_bind (wpAny_isOneOf_keyiter hit.typeIs ?_); show wpAny _ _ (setField (.ref it) 1 (rawInt ((i:Int) + 1)) >>= _) _ _ s; refine wpAny_bind (wpAny_setField ho hd (by simp) ?_);have hit':(s.heap.update it (Obj.mapFields (·.setIfInBounds 1 (rawInt ((i:Int) + 1))))).IsKeyIter it d (i + 1) ks.length ep:=⟨_,Heap.get?_update_self _ ho (Obj.isFreed_of_fields (Obj.data_mapFields hd _)),(Obj.cls_mapFields ..).trans hc,by rw [Obj.data_mapFields hd]; simp [rawInt]⟩
 refine wpAny_bind (wpAny_holding ?_); refine wpAny_bind (wpAny_isOneOf_keyiter (s:={ s with heap:=s.heap.update it (Obj.mapFields (·.setIfInBounds 1 (rawInt ((i:Int) + 1)))) }) hit'.typeIs ?_);show wpAny _ _ (pure es[i].key) _ _ _; rw [ek];exact wpAny_pure (wpAny_pure ⟨_,rfl,wpAny_pure (hQ _ hit' (Heap.SameBut.update ..))⟩)
end
section
variable {E:Value->Shared->Prop} {d it:Addr} {ks:List Value}
theorem Rh {Q:Option Value->Shared->Prop} (hh:A.handled = none) (hit:s.heap.IsKeyIter it d i ks.length ep) (hm:Gx s.heap d ks ep) (hx:ks[i]? = none) (hQ:∀ h',Heap.ExtBut it s.heap h'->Q none { s with heap:=h' }):wpAny (model P w) A (pyNext (.ref it)) Q E s:=by
 obtain ⟨o,ho,hc,hd⟩:=id hit; obtain ⟨od,es,hod,hcd,hdd,hk⟩:=id hm; unfold pyNext;refine wpAny_bind (wpAny_attempt (wpAny_callSpecial?_slot (name:=Str.ofString "__next__") hit.typeIs PySem.F.slot_dict_keyiterator_next (wpAny_call_entry PySem.F.slot_dict_keyiterator_next hit.typeIs PySem.F.entry_dict_keyiterator_next ?_ (PySem.F.args_dict_keyiterator_next_1 _)))); refine wpAny_bind (wpAny_pure ?_); refine wpAny_bind ?_; refine wpAny_bind ?_
 first | refine wpAny_bind (wpAny_typeNameOfWhole_keyiter hit.typeIs (wpAny_pure ?_)); skip | refine wpAny_bind (wpAny_typeNameOf_keyiter hit.typeIs (wpAny_pure ?_)); skip
 refine wpAny_bind (wpAny_fieldsOf ho hd ?_); have hown:Builtin.Dict_items.ownsTuple "dict_keyiterator" = false:=by decide
 simp only [hown,Bool.false_eq_true,if_false]; show wpAny _ _ (if (Value.ref d == Value.none) = true then _ else _) _ _ s; rw [if_neg (show ¬ ((Value.ref d == Value.none) = true) from Bool.false_ne_true)]; refine wpAny_bind (wpAny_pure ?_); refine wpAny_bind (wpAny_dictEntries hod hdd ?_);have hsz:es.size = ks.length:=by rw [<- hk]; simp
 rw [if_neg (by rw [hsz]; simp)]; refine wpAny_bind (wpAny_pure ?_); refine wpAny_bind (wpAny_dictEpoch hod hdd ?_); rw [if_neg (by simp)]; refine wpAny_pure ?_;have hge:es.size <= i:=by rw [hsz]; exact List.getElem?_eq_none_iff.mp hx
 simp only [show ¬ ((i:Int) < 0) from by lia,if_false,Int.toNat_natCast,Array.getElem?_eq_none hge]; refine wpAny_bind ?_
 first | refine wpAny_bind (wpAny_typeNameOfWhole_keyiter hit.typeIs (wpAny_pure ?_)); skip | refine wpAny_bind (wpAny_typeNameOf_keyiter hit.typeIs (wpAny_pure ?_)); skip
 show wpAny _ _ (setField (.ref it) 0 .none >>= _) _ _ s; refine wpAny_bind (wpAny_setField ho hd (by simp) ?_); show wpAny _ _ (newExc (.type "StopIteration") [] >>= _) _ _ _; refine wpAny_bind ?_; simp only [newExc,newTuple]; refine wpAny_bind (wpAny_newObj_type ?_ (by size_fits));refine wpAny_bind (m:=firstArgMember _ _) (wpAny_of_eq (a:=Value.none) (by first | rfl | (simp only [firstArgMember]; rfl)) ?_); refine wpAny_newObj_type ?_ (by size_fits); simp only [raiseNew]; refine wpAny_bind (wpAny_handled ?_); rw [show A.in1.handled = none from hh];refine wpAny_bind (wpAny_pure (wpAny_throw ?_)); refine wpAny_bind (wpAny_isInstance (T := "StopIteration") (b:=true) ⟨_,Heap.get?_push_size _ rfl,rfl⟩ isSubtype_stop ?_); exact wpAny_pure (hQ _ (((Heap.SameBut.update ..).extBut.push _).push _))
end
noncomputable def Itt (o:Obj) (a:Addr) (ks:List (List Key)):It:=
 ⟨λ i H=>i < ks.length /\ ∃ kvs,H a = some (.frz o (.dT kvs)) /\ kvs.map (·.1) = ks,λ i H x H'=>H' = H /\ ∃ k b,ks[i]? = some k /\ x = .ref b /\ H b = some (.tup (k.map kV)),
  λ i H=>ks.length <= i /\ ∃ kvs,H a = some (.frz o (.dT kvs)) /\ kvs.map (·.1) = ks⟩
theorem KT.at:∀ {kvs:List (List Key × V)} {xs:List (List Key × Addr × Value)},KT H kvs xs->kvs.map (·.1) = xs.map (·.1) /\ ∀ {i:Nat} {x:List Key × Addr × Value},xs[i]? = some x->H x.2.1 = some (.tup (x.1.map kV))
 | _,_,.nil=>⟨rfl,λ e=>by simp at e⟩
 | _,_,.cons h t=>by
  obtain ⟨e1,e2⟩:=KT.at t;refine ⟨by rw [List.map_cons,List.map_cons,e1,h.1],λ {i x} e=>?_⟩;cases i with
  | zero=>
   cases e;rw [<- h.1];exact h.2.1
  | succ i=>exact e2 (i:=i) (by simpa using e)
theorem OQ {Z:L2.St} (I:L2.Inv X pins Z H s) (e:H a = some (.frz o (.dT kvs))) :
  ∃ xs es ep,KT H kvs xs /\ o.data = .dict es ep /\ Gx s.heap a (xs.map λ x=>.ref x.2.1) ep /\ (a == sysModules) = false /\ kvs.length <= sizeLine:=by
 obtain ⟨ho,hz,hs,xs,rel,o',es,ep,ho',hx,hd,he,hn⟩:=(show Z8 X.prog X.w H s.heap a (.frz o (.dT kvs)) from I.hok a _ e)
 rw [ho] at ho';cases ho';refine ⟨xs,es,ep,rel,hd,⟨o,es,ho,hx,hd,?_⟩,hs,hz⟩;rw [he,List.map_map];rfl
def Zb6 (o:Obj) (a it:Addr) (n:Nat) (i:Nat) (h:Heap):Prop:=∃ es ep,o.data = .dict es ep /\ h.IsKeyIter it a i n ep
theorem Lk (o:Obj) (a it:Addr) (ks:List (List Key)):Turn P w K tg (Itt o a ks) [it] it (Zb6 o a it ks.length) where
 mem:=by simp
 obj:=λ i h st b hb=>by
  have e:b = it:=by simpa using hb
  subst e;obtain ⟨es,ep,_,o',e,c,d⟩:=st;exact ⟨o',e,λ v z=>by rw [d] at z; cases z⟩
 keep:=λ i h h' st k=>let ⟨es,ep,e,st⟩:=st; ⟨es,ep,e,st.at λ o e=>k it (by simp) o e⟩
 item:=by
  intro X hP hw hK hc i pins s Z H E I hf st hg;subst hP hw hK;obtain ⟨hi,kvs,hq,hk⟩:=hg;obtain ⟨es0,ep0,e0,st⟩:=st;obtain ⟨xs,es,ep,rel,e1,p,_,_⟩:=OQ I hq;rw [e0] at e1;cases e1;obtain ⟨k1,k2⟩:=KT.at rel;have kx:ks = xs.map (·.1):=by rw [<- hk,k1]
  have kl:(xs.map λ x=>Value.ref x.2.1).length = ks.length:=by rw [kx,List.length_map,List.length_map]
  rw [<- kl] at st;have ix:i < xs.length:=by rw [kx,List.length_map] at hi; exact hi
  have hx:xs[i]? = some xs[i]:=List.getElem?_eq_getElem ix;have hki:ks[i]? = some xs[i].1:=by rw [kx,List.getElem?_map,hx]; rfl
  obtain ⟨f0,f1,f2,f3,f4,f5⟩:=hf it (by simp);refine EX st p (k:=.ref xs[i].2.1) (by rw [List.getElem?_map,hx]; rfl) λ h' st' sb=>?_;have I1:L2.Inv X pins Z H { s with heap:=h' }:=I.turned (t':=s.toks) (λ b o hb e=>(sb.2 b hb).trans e) f0 f1 f3 f4 f5;obtain ⟨o2,e2,c2,d2⟩:=id st';exact ⟨_,rfl,Hd (s:={ s with heap:=h' }) e2 c2 d2 (by decide) ⟨.ref xs[i].2.1,H,I1,rfl,⟨rfl,xs[i].1,xs[i].2.1,hki,rfl,k2 hx⟩,⟨es0,ep0,e0,by rw [<- kl]; exact st'⟩,λ b hb=>(hf b hb).1⟩⟩
 done:=by
  intro X hP hw hK hc i pins s Z H E I hf st hg;subst hP hw hK;obtain ⟨hi,kvs,hq,hk⟩:=hg;obtain ⟨es0,ep0,e0,st⟩:=st;obtain ⟨xs,es,ep,rel,e1,p,_,_⟩:=OQ I hq;rw [e0] at e1;cases e1;obtain ⟨k1,k2⟩:=KT.at rel;have kx:ks = xs.map (·.1):=by rw [<- hk,k1]
  have kl:(xs.map λ x=>Value.ref x.2.1).length = ks.length:=by rw [kx,List.length_map,List.length_map]
  rw [<- kl] at st;obtain ⟨f0,f1,f2,f3,f4,f5⟩:=hf it (by simp);exact Rh (I.ok.hd hc) st p (List.getElem?_eq_none (by lia)) λ h' eb=>⟨rfl,I.turned (t':=s.toks) (λ b o hb e=>eb b o hb e) f0 f1 f3 f4 f5⟩
 self:=λ _ _ _ _ _ st h=>let ⟨_,_,_,st⟩:=st; wpAny_pyIter_keyiter st h
section
variable {l:Expr} {tl:TE}
def ZdC (tl:TE):TI:=λ Z H R=>tl Z H λ x H1=>∃ a kvs,x = .ref a /\ ((H1 a = some (.dT kvs) /\ ∀ o,R (Itt o a (kvs.map (·.1))) (upd H1 a (.frz o (.dT kvs)))) \/ ∃ o,H1 a = some (.frz o (.dT kvs)) /\ R (Itt o a (kvs.map (·.1))) H1)
theorem Pp {Z:L2.St} (I:L2.Inv X pins Z H s) (hq:H a = some (.dT kvs)):∃ o,L2.Inv X pins Z (upd H a (.frz o (.dT kvs))) s:=by
 obtain ⟨h1,h2,xs,rel,o,es,ep,ho,hr⟩:=(show Z8 X.prog X.w H s.heap a (.dT kvs) from I.hok a _ hq)
 refine ⟨o,I.write (h':=s.heap) (t':=s.toks) (e:=a) (by rw [hq]; exact trivial) (.inl rfl) (λ _ _ _ z=>z) ⟨o,ho⟩ ⟨ho,h1,h2,xs,KT.keeps rel λ b ys e=>?_,o,es,ep,ho,hr⟩⟩;rw [Zv λ z=>by rw [z,hq] at e; cases e];exact e
theorem Zaw (hl:PE X l tl):PI X tg l (ZdC tl):=by
 intro pins s Z H R I h;refine thn (hl pins s Z H _ I h) λ v s1 ⟨x,H1,I1,r1,q1⟩=>?_;obtain ⟨a,kvs,e,q⟩:=q1;subst e;cases r1;have fin:∀ (H2:Hp) (o:Obj),L2.Inv X pins Z H2 s1->H2 a = some (.frz o (.dT kvs))->R (Itt o a (kvs.map (·.1))) H2->wpAny (model X.prog X.w) X.A (pyIter (.ref a)) (PIE X pins Z tg R) X.xe s1:=λ H2 o I2 e2 q2=>by
  obtain ⟨xs,es,ep,rel,e1,p,hs,_⟩:=OQ I2 e2;refine E3 hs p ?_;obtain ⟨k1,k2⟩:=KT.at rel;have kl:(xs.map λ x=>Value.ref x.2.1).length = (kvs.map (·.1)).length:=by rw [k1,List.length_map,List.length_map]
  refine ⟨s1.heap.objs.size,[s1.heap.objs.size],_,_,H2,rfl,I2.kept (t':=s1.toks) λ b o e=>Heap.get?_push_of_some _ e,Lk o a _ (kvs.map (·.1)),⟨es,ep,e1,by rw [<- kl]; exact ⟨_,Heap.get?_push_size _ rfl,rfl,rfl⟩⟩,λ b hb=>?_,q2⟩;have e:b = s1.heap.objs.size:=by simpa using hb
  subst e;exact I2.PX (Nat.le_refl _) (I2.hok.fresh (Nat.le_refl _))
 rcases q with ⟨hq,q⟩ | ⟨o,hq,q⟩
 ·obtain ⟨o,I2⟩:=Pp I1 hq;exact fin _ o I2 ZW (q o)
 ·exact fin H1 o I1 hq q
end
noncomputable def tkD (k:List Key):PyData:=.tuple (k.map kD)
theorem UT:∀ k:List Key,Dts K M H (k.map kV) (k.map kD)
 | []=>.nil
 | x :: k=>.cons (Ts x) (UT k)
theorem Zcl (r:Zy K M H) {b:Addr} {k:List Key} (h:H b = some (.tup (k.map kV))):Dt K M H (.ref b) (tkD k):=.tup (.inl ⟨C2 r (.inl h),.inl h⟩) (UT k)
section
variable {E:Value->Shared->Prop}
end
section
variable {es:List Expr} {t:DTA} {x1:Nat} {pos:Pos} {o i:Expr} {to ti:DTE}
theorem Mxs.of0:∀ {vs:List V} {xs:List DV},Paired (VR0 K M H) vs xs->Mxs K M H vs xs
 | _,_,.nil=>.nil
 | _,_,.cons (b:=.dat d) h t=>.dat h (Mxs.of0 t)
 | _,_,.cons (b:=.own b) h t=>by
  cases (show _ = V.ref b from h);exact .own (Mxs.of0 t)
 | _,_,.cons (b:=.ty n) h t=>h.elim
 | _,_,.cons (b:=.mix ys) h t=>.mix h (Mxs.of0 t)
def Zbh (t:DTA):DTE:=λ U M Φ=>t U M λ xs M1=>EK xs (Nat.ble xs.length 100 = true /\ Φ (.mix xs) M1)
theorem NS:type_of% @Zbh.eq_1:=λ _ _ _ _=>qI
theorem O6 (h:DA X es t):DE X (.Tuple es x1 pos) (Zbh t):=by
 obtain ⟨u,p,q⟩:=h;refine ⟨_,ML p,λ Z H U M Φ Q r e h k=>?_⟩;refine q Z H U M _ _ r e h λ vs H1 xs M1 r1 st rv hx=>?_;obtain ⟨hz,hl,hx⟩:=W3 (K:=X.K) (M:=M1) (H:=H1) hx;have hlen:vs.length = xs.length:=Paired.length rv;have hl':=Nat.le_of_ble_eq_true hl;refine ⟨by rw [hlen,sizeLine_eq]; lia,λ a ha=>?_⟩;have st2:Step M1 H1 M1 (upd H1 a (.tup vs)):=Step.new ha;exact k _ _ (.mix xs) _ (r1.new ha) (st.trans st2) (show Mx _ _ _ _ _ from .mk (r1.tracked ha) ZW (Mxs.of0 (Paired.Cr (hz rv) λ _ _ z=>z.step st2))) hx
end
theorem cO {k k':Nat} {S:DSp} {es:List Expr} {t:DTA} {p pos:Pos} (O:Own X.K X.mg x st ps f fd) (F:Qh X.prog X.w X.K X.mg X.base CX0 k f fd ps (lift X.K S)) (hr:Vc k' X.A) (ha:DA X (e :: es) t)
  (hl:autoParam (k <= k') zz9._auto_1) (hg:autoParam (Gl X x) zz10._auto_1) (hdb:autoParam ((x == ("__debug__" : Str)) = false) zz1._auto_1) (he:autoParam (starEach (e :: es) X.env = (false,eval e X.env) :: starEach es X.env) zz3._auto_1) (hpl:autoParam ((backTo pos (starEach es X.env)).any (·.1) = false) zz3._auto_1):DE X (.Call (.Name x p) (e :: es) [] pos) (NB S t):=
 O0 F (hr.mono hl) hg O.m O.F.kp O.b ZcA ha hdb he hpl
section
variable {prog:Program} {E:Value->Shared->Prop} {KK:Type} [DecidableEq KK] {knd:HeapKind prog w KK}
end
section
variable {o f:Expr} {td ty tx:TE} {apos cpos:Pos}
end
noncomputable def dvT (ps:List (List Key × PyData)) (k:List Key):Option PyData:=(ps.find? λ kv=>decide (kv.1 = k)).map (·.2)
def Sf (o:Option OO) (P:List (List Key × PyData)->Prop):Prop:=match o with | some (.dtv ps)=>P ps | _=>False
theorem Cf (ps:List (List Key × PyData)) (P:List (List Key × PyData)->Prop):Sf (some (.dtv ps)) P = P ps:=qI
theorem N7 {o:Option OO} {P:List (List Key × PyData)->Prop} (h:Sf o P):∃ ps,o = some (.dtv ps) /\ P ps:=by
 unfold Sf at h
 split at h
 ·exact ⟨_,rfl,h⟩
 ·exact h.elim
noncomputable abbrev kDV (k:List Key):DV:=.mix (k.map λ a=>.dat (kD a))
theorem Wo:∀ {k:List Key} {vs:List V},Mxs K M H vs (k.map λ a=>DV.dat (kD a))->vs = k.map kV
 | [],_,h=>by cases h; rfl
 | .inl i :: k,_,h=>by cases h with | dat h1 h2=>cases h1; rw [Wo h2]; rfl
 | .inr x :: k,_,h=>by cases h with | dat h1 h2=>cases h1; rw [Wo h2]; rfl
theorem Zbf {k:List Key} (h:ZP K M H v (kDV k)):∃ b,v = .ref b /\ H b = some (.tup (k.map kV)):=by
 cases (show Mx K M H v _ from h) with
 | mk h1 h2 h3=>exact ⟨_,rfl,by rw [<- Wo h3]; exact h2⟩
theorem Bt (k:List Key):∀ {kvs:List (List Key × V)} {ps:List (List Key × PyData)},kvs.map (·.1) = ps.map (·.1)->Dts K M H (kvs.map (·.2)) (ps.map (·.2))->(Xk kvs k = none /\ dvT ps k = none) \/ ∃ v d,Xk kvs k = some v /\ dvT ps k = some d /\ Dt K M H v d
 | [],[],_,_=>.inl ⟨rfl,rfl⟩
 | [],_ :: _,h,_=>by simp at h
 | _ :: _,[],h,_=>by simp at h
 | (k1,v) :: kvs,(k2,d) :: ps,h,hd=>by
  rw [List.map_cons,List.map_cons,List.cons.injEq] at h;cases (show k1 = k2 from h.1);cases hd with
  | cons h1 h2=>
   unfold Xk dvT
   by_cases e:k1 = k
   ·rw [List.find?_cons_of_pos (by simpa using e),List.find?_cons_of_pos (by simpa using e)];exact .inr ⟨v,d,rfl,rfl,h1⟩
   ·rw [List.find?_cons_of_neg (by simpa using e),List.find?_cons_of_neg (by simpa using e)];exact Bt k h.2 h2
section
variable {o f i:Expr} {td ty tx:DTE} {apos cpos pos:Pos}
def BS:DTE:=λ _ M Φ=>∀ p,M p = none->Φ (.own p) (ZJ M p (.dtv []))
theorem B9:type_of% @BS.eq_1:=λ _ _ _=>qI
theorem B5 {pos:Pos}:DE X (.Dict [] [] pos) BS:=
 ⟨_,F4,λ _ _ _ _ _ _ r _ h k p hp=>k _ _ (.own p) _ (r.KS (o:=.dtv []) (Step.QY hp) ⟨[],ZW,rfl,.nil⟩) (Step.QY hp) rfl (h p (r.tracked hp))⟩
def NK (o:Option OO) (P:List (List Key × PyData)->Prop):Prop:=match o with | some (.dtv ps)=>P ps | some (.fdt _ ps)=>P ps | _=>False
theorem HE (o:Obj) (ps:List (List Key × PyData)) (P:List (List Key × PyData)->Prop):NK (some (.fdt o ps)) P = P ps:=qI
theorem DY {P:List (List Key × PyData)->Prop} (r:Zy K M H) (h:NK (M l) P):∃ ps kvs,P ps /\ Rd H l (.dT kvs) /\ kvs.map (·.1) = ps.map (·.1) /\ Dts K M H (kvs.map (·.2)) (ps.map (·.2)):=by
 cases e:M l with
 | none=>rw [e] at h; exact h.elim
 | some u=>
  rw [e] at h;cases u with
  | dtv ps=>obtain ⟨kvs,g1,g2,g3⟩:=(show OOk K M H l (.dtv ps) from r.ok l _ e); exact ⟨ps,kvs,h,.inl g1,g2,g3⟩
  | fdt o ps=>obtain ⟨kvs,g1,g2,g3⟩:=(show OOk K M H l (.fdt o ps) from r.ok l _ e); exact ⟨ps,kvs,h,.inr ⟨o,g1⟩,g2,g3⟩
  | _=>exact h.elim
def ZbV (K:Fk) (td ty:TE):TE:=λ Z H Q=>td Z H λ x H1=>ty Z H1 λ y H2=>∃ a b kvs k v,x = .ref a /\ y = .ref b /\ Rd H2 a (.dT kvs) /\ SqT K H2 b (k.map kV) /\ Xk kvs k = some v /\ Q v H2
theorem Np {td ty:TE} (hu:X.A.units + 1 < cLine) (ho:PE X o td) (hi:PE X i ty) (hs:Zbq i):PE X (.Subscript o i pos) (ZbV X.K td ty):=by
 intro pins s Z H Q I h;refine Om PySem.F.slot_dict_getitem.lookup hs (thn (ho pins s Z H _ I h) λ u s1 ⟨x,H1,I1,rx,q1⟩=>thn (hi pins s1 Z H1 _ I1 q1) λ iv s2 ⟨y,H2,I2,ry,a,b,kvs,k,v,ex,ey,g,hb,hv,q2⟩=>?_);subst ex ey;obtain rfl:u = Value.ref a:=rx;obtain rfl:iv = Value.ref b:=ry;obtain ⟨z,hd,xs,rel,dd⟩:=P1 I2.hok g;obtain ⟨w',hw,rw'⟩:=EJ.some_of (v:=v) (o:=(atKey xs k).map (·.2)) (by rw [<- hv]; exact rel.val k);obtain ⟨p,hp,hp2⟩:=Option.map_eq_some_iff.mp hw;refine ⟨dd.typeIs,wpAny_getItem_heap (tupleKind_room_in1 hu) (MO I2 hb) dd hp ?_⟩;rw [hp2];exact ⟨v,H2,I2.tok _,rw',q2⟩
def T9 (td ti:DTE):DTE:=λ U M Φ=>td U M λ x M1=>ti U M1 λ y M2=>onO x λ l=>NK (M2 l) λ ps=>∃ k d,y = .dat (tkD k) /\ dvT ps k = some d /\ Φ (.dat d) M2
theorem OC:type_of% @T9.eq_1:=λ _ _ _ _ _=>qI
theorem XZ:∀ {K:Fk} {M:Mp} {H:Hp} {k:List Key} {vs:List V},Dts K M H vs (k.map kD)->vs = k.map kV
 | _,_,_,[],_,h=>by cases h; rfl
 | _,_,_,.inl i :: k,_,h=>by cases h with | cons h1 h2=>cases h1; rw [XZ h2]; rfl
 | _,_,_,.inr x :: k,_,h=>by cases h with | cons h1 h2=>cases h1; rw [XZ h2]; rfl
theorem Yf {k:Nat} {ti:DTE} (hr:Vc k X.A) (ho:DE X o td) (hi:DE X i ti) (hs:autoParam (Zbq i) zz7._auto_1):DE X (.Subscript o i pos) (T9 td ti):=by
 obtain ⟨t1,p1,q1⟩:=ho;obtain ⟨t2,p2,q2⟩:=hi;refine ⟨_,Np (by have:=hr.un; lia) p1 p2 hs,λ Z H U M Φ Q r e h kk=>?_⟩;refine q1 Z H U M _ _ r e h λ v H1 x M1 r1 st1 rv hx=>?_;refine q2 Z H1 U M1 _ _ r1 (e.step st1) hx λ w H2 y M2 r2 st2 rw2 hy=>?_;replace hy:=Qq hy;obtain ⟨l,rfl,hy⟩:=hy;obtain ⟨ps,kvs,⟨key,d,rfl,hd,q⟩,g1,g2,g3⟩:=DY r2 hy;cases (show v = .ref l from rv);obtain ⟨b,xs,rfl,h1,h2⟩:=ZP.tup (ds:=key.map kD) rw2;rw [XZ h2] at h1
 rcases Bt key g2 g3 with ⟨_,c⟩ | ⟨u,d',c1,c2,du⟩
 ·rw [hd] at c;cases c
 ·rw [hd] at c2;cases c2;exact ⟨l,b,kvs,key,u,rfl,rfl,g1,h1.sq,c1,kk.dat r2 (st1.trans st2) du q⟩
end
theorem Fm {α:Type} [DecidableEq α] {kvs:List (α × V)} {k:α} {v:V} (h:Xk kvs k = none):putK kvs k v = kvs ++ [(k,v)]:=by
 unfold putK;rw [VM,h];rfl
def Sr (td ti tv:DTE):DTS:=λ D U M=>tv U M λ x M1=>td U M1 λ y M2=>ti U M2 λ z M3=>onD x λ d=>onO y λ l=>Sf (M3 l) λ ps=>∃ key,z = kDV key /\ dvT ps key = none /\ ps.length < sizeLine /\ D.nx U (ZJ M3 l (.dtv (ps ++ [(key,d)])))
theorem N4:type_of% @Sr.eq_1:=λ _ _ _ _ _ _=>qI
theorem Pb {k:Nat} {o i value:Expr} {td ti tv:DTE} {pos' pos:Pos} (hr:Vc k X.A) (ho:DE X o td) (hi:DE X i ti) (hv:DE X value tv)
  (hs:autoParam (swapsWith value (some (.Subscript o i pos')) pos.line X.env = pure false) zz3._auto_1) (hn:autoParam (Zbq i) zz7._auto_1):DS X (.Assign [.Subscript o i pos'] value pos) (Sr td ti tv):=by
 obtain ⟨t1,p1,q1⟩:=hv;obtain ⟨t2,p2,q2⟩:=ho;obtain ⟨t3,p3,q3⟩:=hi;refine ⟨_,Ou (by have:=hr.un; lia) p2 p3 p1 hs,λ Z H U M D E r e h k=>?_⟩;refine q1 Z H U M _ _ r e h λ v H1 x M1 r1 st1 rv hx=>?_;refine q2 Z H1 U M1 _ _ r1 (e.step st1) hx λ w H2 y M2 r2 st2 rw2 hy=>?_;refine q3 Z H2 U M2 _ _ r2 (e.step (st1.trans st2)) hy λ u H3 z M3 r3 st3 rz hz=>?_;replace hz:=JP hz;obtain ⟨d,rfl,hz⟩:=hz;replace hz:=Qq hz;obtain ⟨l,rfl,hz⟩:=hz;obtain ⟨ps,hm,key,rfl,hno,hl,hn⟩:=N7 hz;cases (show w = .ref l from rw2);obtain ⟨b,rfl,hb⟩:=Zbf rz;obtain ⟨kvs,g1,g2,g3⟩:=(show OOk X.K M3 H3 l (.dtv ps) from r3.ok l _ hm)
 have n1:kvs.length = ps.length:=by have:=congrArg List.length g2; simpa using this
 have hv:Xk kvs key = none:=by
  rcases Bt key g2 g3 with ⟨c,_⟩ | ⟨_,_,_,c,_⟩
  ·exact c
  ·rw [hno] at c;cases c
 refine ⟨l,_,rfl,Rg.t (k:=key) g1 hb (by rw [n1]; exact hl),?_⟩;rw [Fm hv];have st5:Step M3 H3 (ZJ M3 l (.dtv (ps ++ [(key,d)]))) (upd H3 l (.dT (kvs ++ [(key,v)]))):=Step.Y7 hm;have stA:=st1.trans (st2.trans (st3.trans st5));have dv:Dt X.K M3 H3 v d:=Dt.step (st2.trans st3) rv;refine k.nx _ _ _ _ (r3.KS st5 ⟨_,ZW,?_,?_⟩) stA (e.step stA) hn
 ·rw [List.map_append,List.map_append,g2];rfl
 ·rw [List.map_append,List.map_append];exact (g3.step st5).append (.cons (Dt.step st5 dv) .nil)
theorem TF (hu:X.A.units + 1 < cLine):OpR X (compareOp .In) (λ x y H Q=>∃ a b kvs k,x = .ref b /\ y = .ref a /\ Rd H a (.dT kvs) /\ SqT X.K H b (k.map kV) /\ Q (.bl (Xk kvs k).isSome) H):=by
 intro pins s Z H x y v u Q I rx ry h;obtain ⟨a,b,kvs,k,rfl,rfl,ha,hb,q⟩:=h;cases (show v = .ref b from rx);cases (show u = .ref a from ry);obtain ⟨z,hd,xs,rel,dd⟩:=P1 I.hok ha;refine wpAny_in_heap (tupleKind_room_in1 hu) (MO I hb) hd dd ?_;have q':=(rel.val k).Kn;rw [Option.isSome_map] at q';rw [<- q'];exact ⟨.bl _,H,I.tok _,rfl,q⟩
def R8:D2:=λ x y M Φ=>onP x λ i j=>onO y λ l=>NK (M l) λ ps=>Φ (.dat (.bool (Fy (ps.map (·.1)) (kP i j)))) M
theorem Pj:type_of% @R8.eq_1:=λ _ _ _ _=>qI
theorem Zaj {k:Nat} (hr:Vc k X.A):OpD X (compareOp .In) R8:=by
 refine ⟨_,TF (by have:=hr.un; lia),λ v u H x y M Φ Q r rv ru h k=>?_⟩;replace h:=QA h;obtain ⟨i,j,rfl,h⟩:=h;replace h:=Qq h;obtain ⟨l,rfl,h⟩:=h;obtain ⟨ps,kvs,q,g1,g2,_⟩:=DY r h;obtain ⟨b,xs,rfl,h1,h2⟩:=ZP.tup (ds:=(kP i j).map kD) rv;cases (show u = .ref l from ru);rw [XZ h2] at h1;refine ⟨l,b,kvs,kP i j,rfl,rfl,g1,h1.sq,?_⟩;rw [DM,g2];exact k.dat r Step.refl (Dt.bl _) q
def Rx (o:Option OO) (P:List (List Key × PyData)->Prop) (Q:Obj->List (List Key × PyData)->Prop):Prop:=match o with | some (.dtv ps)=>P ps | some (.fdt o ps)=>Q o ps | _=>False
theorem He (ps:List (List Key × PyData)) (P:List (List Key × PyData)->Prop) (Q:Obj->List (List Key × PyData)->Prop):Rx (some (.dtv ps)) P Q = P ps:=qI
theorem Hj (o:Obj) (ps:List (List Key × PyData)) (P:List (List Key × PyData)->Prop) (Q:Obj->List (List Key × PyData)->Prop):Rx (some (.fdt o ps)) P Q = Q o ps:=qI
theorem Oa {o:Option OO} {P:List (List Key × PyData)->Prop} {Q:Obj->List (List Key × PyData)->Prop} (h:Rx o P Q):(∃ ps,o = some (.dtv ps) /\ P ps) \/ ∃ b ps,o = some (.fdt b ps) /\ Q b ps:=by
 unfold Rx at h
 split at h
 ·exact .inl ⟨_,rfl,h⟩
 ·exact .inr ⟨_,_,rfl,h⟩
 ·exact h.elim
noncomputable def ktD (ps:List (List Key × PyData)):List PyData:=(ps.map (·.1)).map tkD
def Za4 (te:DTE):V5:=λ U M Ψ=>te U M λ x M1=>onO x λ l=>Rx (M1 l) (λ ps=>∀ o,Ψ (ktD ps) (λ M2=>M2 l = some (.fdt o ps)) (ZJ M1 l (.fdt o ps))) λ o ps=>Ψ (ktD ps) (λ M2=>M2 l = some (.fdt o ps)) M1
theorem Nl:type_of% @Za4.eq_1:=λ _ _ _ _=>qI
theorem Bz {ps:List (List Key × PyData)} {ks':List (List Key)} (hk:ks' = ps.map (·.1)):YlG K (Itt o l ks') (ktD ps) (λ M2=>M2 l = some (.fdt o ps)) M H:=by
 subst hk;intro M2 H2 st2 r2 hG i;obtain ⟨kvs,g1,g2,_⟩:=(show OOk K M2 H2 l (.fdt o ps) from r2.ok l _ hG)
 unfold ktD;rw [List.length_map];refine ⟨λ hi=>⟨⟨hi,kvs,g1,g2⟩,λ y H' z r=>?_⟩,λ hi=>⟨hi,kvs,g1,g2⟩⟩;obtain ⟨rfl,k,b,ek,rfl,hb⟩:=z;exact ⟨r,Step.refl,tkD k,by rw [List.getElem?_map,ek]; rfl,Zcl r hb⟩
theorem Dz (he:DE X iter te):DIG X tg iter (Za4 te):=by
 obtain ⟨t1,p1,q1⟩:=he;refine ⟨_,Zaw p1,λ Z H U M Ψ R dr er h k=>?_⟩;refine q1 Z H U M _ _ dr er h λ v H1 x M1 r1 st rv hx=>?_;replace hx:=Qq hx;obtain ⟨l,rfl,hx⟩:=hx;cases (show v = .ref l from rv)
 rcases Oa hx with ⟨ps,hm,hx⟩ | ⟨o,ps,hm,hx⟩
 ·obtain ⟨kvs,g1,g2,g3⟩:=(show OOk X.K M1 H1 l (.dtv ps) from r1.ok l _ hm)
  refine ⟨l,kvs,rfl,.inl ⟨g1,λ o=>?_⟩⟩;have st2:Step M1 H1 (ZJ M1 l (.fdt o ps)) (upd H1 l (.frz o (.dT kvs))):=Step.Y7 hm;exact k _ _ _ _ _ (r1.KS st2 ⟨kvs,ZW,g2,g3.step st2⟩) (st.trans st2) (Bz g2) (hx o)
 ·obtain ⟨kvs,g1,g2,_⟩:=(show OOk X.K M1 H1 l (.fdt o ps) from r1.ok l _ hm)
  exact ⟨l,kvs,rfl,.inr ⟨o,g1,k _ _ _ _ _ r1 st (Bz g2) hx⟩⟩
def UB (to te:DTE):DTE:=λ U M Φ=>to U M λ x M1=>onO x λ l=>D4 (M1 l) λ _ _=>te U M1 λ y M2=>onO y λ b=>D4 (M2 l) λ n xs=>D4 (M2 b) λ _ ys=>xs.length + ys.length <= sizeLine /\ Φ (.dat .none) (ZJ M2 l (.lsv n (xs ++ ys)))
theorem GV:type_of% @UB.eq_1:=λ _ _ _ _ _=>qI
theorem G6 {o:Expr} {to:DTE} {apos cpos:Pos} (ho:DE X o to) (he:DE X e te) (hbase:autoParam (attributeBase o "extend" X.env (eval o X.env) = eval o X.env) zz3._auto_1)
  (hfew:((backTo cpos (starEach [e] X.env)).all (λ x=>!x.1) && (backToKw cpos (keywordEach [] X.env)).all (λ x=>x.1.isSome)
   && decide ([e].length + ([]:List Keyword).length + (if ([]:List Keyword).isEmpty then 0 else 1) < 30)) = true:=by rfl)
  (hline:autoParam ((apos.endLine == cpos.line) = true) zz3._auto_1) (hs:autoParam (starEach [e] X.env = (false,eval e X.env) :: starEach [] X.env) zz3._auto_1) (hplain:autoParam ((backTo cpos (starEach [] X.env)).any (·.1) = false) zz3._auto_1) :
  DE X (.Call (.Attribute o "extend" apos) [e] [] cpos) (UB to te):=by
 obtain ⟨t1,p1,q1⟩:=ho;obtain ⟨t2,p2,q2⟩:=he;refine ⟨_,O1 PySem.F.plainAttrs_list PySem.F.slot_list_extend PySem.F.type_list_extend K5 p1 (Xd p2 UN hs) hbase hfew hline hs hplain,λ Z H U M Φ Q r e h k=>?_⟩;refine q1 Z H U M _ _ r e h λ v H1 x M1 r1 st rv hx=>?_;replace hx:=Qq hx;obtain ⟨l,rfl,hx⟩:=hx;replace hx:=XT hx;obtain ⟨n0,xs0,ho,hx⟩:=hx;cases (show v = .ref l from rv);have ty:tyV X.K "list" (.ref l) H1:=by
  obtain ⟨vs,g1,_⟩:=r1.lv ho;exact .inl ⟨rfl,vs,SqL.of g1⟩
 refine ⟨ty,q2 Z H1 U M1 _ _ r1 (e.step st) hx λ w H2 y M2 r2 st2 rw2 hy=>?_⟩;replace hy:=Qq hy;obtain ⟨b,rfl,hy⟩:=hy;replace hy:=XT hy;obtain ⟨n,xs,hm,hy⟩:=hy;replace hy:=XT hy;obtain ⟨n2,ys,hb,hz,hy⟩:=hy;cases (show w = .ref b from rw2);obtain ⟨vs,g1,g2⟩:=r2.lv hm;obtain ⟨ws,g3,g4⟩:=r2.lv hb;have st3:Step M2 H2 (ZJ M2 l (.lsv n (xs ++ ys))) (upd H2 l (.lst (vs ++ ws))):=Step.Y7 hm;refine ⟨l,b,vs,ws,rfl,rfl,g1,g3,by rw [Paired.length g2,Paired.length g4]; exact hz,?_⟩;exact k.dat (r2.Rn st3 (Paired.app g2 g4)) (st.trans (st2.trans st3)) Dt.non hy
end DL
namespace My
open DL
set_option maxHeartbeats 8000000
noncomputable def top (i:Nat):Stmt:=PySem.Challenge.pw_landsentered_k55_whole_all_spots_agree.main.body.getD i (.Pass ⟨0,0,0,0⟩)
noncomputable abbrev JC:Stmt:=top 1
noncomputable abbrev WR:Stmt:=top 2
noncomputable abbrev Pr:Stmt:=top 3
noncomputable abbrev Yy:Stmt:=top 4
noncomputable abbrev J7:Stmt:=top 5
noncomputable abbrev Qy:Stmt:=top 6
noncomputable abbrev NP:Stmt:=top 7
noncomputable abbrev XA:Stmt:=top 8
noncomputable abbrev Wk:Stmt:=top 9
noncomputable abbrev QW:Stmt:=top 10
noncomputable abbrev XE:Stmt:=top 11
noncomputable abbrev JO:Stmt:=top 12
noncomputable abbrev JD:Stmt:=top 13
noncomputable abbrev Vj:Stmt:=top 14
noncomputable abbrev JL:Stmt:=top 16
noncomputable abbrev Uw:Stmt:=top 17
noncomputable abbrev Ub:Stmt:=top 19
noncomputable abbrev JW:Stmt:=top 20
noncomputable abbrev Dy:Stmt:=top 21
noncomputable abbrev Q0:Stmt:=top 22
noncomputable abbrev Jz:Stmt:=top 23
noncomputable abbrev QL:Stmt:=top 24
noncomputable abbrev JY:Stmt:=top 26
noncomputable abbrev Vf:Stmt:=top 27
noncomputable abbrev QE:Stmt:=top 28
noncomputable abbrev Jp:Stmt:=top 30
noncomputable abbrev O5:Stmt:=top 32
noncomputable abbrev Ez:Stmt:=top 33
noncomputable abbrev PQ:Stmt:=top 34
noncomputable abbrev W8:Stmt:=top 35
noncomputable abbrev XI:Stmt:=top 36
noncomputable abbrev Le:Stmt:=top 37
noncomputable abbrev W5:Stmt:=top 38
noncomputable abbrev Xe:Stmt:=top 39
noncomputable abbrev QJ:Stmt:=top 40
noncomputable abbrev Lc:Stmt:=top 41
theorem KO:Zn ["box"] ["box"] (Zf JC):=by walk_at "s"
theorem E9:Zn ["one", "other"] ["one", "other"] (Zf WR):=by walk_at "s"
theorem Zbk:Zn ["box", "spot"] ["box", "spot"] (Zf Pr):=by walk_at "s"
theorem Bg:Zn ["box", "other"] ["box", "other"] (Zf Yy):=by walk_at "s"
theorem WW:Zn ["box", "spot"] ["box", "spot"] (Zf J7):=by walk_at "s"
theorem VG:Zn ["one", "other"] ["one", "other"] (Zf Qy):=by walk_at "s"
theorem SS:Zn ["one", "other", "way"] ["one", "other", "way"] (Zf NP):=by walk_at "s"
theorem Cc:Zn ["spot", "r"] ["spot", "r"] (Zf XA):=by walk_at "s"
theorem UC:Zn ["box", "way", "at", "high"] ["box", "way", "at"] (Zf Wk):=by walk_at "s"
theorem Jv:Zn ["box", "way", "at", "low"] ["box", "way", "at"] (Zf QW):=by walk_at "s"
theorem V0:Zn ["one", "other", "low", "high"] ["one", "other"] (Zf XE):=by walk_at "s"
theorem Qu:Zn ["one", "other", "middle", "left", "right", "below", "above"] ["one", "other"] (Zf JO):=by walk_at "s"
theorem Z4:Zn ["box", "others", "pieces", "other", "rest", "piece"] ["box", "others"] (Zf JD):=by walk_at "s"
theorem WU:Zn ["box"] ["box"] (Zf Vj):=by walk_at "s"
theorem Bc:Zn ["shape", "spot"] ["shape", "spot"] (Zf JL):=by walk_at "s"
theorem Xx:Zn ["shape", "total", "k"] ["shape"] (Zf Uw):=by walk_at "s"
theorem Gv:Zn ["shape", "spot", "away"] ["shape", "spot"] (Zf Ub):=by walk_at "s"
theorem Vm:Zn ["shape", "spot", "pieces", "reach"] ["shape", "spot"] (Zf JW):=by walk_at "s"
theorem Ri:Zn ["shape", "wobble", "spot"] ["shape", "wobble", "spot"] (Zf Dy):=by walk_at "s"
theorem Xs:Zn ["shape", "spot"] ["shape", "spot"] (Zf Q0):=by walk_at "s"
theorem Xh:Zn ["shape", "low", "high"] ["shape"] (Zf Jz):=by walk_at "s"
theorem Xr:Zn ["pieces", "spot"] ["pieces", "spot"] (Zf QL):=by walk_at "s"
theorem YN:Zn ["shape", "box", "lacking"] ["shape", "box"] (Zf JY):=by walk_at "s"
theorem ZS:Zn ["shape", "box", "k", "across", "along", "way", "places", "at", "first"] ["shape", "box"] (Zf Vf):=by walk_at "s"
theorem QT:Zn ["shape", "box", "way", "places", "other"] ["shape", "box", "way"] (Zf QE):=by walk_at "s"
theorem V6:Zn ["one", "other", "answers", "lacking"] ["one", "other"] (Zf Jp):=by walk_at "s"
theorem Ck:Zn ["_law_script", "_law_k", "_law_cell"] ["_law_script", "_law_k"] (Zf O5):=by walk_at "s"
theorem VU:Zn ["_law_pen_here", "_law_many", "_law_number", "_law_found"] ["_law_pen_here", "_law_many"] (Zf Ez):=by walk_at "s"
theorem YY:Zn ["_law_pen_here", "_law_box_here", "_law_begin", "_law_end", "_law_way", "_law_first", "_law_at"] ["_law_pen_here", "_law_box_here"] (Zf PQ):=by walk_at "s"
theorem Qf:Zn ["_law_pen_here", "_law_way", "_law_found", "_law_k", "_law_x", "_law_y", "_law_far", "_law_low", "_law_high"] ["_law_pen_here"] (Zf W8):=by walk_at "s"
theorem Xj:Zn ["_law_low", "_law_high", "_law_found", "_law_x"] ["_law_low", "_law_high"] (Zf XI):=by walk_at "s"
theorem ZaH:Zn ["_law_shape_here", "_law_spot"] ["_law_shape_here", "_law_spot"] (Zf Le):=by walk_at "s"
theorem J2:Zn ["_law_depths", "_law_spot", "_law_here", "_law_about", "_law_x", "_law_y"] ["_law_depths", "_law_spot"] (Zf W5):=by walk_at "s"
theorem Q3:Zn ["_law_shape_here", "_law_spot", "_law_here", "_law_held", "_law_other", "_law_r", "_law_word"] ["_law_shape_here", "_law_spot", "_law_here"] (Zf Xe):=by walk_at "s"
theorem ZL:Zn ["_law_pen_here", "_law_shape_here", "_law_low", "_law_high", "_law_lacks", "_law_x", "_law_word", "_law_found"] ["_law_pen_here", "_law_shape_here"] (Zf QJ):=by walk_at "s"
theorem Jw:Zn ["_law_script", "_law_k", "_law_pen_here", "_law_shape_here", "_law_depths", "_law_spot", "_law_turn"] ["_law_script"] (Zf Lc):=by walk_at "s"
theorem Yw:bootBuiltins "abs" = some (.builtin "abs"):=by walk_at "k"
theorem Sd:bootBuiltins "any" = some (.builtin "any"):=by walk_at "k"
theorem Pl:bootBuiltins "bool" = some (.type "bool"):=by walk_at "k"
theorem Up:bootBuiltins "int" = some (.type "int"):=by walk_at "k"
theorem Xm:bootBuiltins "isinstance" = some (.builtin "isinstance"):=by walk_at "k"
theorem Q9:bootBuiltins "len" = some (.builtin "len"):=by walk_at "k"
theorem NO:bootBuiltins "list" = some (.type "list"):=by walk_at "k"
theorem Jx:bootBuiltins "max" = some (.builtin "max"):=by walk_at "k"
theorem QS:bootBuiltins "min" = some (.builtin "min"):=by walk_at "k"
theorem S6:bootBuiltins "sum" = some (.builtin "sum"):=by walk_at "k"
theorem VJ:bootBuiltins "tuple" = some (.type "tuple"):=by walk_at "k"
set_option genInjectivity false in
structure Tx (K:Fk) (mg:Str->Option Value) where
 Yn:Addr
 Ym:FuncData
 V2:Own K mg "has_spots" JC ["box"] Yn Ym
 B8:Addr
 C1:FuncData
 o_steps:Own K mg "steps" WR ["one", "other"] B8 C1
 ZaL:Addr
 TX:FuncData
 HQ:Own K mg "has" Pr ["box", "spot"] ZaL TX
 X2:Addr
 Kx:FuncData
 Kg:Own K mg "has_all" Yy ["box", "other"] X2 Kx
 YS:Addr
 YU:FuncData
 J9:Own K mg "steps_to" J7 ["box", "spot"] YS YU
 Jf:Addr
 Q8:FuncData
 ZR:Own K mg "steps_between" Qy ["one", "other"] Jf Q8
 ZaQ:Addr
 ZaB:FuncData
 Nq:Own K mg "gap" NP ["one", "other", "way"] ZaQ ZaB
 Us:Addr
 Uk:FuncData
 VQ:Own K mg "square" XA ["spot", "r"] Us Uk
 By:Addr
 CT:FuncData
 Dn:Own K mg "up_to" Wk ["box", "way", "at"] By CT
 JX:Addr
 JR:FuncData
 JQ:Own K mg "onward_from" QW ["box", "way", "at"] JX JR
 Gh:Addr
 UU:FuncData
 XX:Own K mg "common" XE ["one", "other"] Gh UU
 Kf:Addr
 K8:FuncData
 X5:Own K mg "cut_out" JO ["one", "other"] Kf K8
 Yg:Addr
 V3:FuncData
 Qx:Own K mg "left_over" JD ["box", "others"] Yg V3
 Y4:Addr
 YZ:FuncData
 YV:Own K mg "spots_in" Vj ["box"] Y4 YZ
 K4:Addr
 KU:FuncData
 Q4:Own K mg "lies_in" JL ["shape", "spot"] K4 KU
 Me:Addr
 Mm:FuncData
 MH:Own K mg "size" Uw ["shape"] Me Mm
 D6:Addr
 CQ:FuncData
 WC:Own K mg "depth" Ub ["shape", "spot"] D6 CQ
 Kp:Addr
 Kv:FuncData
 Kw:Own K mg "nearest" JW ["shape", "spot"] Kp Kv
 MJ:Addr
 Nf:FuncData
 MV:Own K mg "side" Dy ["shape", "wobble", "spot"] MJ Nf
 Vv:Addr
 Vx:FuncData
 Jb:Own K mg "other_side" Q0 ["shape", "spot"] Vv Vx
 Ce:Addr
 Df:FuncData
 EF:Own K mg "frame" Jz ["shape"] Ce Df
 Vu:Addr
 VC:FuncData
 QG:Own K mg "steps_away" QL ["pieces", "spot"] Vu VC
 KA:Addr
 K1:FuncData
 J1:Own K mg "covered" JY ["shape", "box"] KA K1
 Jg:Addr
 Jn:FuncData
 Jl:Own K mg "cover_of" Vf ["shape", "box"] Jg Jn
 Vt:Addr
 VB:FuncData
 Q2:Own K mg "cut_places" QE ["shape", "box", "way"] Vt VB
 UA:Addr
 UM:FuncData
 Gf:Own K mg "within" Jp ["one", "other"] UA UM
 ZaR:Addr
 ZaV:FuncData
 RF:Own K mg "_law_pen" O5 ["_law_script", "_law_k"] ZaR ZaV
 Mq:Addr
 Mh:FuncData
 Qw:Own K mg "_law_draw" Ez ["_law_pen_here", "_law_many"] Mq Mh
 RL:Addr
 S7:FuncData
 Rl:Own K mg "_law_box" PQ ["_law_pen_here", "_law_box_here"] RL S7
 B0:Addr
 Ct:FuncData
 o_shape:Own K mg "_law_shape" W8 ["_law_pen_here"] B0 Ct
 CL:Addr
 EE:FuncData
 C8:Own K mg "_law_spots" XI ["_law_low", "_law_high"] CL EE
 RC:Addr
 ZaF:FuncData
 ER:Own K mg "_law_own" Le ["_law_shape_here", "_law_spot"] RC ZaF
 Dd:Addr
 BZ:FuncData
 DU:Own K mg "_law_grows" W5 ["_law_depths", "_law_spot"] Dd BZ
 UP:Addr
 Ul:FuncData
 U4:Own K mg "_law_agrees" Xe ["_law_shape_here", "_law_spot", "_law_here"] UP Ul
 Vq:Addr
 VD:FuncData
 Vr:Own K mg "_law_box_agrees" QJ ["_law_pen_here", "_law_shape_here"] Vq VD
 Sy:Addr
 Sq:FuncData
 o_law:Own K mg "law" Lc ["_law_script"] Sy Sq
 WJ:mg "abs" = none
 ZbP:mg "any" = none
 Zar:mg "bool" = none
 Fv:mg "int" = none
 KH:mg "isinstance" = none
 YB:mg "len" = none
 SY:mg "list" = none
 YH:mg "max" = none
 J6:mg "min" = none
 Z5:mg "range" = none
 Zb0:mg "set" = none
 Lv:mg "sorted" = none
 ZbK:mg "sum" = none
 XC:mg "tuple" = none
local macro_rules | `(tactic| walk_at "hd")=>`(tactic| (subst_vars; (try dsimp only); refine DL.Fq λ R hR=>?_))
local macro_rules | `(tactic| walk_at "h")=>`(tactic| (walk_at "hd"; walk_at "rk"))
noncomputable def ab (i:Int):Int:=if i < 0 then -i else i
noncomputable def Z9 (x y x' y':Int):Int:=max (ab (x - x')) (ab (y - y'))
noncomputable def gp (a b a' b':Int):Int:=max 0 (max (a' - b) (a - b'))
noncomputable def btw (x y X Y x' y' X' Y':Int):Int:=max (gp x X x' X') (gp y Y y' Y')
structure B4 where
 x:Int
 y:Int
 X:Int
 Y:Int
noncomputable def bD (b:B4):PyData:=.tuple [.tuple [.int b.x,.int b.y],.tuple [.int b.X,.int b.Y]]
noncomputable def Qe (a b:B4):Int:=btw a.x a.y a.X a.Y b.x b.y b.X b.Y
noncomputable def ZX (p:B4) (u v:Int):Int:=btw p.x p.y p.X p.Y u v u v
noncomputable def hasB (b:B4) (u v:Int):Bool:=decide (b.x <= u /\ u <= b.X /\ b.y <= v /\ v <= b.Y)
noncomputable def okB (b:B4):Bool:=decide (b.x <= b.X) && decide (b.y <= b.Y)
noncomputable def Tg (a b:B4):B4:=⟨max a.x b.x,max a.y b.y,min a.X b.X,min a.Y b.Y⟩
noncomputable def GR (a b:B4):List B4:=
 let mx:=max a.x b.x
 let my:=max a.y b.y
 let mX:=min a.X b.X
 let mY:=min a.Y b.Y
 [⟨a.x,a.y,mx - 1,a.Y⟩,⟨mX + 1,a.y,a.X,a.Y⟩,⟨mx,a.y,mX,my - 1⟩,⟨mx,mY + 1,mX,a.Y⟩]
noncomputable def Vk (a b:B4):List B4:=if 0 < Qe a b then [a] else (GR a b).filter okB
noncomputable def ZM (a:B4) (bs:List B4):List B4:=bs.foldl (λ ps b=>ps.flatMap λ p=>Vk p b) [a]
noncomputable def Z3 (u v r:Int):B4:=⟨u - r,v - r,u + r,v + r⟩
def onX (x:DV) (P:B4->Prop):Prop:=∃ b,x = .dat (bD b) /\ P b
theorem Dp {a b:B4} (h:bD a = bD b):a = b:=by
 obtain ⟨x,y,X,Y⟩:=a;obtain ⟨x',y',X',Y'⟩:=b
 injection h with h
 injection h with h1 h
 injection h with h2 _
 injection h1 with h1
 injection h1 with a h1
 injection h1 with b _
 injection h2 with h2
 injection h2 with c h2
 injection h2 with d _
 injection a with a
 injection b with b
 injection c with c
 injection d with d
 dsimp only at a b c d;rw [a,b,c,d]
theorem UW (b:B4) (P:B4->Prop):onX (.dat (bD b)) P = P b:=propext ⟨λ ⟨c,e,h⟩=>by
 rw [DV.dat.injEq] at e;rw [Dp e]
 exact h,λ h=>⟨b,rfl,h⟩⟩
theorem Fz (x y X Y:Int) (P:B4->Prop):onX (.dat (.tuple [.tuple [.int x,.int y],.tuple [.int X,.int Y]])) P = P ⟨x,y,X,Y⟩:=UW ⟨x,y,X,Y⟩ P
theorem ZZ {x:DV} {P:B4->Prop} (h:onX x P):∃ b,x = .dat (bD b) /\ P b:=h
theorem HC (b:B4) (M:Mp) (P:List PyData->Prop):onQ (.dat (bD b)) M P = P [.tuple [.int b.x,.int b.y],.tuple [.int b.X,.int b.Y]]:=qI
theorem HX (b:B4) (P:List PyData->Prop):onT (.dat (bD b)) P = P [.tuple [.int b.x,.int b.y],.tuple [.int b.X,.int b.Y]]:=qI
def Jy (x:DV) (P:List B4->Prop):Prop:=∃ bs,x = .dat (.tuple (bs.map bD)) /\ P bs
def Zdu (x:DV) (P:List B4->Prop):Prop:=∃ bs,x = .dat (.list (bs.map bD)) /\ P bs
theorem Z0 {x:DV} {P:List B4->Prop} (h:Jy x P):∃ bs,x = .dat (.tuple (bs.map bD)) /\ P bs:=h
theorem J5:∀ {as bs:List B4},as.map bD = bs.map bD->as = bs
 | [],[],_=>rfl
 | [],_ :: _,h=>by simp at h
 | _ :: _,[],h=>by simp at h
 | a :: as,b :: bs,h=>by
  rw [List.map_cons,List.map_cons,List.cons.injEq] at h;rw [Dp h.1,J5 h.2]
theorem Ew (bs:List B4) (P:List B4->Prop):Jy (.dat (.tuple (bs.map bD))) P = P bs:=propext ⟨λ ⟨cs,e,h⟩=>by
 rw [DV.dat.injEq,PyData.tuple.injEq] at e;rw [J5 e]
 exact h,λ h=>⟨bs,rfl,h⟩⟩
theorem CY (bs:List B4) (P:List B4->Prop):Zdu (.dat (.list (bs.map bD))) P = P bs:=propext ⟨λ ⟨cs,e,h⟩=>by
 rw [DV.dat.injEq,PyData.list.injEq] at e;rw [J5 e]
 exact h,λ h=>⟨bs,rfl,h⟩⟩
def Shp (bs:List B4):Prop:=1 <= bs.length /\ bs.length <= 6 /\ ∀ b ∈ bs,okB b = true
noncomputable abbrev anyB (bs:List B4):Int->Int->Bool:=λ x y=>bs.any λ b=>hasB b x y
def Ti:DSp:=λ xs M Φ=>on1 xs λ x=>onX x λ b=>Φ (.dat (.bool (okB b))) M
theorem Oi:type_of% @Ti.eq_1:=λ _ _ _=>qI
def SR:DSp:=λ xs M Φ=>on3 xs λ x y z=>onX x λ a=>onX y λ b=>onI z λ i=>(i = 0 \/ i = 1) /\ Φ (.dat (.int (if i = 0 then gp a.x a.X b.x b.X else gp a.y a.Y b.y b.Y))) M
theorem Oz:type_of% @SR.eq_1:=λ _ _ _=>qI
def Kq:DSp:=λ xs M Φ=>on2 xs λ x y=>onX x λ a=>onX y λ b=>Φ (.dat (.int (Qe a b))) M
theorem WH:type_of% @Kq.eq_1:=λ _ _ _=>qI
def Zdn:DSp:=λ xs M Φ=>on2 xs λ x y=>onX x λ a=>onP y λ u v=>Φ (.dat (.int (ZX a u v))) M
theorem S2:type_of% @Zdn.eq_1:=λ _ _ _=>qI
def Nd:DSp:=λ xs M Φ=>on2 xs λ x y=>onX x λ a=>onP y λ u v=>Φ (.dat (.bool (hasB a u v))) M
theorem E2:type_of% @Nd.eq_1:=λ _ _ _=>qI
def CO:DSp:=λ xs M Φ=>on2 xs λ x y=>onP x λ a b=>onP y λ u v=>Φ (.dat (.int (Z9 a b u v))) M
theorem BA:type_of% @CO.eq_1:=λ _ _ _=>qI
def Ur:DSp:=λ xs M Φ=>on2 xs λ x y=>onP x λ u v=>onI y λ r=>Φ (.dat (bD (Z3 u v r))) M
theorem Gz:type_of% @Ur.eq_1:=λ _ _ _=>qI
def Gn:DSp:=λ xs M Φ=>on2 xs λ x y=>onX x λ a=>onX y λ b=>Φ (.dat (bD (Tg a b))) M
theorem GA:type_of% @Gn.eq_1:=λ _ _ _=>qI
def RW:DSp:=λ xs M Φ=>on2 xs λ x y=>onX x λ a=>onX y λ b=>∀ p,M p = none->Φ (.own p) (ZJ M p (.lst ((Vk a b).map bD)))
theorem P5:type_of% @RW.eq_1:=λ _ _ _=>qI
def Mw:DSp:=λ xs M Φ=>on2 xs λ x y=>onX x λ a=>Jy y λ bs=>bs.length <= 6 /\ Φ (.dat (.list ((ZM a bs).map bD))) M
theorem FT:type_of% @Mw.eq_1:=λ _ _ _=>qI
def MU:DSp:=λ xs M Φ=>on2 xs λ x y=>Jy x λ bs=>onP y λ u v=>bs.length <= 6 /\ Φ (.dat (.bool (anyB bs u v))) M
theorem HZ:type_of% @MU.eq_1:=λ _ _ _=>qI
theorem Qz {α:Type} {l:List α} {i:Nat} {q:α} (f:α->Bool) (h:l[i]? = some q):(l.take (i + 1)).filter f = (l.take i).filter f ++ (if f q = true then [q] else []):=by
 rw [List.take_add_one,h,List.filter_append];cases e:f q <;> simp [e]
theorem Xf (a b:B4):(Vk a b).length <= 4:=by
 unfold Vk
 split
 ·simp
 ·exact Nat.le_trans (List.length_filter_le _ _) (Nat.le_refl 4)
theorem U5:∀ (bs ps:List B4),(bs.foldl (λ ps b=>ps.flatMap λ p=>Vk p b) ps).length <= ps.length * 4 ^ bs.length
 | [],ps=>by simp
 | b :: bs,ps=>by
  have h1:=VI (λ p=>Vk p b) 4 ps λ p _=>Xf p b;have h2:=U5 bs (ps.flatMap λ p=>Vk p b);rw [List.foldl_cons,List.length_cons,Nat.pow_succ];refine Nat.le_trans h2 (Nat.le_trans (Nat.mul_le_mul_right _ h1) ?_);rw [Nat.mul_assoc,Nat.mul_comm 4];exact Nat.le_refl _
theorem J0 (a:B4) (bs:List B4) (h:bs.length <= 6):(ZM a bs).length <= 4096:=by
 have h1:=U5 bs [a];rw [List.length_singleton,Nat.one_mul] at h1;have h2:4 ^ bs.length <= 4 ^ 6:=Nat.pow_le_pow_right (by decide) h;exact Nat.le_trans h1 (Nat.le_trans h2 (by decide))
theorem GN {a b:B4} {bs:List B4} (h:bs[i]? = some b):ZM a (bs.take (i + 1)) = (ZM a (bs.take i)).flatMap λ p=>Vk p b:=by
 unfold ZM;rw [List.take_add_one,h,List.foldl_append];rfl
theorem BD (h:i <= ds.length):DL.cutD ds none (some (i:Int)) = ds.take i:=by
 unfold DL.cutD;rw [HT.Lb,HT.NJ,List.drop_zero,Nat.min_eq_left h,Nat.sub_zero]
def Sub (q p:B4):Prop:=okB q = true /\ p.x <= q.x /\ q.X <= p.X /\ p.y <= q.y /\ q.Y <= p.Y
theorem Sub.trans {a b c:B4} (h:Sub a b) (k:Sub b c):Sub a c:=by
 unfold Sub at *;exact ⟨h.1,by lia⟩
theorem WN {a b q:B4} (ha:okB a = true) (h:q ∈ Vk a b):Sub q a:=by
 unfold Vk at h
 split at h
 ·rw [List.mem_singleton.mp h];exact ⟨ha,by omega⟩
 ·rename_i h0;obtain ⟨h1,h2⟩:=List.mem_filter.mp h;refine ⟨h2,?_⟩;unfold Qe btw gp at h0;unfold okB at ha h2;simp only [Bool.and_eq_true,decide_eq_true_eq] at ha h2;unfold GR at h1;simp only [List.mem_cons,List.not_mem_nil,or_false] at h1
  rcases h1 with rfl | rfl | rfl | rfl
  all_goals (dsimp only at h2 ⊢; omega)
theorem Uq {a:B4}:∀ (bs ps:List B4),(∀ p ∈ ps,Sub p a)->∀ q ∈ bs.foldl (λ ps b=>ps.flatMap λ p=>Vk p b) ps,Sub q a
 | [],ps,h,q,hq=>h q hq
 | b :: bs,ps,h,q,hq=>by
  rw [List.foldl_cons] at hq;refine Uq bs _ (λ p hp=>?_) q hq;obtain ⟨p',hp',hc⟩:=List.mem_flatMap.mp hp;exact (WN (h p' hp').1 hc).trans (h p' hp')
theorem Jh {a q:B4} {bs:List B4} (ha:okB a = true) (h:q ∈ ZM a bs):Sub q a:=
 Uq bs [a] (λ p hp=>by rw [List.mem_singleton.mp hp]; exact ⟨ha,by lia⟩) q h
theorem Lj {α:Type} {l:List α} {i:Nat} {q:α} (f:α->Bool) (h:l[i]? = some q):(l.take (i + 1)).any f = ((l.take i).any f || f q):=by
 rw [List.take_add_one,h,List.any_append];simp
section
variable {base:Heap}
theorem DZ {a b a' b':Int}:gp a b a' b' = 0 ↔ a' <= b /\ a <= b':=by
 unfold gp;omega
theorem TL (a b a' b':Int):0 <= gp a b a' b':=Int.le_max_left _ _
theorem OU {x:Int} (hx:0 <= x) (hy:0 <= y):max x y = 0 ↔ x = 0 /\ y = 0:=by lia
theorem H9 (b:B4) (u v:Int):decide (ZX b u v = 0) = hasB b u v:=by
 unfold hasB ZX btw;rw [decide_eq_decide,OU (TL _ _ _ _) (TL _ _ _ _),DZ,DZ];omega
theorem Dl {a n:Int}:ab a <= n ↔ -n <= a /\ a <= n:=by unfold ab; split <;> lia
theorem Qd (a:Int):(0 <= a /\ ab a = a) \/ (a < 0 /\ ab a = -a):=by unfold ab; split <;> lia
theorem Zbg (a:Int):ab (-a) = ab a:=by unfold ab; split <;> split <;> lia
theorem MB (a b:Int):ab (a - b) = ab (b - a):=by rw [<- Zbg,Int.neg_sub]
theorem ZA {a b x n:Int}:Z9 a b x y <= n ↔ (-n <= a - x /\ a - x <= n) /\ (-n <= b - y /\ b - y <= n):=by
 unfold Z9;rw [Int.max_le,Dl,Dl]
theorem Xb (a b c d x y:Int):Z9 a b x y <= Z9 a b c d + Z9 c d x y:=by
 have h1:=ZA.mp (Int.le_refl (Z9 a b c d));have h2:=ZA.mp (Int.le_refl (Z9 c d x y));rw [ZA];lia
theorem Yq (a b x y:Int):Z9 a b x y = Z9 x y a b:=by
 unfold Z9;rw [MB a x,MB b y]
theorem HP {a b x:Int} (h:¬ (x = a /\ y = b)):1 <= Z9 a b x y:=by
 have h1:=ZA.mp (Int.le_refl (Z9 a b x y));lia
structure IsD (S:Int->Int->Bool) (u v d:Int):Prop where
 sg:S u v = decide (0 < d)
 ne:d ≠ 0
 ex:∃ x y,S x y ≠ S u v /\ Z9 u v x y = ab d
 mn:∀ x y,S x y ≠ S u v->ab d <= Z9 u v x y
section
variable {S S':Int->Int->Bool} {v d h:Int}
theorem IsD.pos (h:IsD S u v d) (k:S u v = true):0 < d:=by have:=h.sg; rw [k] at this; exact of_decide_eq_true this.symm
theorem IsD.neg (h:IsD S u v d) (k:S u v = false):d < 0:=by
 have h1:=h.sg;rw [k] at h1;have h2:=of_decide_eq_false h1.symm;have h3:=h.ne;lia
theorem IsD.eq (h:IsD S u v d) {e:Int} (k:IsD S u v e):d = e:=by
 obtain ⟨x,y,h1,h2⟩:=h.ex;obtain ⟨x',y',k1,k2⟩:=k.ex;have a:=h.mn x' y' k1;have b:=k.mn x y h1;cases c:S u v with
 | true=>
  have c1:=h.pos c;have c2:=k.pos c;have i1:=Qd d;have i2:=Qd e;lia
 | false=>
  have c1:=h.neg c;have c2:=k.neg c;have i1:=Qd d;have i2:=Qd e;lia
noncomputable def cl (f a:Int):Int:=max (0 - f) (min f a)
theorem VP {f:Int} (hf:0 <= f) (a:Int):(a < -f /\ cl f a = -f) \/ (f < a /\ cl f a = f) \/ ((-f <= a /\ a <= f) /\ cl f a = a):=by unfold cl; lia
theorem RS {f:Int} (hf:0 <= f) (a:Int):ab (cl f a) <= f:=by
 rw [Dl];have:=VP hf a;lia
theorem XO {f:Int} (hf:0 <= f) (u x:Int):ab (u + cl f (x - u) - x) = max 0 (ab (u - x) - f):=by
 have h1:=VP hf (x - u);have h2:=Qd (u - x);have h3:=Qd (u + cl f (x - u) - x);lia
theorem WX {f:Int} (hf:0 <= f) (u v x y:Int):Z9 u v (u + cl f (x - u)) (v + cl f (y - v)) <= f:=by
 rw [ZA];have h1:=Dl.mp (RS hf (x - u));have h2:=Dl.mp (RS hf (y - v));lia
noncomputable def sgn (h:Int):Int:=if h < 0 then -1 else 1
theorem MF (h:Int):(0 <= h /\ sgn h = 1) \/ (h < 0 /\ sgn h = -1):=by unfold sgn; split <;> lia
theorem sgn_mul (h f:Int):(0 <= h /\ sgn h * f = f) \/ (h < 0 /\ sgn h * f = -f):=by
 rcases MF h with ⟨a,b⟩ | ⟨a,b⟩
 ·rw [b,Int.one_mul]; exact .inl ⟨a,rfl⟩
 ·rw [b,Int.neg_mul,Int.one_mul]; exact .inr ⟨a,rfl⟩
theorem IsD.near (k:IsD S u v h) {x:Int} (c:Z9 u v x y < ab h):S x y = S u v:=by
 by_cases e:S x y = S u v
 ·exact e
 ·have:=k.mn x y e;lia
theorem IsD.toward (k:IsD S u v h) {x f:Int} (o:S x y ≠ S u v) (c:Z9 u v x y = ab h) (f0:0 <= f) (f1:f < ab h) :
  IsD S (u + cl f (x - u)) (v + cl f (y - v)) (h - sgn h * f):=by
 have e0:=WX f0 u v x y;have e1:Z9 (u + cl f (x - u)) (v + cl f (y - v)) x y = ab h - f:=by
  unfold Z9 at c ⊢;rw [XO f0,XO f0];lia
 have e2:S (u + cl f (x - u)) (v + cl f (y - v)) = S u v:=k.near (by lia);have g1:=sgn_mul h f;have g2:=Qd h;have g3:=Qd (h - sgn h * f);have e3:ab (h - sgn h * f) = ab h - f:=by lia
 have e4:decide (0 < h - sgn h * f) = decide (0 < h):=by
  rw [decide_eq_decide];have:=k.ne;lia
 refine ⟨by rw [e2,e4]; exact k.sg,λ z=>?_,⟨x,y,by rw [e2]; exact o,by rw [e1,e3]⟩,λ x' y' q=>?_⟩
 ·rw [z] at e3;rw [show ab 0 = 0 from rfl] at e3;lia
 ·rw [e2] at q;have:=k.mn x' y' q;have:=Xb u v (u + cl f (x - u)) (v + cl f (y - v)) x' y';lia
theorem WZ {S:Int->Int->Bool} {v x:Int} (h:S x y ≠ S u v):1 <= Z9 u v x y:=by
 by_cases e:x = u /\ y = v
 ·rw [e.1,e.2] at h;exact absurd rfl h
 ·exact HP e
theorem IsD.other (k:IsD S u v h) {x:Int} (o:S x y ≠ S u v) (c:Z9 u v x y = ab h):IsD S x y (0 - sgn h):=by
 have hn:=k.ne;have g2:=Qd h;have f0:0 <= ab h - 1:=by lia
 have n1:=k.near (x:=u + cl (ab h - 1) (x - u)) (y:=v + cl (ab h - 1) (y - v)) (by have:=WX f0 u v x y; lia);have a0:ab (0 - sgn h) = 1:=by
  have g3:=Qd (0 - sgn h);have g4:=MF h;lia
 have far:1 <= Z9 x y (u + cl (ab h - 1) (x - u)) (v + cl (ab h - 1) (y - v)):=WZ (S:=S) (by rw [n1]; exact λ z=>o z.symm);have near:Z9 x y (u + cl (ab h - 1) (x - u)) (v + cl (ab h - 1) (y - v)) <= 1:=by
  rw [Yq];unfold Z9 at c ⊢;rw [XO f0,XO f0];lia
 refine ⟨?_,by unfold sgn; split <;> decide,⟨u + cl (ab h - 1) (x - u),v + cl (ab h - 1) (y - v),by rw [n1]; exact λ z=>o z.symm,by rw [a0]; lia⟩,λ x' y' q=>by rw [a0]; exact WZ q⟩;cases c:S u v with
 | true=>
  have:=k.pos c;rw [c] at o;rw [show sgn h = 1 from if_neg (by lia)];cases c':S x y with
  | true=>exact absurd c' o
  | false=>rfl
 | false=>
  have:=k.neg c;rw [c] at o;rw [show sgn h = -1 from if_pos this];cases c':S x y with
  | true=>rfl
  | false=>exact absurd c' o
theorem IsD.Zco (k:IsD S u v h) {x e:Int} (k':IsD S x y e) (c:Z9 u v x y <= 1) :
  (decide (0 < e) ≠ decide (0 < h)->(e = 1 /\ h = -1) \/ (e = -1 /\ h = 1)) /\ (decide (0 < e) = decide (0 < h) -> -1 <= e - h /\ e - h <= 1):=by
 have hs:=k.sg;have hs':=k'.sg;have h0:=k.ne;have h0':=k'.ne;constructor
 ·intro q;rw [<- hs,<- hs'] at q;have a:=k.mn x y q;have b:=k'.mn u v (λ z=>q z.symm);rw [Yq] at b;have:decide (0 < e) ≠ decide (0 < h):=by rw [<- hs,<- hs']; exact q
  have:¬ ((0 < e) ↔ (0 < h)):=λ z=>this (decide_eq_decide.mpr z);have i1:=Qd h;have i2:=Qd e;lia
 ·intro q;have q':=decide_eq_decide.mp q;have e0:S x y = S u v:=by rw [hs,hs',q]
  obtain ⟨a,b,a1,a2⟩:=k.ex;obtain ⟨a',b',a1',a2'⟩:=k'.ex;have m1:=k'.mn a b (by rw [e0]; exact a1);have m2:=k.mn a' b' (by rw [<- e0]; exact a1');have t1:=Xb x y u v a b;have t2:=Xb u v x y a' b';rw [Yq x y u v] at t1;have i1:=Qd h;have i2:=Qd e;lia
theorem IsD.more (k:IsD S u v h) (k':IsD S' u v d) (hS:∀ x y,S x y = true->S' x y = true):h <= d:=by
 cases c:S u v with
 | true=>
  have c1:=k.pos c;have c':=hS u v c;have c2:=k'.pos c';obtain ⟨x,y,a,b⟩:=k'.ex;have a':S x y ≠ S u v:=λ z=>a (by rw [c',hS x y (by rw [z,c])]);have:=k.mn x y a';have i1:=Qd h;have i2:=Qd d;lia
 | false=>
  have c1:=k.neg c;cases c':S' u v with
  | true=>
   have:=k'.pos c';lia
  | false=>
   have c2:=k'.neg c';obtain ⟨x,y,a,b⟩:=k.ex;have a':S x y = true:=by
    cases z:S x y with
    | true=>rfl
    | false=>rw [c,z] at a; exact absurd rfl a
   have:=k'.mn x y (by rw [hS x y a',c']; decide);have i1:=Qd h;have i2:=Qd d;lia
end
theorem ZG {b:B4}:okB b = true ↔ b.x <= b.X /\ b.y <= b.Y:=by
 unfold okB;simp only [Bool.and_eq_true,decide_eq_true_eq]
theorem Zj {b:B4} {v:Int}:hasB b u v = true ↔ b.x <= u /\ u <= b.X /\ b.y <= v /\ v <= b.Y:=by
 unfold hasB;rw [decide_eq_true_eq]
theorem JN {p:B4} {v n:Int} (hn:0 <= n):ZX p u v <= n ↔ (u - p.X <= n /\ p.x - u <= n) /\ (v - p.Y <= n /\ p.y - v <= n):=by
 unfold ZX btw gp;lia
theorem JS (p:B4) (u v:Int):0 <= ZX p u v:=by
 unfold ZX btw gp;lia
theorem OP (a b x y:Int):0 <= Z9 a b x y:=by
 have:=ZA.mp (Int.le_refl (Z9 a b x y));lia
theorem Jk {p:B4} {v x:Int} (h:hasB p x y = true):ZX p u v <= Z9 u v x y:=by
 have h1:=ZA.mp (Int.le_refl (Z9 u v x y));have h2:=Zj.mp h;rw [JN (OP u v x y)];lia
theorem Wj {p:B4} (h:okB p = true) (u v:Int):∃ x y,hasB p x y = true /\ Z9 u v x y = ZX p u v:=by
 have h1:=ZG.mp h;have h2:=(JN (JS p u v)).mp (Int.le_refl _);have h3:hasB p (max p.x (min p.X u)) (max p.y (min p.Y v)) = true:=by
  rw [Zj];lia
 refine ⟨_,_,h3,Int.le_antisymm ?_ (Jk h3)⟩;rw [ZA];have h4:=JS p u v;lia
theorem Rc {a b:B4} (ha:okB a = true) (x y:Int):((Vk a b).any λ p=>hasB p x y) = (hasB a x y && !hasB b x y):=by
 have ok:=ZG.mp ha;rw [Bool.eq_iff_iff,Bool.and_eq_true,Bool.not_eq_true',<- Bool.not_eq_true,Zj,Zj,List.any_eq_true];unfold Vk
 split
 ·rename_i h0;unfold Qe btw gp at h0;constructor
  ·rintro ⟨p,hp,h⟩;rw [List.mem_singleton.mp hp,Zj] at h;omega
  ·intro h;exact ⟨a,List.mem_singleton.mpr rfl,Zj.mpr (by omega)⟩
 ·rename_i h0;unfold Qe btw gp at h0;constructor
  ·rintro ⟨p,hp,h⟩;have hp:=(List.mem_filter.mp hp).1;rw [Zj] at h;unfold GR at hp;simp only [List.mem_cons,List.not_mem_nil,or_false] at hp
   rcases hp with rfl | rfl | rfl | rfl
   all_goals (dsimp only at h; omega)
  ·intro h;have fin:∀ p:B4,p ∈ GR a b->(p.x <= x /\ x <= p.X /\ p.y <= y /\ y <= p.Y)->∃ p,p ∈ (GR a b).filter okB /\ hasB p x y = true:=λ p hp hh=>⟨p,List.mem_filter.mpr ⟨hp,ZG.mpr (by omega)⟩,Zj.mpr hh⟩
   by_cases c1:x < b.x
   ·exact fin ⟨a.x,a.y,max a.x b.x - 1,a.Y⟩ (by simp [GR]) (by dsimp only; omega)
   ·by_cases c2:b.X < x
    ·exact fin ⟨min a.X b.X + 1,a.y,a.X,a.Y⟩ (by simp [GR]) (by dsimp only; omega)
    ·by_cases c3:y < b.y
     ·exact fin ⟨max a.x b.x,a.y,min a.X b.X,max a.y b.y - 1⟩ (by simp [GR]) (by dsimp only; omega)
     ·exact fin ⟨max a.x b.x,min a.Y b.Y + 1,min a.X b.X,a.Y⟩ (by simp [GR]) (by dsimp only; omega)
theorem fold_any (x y:Int):∀ (bs ps:List B4),(∀ p ∈ ps,okB p = true)->((bs.foldl (λ ps b=>ps.flatMap λ p=>Vk p b) ps).any λ p=>hasB p x y) = ((ps.any λ p=>hasB p x y) && !(bs.any λ b=>hasB b x y))
 | [],ps,_=>by simp
 | b :: bs,ps,hp=>by
  have go:∀ qs:List B4,(∀ p ∈ qs,okB p = true)->((qs.flatMap λ p=>Vk p b).any λ p=>hasB p x y) = ((qs.any λ p=>hasB p x y) && !hasB b x y):=λ qs=>by
   induction qs with
   | nil=>intro _; simp
   | cons q qs ih=>
    intro hq;rw [List.flatMap_cons,List.any_append,Rc (hq q List.mem_cons_self),ih λ p h=>hq p (List.mem_cons_of_mem _ h),List.any_cons];cases hasB q x y <;> cases hasB b x y <;> cases (qs.any λ p=>hasB p x y) <;> rfl
  rw [List.foldl_cons,fold_any x y bs _ (λ p h=>by
   obtain ⟨q,hq,hc⟩:=List.mem_flatMap.mp h
   exact (WN (hp q hq) hc).1),go ps hp,List.any_cons]
  cases (ps.any λ p=>hasB p x y) <;> cases hasB b x y <;> cases (bs.any λ p=>hasB p x y) <;> rfl
theorem Qt {a:B4} {bs:List B4} (ha:okB a = true) (_:∀ b ∈ bs,okB b = true) (x y:Int):((ZM a bs).any λ p=>hasB p x y) = (hasB a x y && !(bs.any λ b=>hasB b x y)):=by
 unfold ZM;rw [fold_any x y bs [a] λ p hp=>by rw [List.mem_singleton.mp hp]; exact ha];simp
structure Pieces (S:Int->Int->Bool) (u v:Int) (ps:List B4):Prop where
 ok:∀ p ∈ ps,okB p = true
 ne:ps ≠ []
 on:∀ p ∈ ps,∀ x y,hasB p x y = true->S x y ≠ S u v
 al:∀ x y,S x y ≠ S u v->∃ p ∈ ps,ZX p u v <= Z9 u v x y
theorem Qs {bs:List B4} {x:Int} (h:anyB bs x y = true):∃ b ∈ bs,hasB b x y = true:=List.any_eq_true.mp h
theorem N1 {bs:List B4} {b:B4} {x:Int} (hb:b ∈ bs) (h:hasB b x y = true):anyB bs x y = true:=List.any_eq_true.mpr ⟨b,hb,h⟩
def Frames (fr:B4) (bs:List B4):Prop:=∀ b ∈ bs,fr.x < b.x /\ b.X < fr.X /\ fr.y < b.y /\ b.Y < fr.Y
theorem KD {bs:List B4} {fr:B4} {v:Int} (hb:∀ b ∈ bs,okB b = true) (hf:Frames fr bs) (h:anyB bs u v = true):Pieces (anyB bs) u v (ZM fr bs):=by
 obtain ⟨b0,m0,h0⟩:=Qs h;have f0:=hf b0 m0;have i0:=Zj.mp h0;have hok:okB fr = true:=ZG.mpr (by lia);have key:∀ x y,hasB fr x y = true->anyB bs x y = false->∃ p ∈ ZM fr bs,hasB p x y = true:=λ x y a b=>by
  have e:=Qt hok hb x y;rw [a,show (bs.any λ b=>hasB b x y) = false from b] at e;exact List.any_eq_true.mp e
 have al:∀ x y,anyB bs x y ≠ anyB bs u v->∃ p ∈ ZM fr bs,ZX p u v <= Z9 u v x y:=λ x y q=>by
  have q':anyB bs x y = false:=by
   rw [h] at q;exact Bool.eq_false_iff.mpr q
  have hc:=ZA.mp (Int.le_refl (Z9 u v x y));have c1:hasB fr (max fr.x (min fr.X x)) (max fr.y (min fr.Y y)) = true:=by
   rw [Zj];lia
  have c2:anyB bs (max fr.x (min fr.X x)) (max fr.y (min fr.Y y)) = false:=by
   by_cases z:fr.x <= x /\ x <= fr.X /\ fr.y <= y /\ y <= fr.Y
   ·rw [show max fr.x (min fr.X x) = x by lia,show max fr.y (min fr.Y y) = y by lia];exact q'
   ·refine Bool.eq_false_iff.mpr λ t=>?_;obtain ⟨b,mb,tb⟩:=Qs t;have fb:=hf b mb;have ib:=Zj.mp tb;lia
  obtain ⟨p,mp,hp⟩:=key _ _ c1 c2;refine ⟨p,mp,Int.le_trans (Jk hp) ?_⟩;rw [ZA];lia
 refine ⟨λ p mp=>(Jh hok mp).1,λ z=>?_,λ p mp x y hp=>?_,al⟩
 ·obtain ⟨p,mp,_⟩:=al fr.x fr.y (by
   rw [h];intro t;obtain ⟨b,mb,tb⟩:=Qs t;have fb:=hf b mb;have ib:=Zj.mp tb
   lia)
  rw [z] at mp;cases mp
 ·have e:=Qt hok hb x y;rw [List.any_eq_true.mpr ⟨p,mp,hp⟩] at e;have e':=(Bool.and_eq_true _ _ ▸ e.symm:_ /\ _).2;rw [h];intro t;rw [show (bs.any λ b=>hasB b x y) = true from t] at e';cases e'
theorem Va {bs:List B4} {v:Int} (hb:∀ b ∈ bs,okB b = true) (h1:bs ≠ []) (h:anyB bs u v = false):Pieces (anyB bs) u v bs:=by
 refine ⟨hb,h1,λ p mp x y hp=>?_,λ x y q=>?_⟩
 ·rw [h,N1 mp hp]
  decide
 ·rw [h] at q;obtain ⟨b,mb,tb⟩:=Qs (Bool.of_not_eq_false q);exact ⟨b,mb,Jk tb⟩
section
variable {S:Int->Int->Bool} {v m:Int} {ps:List B4}
theorem Pieces.pos (h:Pieces S u v ps) {p:B4} (mp:p ∈ ps):1 <= ZX p u v:=by
 obtain ⟨x,y,a,b⟩:=Wj (h.ok p mp) u v;rw [<- b];exact WZ (h.on p mp x y a)
theorem Pieces.depth (h:Pieces S u v ps) (h1:∃ p ∈ ps,ZX p u v = m) (h2:∀ p ∈ ps,m <= ZX p u v):IsD S u v (if S u v = true then m else -m):=by
 obtain ⟨p,mp,e⟩:=h1;have hp:=h.pos mp;obtain ⟨x,y,a,b⟩:=Wj (h.ok p mp) u v;have ea:ab (if S u v = true then m else -m) = m:=by
  split
  ·have:=Qd m;lia
  ·have:=Qd (-m);lia
 refine ⟨?_,?_,⟨x,y,h.on p mp x y a,by rw [ea,b,e]⟩,λ x y q=>?_⟩
 ·cases S u v with
  | true=>rw [if_pos rfl]; exact (decide_eq_true (by lia)).symm
  | false=>rw [if_neg Bool.false_ne_true]; exact (decide_eq_false (by lia)).symm
 ·split <;> lia
 ·obtain ⟨p',mp',q'⟩:=h.al x y q;have:=h2 p' mp';rw [ea];lia
theorem Pieces.TC (h:Pieces S u v ps) (h2:∀ p ∈ ps,m <= ZX p u v) {p:B4} (mp:p ∈ ps) (h0:btw p.x p.y p.X p.Y (u - m) (v - m) (u + m) (v + m) = 0) (hm:0 <= m) :
  S (max p.x (u - m)) (max p.y (v - m)) ≠ S u v /\ Z9 u v (max p.x (u - m)) (max p.y (v - m)) = m:=by
 have ok:=ZG.mp (h.ok p mp);have h0':(u - m <= p.X /\ p.x <= u + m) /\ (v - m <= p.Y /\ p.y <= v + m):=by
  unfold btw gp at h0;lia
 have hh:hasB p (max p.x (u - m)) (max p.y (v - m)) = true:=by
  rw [Zj];lia
 refine ⟨h.on p mp _ _ hh,Int.le_antisymm ?_ (Int.le_trans (h2 p mp) (Jk hh))⟩;rw [ZA];lia
end
structure YL (S:Int->Int->Bool) (u v m x y:Int):Prop where
 o:S x y ≠ S u v
 c:Z9 u v x y = m
 l:∀ x' y',S x' y' ≠ S u v->Z9 u v x' y' = m->ltP (x',y') (x,y) = false
theorem OK {a b c d:Int}:ltP (a,b) (c,d) = true ↔ a < c \/ (a = c /\ b < d):=by
 unfold ltP;dsimp only
 split
 ·rw [decide_eq_true_eq]; lia
 ·rw [decide_eq_true_eq]; lia
theorem US {a b c d:Int}:ltP (a,b) (c,d) = false ↔ c < a \/ (a = c /\ d <= b):=by
 rw [<- Bool.not_eq_true,OK];lia
theorem YL.eq {S:Int->Int->Bool} {v m x x' y':Int} (h:YL S u v m x y) (k:YL S u v m x' y'):x = x' /\ y = y':=by
 have a:=US.mp (h.l x' y' k.o k.c);have b:=US.mp (k.l x y h.o h.c);lia
noncomputable def Bb (u v m:Int) (p:B4):Int × Int:=(max p.x (u - m),max p.y (v - m))
section
variable {S:Int->Int->Bool} {v m:Int} {ps:List B4}
theorem JV {p:B4} (hm:0 <= m) (h2:m <= ZX p u v):Qe p (Z3 u v m) = 0 ↔ ZX p u v = m:=by
 show btw p.x p.y p.X p.Y (u - m) (v - m) (u + m) (v + m) = 0 ↔ _;have k:=JN (p:=p) (u:=u) (v:=v) hm;have e:btw p.x p.y p.X p.Y (u - m) (v - m) (u + m) (v + m) = 0 ↔ (u - p.X <= m /\ p.x - u <= m) /\ (v - p.Y <= m /\ p.y - v <= m):=by
  unfold btw gp;lia
 rw [e,<- k];lia
theorem Pieces.least (h:Pieces S u v ps) (h1:∃ p ∈ ps,ZX p u v = m) (h2:∀ p ∈ ps,m <= ZX p u v) (full:∀ x y,S x y ≠ S u v->Z9 u v x y <= m->∃ p ∈ ps,hasB p x y = true)
  {p:B4} (mp:p ∈ ps) (ep:ZX p u v = m) (hl:∀ r ∈ ps,ZX r u v = m->ltP (Bb u v m r) (Bb u v m p) = false):YL S u v m (Bb u v m p).1 (Bb u v m p).2:=by
 have hm:0 <= m:=by rw [<- ep]; exact JS _ _ _
 have k:=h.TC h2 mp ((JV hm (h2 p mp)).mpr ep) hm;refine ⟨k.1,k.2,λ x' y' q c=>?_⟩;obtain ⟨r,mr,hr⟩:=full x' y' q (by lia);have d1:=Jk (u:=u) (v:=v) hr;have d2:=h2 r mr;have z:=US.mp (hl r mr (by lia));have hr':=Zj.mp hr;have c':=ZA.mp (Int.le_of_eq c);rw [US];unfold Bb at z ⊢;dsimp only at z ⊢;lia
end
theorem EY {bs:List B4} {v m:Int} (h:anyB bs u v = false):∀ x y,anyB bs x y ≠ anyB bs u v->Z9 u v x y <= m->∃ p ∈ bs,hasB p x y = true:=λ x y q _=>by
 rw [h] at q;exact Qs (Bool.of_not_eq_false q)
theorem Nw {bs:List B4} {fr:B4} {v m:Int} (hb:∀ b ∈ bs,okB b = true) (hf:Frames fr bs) (h:anyB bs u v = true) (h2:∀ p ∈ ZM fr bs,m <= ZX p u v) :
  ∀ x y,anyB bs x y ≠ anyB bs u v->Z9 u v x y <= m->∃ p ∈ ZM fr bs,hasB p x y = true:=λ x y q c=>by
 obtain ⟨b0,m0,h0⟩:=Qs h;have f0:=hf b0 m0;have i0:=Zj.mp h0;have hok:okB fr = true:=ZG.mpr (by lia);have key:∀ x y,hasB fr x y = true->anyB bs x y = false->∃ p ∈ ZM fr bs,hasB p x y = true:=λ x y a b=>by
  have e:=Qt hok hb x y;rw [a,show (bs.any λ b=>hasB b x y) = false from b] at e;exact List.any_eq_true.mp e
 have edge:∀ a b,hasB fr a b = true->(a = fr.x \/ a = fr.X \/ b = fr.y \/ b = fr.Y)->m <= Z9 u v a b:=λ a b ha hab=>by
  obtain ⟨p,mp,hp⟩:=key a b ha (Bool.eq_false_iff.mpr λ t=>by
   obtain ⟨b',mb,tb⟩:=Qs t;have fb:=hf b' mb;have ib:=Zj.mp tb
   lia)
  exact Int.le_trans (h2 p mp) (Jk hp)
 have c':=ZA.mp c;have e1:=edge fr.x v (Zj.mpr (by lia)) (by lia);have e2:=edge fr.X v (Zj.mpr (by lia)) (by lia);have e3:=edge u fr.y (Zj.mpr (by lia)) (by lia);have e4:=edge u fr.Y (Zj.mpr (by lia)) (by lia);have g1:Z9 u v fr.x v = u - fr.x:=Int.le_antisymm (ZA.mpr (by lia)) (by have:=ZA.mp (Int.le_refl (Z9 u v fr.x v)); lia);have g2:Z9 u v fr.X v = fr.X - u:=Int.le_antisymm (ZA.mpr (by lia)) (by have:=ZA.mp (Int.le_refl (Z9 u v fr.X v)); lia);have g3:Z9 u v u fr.y = v - fr.y:=Int.le_antisymm (ZA.mpr (by lia)) (by have:=ZA.mp (Int.le_refl (Z9 u v u fr.y)); lia);have g4:Z9 u v u fr.Y = fr.Y - v:=Int.le_antisymm (ZA.mpr (by lia)) (by have:=ZA.mp (Int.le_refl (Z9 u v u fr.Y)); lia);refine key x y (Zj.mpr (by lia)) ?_;rw [h] at q;exact Bool.eq_false_iff.mpr q
def Full (S:Int->Int->Bool) (u v:Int) (ps:List B4):Prop:=∀ m,(∀ p ∈ ps,m <= ZX p u v)->∀ x y,S x y ≠ S u v->Z9 u v x y <= m->∃ p ∈ ps,hasB p x y = true
theorem M0 {α:Type} (f:α->Int):∀ l:List α,l ≠ []->∃ a ∈ l,∀ b ∈ l,f a <= f b
 | [],h=>absurd rfl h
 | [a],_=>⟨a,List.mem_singleton.mpr rfl,λ b hb=>by rw [List.mem_singleton.mp hb]; exact Int.le_refl _⟩
 | a :: c :: l,_=>by
  obtain ⟨m,hm,hl⟩:=M0 f (c :: l) (by simp)
  by_cases h:f a <= f m
  ·refine ⟨a,List.mem_cons_self,λ b hb=>?_⟩
   rcases List.mem_cons.mp hb with rfl | hb
   ·exact Int.le_refl _
   ·exact Int.le_trans h (hl b hb)
  ·refine ⟨m,List.mem_cons_of_mem _ hm,λ b hb=>?_⟩
   rcases List.mem_cons.mp hb with rfl | hb
   ·lia
   ·exact hl b hb
theorem Ge:∀ bs:List B4,∃ fr,Frames fr bs
 | []=>⟨⟨0,0,0,0⟩,λ b hb=>(nomatch hb)⟩
 | b :: bs=>by
  obtain ⟨fr,h⟩:=Ge bs;refine ⟨⟨min fr.x (b.x - 1),min fr.y (b.y - 1),max fr.X (b.X + 1),max fr.Y (b.Y + 1)⟩,λ c hc=>?_⟩;dsimp only
  rcases List.mem_cons.mp hc with rfl | hc
  ·lia
  ·have:=h c hc;lia
theorem MS {bs:List B4} (hb:∀ b ∈ bs,okB b = true) (h1:bs ≠ []) (u v:Int):∃ d,IsD (anyB bs) u v d:=by
 have go:∀ ps,Pieces (anyB bs) u v ps->∃ d,IsD (anyB bs) u v d:=λ ps hp=>by
  obtain ⟨p,mp,hm⟩:=M0 (λ p=>ZX p u v) ps hp.ne;exact ⟨_,hp.depth ⟨p,mp,rfl⟩ hm⟩
 cases q:anyB bs u v with
 | true=>
  obtain ⟨fr,hf⟩:=Ge bs;exact go _ (KD hb hf q)
 | false=>exact go _ (Va hb h1 q)
noncomputable def Cu (d wb:Int):Str:=if wb < d then "in" else if d < -wb then "out" else "between"
def CW:DSp:=λ xs M Φ=>on1 xs λ x=>Jy x λ bs=>(1 <= bs.length /\ bs.length <= 6) /\ ∀ fr,Frames fr bs->Φ (.dat (bD fr)) M
theorem Dw:type_of% @CW.eq_1:=λ _ _ _=>qI
def R1 (x:DV) (P:List B4->Prop):Prop:=∃ bs,(x = .dat (.tuple (bs.map bD)) \/ x = .dat (.list (bs.map bD))) /\ P bs
theorem PZ {x:DV} {P:List B4->Prop} (h:R1 x P):∃ bs,(x = .dat (.tuple (bs.map bD)) \/ x = .dat (.list (bs.map bD))) /\ P bs:=h
theorem Tq (bs:List B4) (P:List B4->Prop):R1 (.dat (.tuple (bs.map bD))) P = P bs:=by
 refine propext ⟨λ ⟨cs,e,h⟩=>?_,λ h=>⟨bs,.inl rfl,h⟩⟩
 rcases e with e | e
 ·rw [<- Ew bs P];exact ⟨cs,e,h⟩
 ·cases e
theorem ZaC (bs:List B4) (P:List B4->Prop):R1 (.dat (.list (bs.map bD))) P = P bs:=by
 refine propext ⟨λ ⟨cs,e,h⟩=>?_,λ h=>⟨bs,.inr rfl,h⟩⟩
 rcases e with e | e
 ·cases e
 ·rw [<- CY bs P];exact ⟨cs,e,h⟩
def LZ:DSp:=λ xs M Φ=>on2 xs λ x y=>R1 x λ ps=>onP y λ u v=>(ps ≠ [] /\ ps.length <= 4096) /\ ∀ m,(∃ p ∈ ps,ZX p u v = m)->(∀ p ∈ ps,m <= ZX p u v)->Φ (.dat (.int m)) M
theorem EV:type_of% @LZ.eq_1:=λ _ _ _=>qI
def BV:DSp:=λ xs M Φ=>on2 xs λ x y=>Jy x λ bs=>onP y λ u v=>Shp bs /\ ∀ ps,Pieces (anyB bs) u v ps->Full (anyB bs) u v ps->ps.length <= 4096->Φ (.dat (.list (ps.map bD))) M
theorem C9:type_of% @BV.eq_1:=λ _ _ _=>qI
def Bq:DSp:=λ xs M Φ=>on2 xs λ x y=>Jy x λ bs=>onP y λ u v=>Shp bs /\ ∀ d,IsD (anyB bs) u v d->Φ (.dat (.int d)) M
theorem Ea:type_of% @Bq.eq_1:=λ _ _ _=>qI
theorem M9 {bs:List B4} {u v:Int} {A B:Prop} (h1:anyB bs u v = true->A) (h2:anyB bs u v = false->B):if anyB bs u v = true then A else B:=by
 cases q:anyB bs u v with
 | true=>rw [if_pos rfl]; exact h1 q
 | false=>rw [if_neg Bool.false_ne_true]; exact h2 q
def Ko:DSp:=λ xs M Φ=>on2 xs λ x y=>Jy x λ bs=>onP y λ u v=>Shp bs /\ ∀ a b,(∀ d,IsD (anyB bs) u v d->YL (anyB bs) u v (ab d) a b)->Φ (.dat (.tuple [.int a,.int b])) M
theorem Ud:type_of% @Ko.eq_1:=λ _ _ _=>qI
def MQ:DSp:=λ xs M Φ=>on3 xs λ x y z=>Jy x λ bs=>onI y λ wb=>onP z λ u v=>(Shp bs /\ 0 <= wb) /\ ∀ d,IsD (anyB bs) u v d->Φ (.dat (.str (Cu d wb))) M
theorem F5:type_of% @MQ.eq_1:=λ _ _ _=>qI
theorem Xu {bs:List B4} {v wb d:Int} (hb:∀ b ∈ bs,okB b = true) (hw:0 <= wb) (hd:IsD (anyB bs) u v d):ZM (Z3 u v wb) bs = [] ↔ wb < d:=by
 have hok:okB (Z3 u v wb) = true:=ZG.mpr (by unfold Z3; dsimp only; lia);have sq:∀ x y,hasB (Z3 u v wb) x y = true ↔ Z9 u v x y <= wb:=λ x y=>by
  rw [Zj,ZA];unfold Z3;dsimp only;lia
 have ad:=Qd d;constructor
 ·intro z;have key:∀ x y,Z9 u v x y <= wb->anyB bs x y = true:=λ x y c=>by
   have e:=Qt hok hb x y;rw [z,(sq x y).mpr c] at e
   simpa using e.symm
  have k0:anyB bs u v = true:=key u v (by rw [ZA]; lia);have d0:=hd.pos k0
  by_cases c:wb < d
  ·exact c
  ·obtain ⟨x,y,e1,e2⟩:=hd.ex;exact absurd (by rw [key x y (by lia),k0]) e1
 ·intro z;cases q:ZM (Z3 u v wb) bs with
  | nil=>rfl
  | cons p ps=>
   have mp:p ∈ ZM (Z3 u v wb) bs:=by rw [q]; exact List.mem_cons_self
   obtain ⟨x,y,h1,h2⟩:=Wj (Jh hok mp).1 u v;have e:=Qt hok hb x y;rw [List.any_eq_true.mpr ⟨p,mp,h1⟩] at e;have e':=(Bool.and_eq_true _ _ ▸ e.symm:_ /\ _)
   have k0:anyB bs u v = true:=by
    rw [hd.sg];exact decide_eq_true (by lia)
   have k1:anyB bs x y = false:=by
    have e2:=e'.2
    rwa [Bool.not_eq_true'] at e2
   have:=hd.mn x y (by rw [k0,k1]; decide);have:=(sq x y).mp e'.1;lia
theorem FZ {bs:List B4} {v wb d m:Int} (hb:∀ b ∈ bs,okB b = true) (h1:bs ≠ []) (hw:0 <= wb) (hd:IsD (anyB bs) u v d) (h2:∃ p ∈ bs,ZX p u v = m) (h3:∀ p ∈ bs,m <= ZX p u v):wb < m ↔ d < -wb:=by
 cases q:anyB bs u v with
 | true=>
  have d0:=hd.pos q;obtain ⟨b,mb,tb⟩:=Qs q;have a1:=h3 b mb;have a2:ZX b u v <= 0:=by
   have i:=Zj.mp tb;rw [JN (Int.le_refl 0)];lia
  lia
 | false=>
  have k:=(Va hb h1 q).depth h2 h3;rw [q,if_neg Bool.false_ne_true] at k;have:=hd.eq k;lia
theorem MZ:∀ ps:List B4,PyData.canLayAll0 (ps.map bD) = true
 | []=>by simp [PyData.canLayAll0]
 | p :: ps=>by
  rw [List.map_cons];simp only [PyData.canLayAll0,Bool.and_eq_true];exact ⟨by simp [bD,PyData.canLay0,PyData.canLayAll0],MZ ps⟩
theorem P9 (ps:List B4) {P:Bool->Prop} (h:P (decide (ps = []))):eqD (.list (ps.map bD)) (.list []) P:=by
 refine BY ?_ ?_
 ·unfold Rz;simp only [PyData.canLay0,MZ,Bool.true_and];simp [PyData.canLayAll0,PyData.depth,PyData.depthAll]
 ·cases ps with
  | nil=>simpa [EA,XW] using h
  | cons p ps=>simpa [EA,EH] using h
inductive Cv where
 | box (k:Int)
 | cut (w a:Int) (p q:Cv)
noncomputable def cvD:Cv->PyData
 | .box k=>.tuple [.str (Str.ofString "box"),.int k]
 | .cut w a p q=>.tuple [.str (Str.ofString "cut"),.int w,.int a,cvD p,cvD q]
noncomputable def Cv.dep:Cv->Nat
 | .box _=>1
 | .cut _ _ p q=>max p.dep q.dep + 1
theorem Od (w a:Int) (p q:Cv):(Cv.cut w a p q).dep = max p.dep q.dep + 1:=rfl
noncomputable def upB (b:B4) (w a:Int):B4:=if w = 0 then ⟨b.x,b.y,a,b.Y⟩ else ⟨b.x,b.y,b.X,a⟩
noncomputable def owB (b:B4) (w a:Int):B4:=if w = 0 then ⟨a,b.y,b.X,b.Y⟩ else ⟨b.x,a,b.X,b.Y⟩
noncomputable def loB (b:B4) (w:Int):Int:=if w = 0 then b.x else b.y
noncomputable def hiB (b:B4) (w:Int):Int:=if w = 0 then b.X else b.Y
noncomputable def allB (c b:B4):Bool:=hasB c b.x b.y && hasB c b.X b.Y
noncomputable def inB (c b:B4):Bool:=decide (c.x <= b.x /\ c.y <= b.y /\ b.X <= c.X /\ b.Y <= c.Y)
noncomputable def Zc8 (bs:List B4) (k:Int):Bool:=decide (0 <= k) && decide (k < bs.length)
noncomputable def OZ (b:B4) (w a:Int):Bool:=(decide (w = 0) || decide (w = 1)) && (decide (loB b w <= a) && decide (a < hiB b w))
noncomputable def QB (bs:List B4):B4->Cv->Bool
 | b,.box k=>Zc8 bs k && (match bs[k.toNat]? with | some c=>allB c b | none=>false)
 | b,.cut w a p q=>OZ b w a && (QB bs (upB b w a) p && QB bs (owB b w (a + 1)) q)
def Cov (bs:List B4) (b:B4):Prop:=∀ u v,hasB b u v = true->anyB bs u v = true
theorem Wg {b:B4} {w a:Int}:OZ b w a = true ↔ (w = 0 \/ w = 1) /\ loB b w <= a /\ a < hiB b w:=by
 unfold OZ;simp only [Bool.and_eq_true,Bool.or_eq_true,decide_eq_true_eq]
theorem allB_iff {c b:B4}:allB c b = true ↔ (c.x <= b.x /\ b.x <= c.X /\ c.y <= b.y /\ b.y <= c.Y) /\ (c.x <= b.X /\ b.X <= c.X /\ c.y <= b.Y /\ b.Y <= c.Y):=by
 unfold allB hasB;rw [Bool.and_eq_true,decide_eq_true_eq,decide_eq_true_eq]
theorem Ee {b:B4} {w a v:Int} (hw:w = 0 \/ w = 1) (h1:loB b w <= a) (h2:a < hiB b w):(hasB (upB b w a) u v = true->hasB b u v = true) /\ (hasB (owB b w (a + 1)) u v = true->hasB b u v = true):=by
 rw [Zj,Zj,Zj]
 rcases hw with rfl | rfl
 ·unfold upB owB;unfold loB at h1;unfold hiB at h2;rw [if_pos rfl] at h1 h2;rw [if_pos rfl,if_pos rfl];dsimp only;lia
 ·unfold upB owB;unfold loB at h1;unfold hiB at h2;rw [if_neg (by decide)] at h1 h2;rw [if_neg (by decide),if_neg (by decide)];dsimp only;lia
theorem T1 {b:B4} {w a:Int} (hb:okB b = true) (hw:w = 0 \/ w = 1) (h1:loB b w <= a) (h2:a < hiB b w):okB (upB b w a) = true /\ okB (owB b w (a + 1)) = true:=by
 rw [ZG] at *;rw [ZG]
 rcases hw with rfl | rfl
 ·unfold upB owB;unfold loB at h1;unfold hiB at h2;rw [if_pos rfl] at h1 h2;rw [if_pos rfl,if_pos rfl];dsimp only;lia
 ·unfold upB owB;unfold loB at h1;unfold hiB at h2;rw [if_neg (by decide)] at h1 h2;rw [if_neg (by decide),if_neg (by decide)];dsimp only;lia
theorem CD {bs:List B4} {b c:B4} (hi:bs[i]? = some c) (h:allB c b = true):QB bs b (.box (i:Int)) = true:=by
 unfold QB Zc8;have hl:=(List.getElem?_eq_some_iff.mp hi).1;rw [decide_eq_true (show (0:Int) <= (i:Int) by lia),decide_eq_true (show (i:Int) < bs.length by lia),Int.toNat_natCast,hi];exact h
theorem Dv {bs:List B4} {b:B4} {w a:Int} {p q:Cv} (hw:w = 0 \/ w = 1) (h1:loB b w <= a) (h2:a < hiB b w) (hp:QB bs (upB b w a) p = true) (hq:QB bs (owB b w (a + 1)) q = true):QB bs b (.cut w a p q) = true:=by
 unfold QB;rw [Wg.mpr ⟨hw,h1,h2⟩,hp,hq];rfl
theorem Cov.sub {bs:List B4} {b:B4} {w a:Int} (h:Cov bs b) (hw:w = 0 \/ w = 1) (h1:loB b w <= a) (h2:a < hiB b w):Cov bs (upB b w a) /\ Cov bs (owB b w (a + 1)):=
 ⟨λ u v z=>h u v ((Ee hw h1 h2).1 z),λ u v z=>h u v ((Ee hw h1 h2).2 z)⟩
noncomputable def ZO (b:B4) (w:Int) (c:B4):Bool:=decide (loB b w <= hiB c w) && decide (hiB c w < hiB b w)
noncomputable def U3 (bs:List B4) (b:B4):Nat:=bs.countP (ZO b 0) + bs.countP (ZO b 1)
theorem Yt {α:Type} {p q:α->Bool}:∀ {l:List α},(∀ x ∈ l,p x = true->q x = true)->(∃ x ∈ l,q x = true /\ p x = false)->l.countP p < l.countP q
 | [],_,⟨x,hx,_⟩=>(nomatch hx)
 | a :: l,h,⟨x,hx,h1,h2⟩=>by
  have hm:l.countP p <= l.countP q:=List.countP_mono_left λ y hy=>h y (List.mem_cons_of_mem _ hy);rw [List.countP_cons,List.countP_cons]
  rcases List.mem_cons.mp hx with rfl | hx
  ·rw [h1,h2];simp;omega
  ·have ih:=Yt (λ y hy=>h y (List.mem_cons_of_mem _ hy)) ⟨x,hx,h1,h2⟩;cases e:p a with
   | false=>simp; omega
   | true=>rw [h a List.mem_cons_self e]; simp; omega
theorem Zal (bs:List B4) (b:B4):U3 bs b <= 2 * bs.length:=by
 unfold U3;have h1:=List.countP_le_length (l:=bs) (p:=ZO b 0);have h2:=List.countP_le_length (l:=bs) (p:=ZO b 1);lia
theorem Ve {b:B4} {w a w':Int} (hw:w = 0 \/ w = 1) (hw':w' = 0 \/ w' = 1) (h1:loB b w <= a) (h2:a < hiB b w) (c:B4):(ZO (upB b w a) w' c = true->ZO b w' c = true) /\ (ZO (owB b w (a + 1)) w' c = true->ZO b w' c = true):=by
 unfold ZO;simp only [Bool.and_eq_true,decide_eq_true_eq]
 rcases hw with rfl | rfl <;> rcases hw' with rfl | rfl <;> simp only [upB,owB,loB,hiB,if_true,if_false,Int.reduceEq] at * <;> lia
theorem LB {b:B4} {w a:Int} (hw:w = 0 \/ w = 1) (c:B4) (e:hiB c w = a):ZO (upB b w a) w c = false /\ ZO (owB b w (a + 1)) w c = false:=by
 unfold ZO;simp only [Bool.and_eq_false_iff,decide_eq_false_iff_not]
 rcases hw with rfl | rfl <;> simp only [upB,owB,loB,hiB,if_true,if_false,Int.reduceEq] at * <;> lia
theorem OH {bs:List B4} {b:B4} {w a:Int} (hw:w = 0 \/ w = 1) (h1:loB b w <= a) (h2:a < hiB b w) {c:B4} (hc:c ∈ bs) (e:hiB c w = a):U3 bs (upB b w a) < U3 bs b /\ U3 bs (owB b w (a + 1)) < U3 bs b:=by
 have here:ZO b w c = true:=by
  unfold ZO;rw [e,decide_eq_true h1,decide_eq_true h2];rfl
 have g:=LB (b:=b) (a:=a) hw c e;have k:=λ w' (hw':w' = 0 \/ w' = 1)=>(⟨List.countP_mono_left λ c _=>(Ve hw hw' h1 h2 c).1,List.countP_mono_left λ c _=>(Ve hw hw' h1 h2 c).2⟩:bs.countP (ZO (upB b w a) w') <= bs.countP (ZO b w') /\ bs.countP (ZO (owB b w (a + 1)) w') <= bs.countP (ZO b w'));have s1:=Yt (l:=bs) (p:=ZO (upB b w a) w) (q:=ZO b w) (λ c _=>(Ve hw hw h1 h2 c).1) ⟨c,hc,here,g.1⟩;have s2:=Yt (l:=bs) (p:=ZO (owB b w (a + 1)) w) (q:=ZO b w) (λ c _=>(Ve hw hw h1 h2 c).2) ⟨c,hc,here,g.2⟩;unfold U3;have k0:=k 0 (.inl rfl);have k1:=k 1 (.inr rfl)
 rcases hw with rfl | rfl <;> lia
def Gr:DSp:=λ xs M Φ=>on2 xs λ x y=>onX x λ a=>onX y λ b=>Φ (.dat (.bool (allB a b))) M
theorem GK:type_of% @Gr.eq_1:=λ _ _ _=>qI
def Zc5:DSp:=λ xs M Φ=>on3 xs λ x y z=>onX x λ b=>onI y λ i=>onI z λ a=>Φ (.dat (bD (upB b i a))) M
theorem TV:type_of% @Zc5.eq_1:=λ _ _ _=>qI
def ZcZ:DSp:=λ xs M Φ=>on3 xs λ x y z=>onX x λ b=>onI y λ i=>onI z λ a=>Φ (.dat (bD (owB b i a))) M
theorem ZaP:type_of% @ZcZ.eq_1:=λ _ _ _=>qI
noncomputable def shB (c:B4):B4:=⟨c.x,c.y,c.x - 1,c.y - 1⟩
noncomputable def dbl (bs:List B4):List B4:=bs ++ bs.map shB
theorem Zcc (c:B4) (w:Int):hiB (shB c) w = loB c w - 1:=by
 unfold hiB loB shB
 split <;> rfl
def Pc (bs:List B4) (b:B4) (w z:Int):Prop:=(loB b w <= z /\ z < hiB b w) /\ ∃ c ∈ dbl bs,hiB c w = z
theorem Mt {b:B4} {w:Int} (h:w = 0 \/ w = 1) (P:PyData->Prop):YI [.int b.x,.int b.y] w P = P (.int (loB b w)):=by
 rcases h with rfl | rfl <;> rfl
theorem Nc {b:B4} {w:Int} (h:w = 0 \/ w = 1) (P:PyData->Prop):YI [.int b.X,.int b.Y] w P = P (.int (hiB b w)):=by
 rcases h with rfl | rfl <;> rfl
noncomputable def plB (b:B4) (w:Int) (bs:List B4):List Int:=bs.flatMap λ c=>if Qe c b = 0 then [loB c w - 1,hiB c w] else []
theorem HW {b c:B4} {w:Int} {bs:List B4} (h:bs[i]? = some c):plB b w (bs.take (i + 1)) = plB b w (bs.take i) ++ (if Qe c b = 0 then [loB c w - 1,hiB c w] else []):=by
 unfold plB;rw [List.take_add_one,h,List.flatMap_append];simp
theorem B3 (b:B4) (w:Int) (bs:List B4):(plB b w bs).length <= bs.length * 2:=
 VI _ 2 bs λ c _=>by split <;> simp
theorem N8 {b:B4} {w z:Int} {bs:List B4} (h:z ∈ plB b w bs):∃ c ∈ dbl bs,hiB c w = z:=by
 obtain ⟨c,hc,hz⟩:=List.mem_flatMap.mp h
 split at hz
 ·simp only [List.mem_cons,List.not_mem_nil,or_false] at hz
  rcases hz with rfl | rfl
  ·exact ⟨shB c,List.mem_append_right _ (List.mem_map_of_mem hc),Zcc c w⟩
  ·exact ⟨c,List.mem_append_left _ hc,rfl⟩
 ·cases hz
theorem PN {b c:B4} {w:Int} {bs:List B4} (hc:c ∈ bs) (h0:Qe c b = 0):hiB c w ∈ plB b w bs:=
 List.mem_flatMap.mpr ⟨c,hc,by rw [if_pos h0]; simp⟩
theorem Rr {bs:List B4} {b:B4} (hb:okB b = true) (hc:Cov bs b) (hn:∀ c ∈ bs,allB c b = false):∃ c ∈ bs,Qe c b = 0 /\ (ZO b 0 c = true \/ ZO b 1 c = true):=by
 rw [ZG] at hb;obtain ⟨c,hm,h⟩:=List.any_eq_true.mp (hc b.x b.y (by rw [Zj]; omega));rw [Zj] at h;have hi:¬ allB c b = true:=by rw [hn c hm]; exact Bool.false_ne_true
 rw [allB_iff] at hi;refine ⟨c,hm,?_,?_⟩
 ·unfold Qe btw gp;omega
 ·unfold ZO;simp only [Bool.and_eq_true,decide_eq_true_eq,loB,hiB,if_true,if_false,Int.reduceEq];omega
theorem B7 {b c:B4} {w:Int}:ZO b w c = true ↔ loB b w <= hiB c w /\ hiB c w < hiB b w:=by
 unfold ZO;simp only [Bool.and_eq_true,decide_eq_true_eq]
def U1:DSp:=λ xs M Φ=>on3 xs λ x y z=>Jy x λ bs=>onX y λ b=>onI z λ w=>(bs.length <= 6 /\ (w = 0 \/ w = 1)) /\ ∀ ks:List Int,(∀ z ∈ ks,Pc bs b w z)->(∀ c ∈ bs,Qe c b = 0->ZO b w c = true->hiB c w ∈ ks)->Φ (.dat (.list (ks.map PyData.int))) M
theorem Bk:type_of% @U1.eq_1:=λ _ _ _=>qI
def VX (n:Nat):DSp:=λ xs M Φ=>on2 xs λ x y=>Jy x λ bs=>onX y λ b=>((bs.length <= 6 /\ okB b = true /\ Cov bs b) /\ U3 (dbl bs) b < n) /\ ∀ c,QB bs b c = true->c.dep <= n->Φ (.dat (cvD c)) M
theorem D0:type_of% @VX.eq_1:=λ _ _ _ _=>qI
theorem Wd (xs:List DV) (M:Mp) (Φ:DK):¬ VX 0 xs M Φ:=λ h=>by
 replace h:=Zp h;obtain ⟨x,y,rfl,h⟩:=h;replace h:=Z0 h;obtain ⟨bs,rfl,h⟩:=h;replace h:=ZZ h;obtain ⟨b,rfl,h⟩:=h;exact absurd h.1.2 (Nat.not_lt_zero _)
def Lst (bs:List B4) (b:B4) (u v:Int):Prop:=(hasB b u v = true /\ anyB bs u v = false) /\ ∀ u' v',hasB b u' v' = true->anyB bs u' v' = false->u < u' \/ (u = u' /\ v <= v')
def Kr:DSp:=λ xs M Φ=>on2 xs λ x y=>Jy x λ bs=>onX y λ b=>(Shp bs /\ okB b = true) /\ (Cov bs b->∀ c,QB bs b c = true->c.dep <= 25->Φ (.dat (.tuple [.str (Str.ofString "yes"),cvD c])) M) /\ ∀ u v,Lst bs b u v->Φ (.dat (.tuple [.str (Str.ofString "no"),.tuple [.int u,.int v]])) M
theorem Wv:type_of% @Kr.eq_1:=λ _ _ _=>qI
theorem E6 {bs:List B4} {b:B4} (hb:okB b = true) (hs:∀ c ∈ bs,okB c = true) (r:Int × Int) (hr:r ∈ (ZM b bs).map λ p=>(p.x,p.y)) (lr:∀ s ∈ (ZM b bs).map (λ p=>(p.x,p.y)),ltP s r = false):Lst bs b r.1 r.2:=by
 obtain ⟨p,mp,rfl⟩:=List.mem_map.mp hr;have op:=ZG.mp (Jh hb mp).1;have la:=Qt hb hs p.x p.y;rw [List.any_eq_true.mpr ⟨p,mp,by rw [Zj]; lia⟩] at la;have la:=(Bool.and_eq_true _ _).mp la.symm;refine ⟨⟨la.1,by simpa using la.2⟩,λ u v hu nu=>?_⟩;have lb:=Qt hb hs u v;rw [hu,show (bs.any λ b=>hasB b u v) = false from nu] at lb;obtain ⟨p',mp',hp'⟩:=List.any_eq_true.mp (by exact lb);rw [Zj] at hp';have:=lr (p'.x,p'.y) (List.mem_map.mpr ⟨p',mp',rfl⟩);unfold ltP at this;dsimp only at this ⊢
 split at this <;> simp only [decide_eq_false_iff_not] at this <;> lia
theorem UG {bs:List B4} {b:B4} (hb:okB b = true) (hs:∀ c ∈ bs,okB c = true) (h:ZM b bs = []):Cov bs b:=λ u v hu=>by
 have la:=Qt hb hs u v;rw [h,hu] at la
 simpa using la
theorem JG {b:Bool} {A B:Prop} (h1:b = true->A) (h2:¬ b = true->B):if b = true then A else B:=by
 cases b
 ·exact h2 (by decide)
 ·exact h1 rfl
def Tj (o:OO):Prop:=∃ a b c:Int,0 <= a /\ (0 <= b /\ b < 2147483587) /\ 0 <= c /\ o = .lst [.int a,.int b,.int c]
def Pen (M:Mp) (p:Addr):Prop:=∃ o,Tj o /\ M p = some o
theorem Pen.ZJ {o:OO} (h:Tj o):Pen (ZJ M p o) p:=⟨o,h,ZD⟩
theorem Pen.ne {q:Addr} (h:Pen M p) (hq:M q = none):p ≠ q:=λ e=>by
 obtain ⟨o,_,ho⟩:=h;rw [e,hq] at ho;cases ho
theorem Pen.put {q:Addr} {o:OO} (h:Pen M p) (hq:p ≠ q):Pen (DL.ZJ M q o) p:=by
 obtain ⟨o',h1,h2⟩:=h;exact ⟨o',h1,by rw [ZC hq]; exact h2⟩
def Zbw (x:DV) (P:List Int->Prop):Prop:=∃ ns,x = .dat (.list (ns.map PyData.int)) /\ P ns
theorem OD {x:DV} {P:List Int->Prop} (h:Zbw x P):∃ ns,x = .dat (.list (ns.map PyData.int)) /\ P ns:=h
theorem Yp:∀ {as bs:List Int},as.map PyData.int = bs.map PyData.int->as = bs
 | [],[],_=>rfl
 | [],_ :: _,h=>by simp at h
 | _ :: _,[],h=>by simp at h
 | a :: as,b :: bs,h=>by
  rw [List.map_cons,List.map_cons,List.cons.injEq,PyData.int.injEq] at h;rw [h.1,Yp h.2]
theorem PF (bs:List Int) (P:List Int->Prop):Zbw (.dat (.list (bs.map PyData.int))) P = P bs:=propext ⟨λ ⟨cs,e,h⟩=>by
 rw [DV.dat.injEq,PyData.list.injEq] at e;rw [Yp e]
 exact h,λ h=>⟨bs,rfl,h⟩⟩
theorem tab {l:List Int} {r:Int} (P:Int->Prop) (h0:0 <= r) (h1:r < l.length) (hl:∀ w ∈ l,P w) {Q:PyData->Prop} (k:∀ w,P w->Q (.int w)):YI (l.map PyData.int) r Q:=by
 obtain ⟨w,hw,e⟩:=Ni h0 h1;exact Yd e (k w (hl w hw))
def MW:DSp:=λ xs M Φ=>on2 xs λ x y=>Zbw x λ ns=>onI y λ k=>0 <= k /\ ∀ p o,M p = none->Tj o->Φ (.own p) (ZJ M p o)
theorem Lm:type_of% @MW.eq_1:=λ _ _ _=>qI
def Fr (p:Addr) (M M':Mp):Prop:=Pen M' p /\ ∀ a,a ≠ p->M a ≠ none->M' a = M a
theorem Fr.refl (h:Pen M p):Fr p M M:=⟨h,λ _ _ _=>rfl⟩
theorem Fr.trans {M1 M2:Mp} (h:Fr p M M1) (k:Fr p M1 M2):Fr p M M2:=⟨k.1,λ a ha hn=>by
 have e:=h.2 a ha hn;rw [<- e]
 exact k.2 a ha (by rw [e]; exact hn)⟩
theorem Fr.ZJ {o:OO} (h:Tj o):Fr p M (ZJ M p o):=⟨Pen.ZJ h,λ a ha _=>ZC ha⟩
theorem Fr.own {q:Addr} {M':Mp} {o:OO} (h:Fr p M M') (hq:M q = some o) (hne:q ≠ p):M' q = some o:=by
 rw [h.2 q hne (by rw [hq]; exact Option.some_ne_none _)];exact hq
theorem Fr.new {q:Addr} {M':Mp} {o:OO} (h:Fr p M M') (hq:M q = none) (hne:q ≠ p):Fr p M (DL.ZJ M' q o):=⟨h.1.put (Ne.symm hne),λ a ha hn=>by
 rw [ZC (λ e=>hn (by rw [e]; exact hq))]
 exact h.2 a ha hn⟩
def Mf:DSp:=λ xs M Φ=>on2 xs λ x y=>onO x λ p=>onI y λ m=>(0 < m /\ m < 10 ^ 20) /\ Pen M p /\ ∀ r M',0 <= r->r < m->Fr p M M'->Φ (.dat (.int r)) M'
theorem FW:type_of% @Mf.eq_1:=λ _ _ _=>qI
theorem Pen.get (h:Pen M p):∃ a b c:Int,(0 <= a /\ (0 <= b /\ b < 2147483587) /\ 0 <= c) /\ M p = some (.lst [.int a,.int b,.int c]):=by
 obtain ⟨o,⟨a,b,c,ha,hb,hc,eo⟩,hp⟩:=h;exact ⟨a,b,c,⟨ha,hb,hc⟩,by rw [hp,eo]⟩
theorem Lg {R:Int->Int->Prop} {bs es:List Int} {A B:Int} (hl:bs.length = es.length) (h:∀ (i:Nat) (a b:Int),bs[i]? = some a->es[i]? = some b->R a b) (k:R A B):∀ (i:Nat) (a b:Int),(bs ++ [A])[i]? = some a->(es ++ [B])[i]? = some b->R a b:=λ i a b ha hb=>by
 by_cases hi:i < bs.length
 ·rw [List.getElem?_append_left hi] at ha;rw [List.getElem?_append_left (by lia)] at hb;exact h i a b ha hb
 ·have h1:=(List.getElem?_eq_some_iff.mp ha).1;rw [List.length_append,List.length_singleton] at h1;obtain rfl:i = bs.length:=by lia
  rw [List.getElem?_append_right (Nat.le_refl _),Nat.sub_self] at ha;rw [hl,List.getElem?_append_right (Nat.le_refl _),Nat.sub_self] at hb;cases ha;cases hb;exact k
theorem DN {l:List Int} (h:l.length = 2):∃ a b,l = [a,b]:=by
 match l,h with
 | [a,b],_=>exact ⟨a,b,rfl⟩
def Bo (b:B4):Prop:=okB b = true /\ (0 <= b.x /\ b.X <= 7) /\ (0 <= b.y /\ b.Y <= 7)
def U9 (bs:List B4):Prop:=1 <= bs.length /\ bs.length <= 6 /\ ∀ b ∈ bs,Bo b
theorem U9.shp {bs:List B4} (h:U9 bs):Shp bs:=⟨h.1,h.2.1,λ b hb=>(h.2.2 b hb).1⟩
theorem U9.ne {bs:List B4} (h:U9 bs):bs ≠ []:=λ z=>by
 have:=h.1;rw [z] at this;exact absurd this (by decide)
theorem U9.inn {bs:List B4} (h:U9 bs) {x:Int} (k:anyB bs x y = true):(0 <= x /\ x <= 7) /\ (0 <= y /\ y <= 7):=by
 obtain ⟨b,hb,k⟩:=Qs k;have h1:=(h.2.2 b hb).2;have h2:=Zj.mp k;lia
noncomputable def dp (bs:List B4) (u v:Int):Int:=Classical.epsilon λ d=>IsD (anyB bs) u v d
theorem G4 {bs:List B4} (h:U9 bs) (u v:Int):IsD (anyB bs) u v (dp bs u v):=Classical.epsilon_spec (MS h.shp.2.2 h.ne u v)
noncomputable def nv (h e:Int):Int:=if decide (0 < e) = decide (0 < h) then ab e else 0
theorem NV {S:Int->Int->Bool} {v h x e:Int} (k:IsD S u v h) (k':IsD S x y e) (c:Z9 u v x y <= 1):ab h <= 1 + nv h e:=by
 obtain ⟨a,b⟩:=k.Zco k' c;unfold nv;have i1:=Qd h;have i2:=Qd e
 split
 ·rename_i q;have:=b q;lia
 ·rename_i q;have:=a q;lia
def Bn (x y:Int):Prop:=(-2 <= x /\ x <= 9) /\ (-2 <= y /\ y <= 9)
theorem NL {S:Int->Int->Bool} {v h:Int} (k:IsD S u v h) (hi:Bn u v) (hS:∀ x y,S x y = true->(0 <= x /\ x <= 7) /\ (0 <= y /\ y <= 7)) :
  ∃ x y,Z9 u v x y <= 1 /\ ¬ (x = u /\ y = v) /\ Bn x y /\ ∀ e,IsD S x y e->1 + nv h e = ab h:=by
 obtain ⟨x,y,o,c⟩:=k.ex;have hn:=k.ne;have a1:=Qd h;have key:∀ x' y',Z9 u v x' y' <= 1->(S u v = false->(min u x <= x' /\ x' <= max u x) /\ (min v y <= y' /\ y' <= max v y))->Bn x' y':=λ x' y' c1 c2=>by
  have c1:=ZA.mp c1;unfold Bn at hi ⊢;cases q:S u v with
  | true=>
   have:=hS u v q;lia
  | false=>
   have c2:=c2 q;rw [q] at o;have:=hS x y (Bool.of_not_eq_false o);lia
 by_cases e1:ab h = 1
 ·refine ⟨x,y,by lia,λ z=>o (by rw [z.1,z.2]),key x y (by lia) (λ _=>by lia),λ e k'=>?_⟩;have q:=k'.sg;rw [e1];unfold nv;rw [if_neg (by rw [<- k'.sg,<- k.sg]; exact o)];rfl
 ·have f1:(1:Int) < ab h:=by lia
  have t:=k.toward o c (f:=1) (by decide) f1;have cs:=WX (f:=1) (by decide) u v x y;have c1:=VP (f:=1) (by decide) (x - u);have c2:=VP (f:=1) (by decide) (y - v);refine ⟨_,_,cs,λ z=>?_,key _ _ cs (λ _=>by lia),λ e k'=>?_⟩
  ·have z1:x = u:=by lia
   have z2:y = v:=by lia
   exact o (by rw [z1,z2])
  ·rw [k'.eq t];have g1:=sgn_mul h 1;have g3:=Qd (h - sgn h * 1);unfold nv;rw [if_pos (by rw [decide_eq_decide]; lia)];lia
theorem Ff {bs:List B4} {b:B4} (hb:okB b = true) (hs:∀ c ∈ bs,okB c = true) (h:Cov bs b):ZM b bs = []:=by
 cases q:ZM b bs with
 | nil=>rfl
 | cons p ps=>
  have mp:p ∈ ZM b bs:=by rw [q]; exact List.mem_cons_self
  have op:=ZG.mp (Jh hb mp).1;have la:=Qt hb hs p.x p.y;rw [List.any_eq_true.mpr ⟨p,mp,by rw [Zj]; lia⟩] at la;have la:=(Bool.and_eq_true _ _).mp la.symm;have:=h p.x p.y la.1;rw [show (bs.any λ b=>hasB b p.x p.y) = true from this] at la;exact absurd la.2 (by decide)
theorem Ox (u v:Int) {r:Int} (h:0 <= r):okB (Z3 u v r) = true:=ZG.mpr (by unfold Z3; dsimp only; lia)
theorem Sh {bs:List B4} {v r d:Int} (hs:∀ c ∈ bs,okB c = true) (h:0 <= r) (hd:IsD (anyB bs) u v d):Cov bs (Z3 u v r) ↔ r < d:=
 ⟨λ c=>(Xu hs h hd).mp (Ff (Ox u v h) hs c),λ z=>UG (Ox u v h) hs ((Xu hs h hd).mpr z)⟩
theorem Lst.ZdA {bs:List B4} {b:B4} {v:Int} (h:Lst bs b u v):¬ Cov bs b:=λ c=>by
 have:=c u v h.1.1;rw [h.1.2] at this;cases this
noncomputable def EL (n i:Nat):List (Int × Int):=(List.range n).map λ (j:Nat)=>(-2 + (i:Int),-2 + (j:Int))
noncomputable def Qb (n:Nat):List (Int × Int):=(List.range n).flatMap (EL 12)
theorem VN {x:Int}:(x,y) ∈ Qb 12 ↔ Bn x y:=by
 unfold Qb EL Bn;rw [List.mem_flatMap];constructor
 ·rintro ⟨i,hi,h⟩;obtain ⟨j,hj,e⟩:=List.mem_map.mp h;have hi:=List.mem_range.mp hi;have hj:=List.mem_range.mp hj;rw [Prod.mk.injEq] at e;lia
 ·intro h;refine ⟨(x + 2).toNat,List.mem_range.mpr (by lia),List.mem_map.mpr ⟨(y + 2).toNat,List.mem_range.mpr (by lia),?_⟩⟩;rw [Prod.mk.injEq];lia
theorem Nr:(Qb 12).Nodup:=by walk_at "k"
theorem Wb (n:Nat):Qb (n + 1) = Qb n ++ EL 12 n:=by
 unfold Qb;rw [List.range_succ,List.flatMap_append];simp
theorem F8 (n i:Nat):EL (n + 1) i = EL n i ++ [(-2 + (i:Int),-2 + (n:Int))]:=by
 unfold EL;rw [List.range_succ,List.map_append];rfl
theorem Eg (n i:Nat):(EL n i).length = n:=by
 unfold EL;rw [List.length_map,List.length_range]
theorem XD:∀ n:Nat,(Qb n).length = n * 12
 | 0=>rfl
 | n + 1=>by rw [Wb,List.length_append,XD n,Eg,Nat.succ_mul]
noncomputable def pK (q:Int × Int):List Key:=kP q.1 q.2
theorem ED {r:Int × Int} (h:pK q = pK r):q = r:=by
 unfold pK kP at h
 injection h with h1 h2
 injection h2 with h2 _
 injection h1 with h1
 injection h2 with h2
 exact Prod.ext h1 h2
noncomputable def YD (bs:List B4) (qs:List (Int × Int)):List (List Key × PyData):=qs.map λ q=>(pK q,.int (dp bs q.1 q.2))
theorem Vi (bs:List B4):∀ {qs:List (Int × Int)},q ∈ qs->dvT (YD bs qs) (pK q) = some (.int (dp bs q.1 q.2))
 | [],h=>nomatch h
 | r :: qs,h=>by
  by_cases e:r = q
  ·subst e;unfold dvT YD;rw [List.map_cons,List.find?_cons_of_pos (by simp)];rfl
  ·have m:q ∈ qs:=(List.mem_cons.mp h).resolve_left λ z=>e z.symm;have ih:=Vi bs m;unfold dvT YD at ih ⊢;rw [List.map_cons,List.find?_cons_of_neg (by simpa using λ z=>e (ED z))];exact ih
theorem UQ (bs:List B4):∀ {qs:List (Int × Int)},q ∉ qs->dvT (YD bs qs) (pK q) = none
 | [],_=>rfl
 | r :: qs,h=>by
  have ih:=UQ bs (qs:=qs) λ z=>h (List.mem_cons_of_mem _ z);unfold dvT YD at ih ⊢;rw [List.map_cons,List.find?_cons_of_neg (by simpa using λ z=>h (by rw [<- ED z]; exact List.mem_cons_self))];exact ih
theorem Ny (bs:List B4) (q:Int × Int) (qs:List (Int × Int)):Fy ((YD bs qs).map (·.1)) (pK q) = decide (q ∈ qs):=by
 unfold Fy YD;rw [decide_eq_decide,List.map_map,List.mem_map];constructor
 ·rintro ⟨r,hr,e⟩;rw [<- ED e];exact hr
 ·intro h;exact ⟨q,h,rfl⟩
theorem Uz (bs:List B4) (qs:List (Int × Int)):ktD (YD bs qs) = qs.map prD:=by
 unfold ktD YD;rw [List.map_map,List.map_map];rfl
theorem LQ (bs:List B4) (qs:List (Int × Int)) (q:Int × Int):YD bs (qs ++ [q]) = YD bs qs ++ [(pK q,.int (dp bs q.1 q.2))]:=by
 unfold YD;rw [List.map_append];rfl
theorem Hu {c:Int × Int} (h:(Qb 12)[j]? = some c):c ∉ (Qb 12).take j:=λ z=>by
 have nd:=Nr.sublist (List.take_sublist (j + 1) (Qb 12));rw [List.take_add_one,h,List.nodup_append] at nd;exact nd.2.2 c z c (by simp) rfl
theorem Lh (bs:List B4) {c:Int × Int} (h:(Qb 12)[j]? = some c):YD bs ((Qb 12).take (j + 1)) = YD bs ((Qb 12).take j) ++ [(pK c,.int (dp bs c.1 c.2))]:=by
 rw [List.take_add_one,h];exact LQ bs _ c
theorem Po (M:Mp) (c:Int × Int):AsD M (kDV (pK c)) (.tuple [.int c.1,.int c.2]):=.mix (.cons (.dat _) (.cons (.dat _) .nil))
noncomputable def VY (b:B4):Int:=(b.X - b.x + 1) * (b.Y - b.y + 1)
noncomputable def JT (bs:List B4) (i:Nat):Int:=((List.range i).map λ k=>((ZM (bs.getD k ⟨0,0,0,0⟩) (bs.take k)).map VY).sum).sum
theorem OE {bs:List B4} {p:B4->Bool}:decide (0 < ((bs.filter p).length:Int)) = bs.any p:=by
 rw [Bool.eq_iff_iff,decide_eq_true_eq,List.any_eq_true];constructor
 ·intro h;obtain ⟨b,hb⟩:=List.exists_mem_of_length_pos (show 0 < (bs.filter p).length by lia);exact ⟨b,List.mem_filter.mp hb⟩
 ·rintro ⟨b,hb⟩;have:=List.length_pos_of_mem (List.mem_filter.mpr hb);lia
noncomputable def lkC (bs:List B4) (x y:Int) (m:Nat):List (Int × Int):=((List.range m).map λ (b:Nat)=>(x,y + (b:Int))).filter λ q=>!anyB bs q.1 q.2
noncomputable def lkG (bs:List B4) (x y:Int) (n m:Nat):List (Int × Int):=(List.range n).flatMap λ (a:Nat)=>lkC bs (x + (a:Int)) y m
theorem Ux (bs:List B4) (x y:Int) (n m:Nat):lkG bs x y (n + 1) m = lkG bs x y n m ++ lkC bs (x + (n:Int)) y m:=by
 unfold lkG;rw [List.range_succ,List.flatMap_append];simp
theorem UI (bs:List B4) (x y:Int) (m:Nat):lkC bs x y (m + 1) = lkC bs x y m ++ (if (!anyB bs x (y + (m:Int))) = true then [(x,y + (m:Int))] else []):=by
 unfold lkC;rw [List.range_succ,List.map_append,List.filter_append];cases e:anyB bs x (y + (m:Int)) with
 | true=>rw [List.map_singleton,List.filter_cons_of_neg (by simpa using e)]; rfl
 | false=>rw [List.map_singleton,List.filter_cons_of_pos (by simpa using e)]; rfl
theorem Xi {bs:List B4} {x:Int} {m:Nat}:q ∈ lkC bs x y m ↔ (q.1 = x /\ y <= q.2 /\ q.2 < y + (m:Int)) /\ anyB bs q.1 q.2 = false:=by
 unfold lkC;rw [List.mem_filter,List.mem_map,Bool.not_eq_true'];constructor
 ·rintro ⟨⟨b,hb,rfl⟩,h⟩;have:=List.mem_range.mp hb;exact ⟨by dsimp only; lia,h⟩
 ·rintro ⟨⟨h1,h2,h3⟩,h⟩;refine ⟨⟨(q.2 - y).toNat,List.mem_range.mpr (by lia),?_⟩,h⟩;rw [<- h1];exact Prod.ext rfl (by dsimp only; lia)
theorem BU (bs:List B4) (x y:Int) (m:Nat):(lkC bs x y m).length <= m:=by
 unfold lkC;exact Nat.le_trans (List.length_filter_le _ _) (by simp)
theorem Ej (bs:List B4) (x y:Int) (m:Nat):∀ n,(lkG bs x y n m).length <= n * m
 | 0=>by simp [lkG]
 | n + 1=>by
  have h1:=BU bs (x + (n:Int)) y m;have h2:=Ej bs x y m n;rw [Ux,List.length_append,Nat.succ_mul];lia
theorem Pk {bs:List B4} {x:Int} {m:Nat}:q ∈ lkG bs x y n m ↔ ((x <= q.1 /\ q.1 < x + (n:Int)) /\ y <= q.2 /\ q.2 < y + (m:Int)) /\ anyB bs q.1 q.2 = false:=by
 unfold lkG;rw [List.mem_flatMap];constructor
 ·rintro ⟨a,ha,h⟩;have ha:=List.mem_range.mp ha;obtain ⟨h1,h2⟩:=Xi.mp h;exact ⟨by lia,h2⟩
 ·rintro ⟨h1,h2⟩;exact ⟨(q.1 - x).toNat,List.mem_range.mpr (by lia),Xi.mpr ⟨by lia,h2⟩⟩
theorem Sb (n:Nat):(List.range n).Pairwise (· < ·):=List.pairwise_lt_range
theorem ZaE (bs:List B4) (x y:Int) (n m:Nat):(lkG bs x y n m).Pairwise λ q r=>q.1 < r.1 \/ (q.1 = r.1 /\ q.2 < r.2):=by
 unfold lkG;rw [List.pairwise_flatMap];refine ⟨λ a _=>?_,(Sb n).imp λ {a b} hab q hq r hr=>?_⟩
 ·unfold lkC;refine List.Pairwise.filter _ ?_;rw [List.pairwise_map];exact (Sb m).imp λ {b c} hbc=>.inr ⟨rfl,by dsimp only; lia⟩
 ·have h1:=(Xi.mp hq).1;have h2:=(Xi.mp hr).1;exact .inl (by lia)
theorem Bu {bs:List B4} {x X Y:Int} (hx:x <= X) (hy:y <= Y):q ∈ lkG bs x y (X - x + 1).toNat (Y - y + 1).toNat ↔ hasB ⟨x,y,X,Y⟩ q.1 q.2 = true /\ anyB bs q.1 q.2 = false:=by
 rw [Pk,Zj];dsimp only;constructor
 ·rintro ⟨h1,h2⟩;exact ⟨by lia,h2⟩
 ·rintro ⟨h1,h2⟩;exact ⟨by lia,h2⟩
theorem S0 {bs:List B4} {x X Y:Int} (hx:x <= X) (hy:y <= Y) (h:Cov bs ⟨x,y,X,Y⟩):lkG bs x y (X - x + 1).toNat (Y - y + 1).toNat = []:=by
 refine List.eq_nil_iff_forall_not_mem.mpr λ q hq=>?_;obtain ⟨h1,h2⟩:=(Bu hx hy).mp hq;have:=h _ _ h1;rw [h2] at this;cases this
theorem RY {bs:List B4} {x X Y v:Int} (hx:x <= X) (hy:y <= Y) (h:Lst bs ⟨x,y,X,Y⟩ u v):∃ l,lkG bs x y (X - x + 1).toNat (Y - y + 1).toNat = (u,v) :: l:=by
 have m:=(Bu hx hy (q:=(u,v))).mpr h.1;have up:=ZaE bs x y (X - x + 1).toNat (Y - y + 1).toNat;cases e:lkG bs x y (X - x + 1).toNat (Y - y + 1).toNat with
 | nil=>rw [e] at m; cases m
 | cons q l=>
  rw [e] at m up;have mq:q ∈ lkG bs x y (X - x + 1).toNat (Y - y + 1).toNat:=by rw [e]; exact List.mem_cons_self
  obtain ⟨h1,h2⟩:=(Bu hx hy).mp mq;have g:=h.2 q.1 q.2 h1 h2;refine ⟨l,?_⟩
  rcases List.mem_cons.mp m with z | z
  ·rw [z]
  ·have:=(List.pairwise_cons.mp up).1 _ z;dsimp only at this;lia
theorem MR:∀ ps:List (Int × Int),PyData.canLayAll0 (ps.map prD) = true
 | []=>by simp [PyData.canLayAll0]
 | p :: ps=>by
  rw [List.map_cons];simp only [PyData.canLayAll0,Bool.and_eq_true];exact ⟨by simp [prD,PyData.canLay0,PyData.canLayAll0],MR ps⟩
theorem WQ (ps:List (Int × Int)) {P:Bool->Prop} (h:P ps.isEmpty):eqD (.list (ps.map prD)) (.list []) P:=by
 refine BY ?_ ?_
 ·unfold Rz;simp only [PyData.canLay0,MR,Bool.true_and];simp [PyData.canLayAll0,PyData.depth,PyData.depthAll]
 ·cases ps with
  | nil=>simpa [EA,XW] using h
  | cons p ps=>simpa [EA,EH] using h
theorem Ex {x X Y:Int} {P:Bool->Prop} (h:P (decide (x = X /\ y = Y))):eqD (.tuple [.int x,.int y]) (.tuple [.int X,.int Y]) P:=by
 refine BY (by simp [Rz,PyData.canLay0,PyData.canLayAll0,PyData.depth,PyData.depthAll]) ?_;rw [S1,XG,XG,XW,PV,PV,Bool.and_true,<- Bool.decide_and];exact h
theorem ZcS (e i:Int):(if i < 0 then -i else i) * (if (decide (0 < i) == decide (0 < e)) = true then 1 else 0) = nv e i:=by
 show ab i * _ = _;unfold nv
 by_cases c:decide (0 < i) = decide (0 < e)
 ·rw [if_pos c,c,if_pos (by simp),Int.mul_one]
 ·rw [if_neg c,if_neg (λ z=>c (eq_of_beq z)),Int.mul_zero]
noncomputable def ind (b:Bool):Int:=if b = true then 1 else 0
noncomputable def Sm:Nat->(Nat->Int)->Int
 | 0,_=>0
 | n + 1,f=>Sm n f + f n
theorem Qg:∀ {n:Nat} {f g:Nat->Int},(∀ i,i < n->f i = g i)->Sm n f = Sm n g
 | 0,_,_,_=>rfl
 | n + 1,f,g,h=>by
  show Sm n f + f n = Sm n g + g n;rw [Qg λ i hi=>h i (by lia),h n (by lia)]
theorem KG:∀ (n:Nat) (f g:Nat->Int),Sm n (λ i=>f i + g i) = Sm n f + Sm n g
 | 0,_,_=>rfl
 | n + 1,f,g=>by
  show Sm n (λ i=>f i + g i) + (f n + g n) = Sm n f + f n + (Sm n g + g n);rw [KG]; lia
theorem CB:∀ (n:Nat) (f:Nat->Int) (c:Int),Sm n (λ i=>f i * c) = Sm n f * c
 | 0,_,c=>(Int.zero_mul c).symm
 | n + 1,f,c=>by
  show Sm n (λ i=>f i * c) + f n * c = (Sm n f + f n) * c;rw [CB,Int.add_mul]
theorem OV (n:Nat) (f:Nat->Int) (c:Int):Sm n (λ i=>c * f i) = c * Sm n f:=by
 rw [Int.mul_comm c,<- CB];exact Qg λ i _=>Int.mul_comm _ _
theorem Yb:∀ n:Nat,Sm n (λ _=>0) = 0
 | 0=>rfl
 | n + 1=>by show Sm n (λ _=>0) + 0 = 0; rw [Yb]; rfl
theorem CF (lo a b:Int):∀ n:Nat,Sm n (λ (i:Nat)=>ind (decide (a <= lo + (i:Int) /\ lo + (i:Int) <= b))) = max 0 (min b (lo + (n:Int) - 1) - max a lo + 1)
 | 0=>by
  show (0:Int) = _;lia
 | n + 1=>by
  show Sm n _ + ind (decide (a <= lo + (n:Int) /\ lo + (n:Int) <= b)) = _;rw [CF lo a b n];unfold ind
  by_cases h:a <= lo + (n:Int) /\ lo + (n:Int) <= b
  ·rw [decide_eq_true h,if_pos rfl]; lia
  ·rw [decide_eq_false h,if_neg Bool.false_ne_true]; lia
theorem Pu (b:B4) (u v:Int):ind (hasB b u v) = ind (decide (b.x <= u /\ u <= b.X)) * ind (decide (b.y <= v /\ v <= b.Y)):=by
 unfold ind hasB
 by_cases h1:b.x <= u /\ u <= b.X
 ·by_cases h2:b.y <= v /\ v <= b.Y
  ·rw [decide_eq_true h1,decide_eq_true h2,decide_eq_true (by lia)]; rfl
  ·rw [decide_eq_true h1,decide_eq_false h2,decide_eq_false (by lia)]; rfl
 ·rw [decide_eq_false h1,decide_eq_false (show ¬ (b.x <= u /\ u <= b.X /\ b.y <= v /\ v <= b.Y) by lia)];simp
noncomputable def NI (lx ly:Int) (nx ny:Nat) (f:Int->Int->Bool):Int:=Sm nx λ (i:Nat)=>Sm ny λ (j:Nat)=>ind (f (lx + (i:Int)) (ly + (j:Int)))
structure InG (lx ly:Int) (nx ny:Nat) (b:B4):Prop where
 ok:okB b = true
 x:lx <= b.x
 X:b.X < lx + nx
 y:ly <= b.y
 Y:b.Y < ly + ny
theorem InG.sub {lx ly:Int} {nx ny:Nat} {a b:B4} (h:InG lx ly nx ny b) (k:Sub a b):InG lx ly nx ny a:=by
 obtain ⟨k1,k2⟩:=k;obtain ⟨_,h1,h2,h3,h4⟩:=h;exact ⟨k1,by lia,by lia,by lia,by lia⟩
theorem Fg {lx ly:Int} {nx ny:Nat} {b:B4} (h:InG lx ly nx ny b):NI lx ly nx ny (hasB b) = VY b:=by
 have hok:=h.ok;unfold okB at hok;simp only [Bool.and_eq_true,decide_eq_true_eq] at hok;have hx:=h.x;have hX:=h.X;have hy:=h.y;have hY:=h.Y;unfold NI;have e:∀ i:Nat,(Sm ny λ (j:Nat)=>ind (hasB b (lx + (i:Int)) (ly + (j:Int)))) = ind (decide (b.x <= lx + (i:Int) /\ lx + (i:Int) <= b.X)) * (b.Y - b.y + 1):=λ i=>by
  rw [Qg λ j _=>Pu b _ _,OV,CF];rw [show max 0 (min b.Y (ly + (ny:Int) - 1) - max b.y ly + 1) = b.Y - b.y + 1 by lia]
 rw [Qg λ i _=>e i,CB,CF,show max 0 (min b.X (lx + (nx:Int) - 1) - max b.x lx + 1) = b.X - b.x + 1 by lia];rfl
theorem UJ {lx ly:Int} {nx ny:Nat}:∀ ps:List B4,(∀ p ∈ ps,InG lx ly nx ny p)->(ps.map VY).sum = Sm nx λ (i:Nat)=>Sm ny λ (j:Nat)=>(ps.map λ p=>ind (hasB p (lx + (i:Int)) (ly + (j:Int)))).sum
 | [],_=>by
  show (0:Int) = Sm nx λ (i:Nat)=>Sm ny λ (j:Nat)=>0;rw [Yb,Yb]
 | p :: ps,h=>by
  rw [List.map_cons,List.sum_cons,UJ ps λ q hq=>h q (List.mem_cons_of_mem _ hq),<- Fg (h p List.mem_cons_self)];unfold NI;rw [<- KG];refine Qg λ i _=>?_;rw [<- KG];exact Qg λ j _=>by rw [List.map_cons,List.sum_cons]
theorem V4 {α:Type} (p:α->Bool) (f:α->Int):∀ l:List α,(∀ a ∈ l,p a = false->f a = 0)->((l.filter p).map f).sum = (l.map f).sum
 | [],_=>rfl
 | a :: l,h=>by
  have ih:=V4 p f l λ b hb=>h b (List.mem_cons_of_mem _ hb);cases e:p a with
  | true=>rw [List.filter_cons_of_pos e,List.map_cons,List.map_cons,List.sum_cons,List.sum_cons,ih]
  | false=>
   rw [List.filter_cons_of_neg (by rw [e]; exact Bool.false_ne_true),List.map_cons,List.sum_cons,h a List.mem_cons_self e,ih];lia
theorem SW {p:B4} {v:Int} (h:okB p = false):ind (hasB p u v) = 0:=by
 unfold ind hasB;unfold okB at h;rw [decide_eq_false,if_neg Bool.false_ne_true];intro z;rw [decide_eq_true (show p.x <= p.X by lia),decide_eq_true (show p.y <= p.Y by lia)] at h;cases h
theorem Hs {b:Bool} (h:b = true):ind b = 1:=by rw [h]; rfl
theorem QP {b:Bool} (h:b = false):ind b = 0:=by rw [h]; rfl
theorem Th {a b:B4} (ha:okB a = true) (hb:okB b = true) (u v:Int):((Vk a b).map λ p=>ind (hasB p u v)).sum = ind (hasB a u v && !hasB b u v):=by
 unfold okB at ha hb;simp only [Bool.and_eq_true,decide_eq_true_eq] at ha hb;unfold Vk
 split
 ·rename_i h0;unfold Qe btw gp at h0;rw [List.map_singleton,List.sum_singleton];cases e:hasB a u v with
  | false=>rfl
  | true=>
   have e':a.x <= u /\ u <= a.X /\ a.y <= v /\ v <= a.Y:=of_decide_eq_true e;rw [show hasB b u v = false from decide_eq_false (by lia)];rfl
 ·rename_i h0;unfold Qe btw gp at h0;rw [V4 okB _ _ λ p _ hp=>SW hp];unfold GR;simp only [List.map_cons,List.map_nil,List.sum_cons,List.sum_nil];unfold hasB;dsimp only
  by_cases hau:a.x <= u /\ u <= a.X /\ a.y <= v /\ v <= a.Y
  ·by_cases hbu:b.x <= u /\ u <= b.X /\ b.y <= v /\ v <= b.Y
   ·rw [decide_eq_true hau,decide_eq_true hbu,QP (decide_eq_false (by lia)),QP (decide_eq_false (by lia)),QP (decide_eq_false (by lia)),QP (decide_eq_false (by lia))];rfl
   ·rw [decide_eq_true hau,decide_eq_false hbu];show _ = (1:Int)
    by_cases c1:u < b.x
    ·rw [Hs (decide_eq_true (by lia)),QP (decide_eq_false (by lia)),QP (decide_eq_false (by lia)),QP (decide_eq_false (by lia))]; rfl
    ·by_cases c2:b.X < u
     ·rw [QP (decide_eq_false (by lia)),Hs (decide_eq_true (by lia)),QP (decide_eq_false (by lia)),QP (decide_eq_false (by lia))]; rfl
     ·by_cases c3:v < b.y
      ·rw [QP (decide_eq_false (by lia)),QP (decide_eq_false (by lia)),Hs (decide_eq_true (by lia)),QP (decide_eq_false (by lia))]; rfl
      ·rw [QP (decide_eq_false (by lia)),QP (decide_eq_false (by lia)),QP (decide_eq_false (by lia)),Hs (decide_eq_true (by lia))]; rfl
  ·rw [decide_eq_false hau,QP (decide_eq_false (by lia)),QP (decide_eq_false (by lia)),QP (decide_eq_false (by lia)),QP (decide_eq_false (by lia))];rfl
theorem Rb {a b:B4} (ha:okB a = true) (hb:okB b = true) (u v:Int) (c:Bool):((Vk a b).map λ p=>ind (hasB p u v && c)).sum = ind (hasB a u v && !hasB b u v && c):=by
 cases c with
 | true=>
  simp only [Bool.and_true];exact Th ha hb u v
 | false=>
  simp only [Bool.and_false]
  induction Vk a b with
  | nil=>rfl
  | cons p ps ih=>rw [List.map_cons,List.sum_cons,ih]; rfl
theorem DJ (u v:Int):∀ (bs ps:List B4),(∀ b ∈ bs,okB b = true)->(∀ p ∈ ps,okB p = true) ->
  ((bs.foldl (λ ps b=>ps.flatMap λ p=>Vk p b) ps).map λ p=>ind (hasB p u v)).sum = (ps.map λ p=>ind (hasB p u v && !(bs.any λ b=>hasB b u v))).sum
 | [],ps,_,_=>by simp
 | b :: bs,ps,hb,hp=>by
  have hb0:=hb b List.mem_cons_self
  rw [List.foldl_cons,DJ u v bs _ (λ c hc=>hb c (List.mem_cons_of_mem _ hc)) λ q hq=>by
   obtain ⟨p,hp',hc⟩:=List.mem_flatMap.mp hq
   exact (WN (hp p hp') hc).1]
  have go:∀ ps:List B4,(∀ p ∈ ps,okB p = true)->((ps.flatMap λ p=>Vk p b).map λ p=>ind (hasB p u v && !(bs.any λ b=>hasB b u v))).sum = (ps.map λ p=>ind (hasB p u v && !((b :: bs).any λ b=>hasB b u v))).sum:=λ ps=>by
   induction ps with
   | nil=>intro _; rfl
   | cons p ps ih=>
    intro hp;rw [List.flatMap_cons,List.map_append,List.sum_append,ih λ q hq=>hp q (List.mem_cons_of_mem _ hq),Rb (hp p List.mem_cons_self) hb0,List.map_cons,List.sum_cons,List.any_cons]
    congr 2
    cases hasB p u v <;> cases hasB b u v <;> cases (bs.any λ b=>hasB b u v) <;> rfl
  exact go ps hp
theorem PL {a:B4} {bs:List B4} (u v:Int) (ha:okB a = true) (hb:∀ b ∈ bs,okB b = true):((ZM a bs).map λ p=>ind (hasB p u v)).sum = ind (hasB a u v && !(bs.any λ b=>hasB b u v)):=by
 unfold ZM;rw [DJ u v bs [a] hb λ p hp=>by rw [List.mem_singleton.mp hp]; exact ha];simp
theorem K3 {lx ly:Int} {nx ny:Nat} {bs:List B4} (h:∀ b ∈ bs,InG lx ly nx ny b):∀ i:Nat,i <= bs.length->JT bs i = NI lx ly nx ny λ u v=>(bs.take i).any λ b=>hasB b u v
 | 0,_=>by
  show (0:Int) = _;unfold NI;rw [Qg λ i _=>(show (Sm ny λ (j:Nat)=>ind ((bs.take 0).any λ b=>hasB b (lx + (i:Int)) (ly + (j:Int)))) = 0 from Yb ny),Yb]
 | i + 1,hi=>by
  obtain ⟨b,eb⟩:∃ b,bs[i]? = some b:=⟨bs[i]'(by lia),by simp⟩
  have hb:=h b (List.mem_of_getElem? eb);have e:JT bs (i + 1) = JT bs i + ((ZM b (bs.take i)).map VY).sum:=by
   unfold JT;rw [List.range_succ,List.map_append,List.sum_append,List.map_singleton,List.sum_singleton,List.getD_eq_getElem?_getD,eb];rfl
  rw [e,K3 h i (by lia),UJ (lx:=lx) (ly:=ly) (nx:=nx) (ny:=ny) _ λ p hp=>hb.sub (Jh hb.ok hp)];unfold NI;rw [<- KG];refine Qg λ k _=>?_;rw [<- KG];refine Qg λ l _=>?_;dsimp only;rw [PL _ _ hb.ok λ c hc=>(h c (List.mem_of_mem_take hc)).ok,Lj (λ b=>hasB b (lx + (k:Int)) (ly + (l:Int))) eb];cases hasB b (lx + (k:Int)) (ly + (l:Int)) <;> cases ((bs.take i).any λ b=>hasB b (lx + (k:Int)) (ly + (l:Int))) <;> rfl
theorem UZ {α:Type} (f:Nat->List α):∀ n:Nat,(((List.range n).flatMap f).length:Int) = Sm n λ i=>((f i).length:Int)
 | 0=>rfl
 | n + 1=>by
  rw [List.range_succ,List.flatMap_append,List.length_append,Int.natCast_add,UZ f n];simp [Sm]
theorem UL {α:Type} (p:α->Bool) (f:Nat->α):∀ n:Nat,((((List.range n).map f).filter p).length:Int) = Sm n λ i=>ind (p (f i))
 | 0=>rfl
 | n + 1=>by
  rw [List.range_succ,List.map_append,List.filter_append,List.length_append,Int.natCast_add,UL p f n];show _ = Sm n (λ i=>ind (p (f i))) + ind (p (f n));rw [List.map_singleton];cases e:p (f n) with
  | true=>rw [List.filter_cons_of_pos e]; rfl
  | false=>rw [List.filter_cons_of_neg (by rw [e]; exact Bool.false_ne_true)]; rfl
theorem EO {bs:List B4} (h:U9 bs):JT bs bs.length = (((Qb 12).filter λ q=>anyB bs q.1 q.2).length:Int):=by
 rw [K3 (lx:=-2) (ly:=-2) (nx:=12) (ny:=12) (λ b hb=>?_) bs.length (Nat.le_refl _),List.take_length]
 ·unfold Qb EL NI;rw [List.filter_flatMap,UZ];exact Qg λ i _=>(UL (λ q:Int × Int=>anyB bs q.1 q.2) (λ j:Nat=>(-2 + (i:Int),-2 + (j:Int))) 12).symm
 ·obtain ⟨ok,i1,i2⟩:=h.2.2 b hb;exact ⟨ok,by lia,by lia,by lia,by lia⟩
def MC:DSp:=λ xs M Φ=>on2 xs λ x y=>onO x λ p=>onX y λ b=>Bo b /\ Pen M p /\ ∀ c M',Bo c->Fr p M M'->Φ (.dat (bD c)) M'
theorem LP:type_of% @MC.eq_1:=λ _ _ _=>qI
def Gk:DSp:=λ xs M Φ=>on1 xs λ x=>onO x λ p=>Pen M p /\ ∀ bs M',U9 bs->Pen M' p->Φ (.dat (.tuple (bs.map bD))) M'
theorem GO:type_of% @Gk.eq_1:=λ _ _ _=>qI
def X0:DSp:=λ xs M Φ=>on1 xs λ x=>onX x λ b=>Bo b /\ Φ (.dat (.int (VY b))) M
theorem WA:type_of% @X0.eq_1:=λ _ _ _=>qI
def L9:DSp:=λ xs M Φ=>on1 xs λ x=>Jy x λ bs=>U9 bs /\ Φ (.dat (.int (JT bs bs.length))) M
theorem LJ:type_of% @L9.eq_1:=λ _ _ _=>qI
def Eu:DSp:=λ xs M Φ=>on2 xs λ x y=>onI x λ a=>onI y λ b=>(a = -2 /\ b = 9) /\ ∀ l M',M l = none->(∀ c,M c ≠ none->M' c = M c)->M' l = some (.lsv 0 ((Qb 12).map λ q=>kDV (pK q)))->Φ (.own l) M'
theorem EB:type_of% @Eu.eq_1:=λ _ _ _=>qI
def T7:DSp:=λ xs M Φ=>on2 xs λ x y=>Jy x λ bs=>onP y λ u v=>bs.length <= 6 /\ Φ (.dat (.bool (anyB bs u v))) M
theorem P6:type_of% @T7.eq_1:=λ _ _ _=>qI
def ZbJ (x:DV) (M:Mp) (P:List B4->Prop):Prop:=∃ l o bs,x = .own l /\ M l = some (.fdt o (YD bs (Qb 12))) /\ P bs
theorem NU {x:DV} {P:List B4->Prop} (h:ZbJ x M P):∃ l o bs,x = .own l /\ M l = some (.fdt o (YD bs (Qb 12))) /\ P bs:=h
def Eh:DSp:=λ xs M Φ=>on2 xs λ x y=>onP y λ u v=>ZbJ x M λ bs=>(U9 bs /\ Bn u v) /\ ∀ M',(∀ c,M c ≠ none->M' c = M c)->Φ (.dat (.bool true)) M'
theorem C4:type_of% @Eh.eq_1:=λ _ _ _=>qI
def Uj:DSp:=λ xs M Φ=>on3 xs λ x y z=>Jy x λ bs=>onP y λ u v=>onI z λ d=>(Shp bs /\ IsD (anyB bs) u v d) /\ Φ (.dat (.bool true)) M
theorem GY:type_of% @Uj.eq_1:=λ _ _ _=>qI
def Yi:DSp:=λ xs M Φ=>on2 xs λ x y=>onO x λ p=>Jy y λ bs=>(Shp bs /\ Pen M p) /\ ∀ M',Fr p M M'->Φ (.dat (.bool true)) M'
theorem Xw:type_of% @Yi.eq_1:=λ _ _ _=>qI
def ZaG (x:DV) (P:B4->Prop):Prop:=∃ b,x = .dat (.tuple [bD b]) /\ P b
theorem N6 {x:DV} {P:B4->Prop} (h:ZaG x P):∃ b,x = .dat (.tuple [bD b]) /\ P b:=h
theorem BP (b:B4) (P:B4->Prop):ZaG (.dat (.tuple [bD b])) P = P b:=propext ⟨λ ⟨c,e,h⟩=>by
 rw [DV.dat.injEq,PyData.tuple.injEq,List.cons.injEq] at e;rw [Dp e.1]
 exact h,λ h=>⟨b,rfl,h⟩⟩
theorem BK (x y X Y:Int) (P:B4->Prop):ZaG (.dat (.tuple [.tuple [.tuple [.int x,.int y],.tuple [.int X,.int Y]]])) P = P ⟨x,y,X,Y⟩:=BP ⟨x,y,X,Y⟩ P
noncomputable def noD (u v:Int):PyData:=.tuple [.str (Str.ofString "no"),.tuple [.int u,.int v]]
def Gd:DSp:=λ xs M Φ=>on2 xs λ x y=>ZaG x λ b=>Jy y λ bs=>(Shp bs /\ okB b = true) /\ (Cov bs b->∀ c,Φ (.dat (.tuple [.str (Str.ofString "yes"),.list [cvD c]])) M) /\ ∀ u v,Lst bs b u v->Φ (.dat (noD u v)) M
theorem GI:type_of% @Gd.eq_1:=λ _ _ _=>qI
theorem ZdZ {x X Y:Int} (h:j < 2):∃ lo hi:Int,(lo = x /\ hi = X \/ lo = y /\ hi = Y) /\ (∀ P:PyData->Prop,YI [.int x,.int y] (j:Int) P = P (.int lo)) /\ (∀ P:PyData->Prop,YI [.int X,.int Y] (j:Int) P = P (.int hi)):=by
 have two:j = 0 \/ j = 1:=by lia
 rcases two with rfl | rfl
 ·exact ⟨x,X,.inl ⟨rfl,rfl⟩,λ P=>rfl,λ P=>rfl⟩
 ·exact ⟨y,Y,.inr ⟨rfl,rfl⟩,λ P=>rfl,λ P=>rfl⟩
theorem Sl {l:List B4} (h:∀ b ∈ l,b.x <= b.X /\ b.y <= b.Y /\ (0 <= b.x /\ b.X <= 7) /\ (0 <= b.y /\ b.Y <= 7)):∀ b ∈ l,Bo b:=λ b hb=>⟨ZG.mpr ⟨(h b hb).1,(h b hb).2.1⟩,(h b hb).2.2⟩
theorem Bo.sub {a b:B4} (h:Bo b) (k:Sub a b):Bo a:=by
 obtain ⟨k1,k2⟩:=k;have:=h.2;exact ⟨k1,by lia,by lia⟩
local macro_rules | `(tactic| walk_at "rk")=>`(tactic| try simp (config:={ maxSteps:=10000000 }) only [↓HA,↓FF,↓Fe,↓Hi,↓FJ,↓Hx,↓LD,↓En,↓PH,↓NN,↓PB,↓Pf,↓Ph,↓EW,↓Lw,↓FU,↓E4,↓Hm,↓Fd,↓Fl,↓HN,↓HK,↓HL,↓Zav,↓Zd4,↓Zb8,↓ZbT,↓ZdN,↓LK,↓ZaO,↓Zcr,↓Zac,↓OF,↓ZcP,↓ZaN,↓ZbQ,↓SA,↓T8,↓Pn,↓Zay,↓Zat,↓PR,↓RA,↓Ll,↓HM,↓Fs,↓Zbc,↓ZcM,↓PY,↓PD,↓Sk,↓Bj,↓Ba,↓Fo,↓Hf,↓H0,↓Zag,↓SO,↓BO,↓OS,↓Pe,↓SF,↓N3,↓T4,↓Zba,↓JI,↓G5,↓Wi,↓Fw,↓EN,↓NM,↓Oh,↓ZaY,↓BF,↓Pm,↓Oy,↓Fj,↓Hc,↓OG,↓Sg,↓RJ,↓N2,↓F9,↓LA,↓Nh,↓T2,↓Ls,↓E1,↓Za8,↓Ca,↓EC,↓F0,↓Hl,↓Hw,↓HB,↓Ta,↓Gi,↓HF,↓Nt,CK,Es,FY,LR,Ln,Wh,Vz,Cb,ZcJ,LC,ZaA,Na,Mo,L3,Tr,isNone_none,WK,GG,G9,Wz,KZ,Ug,
 Option.bind_some,Option.bind_none,Option.join_some,Option.join_none,Option.getD_some,Option.map_some,Option.map_none,List.getElem?_cons_zero,List.getElem?_cons_succ,List.set_cons_zero,List.set_cons_succ,List.map_cons,List.map_nil,List.length_cons,List.length_nil,List.replicate,List.cons_append,List.nil_append,List.any_cons,List.any_nil,
 ZD,Cp,↓reduceIte,Bool.not_true,Bool.not_false,Bool.or_false,Bool.or_true,Bool.true_or,Bool.false_or,Bool.and_true,Bool.and_false,Bool.true_and,Bool.false_and,Bool.bne_true,Bool.bne_false,Bool.false_eq_true,eq_self,true_and,and_true,Zah,Za7,SU,exists_eq_left',exists_eq_left,Option.some.injEq,Nat.reduceAdd,Nat.reduceSub,Nat.zero_add,Nat.reduceLT,Nat.reduceLeDiff,Int.reduceToNat,Int.reducePow,Int.reduceSub,Int.reduceMul,Int.reduceAdd,Int.reduceNeg,
 Int.reduceLT,Int.reduceLE,Int.reduceEq,Int.zero_add,Int.cast_ofNat_Int,decide_true,decide_false,sizeLine_eq,XW,XG,EH,Tf,S1,EA,ZbM,PV,Zcv,Zcn,Ui,WE,GJ,GP,WY,X1,WI,KJ,Kd,Wy,Ww,Ki,XR,Km,Xg,XH,X6,Ku,XJ,YJ,Xz,Kl,Kb,WT,Uc,Kt,Xc,KI,Wl,Wx,GD,G8,W4,We,WD,KC,X8,W9,WM,KW,XY,Ka,↓UW,↓Fz,↓HC,↓HX,Ew,CY,↓Oi,↓Oz,↓WH,↓S2,↓E2,↓BA,↓Gz,↓GA,↓P5,↓FT,↓HZ,Tq,ZaC,↓Dw,↓EV,↓C9,↓Ea,↓Pz,↓Ud,↓F5,↓GK,↓TV,↓ZaP,↓Bk,↓D0,↓ZcI,↓RH,↓Gi,↓Lm,↓FW,PF,↓LP,↓GO,↓WA,↓LJ,↓EB,↓P6,↓GY,↓Xw,↓Wv,BP,↓BK,↓GI,↓N4,↓Pj,↓Nl,↓He,↓Hj,↓GV,↓NG,↓FC,↓C3,↓Ro,↓LO,↓NS,↓Bl,↓W0,↓F3,↓HY,↓B9,↓Cf,↓OC,↓HE,↓NZ,↓HD,↓OR,R0,TZ,↓KP,↓Xn,↓P7])
theorem K7 (T:Tx K mg):Qh P w K mg base CX0 1 T.Yn T.Ym ["box"] (lift K Ti):=by
 refine okD T.V2.F KO (λ xs M Φ h=>by obtain ⟨_,rfl,_⟩:=Qm h; rfl) λ cdv A outer s H E hr=>⟨_,(Zh (Zo (Mc (Qi WB (Zg (Zg (Zb 0) Zc) Zc) (Zg (Zg (Zb 0) Zc) Zc)) (LW (Qi WB (Zg (Zg (Zb 0) Zc) Zc) (Zg (Zg (Zb 0) Zc) Zc)))))),λ xs M Φ h=>?_⟩;replace h:=Qm h;obtain ⟨x1,rfl,h⟩:=h;replace h:=ZZ h;obtain ⟨b,rfl,h⟩:=h;walk_at "rk";refine Zq (λ h1=>?_) (λ h1=>?_)
 ·unfold okB at h
  simpa [h1] using h
 ·unfold okB at h
  simpa [h1] using h
theorem Ma (T:Tx K mg):Qh P w K mg base CX0 1 T.ZaQ T.ZaB ["one", "other", "way"] (lift K SR):=by
 refine okD T.Nq.F SS (λ xs M Φ h=>by obtain ⟨_,_,_,rfl,_⟩:=QR h; rfl) λ cdv A outer s H E hr=>⟨_,(Zh (Zo (Zi (O8 rfl) rfl T.YH Jx (Za Zc (Za (Zm ZY (Zg (Zg (Zb 1) Zc) (Zb 2)) (Zg (Zg (Zb 0) Zc) (Zb 2))) (Za (Zm ZY (Zg (Zg (Zb 0) Zc) (Zb 2)) (Zg (Zg (Zb 1) Zc) (Zb 2))) Zd)))))),λ xs M Φ h=>?_⟩;replace h:=QR h;obtain ⟨x1,x2,x3,rfl,h⟩:=h;replace h:=ZZ h;obtain ⟨a,rfl,h⟩:=h;replace h:=ZZ h;obtain ⟨b,rfl,h⟩:=h;replace h:=Zw h;obtain ⟨i,rfl,hi,h⟩:=h
 rcases hi with rfl | rfl
 ·walk_at "rk";exact h
 ·walk_at "rk";exact h
theorem Z2 (T:Tx K mg):Qh P w K mg base CX0 2 T.Jf T.Q8 ["one", "other"] (lift K Kq):=by
 refine okD T.ZR.F VG (λ xs M Φ h=>by obtain ⟨_,_,rfl,_⟩:=Zp h; rfl) λ cdv A outer s H E hr=>⟨_,(Zh (Zo (Zi (JF rfl) rfl T.YH Jx (Za (cO T.Nq (Ma T) hr (Za (Zb 0) (Za (Zb 1) (Za Zc Zd)))) (Za (cO T.Nq (Ma T) hr (Za (Zb 0) (Za (Zb 1) (Za Zc Zd)))) Zd))))),λ xs M Φ h=>?_⟩;replace h:=Zp h;obtain ⟨x1,x2,rfl,h⟩:=h;replace h:=ZZ h;obtain ⟨a,rfl,h⟩:=h;replace h:=ZZ h;obtain ⟨b,rfl,h⟩:=h;walk_at "rk";exact ⟨.inl trivial,.inr trivial,h⟩
theorem Ya (T:Tx K mg):Qh P w K mg base CX0 3 T.YS T.YU ["box", "spot"] (lift K Zdn):=by
 refine okD T.J9.F WW (λ xs M Φ h=>by obtain ⟨_,_,rfl,_⟩:=Zp h; rfl) λ cdv A outer s H E hr=>⟨_,(Zh (Zo (cO T.ZR (Z2 T) hr (Za (Zb 0) (Za (Zk (Za (Zb 1) (Za (Zb 1) Zd))) Zd))))),λ xs M Φ h=>?_⟩;replace h:=Zp h;obtain ⟨x1,x2,rfl,h⟩:=h;replace h:=ZZ h;obtain ⟨a,rfl,h⟩:=h;replace h:=QA h;obtain ⟨u,v,rfl,h⟩:=h;walk_at "rk";exact h
theorem BJ (T:Tx K mg):Qh P w K mg base CX0 4 T.ZaL T.TX ["box", "spot"] (lift K Nd):=by
 refine okD T.HQ.F Zbk (λ xs M Φ h=>by obtain ⟨_,_,rfl,_⟩:=Zp h; rfl) λ cdv A outer s H E hr=>⟨_,(Zh (Zo (Qi (Js hr) (cO T.J9 (Ya T) hr (Za (Zb 0) (Za (Zb 1) Zd))) Zc))),λ xs M Φ h=>?_⟩;replace h:=Zp h;obtain ⟨x1,x2,rfl,h⟩:=h;replace h:=ZZ h;obtain ⟨a,rfl,h⟩:=h;replace h:=QA h;obtain ⟨u,v,rfl,h⟩:=h;walk_at "rk";rw [H9];exact h
theorem Ky (T:Tx K mg):Qh P w K mg base CX0 1 T.Gh T.UU ["one", "other"] (lift K Gn):=by
 refine okD T.XX.F V0 (λ xs M Φ h=>by obtain ⟨_,_,rfl,_⟩:=Zp h; rfl) λ cdv A outer s H E hr=>⟨_,(Ze (Zl 2 V0.nd (Zk (Za (Zi (JF rfl) rfl T.YH Jx (Za (Zg (Zg (Zb 0) Zc) Zc) (Za (Zg (Zg (Zb 1) Zc) Zc) Zd))) (Za (Zi (JF rfl) rfl T.YH Jx (Za (Zg (Zg (Zb 0) Zc) Zc) (Za (Zg (Zg (Zb 1) Zc) Zc) Zd))) Zd))))
 (Ze (Zl 3 V0.nd (Zk (Za (Zi (Vn rfl) rfl T.J6 QS (Za (Zg (Zg (Zb 0) Zc) Zc) (Za (Zg (Zg (Zb 1) Zc) Zc) Zd))) (Za (Zi (Vn rfl) rfl T.J6 QS (Za (Zg (Zg (Zb 0) Zc) Zc) (Za (Zg (Zg (Zb 1) Zc) Zc) Zd))) Zd))))
 (Zh (Zo (Zk (Za (Zb 2) (Za (Zb 3) Zd))))))),λ xs M Φ h=>?_⟩
 replace h:=Zp h;obtain ⟨x1,x2,rfl,h⟩:=h;replace h:=ZZ h;obtain ⟨a,rfl,h⟩:=h;replace h:=ZZ h;obtain ⟨b,rfl,h⟩:=h;walk_at "h";walk_at "h";subst_vars;walk_at "rk";exact h
theorem VS (T:Tx K mg):Qh P w K mg base CX0 1 T.Us T.Uk ["spot", "r"] (lift K Ur):=by
 refine okD T.VQ.F Cc (λ xs M Φ h=>by obtain ⟨_,_,rfl,_⟩:=Zp h; rfl) λ cdv A outer s H E hr=>⟨_,(Zh (Zo (Zk (Za (Zk (Za (Zm ZY (Zg (Zb 0) Zc) (Zb 1)) (Za (Zm ZY (Zg (Zb 0) Zc) (Zb 1)) Zd))) (Za (Zk (Za (Zm Zu (Zg (Zb 0) Zc) (Zb 1)) (Za (Zm Zu (Zg (Zb 0) Zc) (Zb 1)) Zd))) Zd))))),λ xs M Φ h=>?_⟩;replace h:=Zp h;obtain ⟨x1,x2,rfl,h⟩:=h;replace h:=QA h;obtain ⟨u,v,rfl,h⟩:=h;replace h:=Zw h;obtain ⟨r,rfl,h⟩:=h;walk_at "rk";exact h
theorem Lq (T:Tx K mg):Qh P w K mg base CX0 1 T.B8 T.C1 ["one", "other"] (lift K CO):=by
 refine okD T.o_steps.F E9 (λ xs M Φ h=>by obtain ⟨_,_,rfl,_⟩:=Zp h; rfl) λ cdv A outer s H E hr=>⟨_,(Zh (Zo (Zi (JF rfl) rfl T.YH Jx (Za (Zi YC rfl T.WJ Yw (Za (Zm ZY (Zg (Zb 0) Zc) (Zg (Zb 1) Zc)) Zd)) (Za (Zi YC rfl T.WJ Yw (Za (Zm ZY (Zg (Zb 0) Zc) (Zg (Zb 1) Zc)) Zd)) Zd))))),λ xs M Φ h=>?_⟩;replace h:=Zp h;obtain ⟨x1,x2,rfl,h⟩:=h;replace h:=QA h;obtain ⟨a,b,rfl,h⟩:=h;replace h:=QA h;obtain ⟨u,v,rfl,h⟩:=h;walk_at "rk";exact h
theorem G1 (T:Tx K mg):Qh P w K mg base CX0 3 T.Kf T.K8 ["one", "other"] (lift K RW):=by
 refine okD T.X5.F Qu (λ xs M Φ h=>by obtain ⟨_,_,rfl,_⟩:=Zp h; rfl) λ cdv A outer s H E hr=>⟨_,(Ze (QD (ZI VE (cO T.ZR (Z2 T) hr (Za (Zb 0) (Za (Zb 1) Zd))) Zc) (Zh (Zo (Ql (Za (Zb 0) Zd)))) ZH)
 (Ze (Zl 2 Qu.nd (cO T.XX (Ky T) hr (Za (Zb 0) (Za (Zb 1) Zd))))
 (Ze (Zl 3 Qu.nd (Zk (Za (Zg (Zb 0) Zc) (Za (Zk (Za (Zm ZY (Zg (Zg (Zb 2) Zc) Zc) Zc) (Za (Zg (Zg (Zb 0) Zc) Zc) Zd))) Zd))))
 (Ze (Zl 4 Qu.nd (Zk (Za (Zk (Za (Zm Zu (Zg (Zg (Zb 2) Zc) Zc) Zc) (Za (Zg (Zg (Zb 0) Zc) Zc) Zd))) (Za (Zg (Zb 0) Zc) Zd))))
 (Ze (Zl 5 Qu.nd (Zk (Za (Zk (Za (Zg (Zg (Zb 2) Zc) Zc) (Za (Zg (Zg (Zb 0) Zc) Zc) Zd))) (Za (Zk (Za (Zg (Zg (Zb 2) Zc) Zc) (Za (Zm ZY (Zg (Zg (Zb 2) Zc) Zc) Zc) Zd))) Zd))))
 (Ze (Zl 6 Qu.nd (Zk (Za (Zk (Za (Zg (Zg (Zb 2) Zc) Zc) (Za (Zm Zu (Zg (Zg (Zb 2) Zc) Zc) Zc) Zd))) (Za (Zk (Za (Zg (Zg (Zb 2) Zc) Zc) (Za (Zg (Zg (Zb 0) Zc) Zc) Zd))) Zd))))
 (Zh (Zo (Z6 true (Zx (sc:=Zf JO) (XN:=["one", "other", "middle", "left", "right", "below", "above"]) (N:=["piece"]) (ix:=[none]) rfl rfl (by walk_at "k")) (JB (Je (Za (Zb 3) (Za (Zb 4) (Za (Zb 5) (Za (Zb 6) Zd)))))) (λ C ex s H=>(Zr 0 (show List.Nodup (["piece"]:List Str) by walk_at "k"))) (λ C ex s H=>(JE (Ju (cO T.V2 (K7 T) hr (Za (Zb 0) Zd))))) (λ C ex s H=>(Zb 0)) rfl))))))))),λ xs M Φ h=>?_⟩
 replace h:=Zp h;obtain ⟨x1,x2,rfl,h⟩:=h;replace h:=ZZ h;obtain ⟨a,rfl,h⟩:=h;replace h:=ZZ h;obtain ⟨b,rfl,h⟩:=h;walk_at "h";refine Zq (λ hk=>?_) (λ hk=>?_)
 ·intro p hp;have h':=h p hp;rw [show Vk a b = [a] from if_pos hk] at h';exact h'
 ·have ec:Vk a b = (GR a b).filter okB:=if_neg hk;walk_at "h";walk_at "h";walk_at "h";walk_at "h";walk_at "h";subst_vars;walk_at "rk";refine ⟨λ i acc M'=>acc = (((GR a b).take i).filter okB).map bD /\ M' = M,⟨rfl,rfl⟩,?_,?_⟩
  ·rintro i d acc M' hd ⟨rfl,rfl⟩;have hd':((GR a b).map bD)[i]? = some d:=hd;obtain ⟨q,eq,rfl⟩:=ZU hd';walk_at "rk";rw [Qz okB eq,List.map_append];cases okB q with
   | true=>rfl
   | false=>simp
  ·rintro acc M' ⟨rfl,rfl⟩;rw [ec] at h;exact h
theorem QI (T:Tx K mg):Qh P w K mg base CX0 4 T.Yg T.V3 ["box", "others"] (lift K Mw):=by
 refine okD T.Qx.F Z4 (λ xs M Φ h=>by obtain ⟨_,_,rfl,_⟩:=Zp h; rfl) λ cdv A outer s H E hr=>⟨_,(Ze (Zl 2 Z4.nd (Je (Za (Zb 0) Zd)))
 (Ze (CH (Zb 1) (Zr 3 Z4.nd) (Ze (Zl 4 Z4.nd (Ql Zd))
 (Ze (NR (Zb 2) (Zr 5 Z4.nd) (Zh (Q5 (Yv (Zb 4) (cO T.X5 (G1 T) hr (Za (Zb 5) (Za (Zb 3) Zd)))))) PassesOwn.never rfl)
 (Zh (Zl 2 Z4.nd (Mn (Zb 4)))))) PassesOwn.never rfl)
 (Zh (Zo (Zb 2))))),λ xs M Φ h=>?_⟩
 replace h:=Zp h;obtain ⟨x1,x2,rfl,h⟩:=h;replace h:=ZZ h;obtain ⟨a,rfl,h⟩:=h;replace h:=Z0 h;obtain ⟨bs,rfl,hl,h⟩:=h;walk_at "h";walk_at "h";refine ⟨λ i U M'=>∃ k3 k4 k5,U = [some (.dat (bD a)),some (.dat (.tuple (bs.map bD))),some (.dat (.list ((ZM a (bs.take i)).map bD))),k3,k4,k5] /\ M' = M,⟨none,none,none,rfl,rfl⟩,?_,?_⟩
 ·rintro i d U M' hd ⟨k3,k4,k5,rfl,rfl⟩;obtain ⟨b,eb,rfl⟩:=ZU hd;have len:=J0 a (bs.take i) (by rw [List.length_take]; lia);walk_at "rk";intro q hq;refine ⟨λ j U M2=>∃ k5,U = [some (.dat (bD a)),some (.dat (.tuple (bs.map bD))),some (.dat (.list ((ZM a (bs.take i)).map bD))),some (.dat (bD b)),some (.own q),k5] /\ M2 = ZJ M' q (.lst ((((ZM a (bs.take i)).take j).flatMap λ p=>Vk p b).map bD)),⟨k5,rfl,rfl⟩,?_,?_⟩
  ·rintro j d U M2 hd2 ⟨k5,rfl,rfl⟩;obtain ⟨p,ep,rfl⟩:=ZU hd2;walk_at "rk";intro c hc;have hne:=fresh_ne hc;simp only [ZC (Ne.symm hne)];walk_at "rk";refine ⟨hne,?_,_,rfl,?_⟩
   ·have h1:=VI (λ p=>Vk p b) 4 ((ZM a (bs.take i)).take j) λ p _=>Xf p b;have h2:=Xf p b;rw [List.length_take] at h1;rw [List.length_map,List.length_map];lia
   ·rw [W6 hc,<- List.map_append,Br (λ p=>Vk p b) ep]
  ·rintro U M2 ⟨k5,rfl,rfl⟩;rw [List.length_map,List.take_length];walk_at "rk";exact ⟨_,_,_,by rw [GN eb],Yz hq⟩
 ·rintro U M' ⟨k3,k4,k5,rfl,rfl⟩;rw [List.length_map,List.take_length];subst_vars;walk_at "rk";exact h
theorem Jj (T:Tx K mg):Qh P w K mg base CX0 5 T.K4 T.KU ["shape", "spot"] (lift K MU):=by
 refine okD T.Q4.F Bc (λ xs M Φ h=>by obtain ⟨_,_,rfl,_⟩:=Zp h; rfl) λ cdv A outer s H E hr=>⟨_,(Zh (Zo (Zi (TH rfl) rfl T.ZbP Sd (Za (Z6 false (Zx (sc:=Zf JL) (XN:=["shape", "spot"]) (N:=["box", "spot"]) (ix:=[none,some 1]) rfl rfl (by walk_at "k")) (VR (Zb 0)) (λ C ex s H=>(Zr 0 (show List.Nodup (["box", "spot"]:List Str) by walk_at "k"))) (λ C ex s H=>QC) (λ C ex s H=>(cO T.HQ (BJ T) hr (Za (Zb 0) (Za (Zb 1) Zd)))) rfl) Zd)))),λ xs M Φ h=>?_⟩;replace h:=Zp h;obtain ⟨x1,x2,rfl,h⟩:=h;replace h:=Z0 h;obtain ⟨bs,rfl,h⟩:=h;replace h:=QA h;obtain ⟨u,v,rfl,hl,h⟩:=h;walk_at "rk";refine ⟨by rw [List.length_map]; lia,λ i acc M'=>acc = ((bs.take i).map λ b=>hasB b u v).map PyData.bool /\ M' = M,⟨rfl,rfl⟩,?_,?_⟩
 ·rintro i d acc M' hd ⟨rfl,rfl⟩;obtain ⟨b,eb,rfl⟩:=ZU hd;walk_at "rk";rw [<- take_snoc _ eb,List.map_append];rfl
 ·rintro acc M' ⟨rfl,rfl⟩;refine ⟨_,rfl,?_⟩;rw [List.length_map,List.take_length,List.any_map];exact h
theorem Lp (T:Tx K mg):Qh P w K mg base CX0 1 T.Ce T.Df ["shape"] (lift K CW):=by
 refine okD T.EF.F Xh (λ xs M Φ h=>by obtain ⟨_,rfl,_⟩:=Qm h; rfl) λ cdv A outer s H E hr=>⟨_,(Ze (Zl 1 Xh.nd (Zk (Za (Zm ZY (Zi (Xa rfl) rfl T.J6 QS (Za (Z6 false (Zx (sc:=Zf Jz) (XN:=["shape", "low", "high"]) (N:=["box"]) (ix:=[none]) rfl rfl (by walk_at "k")) (VR (Zb 0)) (λ C ex s H=>(Zr 0 (show List.Nodup (["box"]:List Str) by walk_at "k"))) (λ C ex s H=>QC) (λ C ex s H=>(Zg (Zg (Zb 0) Zc) Zc)) rfl) Zd)) Zc) (Za (Zm ZY (Zi (Xa rfl) rfl T.J6 QS (Za (Z6 false (Zx (sc:=Zf Jz) (XN:=["shape", "low", "high"]) (N:=["box"]) (ix:=[none]) rfl rfl (by walk_at "k")) (VR (Zb 0)) (λ C ex s H=>(Zr 0 (show List.Nodup (["box"]:List Str) by walk_at "k"))) (λ C ex s H=>QC) (λ C ex s H=>(Zg (Zg (Zb 0) Zc) Zc)) rfl) Zd)) Zc) Zd))))
 (Ze (Zl 2 Xh.nd (Zk (Za (Zm Zu (Zi (Dh rfl) rfl T.YH Jx (Za (Z6 false (Zx (sc:=Zf Jz) (XN:=["shape", "low", "high"]) (N:=["box"]) (ix:=[none]) rfl rfl (by walk_at "k")) (VR (Zb 0)) (λ C ex s H=>(Zr 0 (show List.Nodup (["box"]:List Str) by walk_at "k"))) (λ C ex s H=>QC) (λ C ex s H=>(Zg (Zg (Zb 0) Zc) Zc)) rfl) Zd)) Zc) (Za (Zm Zu (Zi (Dh rfl) rfl T.YH Jx (Za (Z6 false (Zx (sc:=Zf Jz) (XN:=["shape", "low", "high"]) (N:=["box"]) (ix:=[none]) rfl rfl (by walk_at "k")) (VR (Zb 0)) (λ C ex s H=>(Zr 0 (show List.Nodup (["box"]:List Str) by walk_at "k"))) (λ C ex s H=>QC) (λ C ex s H=>(Zg (Zg (Zb 0) Zc) Zc)) rfl) Zd)) Zc) Zd))))
 (Zh (Zo (Zk (Za (Zb 1) (Za (Zb 2) Zd))))))),λ xs M Φ h=>?_⟩
 replace h:=Qm h;obtain ⟨x1,rfl,h⟩:=h;replace h:=Z0 h;obtain ⟨bs,rfl,⟨h1,h2⟩,h⟩:=h;walk_at "h";refine ⟨by rw [List.length_map]; lia,λ i acc M'=>acc = ((bs.take i).map B4.x).map PyData.int /\ M' = M,⟨rfl,rfl⟩,?_,?_⟩
 ·rintro i d acc M' hd ⟨rfl,rfl⟩;obtain ⟨b,eb,rfl⟩:=ZU hd;walk_at "rk";rw [<- take_snoc _ eb,List.map_append];rfl
 ·rintro acc M1 ⟨rfl,rfl⟩;rw [List.length_map,List.take_length];refine ⟨_,.inl rfl,by rw [List.length_map]; lia,λ mx hmx nx=>⟨by lia,λ i acc M'=>acc = ((bs.take i).map B4.y).map PyData.int /\ M' = M1,⟨rfl,rfl⟩,?_,?_⟩⟩
  ·rintro i d acc M' hd ⟨rfl,rfl⟩;obtain ⟨b,eb,rfl⟩:=ZU hd;walk_at "rk";rw [<- take_snoc _ eb,List.map_append];rfl
  ·rintro acc M2 ⟨rfl,rfl⟩;rw [List.take_length];refine ⟨_,.inl rfl,by rw [List.length_map]; lia,λ my hmy ny=>?_⟩;walk_at "h";refine ⟨by rw [List.length_map]; lia,λ i acc M'=>acc = ((bs.take i).map B4.X).map PyData.int /\ M' = M2,⟨rfl,rfl⟩,?_,?_⟩
   ·rintro i d acc M' hd ⟨rfl,rfl⟩;obtain ⟨b,eb,rfl⟩:=ZU hd;walk_at "rk";rw [<- take_snoc _ eb,List.map_append];rfl
   ·rintro acc M3 ⟨rfl,rfl⟩;rw [List.length_map,List.take_length];refine ⟨_,.inl rfl,by rw [List.length_map]; lia,λ mX hmX nX=>⟨by lia,λ i acc M'=>acc = ((bs.take i).map B4.Y).map PyData.int /\ M' = M3,⟨rfl,rfl⟩,?_,?_⟩⟩
    ·rintro i d acc M' hd ⟨rfl,rfl⟩;obtain ⟨b,eb,rfl⟩:=ZU hd;walk_at "rk";rw [<- take_snoc _ eb,List.map_append];rfl
    ·rintro acc M4 ⟨rfl,rfl⟩;rw [List.take_length];refine ⟨_,.inl rfl,by rw [List.length_map]; lia,λ mY hmY nY=>?_⟩;subst_vars;walk_at "rk";refine h ⟨mx - 1,my - 1,mX + 1,mY + 1⟩ λ b hb=>?_;have q1:=nx b.x (List.mem_map.mpr ⟨b,hb,rfl⟩);have q2:=ny b.y (List.mem_map.mpr ⟨b,hb,rfl⟩);have q3:=nX b.X (List.mem_map.mpr ⟨b,hb,rfl⟩);have q4:=nY b.Y (List.mem_map.mpr ⟨b,hb,rfl⟩);dsimp only;lia
theorem QU (T:Tx K mg):Qh P w K mg base CX0 4 T.Vu T.VC ["pieces", "spot"] (lift K LZ):=by
 refine okD T.QG.F Xr (λ xs M Φ h=>by obtain ⟨_,_,rfl,_⟩:=Zp h; rfl) λ cdv A outer s H E hr=>⟨_,(Zh (Zo (Zi (Xa rfl) rfl T.J6 QS (Za (Z6 false (Zx (sc:=Zf QL) (XN:=["pieces", "spot"]) (N:=["piece", "spot"]) (ix:=[none,some 1]) rfl rfl (by walk_at "k")) (ZbB (Zb 0)) (λ C ex s H=>(Zr 0 (show List.Nodup (["piece", "spot"]:List Str) by walk_at "k"))) (λ C ex s H=>QC) (λ C ex s H=>(cO T.J9 (Ya T) hr (Za (Zb 0) (Za (Zb 1) Zd)))) rfl) Zd)))),λ xs M Φ h=>?_⟩;replace h:=Zp h;obtain ⟨x1,x2,rfl,h⟩:=h;replace h:=PZ h;obtain ⟨ps,hx,h⟩:=h;replace h:=QA h;obtain ⟨u,v,rfl,⟨h1,h2⟩,h⟩:=h;have e:∀ P:List PyData->Prop,Rw x1 P = P (ps.map bD):=λ P=>by rcases hx with rfl | rfl <;> exact qI
 walk_at "rk";rw [e];refine ⟨by rw [List.length_map]; lia,λ i acc M'=>acc = ((ps.take i).map λ p=>ZX p u v).map PyData.int /\ M' = M,⟨rfl,rfl⟩,?_,?_⟩
 ·rintro i d acc M' hd ⟨rfl,rfl⟩;obtain ⟨b,eb,rfl⟩:=ZU hd;walk_at "rk";rw [<- take_snoc _ eb,List.map_append];rfl
 ·rintro acc M1 ⟨rfl,rfl⟩;rw [List.length_map,List.take_length];have hl:0 < ps.length:=List.length_pos_iff.mpr h1;refine ⟨_,.inl rfl,by rw [List.length_map]; exact hl,λ m hm hn=>h m ?_ λ p hp=>hn _ (List.mem_map.mpr ⟨p,hp,rfl⟩)⟩;obtain ⟨p,mp,e⟩:=List.mem_map.mp hm;exact ⟨p,mp,e⟩
theorem JU (T:Tx K mg):Qh P w K mg base CX0 6 T.Vv T.Vx ["shape", "spot"] (lift K BV):=by
 refine okD T.Jb.F Xs (λ xs M Φ h=>by obtain ⟨_,_,rfl,_⟩:=Zp h; rfl) λ cdv A outer s H E hr=>⟨_,(Ze (QD (Ju (cO T.Q4 (Jj T) hr (Za (Zb 0) (Za (Zb 1) Zd)))) (Zh (Zo (cO T.Qx (QI T) hr (Za (cO T.EF (Lp T) hr (Za (Zb 0) Zd)) (Za (Zb 0) Zd))))) ZH)
 (Zh (Zo (Qa BG rfl T.SY NO (Za (Zb 0) Zd))))),λ xs M Φ h=>?_⟩
 replace h:=Zp h;obtain ⟨x1,x2,rfl,h⟩:=h;replace h:=Z0 h;obtain ⟨bs,rfl,h⟩:=h;replace h:=QA h;obtain ⟨u,v,rfl,⟨h1,h2,hb⟩,h⟩:=h;walk_at "rk";refine ⟨h2,M9 (λ q=>⟨⟨h1,h2⟩,λ fr hf=>?_⟩) λ q=>?_⟩
 ·exact ⟨h2,h _ (KD hb hf q) (λ m z=>Nw hb hf q z) (J0 _ _ h2)⟩
 ·exact h bs (Va hb (λ z=>by rw [z] at h1; exact absurd h1 (by decide)) q) (λ m _=>EY q) (by lia)
theorem UO (T:Tx K mg):Qh P w K mg base CX0 7 T.D6 T.CQ ["shape", "spot"] (lift K Bq):=by
 refine okD T.WC.F Gv (λ xs M Φ h=>by obtain ⟨_,_,rfl,_⟩:=Zp h; rfl) λ cdv A outer s H E hr=>⟨_,(Ze (Zl 2 Gv.nd (cO T.QG (QU T) hr (Za (cO T.Jb (JU T) hr (Za (Zb 0) (Za (Zb 1) Zd))) (Za (Zb 1) Zd))))
 (Zh (Zo (BL (Ju (cO T.Q4 (Jj T) hr (Za (Zb 0) (Za (Zb 1) Zd)))) (Zb 2) (L0 (Zb 2)))))),λ xs M Φ h=>?_⟩
 replace h:=Zp h;obtain ⟨x1,x2,rfl,h⟩:=h;replace h:=Z0 h;obtain ⟨bs,rfl,h⟩:=h;replace h:=QA h;obtain ⟨u,v,rfl,hs,h⟩:=h;walk_at "rk";refine ⟨hs,λ ps hp hF hl=>⟨⟨hp.ne,hl⟩,λ m m1 m2=>?_⟩⟩;have k:=hp.depth m1 m2;refine ⟨hs.2.1,M9 (λ q=>?_) λ q=>?_⟩
 ·rw [q,if_pos rfl] at k;exact h _ k
 ·rw [q,if_neg Bool.false_ne_true] at k;exact h _ k
theorem GB (T:Tx K mg):Qh P w K mg base CX0 7 T.Kp T.Kv ["shape", "spot"] (lift K Ko):=by
 refine okD T.Kw.F Vm (λ xs M Φ h=>by obtain ⟨_,_,rfl,_⟩:=Zp h; rfl) λ cdv A outer s H E hr=>⟨_,(Ze (Zl 2 Vm.nd (cO T.Jb (JU T) hr (Za (Zb 0) (Za (Zb 1) Zd))))
 (Ze (Zl 3 Vm.nd (cO T.VQ (VS T) hr (Za (Zb 1) (Za (cO T.QG (QU T) hr (Za (Zb 2) (Za (Zb 1) Zd))) Zd))))
 (Zh (Zo (Zi (WG hr rfl) rfl T.J6 QS (Za (Z6 false (Zx (sc:=Zf JW) (XN:=["shape", "spot", "pieces", "reach"]) (N:=["piece", "reach"]) (ix:=[none,some 3]) rfl rfl (by walk_at "k")) (JB (Zb 2)) (λ C ex s H=>(Zr 0 (show List.Nodup (["piece", "reach"]:List Str) by walk_at "k"))) (λ C ex s H=>(JE (ZI (Js hr) (cO T.ZR (Z2 T) hr (Za (Zb 0) (Za (Zb 1) Zd))) Zc))) (λ C ex s H=>(Zg (cO T.XX (Ky T) hr (Za (Zb 0) (Za (Zb 1) Zd))) Zc)) rfl) Zd)))))),λ xs M Φ h=>?_⟩
 replace h:=Zp h;obtain ⟨x1,x2,rfl,h⟩:=h;replace h:=Z0 h;obtain ⟨bs,rfl,h⟩:=h;replace h:=QA h;obtain ⟨u,v,rfl,hs,h⟩:=h;walk_at "h";refine ⟨hs,λ ps hp hF hl=>?_⟩;walk_at "h";refine ⟨⟨hp.ne,hl⟩,λ m m1 m2=>?_⟩;subst_vars;walk_at "rk";refine ⟨by rw [List.length_map]; lia,λ i acc M'=>acc = (((ps.take i).filter λ p=>decide (Qe p (Z3 u v m) = 0)).map (Bb u v m)).map prD /\ M' = M,⟨rfl,rfl⟩,?_,?_⟩
 ·rintro i d acc M' hd ⟨rfl,rfl⟩;obtain ⟨b,eb,rfl⟩:=ZU hd;walk_at "rk";rw [Qz _ eb];cases decide (Qe b (Z3 u v m) = 0) with
  | true=>
   rw [if_pos rfl,if_pos rfl,List.map_append,List.map_append];rfl
  | false=>rw [if_neg Bool.false_ne_true,if_neg Bool.false_ne_true,List.append_nil]
 ·rintro acc M1 ⟨rfl,rfl⟩;rw [List.length_map,List.take_length];have hm:0 <= m:=by
   obtain ⟨pm,mpm,epm⟩:=m1;rw [<- epm]; exact JS _ _ _
  refine ⟨_,rfl,?_,λ q hq hmin=>?_⟩
  ·obtain ⟨pm,mpm,epm⟩:=m1;rw [List.length_map];exact List.length_pos_iff.mpr (List.ne_nil_of_mem (List.mem_filter.mpr ⟨mpm,decide_eq_true ((JV hm (m2 pm mpm)).mpr epm)⟩))
  ·obtain ⟨p,hp',e⟩:=List.mem_map.mp hq;obtain ⟨mp,c⟩:=List.mem_filter.mp hp'
   have k:=hp.least m1 m2 (hF m m2) mp ((JV hm (m2 p mp)).mp (of_decide_eq_true c)) (λ r mr er=>by
    rw [e]
    exact hmin _ (List.mem_map.mpr ⟨r,List.mem_filter.mpr ⟨mr,decide_eq_true ((JV hm (m2 r mr)).mpr er)⟩,rfl⟩))
   subst e;refine h _ _ λ d hd=>?_;have kd:=hp.depth m1 m2;rw [hd.eq kd];have ea:ab (if anyB bs u v = true then m else -m) = m:=by
    split
    ·have:=Qd m;lia
    ·have:=Qd (-m);lia
   rw [ea];exact k
theorem N5 (T:Tx K mg):Qh P w K mg base CX0 5 T.MJ T.Nf ["shape", "wobble", "spot"] (lift K MQ):=by
 refine okD T.MV.F Ri (λ xs M Φ h=>by obtain ⟨_,_,_,rfl,_⟩:=QR h; rfl) λ cdv A outer s H E hr=>⟨_,(Ze (QD (ZI (Js hr) (cO T.Qx (QI T) hr (Za (cO T.VQ (VS T) hr (Za (Zb 2) (Za (Zb 1) Zd))) (Za (Zb 0) Zd))) (Je Zd)) (Zh (Zo Qr)) ZH)
 (Ze (QD (ZI VE (cO T.QG (QU T) hr (Za (Zb 0) (Za (Zb 2) Zd))) (Zb 1)) (Zh (Zo Qr)) ZH)
 (Zh (Zo Qr)))),λ xs M Φ h=>?_⟩
 replace h:=QR h;obtain ⟨x1,x2,x3,rfl,h⟩:=h;replace h:=Z0 h;obtain ⟨bs,rfl,h⟩:=h;replace h:=Zw h;obtain ⟨wb,rfl,h⟩:=h;replace h:=QA h;obtain ⟨u,v,rfl,⟨hs,hw⟩,h⟩:=h;have n1:bs ≠ []:=λ z=>by have:=hs.1; rw [z] at this; exact absurd this (by decide)
 obtain ⟨d,hd⟩:=MS hs.2.2 n1 u v;have h:=h d hd;unfold Cu at h;walk_at "h";refine ⟨hs.2.1,P9 _ ?_⟩;refine Zq (λ q=>?_) λ q=>?_
 ·rw [if_pos ((Xu hs.2.2 hw hd).mp q)] at h;exact h
 ·rw [if_neg (λ z=>q ((Xu hs.2.2 hw hd).mpr z))] at h;subst_vars;walk_at "rk";refine ⟨⟨n1,by have:=hs.2.1; lia⟩,λ m m1 m2=>?_⟩;have k:=FZ hs.2.2 n1 hw hd m1 m2;refine Zq (λ z=>?_) λ z=>?_
  ·rw [if_pos (k.mp z)] at h;exact h
  ·rw [if_neg (λ y=>z (k.mpr y))] at h;exact h
theorem G7 (T:Tx K mg):Qh P w K mg base CX0 5 T.X2 T.Kx ["box", "other"] (lift K Gr):=by
 refine okD T.Kg.F Bg (λ xs M Φ h=>by obtain ⟨_,_,rfl,_⟩:=Zp h; rfl) λ cdv A outer s H E hr=>⟨_,(Zh (Zo (Mc (cO T.HQ (BJ T) hr (Za (Zb 0) (Za (Zg (Zb 1) Zc) Zd))) (LW (cO T.HQ (BJ T) hr (Za (Zb 0) (Za (Zg (Zb 1) Zc) Zd))))))),λ xs M Φ h=>?_⟩;replace h:=Zp h;obtain ⟨x1,x2,rfl,h⟩:=h;replace h:=ZZ h;obtain ⟨a,rfl,h⟩:=h;replace h:=ZZ h;obtain ⟨b,rfl,h⟩:=h;walk_at "rk";unfold allB at h;cases q:hasB a b.x b.y with
 | true=>rw [q] at h; simpa using h
 | false=>rw [q] at h; simpa using h
theorem Hn (T:Tx K mg):Qh P w K mg base CX0 1 T.By T.CT ["box", "way", "at"] (lift K Zc5):=by
 refine okD T.Dn.F UC (λ xs M Φ h=>by obtain ⟨_,_,_,rfl,_⟩:=QR h; rfl) λ cdv A outer s H E hr=>⟨_,(Ze (Zl 3 UC.nd (BL (ZI (Js hr) (Zb 1) Zc) (Zk (Za (Zb 2) (Za (Zg (Zg (Zb 0) Zc) Zc) Zd))) (Zk (Za (Zg (Zg (Zb 0) Zc) Zc) (Za (Zb 2) Zd)))))
 (Zh (Zo (Zk (Za (Zg (Zb 0) Zc) (Za (Zb 3) Zd)))))),λ xs M Φ h=>?_⟩
 replace h:=QR h;obtain ⟨x1,x2,x3,rfl,h⟩:=h;replace h:=ZZ h;obtain ⟨b,rfl,h⟩:=h;replace h:=Zw h;obtain ⟨i,rfl,h⟩:=h;replace h:=Zw h;obtain ⟨a,rfl,h⟩:=h;unfold upB at h;walk_at "h";refine Zq (λ z=>?_) λ z=>?_
 ·rw [if_pos z] at h;subst_vars;walk_at "rk";exact h
 ·rw [if_neg z] at h;subst_vars;walk_at "rk";exact h
theorem YE (T:Tx K mg):Qh P w K mg base CX0 1 T.JX T.JR ["box", "way", "at"] (lift K ZcZ):=by
 refine okD T.JQ.F Jv (λ xs M Φ h=>by obtain ⟨_,_,_,rfl,_⟩:=QR h; rfl) λ cdv A outer s H E hr=>⟨_,(Ze (Zl 3 Jv.nd (BL (ZI (Js hr) (Zb 1) Zc) (Zk (Za (Zb 2) (Za (Zg (Zg (Zb 0) Zc) Zc) Zd))) (Zk (Za (Zg (Zg (Zb 0) Zc) Zc) (Za (Zb 2) Zd)))))
 (Zh (Zo (Zk (Za (Zb 3) (Za (Zg (Zb 0) Zc) Zd)))))),λ xs M Φ h=>?_⟩
 replace h:=QR h;obtain ⟨x1,x2,x3,rfl,h⟩:=h;replace h:=ZZ h;obtain ⟨b,rfl,h⟩:=h;replace h:=Zw h;obtain ⟨i,rfl,h⟩:=h;replace h:=Zw h;obtain ⟨a,rfl,h⟩:=h;unfold owB at h;walk_at "h";refine Zq (λ z=>?_) λ z=>?_
 ·rw [if_pos z] at h;subst_vars;walk_at "rk";exact h
 ·rw [if_neg z] at h;subst_vars;walk_at "rk";exact h
theorem J3 (T:Tx K mg):Qh P w K mg base CX0 3 T.Vt T.VB ["shape", "box", "way"] (lift K U1):=by
 refine okG T.Q2.F QT (λ xs M Φ h=>by obtain ⟨_,_,_,rfl,_⟩:=QR h; rfl) λ cdv A outer s H E hr=>⟨_,(Ze (Zl 3 QT.nd (Ql Zd))
 (Ze (CH (Zb 0) (Zr 4 QT.nd) (Zh (QD (ZI (Js hr) (cO T.ZR (Z2 T) hr (Za (Zb 4) (Za (Zb 1) Zd))) Zc) (Zh (Q5 (Yv (Zb 3) (Ql (Za (Zm ZY (Zg (Zg (Zb 4) Zc) (Zb 2)) Zc) (Za (Zg (Zg (Zb 4) Zc) (Zb 2)) Zd)))))) ZH)) PassesOwn.never rfl)
 (Zh (Zo (X3 rfl T.Lv rfl T.Zb0 (Za (Z6 false (Zx (sc:=Zf QE) (XN:=["shape", "box", "way", "places", "other"]) (N:=["at", "way", "box"]) (ix:=[none,some 2,some 1]) rfl rfl (by walk_at "k")) (JB (Mn (Zb 3))) (λ C ex s H=>(Zr 0 (show List.Nodup (["at", "way", "box"]:List Str) by walk_at "k"))) (λ C ex s H=>(JE (Xp WB Nk (Zg (Zg (Zb 2) Zc) (Zb 1)) (Zb 0) (Zg (Zg (Zb 2) Zc) (Zb 1))))) (λ C ex s H=>(Zb 0)) rfl) Zd)))))),λ xs M Φ h=>?_⟩
 replace h:=QR h;obtain ⟨x1,x2,x3,rfl,h⟩:=h;replace h:=Z0 h;obtain ⟨bs,rfl,h⟩:=h;replace h:=ZZ h;obtain ⟨b,rfl,h⟩:=h;replace h:=Zw h;obtain ⟨i,rfl,⟨hl,hi⟩,h⟩:=h;walk_at "h";intro q hq;walk_at "h";refine ⟨λ n U M'=>∃ k4,U = [some (.dat (.tuple (bs.map bD))),some (.dat (bD b)),some (.dat (.int i)),some (.own q),k4] /\ M' = ZJ M q (.lst ((plB b i (bs.take n)).map PyData.int)),⟨none,rfl,rfl⟩,?_,?_⟩
 ·rintro n d U M' hd ⟨k4,rfl,rfl⟩;obtain ⟨c,ec,rfl⟩:=ZU hd;have len:=B3 b i (bs.take n);rw [List.length_take] at len;have sn:=HW (b:=b) (w:=i) ec;rw [JI];walk_at "rk";refine Zq (λ z=>?_) λ z=>?_
  ·rw [if_pos z] at sn;simp only [Mt hi,Nc hi];walk_at "rk";intro p hp;have hne:=fresh_ne hp;simp only [ZC (Ne.symm hne)];walk_at "rk";refine ⟨hne,by rw [List.length_map]; lia,_,rfl,?_⟩;rw [W6 hp,sn,List.map_append];rfl
  ·rw [if_neg z,List.append_nil] at sn;rw [<- sn];exact ⟨_,rfl,rfl⟩
 ·rintro U M' ⟨k4,rfl,rfl⟩;rw [List.length_map,List.take_length];subst_vars;walk_at "rk";have len:=B3 b i bs;rw [Yz hq];refine ⟨by rw [List.length_map]; lia,λ n acc M'=>acc = (((plB b i bs).take n).filter λ z=>decide (loB b i <= z) && decide (z < hiB b i)).map PyData.int /\ M' = M,⟨rfl,rfl⟩,?_,?_⟩
  ·rintro n d acc M' hd ⟨rfl,rfl⟩;obtain ⟨z,ez,rfl⟩:=ZU hd;have flt:=Qz (λ z=>decide (loB b i <= z) && decide (z < hiB b i)) ez;rw [Mt hi];walk_at "rk";refine Zq (λ z0=>?_) λ z0=>?_
   ·rw [Nc hi];walk_at "rk";refine Zq (λ z1=>?_) λ z1=>?_
    ·rw [flt,if_pos (by rw [decide_eq_true z0,decide_eq_true z1]; rfl),List.map_append];rfl
    ·rw [flt,if_neg (by rw [decide_eq_false z1,Bool.and_false]; exact Bool.false_ne_true),List.append_nil]
   ·rw [flt,if_neg (by rw [decide_eq_false z0,Bool.false_and]; exact Bool.false_ne_true),List.append_nil]
  ·rintro acc M' ⟨rfl,rfl⟩;rw [List.length_map,List.take_length];refine ⟨_,.inl rfl,Nat.lt_of_le_of_lt (List.length_filter_le _ _) (by lia),λ ks _ _ hk=>Zcq (h ks (λ z hz=>?_) λ c hc h0 he=>?_)⟩
   ·obtain ⟨h1,h2⟩:=List.mem_filter.mp ((hk z).mp hz);simp only [Bool.and_eq_true,decide_eq_true_eq] at h2;exact ⟨h2,N8 h1⟩
   ·have he:=B7.mp he;exact (hk _).mpr (List.mem_filter.mpr ⟨PN hc h0,by simp only [Bool.and_eq_true,decide_eq_true_eq]; exact he⟩)
theorem Uh (T:Tx K mg) (n:Nat):Qh P w K mg base CX0 (6 + n) T.Jg T.Jn ["shape", "box"] (lift K (VX n)):=by
 refine Nat.rec (motive:=λ n=>Qh P w K mg base CX0 (6 + n) T.Jg T.Jn ["shape", "box"] (lift K (VX n))) ?_ (λ n G_cover_of=>?_) n
 ·exact RU Wd
 show Qh P w K mg base CX0 (6 + n + 1) T.Jg T.Jn ["shape", "box"] (lift K (VX (n + 1)))
 refine okD T.Jl.F ZS (λ xs M Φ h=>by obtain ⟨_,_,rfl,_⟩:=Zp h; rfl) λ cdv A outer s H E hr=>⟨_,(Ze (QK rfl T.Z5 (Za (Zi Ja rfl T.YB Q9 (Za (Zb 0) Zd)) Zd) (Zr 2 ZS.nd) (Zh (QD (Ju (cO T.Kg (G7 T) hr (Za (Zg (Zb 0) (Zb 2)) (Za (Zb 1) Zd)))) (Zh (Zo (Zk (Za Qr (Za (Zb 2) Zd))))) ZH)) PassesOwn.never rfl)
 (Ze (Zl 3 ZS.nd (cO T.Q2 (J3 T) hr (Za (Zb 0) (Za (Zb 1) (Za Zc Zd)))))
 (Ze (Zl 4 ZS.nd (cO T.Q2 (J3 T) hr (Za (Zb 0) (Za (Zb 1) (Za Zc Zd)))))
 (Ze (Zl 5 ZS.nd (BL (ZI RK (Zi Ja rfl T.YB Q9 (Za (Zb 3) Zd)) (Zi Ja rfl T.YB Q9 (Za (Zb 4) Zd))) Zc Zc))
 (Ze (Zl 6 ZS.nd (BL (ZI (Js hr) (Zb 5) Zc) (Zb 3) (Zb 4)))
 (Ze (Zl 7 ZS.nd (Zg (Zb 6) (Zm Di (Zi Ja rfl T.YB Q9 (Za (Zb 6) Zd)) Zc)))
 (Ze (Zl 8 ZS.nd (cO T.Jl G_cover_of hr (Za (Zb 0) (Za (cO T.Dn (Hn T) hr (Za (Zb 1) (Za (Zb 5) (Za (Zb 7) Zd)))) Zd))))
 (Zh (Zo (Zk (Za Qr (Za (Zb 5) (Za (Zb 7) (Za (Zb 8) (Za (cO T.Jl G_cover_of hr (Za (Zb 0) (Za (cO T.JQ (YE T) hr (Za (Zb 1) (Za (Zb 5) (Za (Zm Zu (Zb 7) Zc) Zd)))) Zd))) Zd))))))))))))))),λ xs M Φ h=>?_⟩
 replace h:=Zp h;obtain ⟨x1,x2,rfl,h⟩:=h;replace h:=Z0 h;obtain ⟨bs,rfl,h⟩:=h;replace h:=ZZ h;obtain ⟨b,rfl,⟨⟨hl,hb,hc⟩,hn⟩,h⟩:=h;walk_at "h";rw [List.length_map];refine ⟨⟨by lia,by lia⟩,λ i U M'=>∃ k2,U = [some (.dat (.tuple (bs.map bD))),some (.dat (bD b)),k2,none,none,none,none,none,none] /\ M' = M /\ ∀ j c,j < i->bs[j]? = some c->allB c b = false,⟨none,rfl,rfl,λ j c hj=>absurd hj (Nat.not_lt_zero _)⟩,?_,?_⟩
 ·rintro i U M' hi ⟨k2,rfl,rfl,ha⟩;have hi:i < bs.length:=by lia
  obtain ⟨c,ec⟩:∃ c,bs[i]? = some c:=⟨_,List.getElem?_eq_getElem hi⟩
  rw [JI];walk_at "rk";refine Yd (d:=bD c) (YA (by rw [List.getElem?_map,ec]; rfl)) ?_;walk_at "rk";cases q:allB c b with
  | true=>
   walk_at "rk";exact h (.box (i:Int)) (CD ec q) (Nat.succ_le_succ (Nat.zero_le _))
  | false=>
   walk_at "rk";refine ⟨_,rfl,λ j c' hj ej=>?_⟩
   by_cases e:j = i
   ·rw [e,ec] at ej;cases ej;exact q
   ·exact ha j c' (by lia) ej
 ·rintro U M' ⟨k2,rfl,rfl,ha⟩;have no:∀ c ∈ bs,allB c b = false:=λ c mc=>by
   obtain ⟨j,hj,ej⟩:=List.mem_iff_getElem.mp mc;exact ha j c (by lia) (by rw [<- ej]; exact List.getElem?_eq_getElem hj)
  obtain ⟨c0,m0,a0,e0⟩:=Rr hb hc no;walk_at "h";refine ⟨⟨hl,.inl trivial⟩,λ k0 c0' x0=>?_⟩;walk_at "h";refine ⟨⟨hl,.inr trivial⟩,λ k1 c1' x1=>?_⟩;walk_at "h";rename_i R hR;rw [List.length_map,List.length_map]
  suffices rest:∀ (w:Int) (ks:List Int),(w = 0 /\ ks = k0) \/ (w = 1 /\ ks = k1)->ks ≠ []->R { nx:=λ _ M'=>Φ (.dat .none) M',rt:=Φ } [some (.dat (.tuple (bs.map bD))),some (.dat (bD b)),k2,some (.dat (.list (k0.map PyData.int))),some (.dat (.list (k1.map PyData.int))),some (.dat (.int w)),none,none,none] M' by
   have some0:k0 ≠ [] \/ k1 ≠ []:=e0.imp (λ e z=>by have:=x0 c0 m0 a0 e; rw [z] at this; cases this) λ e z=>by have:=x1 c0 m0 a0 e; rw [z] at this; cases this
   refine Zq (λ z=>rest 0 k0 (.inl ⟨rfl,rfl⟩) λ e=>?_) λ z=>rest 1 k1 (.inr ⟨rfl,rfl⟩) λ e=>?_
   ·rcases some0 with y | y
    ·exact y e
    ·have:=List.length_pos_iff.mpr y;rw [e] at z;simp only [List.length_nil] at z;lia
   ·rw [e] at z;simp only [List.length_nil] at z;lia
  intro w ks hw hne;have hw':w = 0 \/ w = 1:=hw.imp (·.1) (·.1);have hks:∀ z ∈ ks,Pc bs b w z:=by rcases hw with ⟨rfl,rfl⟩ | ⟨rfl,rfl⟩ <;> assumption
  have hpos:=List.length_pos_iff.mpr hne;have hm:ks.length / 2 < ks.length:=by lia
  have ck:=hks _ (List.getElem_mem hm);have idx:L2.atI (ks.map PyData.int) ((ks.length:Int) / 2) = some (.int (ks[ks.length / 2]'hm)):=by
   rw [show (ks.length:Int) / 2 = ((ks.length / 2:Nat):Int) by lia];exact YA (by rw [List.getElem?_map,List.getElem?_eq_getElem hm]; rfl)
  generalize ks[ks.length / 2]'hm = a at *;obtain ⟨⟨ck1,ck2⟩,cd,mcd,ecd⟩:=ck;have ok2:=T1 hb hw' ck1 ck2;have cv2:=hc.sub hw' ck1 ck2;have ms:=OH (bs:=dbl bs) hw' ck1 ck2 mcd ecd;clear ecd;subst hR;walk_at "hd";rename_i R hR
  suffices rest:R { nx:=λ _ M'=>Φ (.dat .none) M',rt:=Φ } [some (.dat (.tuple (bs.map bD))),some (.dat (bD b)),k2,some (.dat (.list (k0.map PyData.int))),some (.dat (.list (k1.map PyData.int))),some (.dat (.int w)),some (.dat (.list (ks.map PyData.int))),none,none] M' by
   rcases hw with ⟨rfl,rfl⟩ | ⟨rfl,rfl⟩
   ·walk_at "rk";exact rest
   ·walk_at "rk";exact rest
  subst hR;walk_at "h";rw [List.length_map];refine ⟨by unfold ZcN; decide,Yd idx ?_⟩;walk_at "h";refine ⟨⟨⟨hl,ok2.1,cv2.1⟩,by lia⟩,λ c1 h1 d1=>?_⟩;subst_vars;walk_at "rk";refine ⟨⟨⟨hl,ok2.2,cv2.2⟩,by lia⟩,λ c2 h2 d2=>?_⟩;exact h (.cut w a c1 c2) (Dv hw' ck1 ck2 h1 h2) (by rw [Od]; lia)
theorem Vd (T:Tx K mg):Qh P w K mg base CX0 32 T.KA T.K1 ["shape", "box"] (lift K Kr):=by
 refine okD T.J1.F YN (λ xs M Φ h=>by obtain ⟨_,_,rfl,_⟩:=Zp h; rfl) λ cdv A outer s H E hr=>⟨_,(Ze (Zl 2 YN.nd (cO T.Qx (QI T) hr (Za (Zb 1) (Za (Zb 0) Zd))))
 (Ze (QD (Mb (Zb 2)) (Zh (Zo (Zk (Za Qr (Za (Zi (WG hr rfl) rfl T.J6 QS (Za (Z6 false (Zx (sc:=Zf JY) (XN:=["shape", "box", "lacking"]) (N:=["piece"]) (ix:=[none]) rfl rfl (by walk_at "k")) (JB (Zb 2)) (λ C ex s H=>(Zr 0 (show List.Nodup (["piece"]:List Str) by walk_at "k"))) (λ C ex s H=>QC) (λ C ex s H=>(Zg (Zb 0) Zc)) rfl) Zd)) Zd))))) ZH)
 (Zh (Zo (Zk (Za Qr (Za (cO T.Jl (Uh T 25) hr (Za (Zb 0) (Za (Zb 1) Zd))) Zd))))))),λ xs M Φ h=>?_⟩
 replace h:=Zp h;obtain ⟨x1,x2,rfl,h⟩:=h;replace h:=Z0 h;obtain ⟨bs,rfl,h⟩:=h;replace h:=ZZ h;obtain ⟨b,rfl,⟨hs,hb⟩,h1,h2⟩:=h;walk_at "h";refine ⟨hs.2.1,?_⟩;have len:=J0 b bs hs.2.1;walk_at "h";refine JG (λ z=>?_) λ z=>?_
 ·refine ⟨by rw [List.length_map]; lia,λ i acc M'=>acc = (((ZM b bs).take i).map λ p=>(p.x,p.y)).map prD /\ M' = M,⟨rfl,rfl⟩,?_,?_⟩
  ·rintro i d acc M' hd ⟨rfl,rfl⟩;obtain ⟨p,ep,rfl⟩:=ZU hd;walk_at "rk";rw [<- take_snoc _ ep,List.map_append];rfl
  ·rintro acc M' ⟨rfl,rfl⟩;rw [List.length_map,List.take_length];refine ⟨_,rfl,?_,λ q hq lq=>h2 q.1 q.2 (E6 hb hs.2.2 q hq lq)⟩;rw [List.length_map];cases e:ZM b bs with
   | nil=>rw [e] at z; exact absurd z (by decide)
   | cons x xs=>exact Nat.succ_pos _
 ·have e:ZM b bs = []:=by
   cases e:ZM b bs with
   | nil=>rfl
   | cons x xs=>rw [e] at z; exact absurd rfl z
  have cv:=UG hb hs.2.2 e;have cn:=Zal (dbl bs) b;have dl:(dbl bs).length = bs.length + bs.length:=by
   unfold dbl;rw [List.length_append,List.length_map]
  have hs6:=hs.2.1;subst_vars;walk_at "rk";exact ⟨⟨⟨hs.2.1,hb,cv⟩,by lia⟩,h1 cv⟩
theorem R6 (T:Tx K mg):Qh P w K mg base CX0 1 T.ZaR T.ZaV ["_law_script", "_law_k"] (lift K MW):=by
 refine okD T.RF.F Ck (λ xs M Φ h=>by obtain ⟨_,_,rfl,_⟩:=Zp h; rfl) λ cdv A outer s H E hr=>⟨_,(Ze (Zl 2 Ck.nd Zc)
 (Ze (QD (ZI VE (Zi Ja rfl T.YB Q9 (Za (Zb 0) Zd)) Zc) (Zh (Zl 2 Ck.nd (Zg (Zb 0) (Zm JJ (Zb 1) (Zi Ja rfl T.YB Q9 (Za (Zb 0) Zd)))))) ZH)
 (Ze (QD (DW.dt (U8 (ZI Nk (Zb 1) (Zi Ja rfl T.YB Q9 (Za (Zb 0) Zd))) (XS (ZI RK (Zi YC rfl T.WJ Yw (Za (Zb 2) Zd)) (Zm ZaK Zc Zc))))) (Zh (Zo (Ql (Za (Zi YC rfl T.WJ Yw (Za (Zb 2) Zd)) (Za Zc (Za Zc Zd)))))) ZH)
 (Zh (Zo (Ql (Za Zc (Za (Zm JJ (Zm Zu (Zm Zu (Zm JJ (Zb 2) Zc) (Zm Vo Zc (Zb 1))) Zc) Zc) (Za Zc Zd))))))))),λ xs M Φ h=>?_⟩
 replace h:=Zp h;obtain ⟨x1,x2,rfl,h⟩:=h;replace h:=OD h;obtain ⟨ns,rfl,h⟩:=h;replace h:=Zw h;obtain ⟨k,rfl,h0,h⟩:=h;have fin:∀ c:Int,(0:Int) < 2147483587 /\ T3 40709 k /\ (0:Int) < 2147483587 /\ ∀ p,M p = none->Φ (.own p) (ZJ M p (.lst [.int 0,.int ((c % 2147483587 + 40709 * k + 31) % 2147483587),.int 0])):=
  λ c=>⟨by decide,.inl (by decide),by decide,λ p hp=>h p _ hp ⟨0,_,0,Int.le_refl 0,Bh _ (by decide),Int.le_refl 0,rfl⟩⟩
 walk_at "h";walk_at "h";rw [List.length_map];refine Zq (λ hl=>?_) (λ hl=>?_)
 ·have hm:=Bh k hl;obtain ⟨c,hc⟩:=O9 (ns:=ns) hm.1 hm.2;refine ⟨hl,Yd hc ?_⟩;walk_at "h";rw [List.length_map];refine Zq (λ h2=>⟨ZdB _ (by decide),Zq (λ h3=>λ p hp=>h p _ hp ⟨_,0,0,?_,⟨by decide,by decide⟩,Int.le_refl 0,rfl⟩) λ h3=>?_⟩) λ h2=>?_
  ·split <;> lia
  ·subst_vars;walk_at "rk";exact ⟨(fin c).2.1,(fin c).2.2.2⟩
  ·subst_vars;walk_at "rk";exact ⟨(fin c).2.1,(fin c).2.2.2⟩
 ·walk_at "h";rw [List.length_map];refine Zq (λ h2=>absurd h2 (by lia)) λ h2=>?_;subst_vars;walk_at "rk";exact ⟨(fin 5).2.1,(fin 5).2.2.2⟩
theorem Z7 (T:Tx K mg):Qh P w K mg base CX0 1 T.Mq T.Mh ["_law_pen_here", "_law_many"] (lift K Mf):=by
 refine okD T.Qw.F VU (λ xs M Φ h=>by obtain ⟨_,_,rfl,_⟩:=Zp h; rfl) λ cdv A outer s H E hr=>⟨_,(Ze (QD (ZI VE (Zg (Zb 0) Zc) Zc) (Ze (Zl 3 VU.nd (Zm JJ (Zg (Zb 0) Zc) (Zb 1)))
 (Ze (Eo (Zm Hr (Zg (Zb 0) Zc) (Zb 1)) (Mg (Zb 0) Zc))
 (Zh (Zo (Zb 3))))) ZH)
 (Ze (Eo (Zm Zu (Zg (Zb 0) Zc) Zc) (Mg (Zb 0) Zc))
 (Ze (Zl 2 VU.nd (Zm JJ (Zm Zu (Zm Zu (Zm Vo (Zg (Zb 0) Zc) Zc) (Zm Vo (Zg (Zb 0) Zc) Zc)) Zc) Zc))
 (Ze (Zl 2 VU.nd (Zm JJ (Zm Zu (Zm Vo (Zb 2) (Zb 2)) (Zg (Zb 0) Zc)) Zc))
 (Ze (Zl 2 VU.nd (Zm JJ (Zm Vo (Zb 2) (Zm Zu (Zm JJ (Zb 2) Zc) Zc)) Zc))
 (Zh (Zo (Zm JJ (Zm Di (Zb 2) Zc) (Zb 1))))))))),λ xs M Φ h=>?_⟩
 replace h:=Zp h;obtain ⟨x1,x2,rfl,h⟩:=h;replace h:=Qq h;obtain ⟨p,rfl,h⟩:=h;replace h:=Zw h;obtain ⟨m,rfl,⟨h0,h1⟩,hp,h⟩:=h;obtain ⟨a,b,c,⟨ha,hb,hc⟩,hp⟩:=hp.get;have lg:m.natAbs.log2 < 9000:=Nat.lt_of_lt_of_le (UE (k:=70) (by lia) (by decide)) (by decide);walk_at "h";simp only [hp];walk_at "rk";refine Zq (λ h2=>?_) λ h2=>?_
 ·exact ⟨h0,⟨h0,lg⟩,h _ _ (Bh a h0).1 (Bh a h0).2 (Fr.ZJ ⟨a / m,b,c,Int.ediv_nonneg ha (by lia),hb,hc,rfl⟩)⟩
 ·walk_at "h";simp only [hp];walk_at "rk";walk_at "h";refine ⟨.inr (by decide),.inr (by decide),?_⟩;walk_at "h";refine ⟨.inl (by lia),?_⟩;walk_at "h";refine ⟨.inl (by lia),?_⟩;subst_vars;walk_at "rk";refine ⟨⟨by decide,by decide⟩,h0,?_⟩;exact h _ _ (Bh _ h0).1 (Bh _ h0).2 (Fr.ZJ ⟨a,b,c + 1,ha,hb,by lia,rfl⟩)
theorem MN (T:Tx K mg):Qh P w K mg base CX0 2 T.RL T.S7 ["_law_pen_here", "_law_box_here"] (lift K MC):=by
 refine okD T.Rl.F YY (λ xs M Φ h=>by obtain ⟨_,_,rfl,_⟩:=Zp h; rfl) λ cdv A outer s H E hr=>⟨_,(Ze (Zl 2 YY.nd (Ql Zd))
 (Ze (Zl 3 YY.nd (Ql Zd))
 (Ze (QK rfl T.Z5 (Za Zc Zd) (Zr 4 YY.nd) (Ze (Zl 5 YY.nd (Zi (JF rfl) rfl T.YH Jx (Za Zc (Za (Zm ZY (Zg (Zg (Zb 1) Zc) (Zb 4)) Zc) Zd))))
 (Ze (Zl 6 YY.nd (Zm Zu (Zb 5) (cO T.Qw (Z7 T) hr (Za (Zb 0) (Za (Zm Zu (Zm ZY (Zi (Vn rfl) rfl T.J6 QS (Za Zc (Za (Zm Zu (Zg (Zg (Zb 1) Zc) (Zb 4)) Zc) Zd))) (Zb 5)) Zc) Zd)))))
 (Ze (Q5 (J4 (Zb 2) (Zi (JF rfl) rfl T.YH Jx (Za Zc (Za (Zm ZY (Zb 6) (Zg (Je (Za Zc (Za Zc (Za Zc (Za Zc (Za Zc Zd)))))) (cO T.Qw (Z7 T) hr (Za (Zb 0) (Za Zc Zd))))) Zd)))))
 (Zh (Q5 (J4 (Zb 3) (Zi (Vn rfl) rfl T.J6 QS (Za Zc (Za (Zm Zu (Zb 6) (Zg (Je (Za Zc (Za Zc (Za Zc (Za Zc (Za Zc Zd)))))) (cO T.Qw (Z7 T) hr (Za (Zb 0) (Za Zc Zd))))) Zd))))))))) PassesOwn.never rfl)
 (Zh (Zo (Zk (Za (Qa Jq rfl T.XC VJ (Za (Zb 2) Zd)) (Za (Qa Jq rfl T.XC VJ (Za (Zb 3) Zd)) Zd)))))))),λ xs M Φ h=>?_⟩
 replace h:=Zp h;obtain ⟨x1,x2,rfl,h⟩:=h;replace h:=Qq h;obtain ⟨p,rfl,h⟩:=h;replace h:=ZZ h;obtain ⟨b,rfl,hb,hp,h⟩:=h;have ok:=ZG.mp hb.1;have hb2:=hb.2;walk_at "h";intro q1 hq1;walk_at "h";intro q2 hq2;have n1:q1 ≠ p:=Ne.symm (hp.ne hq1);have n12:q2 ≠ q1:=fresh_ne hq2;have hq2':M q2 = none:=(ZC n12).symm.trans hq2;have n2:q2 ≠ p:=Ne.symm (hp.ne hq2');walk_at "h"
 refine ⟨⟨by decide,by decide⟩,λ j U M2=>∃ (k4 k5 k6:Option DV) (bs es:List Int),U = [some (.own p),some (.dat (bD b)),some (.own q1),some (.own q2),k4,k5,k6] /\ bs.length = j /\ es.length = j /\
  (∀ (i:Nat) (a b:Int),bs[i]? = some a->es[i]? = some b->0 <= a /\ a <= b /\ b <= 7) /\ M2 q1 = some (.lst (bs.map PyData.int)) /\ M2 q2 = some (.lst (es.map PyData.int)) /\ Fr p M M2,
  ⟨none,none,none,[],[],rfl,rfl,rfl,λ i a b ha=>(nomatch ha),by rw [ZC (Ne.symm n12),ZD]; rfl,ZD,Fr.new (Fr.new (Fr.refl hp) hq1 n1) hq2' n2⟩,?_,?_⟩
 ·rintro j U M2 hj ⟨k4,k5,k6,bs,es,rfl,l1,l2,hbs,h1,h2,hF⟩;obtain ⟨lo,hi,hlo,e1,e2⟩:=ZdZ (x:=b.x) (y:=b.y) (X:=b.X) (Y:=b.Y) hj;have hlo':0 <= lo /\ lo <= hi /\ hi <= 7:=by
   rcases hlo with ⟨rfl,rfl⟩ | ⟨rfl,rfl⟩ <;> omega
  walk_at "h";simp only [e1];walk_at "rk";walk_at "h";simp only [e2];walk_at "rk";refine ⟨by omega,hF.1,λ r M3 r0 r1 f3=>?_⟩;have g1:=f3.own h1 n1;have g2:=f3.own h2 n2;walk_at "h";simp only [g1];walk_at "rk";refine ⟨f3.1,λ r2 M4 a2 b2 f4=>tab (l:=[0,0,1,2,4]) (λ w=>0 <= w) a2 (by simp only [List.length_cons,List.length_nil]; omega) (by decide) λ w1 c1=>?_⟩;have g3:=f4.own g1 n1;have g4:=f4.own g2 n2;walk_at "rk";simp only [g3];walk_at "rk";refine ⟨by rw [List.length_map]; omega,?_⟩;subst_vars;walk_at "rk";simp only [ZC n12,g4];walk_at "rk";refine ⟨f4.1.put (Ne.symm n1),λ r3 M5 a3 b3 f5=>tab (l:=[0,1,1,2,4]) (λ w=>0 <= w) a3 (by simp only [List.length_cons,List.length_nil]; omega) (by decide) λ w2 c2=>?_⟩;have g5:=f5.own ZD n1;have g6:=f5.own ((ZC n12).trans g4) n2;walk_at "rk";simp only [g6];walk_at "rk";refine ⟨by rw [List.length_map]; omega,_,_,_,bs ++ [max 0 ((max 0 (lo - 1) + r) - w1)],es ++ [min 7 ((max 0 (lo - 1) + r) + w2)],rfl,by rw [List.length_append]; rfl,by rw [List.length_append,l2]; rfl,?_,?_,?_,?_⟩
  ·exact Lg (R:=λ a b=>0 <= a /\ a <= b /\ b <= 7) l2.symm hbs (by omega)
  ·rw [ZC (Ne.symm n12),g5,List.map_append];rfl
  ·rw [List.map_append];rfl
  ·exact Fr.new ((Fr.new ((hF.trans f3).trans f4) hq1 n1).trans f5) hq2' n2
 ·rintro U M2 ⟨k4,k5,k6,bs,es,rfl,l1,l2,hbs,h1,h2,hF⟩;subst_vars;walk_at "rk";obtain ⟨a,b,rfl⟩:=DN l1;obtain ⟨c,d,rfl⟩:=DN l2;have k0:=hbs 0 a c rfl rfl;have k1:=hbs 1 b d rfl rfl;simp only [h1,h2];walk_at "rk";exact h ⟨a,b,c,d⟩ M2 ⟨ZG.mpr (by dsimp only; omega),by dsimp only; omega⟩ hF
theorem LH (T:Tx K mg):Qh P w K mg base CX0 3 T.B0 T.Ct ["_law_pen_here"] (lift K Gk):=by
 refine okD T.o_shape.F Qf (λ xs M Φ h=>by obtain ⟨_,rfl,_⟩:=Qm h; rfl) λ cdv A outer s H E hr=>⟨_,(Ze (Zl 1 Qf.nd (cO T.Qw (Z7 T) hr (Za (Zb 0) (Za Zc Zd))))
 (Ze (QD (ZI (Js hr) (Zb 1) Zc) (Ze (Zl 4 Qf.nd (cO T.Qw (Z7 T) hr (Za (Zb 0) (Za Zc Zd))))
 (Ze (Zl 5 Qf.nd (cO T.Qw (Z7 T) hr (Za (Zb 0) (Za Zc Zd))))
 (Ze (Zl 6 Qf.nd (Zm Zu Zc (cO T.Qw (Z7 T) hr (Za (Zb 0) (Za Zc Zd)))))
 (Ze (Zl 2 Qf.nd (Ql (Za (Zk (Za (Zk (Za (Zb 4) (Za (Zb 5) Zd))) (Za (Zk (Za (Zm Zu (Zb 4) (Zb 6)) (Za (Zb 5) Zd))) Zd))) (Za (Zk (Za (Zk (Za (Zm Zu (Zb 4) (Zb 6)) (Za (Zb 5) Zd))) (Za (Zk (Za (Zm Zu (Zb 4) (Zb 6)) (Za (Zm Zu (Zb 5) (Zb 6)) Zd))) Zd))) (Za (Zk (Za (Zk (Za (Zb 4) (Za (Zm Zu (Zb 5) (Zb 6)) Zd))) (Za (Zk (Za (Zm Zu (Zb 4) (Zb 6)) (Za (Zm Zu (Zb 5) (Zb 6)) Zd))) Zd))) Zd)))))
 (Zh (Zo (Qa Jq rfl T.XC VJ (Za (Zm Py (Zb 2) (Je (Za (Zk (Za (Zk (Za (Zb 4) (Za (Zb 5) Zd))) (Za (Zk (Za (Zb 4) (Za (Zm Zu (Zb 5) (Zb 6)) Zd))) Zd))) Zd))) Zd)))))))) ZH)
 (Ze (Zl 2 Qf.nd (Ql (Za (cO T.Rl (MN T) hr (Za (Zb 0) (Za (Zk (Za (Zk (Za Zc (Za Zc Zd))) (Za (Zk (Za Zc (Za Zc Zd))) Zd))) Zd))) Zd)))
 (Ze (QD (ZI (Js hr) (Zb 1) Zc) (Ze (Eo (Zg (Zb 2) Zc) (L7 (n:=2) rfl (VH (Zr 7 Qf.nd) (VH (Zr 8 Qf.nd) Dk))))
 (Zh (Zo (Zk (Za (Zg (Zb 2) Zc) (Za (Zk (Za (Zk (Za (Zi (Vn rfl) rfl T.J6 QS (Za Zc (Za (Zm Zu (Zg (Zb 8) Zc) Zc) Zd))) (Za (Zg (Zb 7) Zc) Zd))) (Za (Zk (Za Zc (Za (Zg (Zb 8) Zc) Zd))) Zd))) Zd)))))) ZH)
 (Ze (QK rfl T.Z5 (Za (Zg (Je (Za Zc (Za Zc (Za Zc (Za Zc (Za Zc (Za Zc Zd))))))) (cO T.Qw (Z7 T) hr (Za (Zb 0) (Za Zc Zd)))) Zd) (Zr 3 Qf.nd) (Zh (Q5 (J4 (Zb 2) (cO T.Rl (MN T) hr (Za (Zb 0) (Za (Zg (Zb 2) (L0 Zc)) Zd)))))) PassesOwn.never rfl)
 (Zh (Zo (Qa Jq rfl T.XC VJ (Za (Zb 2) Zd))))))))),λ xs M Φ h=>?_⟩
 replace h:=Qm h;obtain ⟨x1,rfl,h⟩:=h;replace h:=Qq h;obtain ⟨p,rfl,hp,h⟩:=h;walk_at "h";refine ⟨hp,λ r1 M1 a1 b1 f1=>?_⟩;walk_at "h";refine Zq (λ h0=>?_) λ h0=>?_
 ·refine ⟨f1.1,λ x M2 x0 x1 f2=>⟨f2.1,λ y M3 y0 y1 f3=>⟨f3.1,λ r M4 r0 r1 f4 q hq=>?_⟩⟩⟩;walk_at "rk";refine h [⟨x,y,x + (2 + r),y⟩,⟨x + (2 + r),y,x + (2 + r),y + (2 + r)⟩,⟨x,y + (2 + r),x + (2 + r),y + (2 + r)⟩,⟨x,y,x,y + (2 + r)⟩] _ ⟨by simp,by simp,Sl λ b hb=>?_⟩ (f4.1.put (f4.1.ne hq));simp only [List.mem_cons,List.not_mem_nil,or_false] at hb
  rcases hb with rfl | rfl | rfl | rfl
  all_goals (dsimp only; lia)
 walk_at "h";refine ⟨⟨rfl,by decide,by decide⟩,f1.1,λ b M2 hb f2 q hq=>?_⟩;have n1:p ≠ q:=f2.1.ne hq;walk_at "h";have ok:=ZG.mp hb.1;have hb2:=hb.2;refine Zq (λ h1=>?_) λ h1=>?_
 ·refine h [b,⟨min 7 (b.X + 1),b.y,7,b.Y⟩] _ ⟨by simp,by simp,Sl λ c hc=>?_⟩ (f2.1.put n1);simp only [List.mem_cons,List.not_mem_nil,or_false] at hc
  rcases hc with rfl | rfl
  ·exact ⟨ok.1,ok.2,hb2⟩
  ·dsimp only;lia
 ·walk_at "h";refine ⟨f2.1.put n1,λ r2 M3 a2 b2 f3=>tab (l:=[0,1,1,2,2,5]) (λ w=>0 <= w /\ w <= 5) a2 (by simp only [List.length_cons,List.length_nil]; lia) (by decide) λ m hm=>?_⟩;walk_at "rk"
  refine ⟨⟨by lia,by lia⟩,λ i U M'=>∃ (cs:List B4) (b:B4) (k3 k4 k5 k6 k7 k8:Option DV),U = [some (.own p),some (.dat (.int r1)),some (.own q),k3,k4,k5,k6,k7,k8] /\ cs.length = i /\ (∀ c ∈ cs ++ [b],Bo c) /\ M' q = some (.lst (cs.map bD ++ [bD b])) /\ Pen M' p,
    ⟨[],b,_,_,_,_,_,_,rfl,rfl,λ c hc=>by rw [List.mem_singleton.mp hc]; exact hb,f3.own ZD (Ne.symm n1),f3.1⟩,?_,?_⟩
  ·rintro i U M' hi ⟨cs,b,k3,k4,k5,k6,k7,k8,rfl,hl,hcs,hq',hP⟩;walk_at "rk";simp only [hq'];walk_at "rk";refine ⟨hcs b (List.mem_append_right _ (List.mem_singleton.mpr rfl)),hP,λ c' M4 hc' f4=>?_⟩;simp only [f4.own hq' (Ne.symm n1)];walk_at "rk";refine ⟨by rw [List.length_append,List.length_map,List.length_singleton]; lia,cs ++ [b],c',_,_,_,_,_,_,rfl,by rw [List.length_append,hl]; rfl,λ z hz=>?_,by rw [List.map_append]; rfl,f4.1.put n1⟩
   rcases List.mem_append.mp hz with hz | hz
   ·exact hcs z hz
   ·rw [List.mem_singleton.mp hz];exact hc'
  ·rintro U M' ⟨cs,b,k3,k4,k5,k6,k7,k8,rfl,hl,hcs,hq',hP⟩;subst_vars;walk_at "rk";simp only [hq'];walk_at "rk";rw [show cs.map bD ++ [bD b] = (cs ++ [b]).map bD by rw [List.map_append]; rfl];exact h _ _ ⟨by rw [List.length_append,List.length_singleton]; lia,by rw [List.length_append,List.length_singleton]; lia,hcs⟩ hP
theorem W7 (T:Tx K mg):Qh P w K mg base CX0 1 T.Y4 T.YZ ["box"] (lift K X0):=by
 refine okD T.YV.F WU (λ xs M Φ h=>by obtain ⟨_,rfl,_⟩:=Qm h; rfl) λ cdv A outer s H E hr=>⟨_,(Zh (Zo (Zm Vo (Zm Zu (Zm ZY (Zg (Zg (Zb 0) Zc) Zc) (Zg (Zg (Zb 0) Zc) Zc)) Zc) (Zm Zu (Zm ZY (Zg (Zg (Zb 0) Zc) Zc) (Zg (Zg (Zb 0) Zc) Zc)) Zc)))),λ xs M Φ h=>?_⟩;replace h:=Qm h;obtain ⟨x1,rfl,h⟩:=h;replace h:=ZZ h;obtain ⟨b,rfl,hb,h⟩:=h;have ok:=ZG.mp hb.1;have hb2:=hb.2;walk_at "rk";exact ⟨.inl (by lia),h⟩
theorem OY (T:Tx K mg):Qh P w K mg base CX0 5 T.Me T.Mm ["shape"] (lift K L9):=by
 refine okD T.MH.F Xx (λ xs M Φ h=>by obtain ⟨_,rfl,_⟩:=Qm h; rfl) λ cdv A outer s H E hr=>⟨_,(Ze (Zl 1 Xx.nd Zc)
 (Ze (QK rfl T.Z5 (Za (Zi Ja rfl T.YB Q9 (Za (Zb 0) Zd)) Zd) (Zr 2 Xx.nd) (Zh (RO 1 Xx.nd (Zi (ZaS rfl) rfl T.ZbK S6 (Za (Z6 false (Zx (sc:=Zf Uw) (XN:=["shape", "total", "k"]) (N:=["piece"]) (ix:=[none]) rfl rfl (by walk_at "k")) (JB (cO T.Qx (QI T) hr (Za (Zg (Zb 0) (Zb 2)) (Za (GH (Zb 0) Nz (O4 (Zb 2))) Zd)))) (λ C ex s H=>(Zr 0 (show List.Nodup (["piece"]:List Str) by walk_at "k"))) (λ C ex s H=>QC) (λ C ex s H=>(cO T.YV (W7 T) hr (Za (Zb 0) Zd))) rfl) Zd)) Tb)) PassesOwn.never rfl)
 (Zh (Zo (Zb 1))))),λ xs M Φ h=>?_⟩
 replace h:=Qm h;obtain ⟨x1,rfl,h⟩:=h;replace h:=Z0 h;obtain ⟨bs,rfl,hs,h⟩:=h;walk_at "h";walk_at "h";have l6:=hs.2.1;rw [List.length_map];refine ⟨⟨by lia,by lia⟩,λ i U M'=>∃ k2,U = [some (.dat (.tuple (bs.map bD))),some (.dat (.int (JT bs i))),k2] /\ M' = M,⟨none,rfl,rfl⟩,?_,?_⟩
 ·rintro i U M' hi ⟨k2,rfl,rfl⟩;have hi':i < bs.length:=by lia
  obtain ⟨b,eb⟩:∃ b,bs[i]? = some b:=⟨bs[i],by simp [hi']⟩
  have hb:=hs.2.2 b (List.mem_of_getElem? eb);have len:=J0 b (bs.take i) (by rw [List.length_take]; lia);walk_at "rk";refine Yd (d:=bD b) (YA (by rw [List.getElem?_map,eb]; rfl)) ?_;rw [BD (by rw [List.length_map]; lia),<- List.map_take];walk_at "rk";refine ⟨by rw [List.length_take]; lia,by rw [List.length_map]; lia,λ j acc M2=>acc = (((ZM b (bs.take i)).take j).map VY).map PyData.int /\ M2 = M',⟨rfl,rfl⟩,?_,?_⟩
  ·rintro j d acc M2 hd ⟨rfl,rfl⟩;obtain ⟨p,ep,rfl⟩:=ZU hd;walk_at "rk";refine ⟨hb.sub (Jh hb.1 (List.mem_of_getElem? ep)),?_⟩;rw [<- take_snoc _ ep,List.map_append];rfl
  ·rintro acc M2 ⟨rfl,rfl⟩;refine ⟨_,.inl rfl,some (.dat (.int i)),?_,rfl⟩;rw [List.length_map,List.take_length];unfold JT;rw [List.range_succ,List.map_append,List.sum_append,List.map_singleton,List.sum_singleton,List.getD_eq_getElem?_getD,eb];rfl
 ·rintro U M' ⟨k2,rfl,rfl⟩;subst_vars;walk_at "rk";exact h
theorem BW (T:Tx K mg):Qh P w K mg base CX0 33 T.UA T.UM ["one", "other"] (lift K Gd):=by
 refine okD T.Gf.F V6 (λ xs M Φ h=>by obtain ⟨_,_,rfl,_⟩:=Zp h; rfl) λ cdv A outer s H E hr=>⟨_,(Ze (Gm 2 false V6.nd (Zx (sc:=Zf Jp) (XN:=["one", "other", "answers", "lacking"]) (N:=["box", "other"]) (ix:=[none,some 1]) rfl rfl (by walk_at "k")) (VR (Zb 0)) (λ C ex s H=>(Zr 0 (show List.Nodup (["box", "other"]:List Str) by walk_at "k"))) (λ C ex s H=>QC) (λ C ex s H=>(cO T.J1 (Vd T) hr (Za (Zb 1) (Za (Zb 0) Zd)))) rfl)
 (Ze (Gm 3 false V6.nd (Zx (sc:=Zf Jp) (XN:=["one", "other", "answers", "lacking"]) (N:=["answer"]) (ix:=[none]) rfl rfl (by walk_at "k")) (JB (Zb 2)) (λ C ex s H=>(Zr 0 (show List.Nodup (["answer"]:List Str) by walk_at "k"))) (λ C ex s H=>(JE (ZI (Js hr) (Zg (Zb 0) Zc) Qr))) (λ C ex s H=>(Zg (Zb 0) Zc)) rfl)
 (Ze (QD (Mb (Zb 3)) (Zh (Zo (Zk (Za Qr (Za (Zi (WG hr rfl) rfl T.J6 QS (Za (Zb 3) Zd)) Zd))))) ZH)
 (Zh (Zo (Zk (Za Qr (Za (FD false (Zx (sc:=Zf Jp) (XN:=["one", "other", "answers", "lacking"]) (N:=["answer"]) (ix:=[none]) rfl rfl (by walk_at "k")) (JB (Zb 2)) (λ C ex s H=>(Zr 0 (show List.Nodup (["answer"]:List Str) by walk_at "k"))) (λ C ex s H=>QC) (λ C ex s H=>(Zg (Zb 0) Zc)) rfl) Zd)))))))),λ xs M Φ h=>?_⟩
 replace h:=Zp h;obtain ⟨x1,x2,rfl,h⟩:=h;replace h:=N6 h;obtain ⟨b,rfl,h⟩:=h;replace h:=Z0 h;obtain ⟨bs,rfl,⟨hs,hb⟩,hy,hn⟩:=h;walk_at "h";refine ⟨⟨hs,hb⟩,λ hc c h1 h2=>?_,λ u v hl=>?_⟩
 ·walk_at "h";rw [if_neg (by walk_at "k")];walk_at "h";rw [if_neg (by decide)];subst_vars;walk_at "rk";exact hy hc c
 ·walk_at "h";walk_at "h";rw [show (![PyData.tuple [PyData.int u,PyData.int v]].isEmpty) = true from rfl,if_pos rfl];refine ⟨[(u,v)],rfl,Nat.one_pos,λ q hq _=>?_⟩;rw [List.mem_singleton.mp hq];exact hn u v hl
theorem EU (T:Tx K mg):Qh P w K mg base CX0 1 T.CL T.EE ["_law_low", "_law_high"] (lift K Eu):=by
 refine okD T.C8.F Xj (λ xs M Φ h=>by obtain ⟨_,_,rfl,_⟩:=Zp h; rfl) λ cdv A outer s H E hr=>⟨_,(Ze (Zl 2 Xj.nd (Nj 0 Zd))
 (Ze (VL rfl T.Z5 (Za (Zb 0) (Za (Zm Zu (Zb 1) Zc) Zd)) (Zr 3 Xj.nd) (Zh (Q5 (G6 (Zb 2) (HI 0 (Zx (sc:=Zf XI) (XN:=["_law_low", "_law_high", "_law_found", "_law_x"]) (N:=["_law_y", "_law_x"]) (ix:=[none,some 3]) rfl rfl (by walk_at "k")) (Kh rfl T.Z5 (Za (Zb 0) (Za (Zm Zu (Zb 1) Zc) Zd))) (λ C ex s H=>(Zr 0 (show List.Nodup (["_law_y", "_law_x"]:List Str) by walk_at "k"))) (λ C ex s H=>QC) (λ C ex s H=>(O6 (Za (Zb 1) (Za (Zb 0) Zd)))) rfl)))) PassesOwn.never rfl)
 (Zh (Zo (Zb 2))))),λ xs M Φ h=>?_⟩
 replace h:=Zp h;obtain ⟨x1,x2,rfl,h⟩:=h;replace h:=Zw h;obtain ⟨a,rfl,h⟩:=h;replace h:=Zw h;obtain ⟨b,rfl,⟨rfl,rfl⟩,h⟩:=h;walk_at "h";refine ⟨rfl,λ p hp=>?_⟩;walk_at "h";refine ⟨⟨⟨by decide,by decide⟩,by decide,by decide⟩,λ i U M'=>∃ k3,U = [some (.dat (.int (-2))),some (.dat (.int 9)),some (.own p),k3] /\ M' p = some (.lsv 0 ((Qb i).map λ q=>kDV (pK q))) /\ ∀ c,M c ≠ none->M' c = M c,⟨none,rfl,ZD,λ c hc=>ZC λ z=>hc (by rw [z]; exact hp)⟩,?_,?_⟩
 ·rintro i U M' hi ⟨k3,rfl,hp',hk⟩;have hi:i < 12:=hi;walk_at "rk";simp only [hp'];walk_at "rk";refine ⟨⟨⟨by decide,by decide⟩,by decide,by decide⟩,by rw [JM]; decide,λ j acc M2=>acc = (EL j i).map (λ q=>kDV (pK q)) /\ M2 = M',⟨rfl,rfl⟩,?_,?_⟩
  ·rintro j d acc M2 hd ⟨rfl,rfl⟩;obtain ⟨hj,rfl⟩:=Um hd;walk_at "rk";refine ⟨rfl,?_⟩;rw [F8,List.map_append];rfl
  ·rintro acc M2 ⟨rfl,rfl⟩ p1 hp1;rw [JM];have n1:p ≠ p1:=λ z=>by rw [z,hp1] at hp'; cases hp'
   rw [ZC n1,hp'];walk_at "rk";refine ⟨by rw [List.length_map,List.length_map,XD,Eg]; lia,_,rfl,by rw [Wb,List.map_append],λ c hc=>?_⟩;rw [ZC λ z=>hc (by rw [z]; exact hp),ZC λ z=>hc (by rw [<- hk c hc,z]; exact hp1)];exact hk c hc
 ·rintro U M' ⟨k3,rfl,hp',hk⟩;subst_vars;walk_at "rk";exact h p M' hp hk hp'
theorem D5 (T:Tx K mg):Qh P w K mg base CX0 1 T.RC T.ZaF ["_law_shape_here", "_law_spot"] (lift K T7):=by
 refine okD T.ER.F ZaH (λ xs M Φ h=>by obtain ⟨_,_,rfl,_⟩:=Zp h; rfl) λ cdv A outer s H E hr=>⟨_,(Zh (Zo (Qi VE (Zi Ja rfl T.YB Q9 (Za (Z6 false (Zx (sc:=Zf Le) (XN:=["_law_shape_here", "_law_spot"]) (N:=["_law_low", "_law_high", "_law_spot"]) (ix:=[none,none,some 1]) rfl rfl (by walk_at "k")) (VR (Zb 0)) (λ C ex s H=>(L7 (n:=2) rfl (VH (Zr 0 (show List.Nodup (["_law_low", "_law_high", "_law_spot"]:List Str) by walk_at "k")) (VH (Zr 1 (show List.Nodup (["_law_low", "_law_high", "_law_spot"]:List Str) by walk_at "k")) Dk)))) (λ C ex s H=>(JE (DW.dt (U8 (Xp WB WB (Zg (Zb 0) Zc) (Zg (Zb 2) Zc) (Zg (Zb 1) Zc)) (XS (Xp WB WB (Zg (Zb 0) Zc) (Zg (Zb 2) Zc) (Zg (Zb 1) Zc))))))) (λ C ex s H=>Zc) rfl) Zd)) Zc))),λ xs M Φ h=>?_⟩;replace h:=Zp h;obtain ⟨x1,x2,rfl,h⟩:=h;replace h:=Z0 h;obtain ⟨bs,rfl,h⟩:=h;replace h:=QA h;obtain ⟨u,v,rfl,hl,h⟩:=h;walk_at "rk";refine ⟨by rw [List.length_map]; lia,λ i acc M'=>acc = ((bs.take i).filter λ b=>hasB b u v).map (λ _=>PyData.int 1) /\ M' = M,⟨rfl,rfl⟩,?_,?_⟩
 ·rintro i d acc M' hd ⟨rfl,rfl⟩;obtain ⟨b,eb,rfl⟩:=ZU hd;have flt:=Qz (λ b=>hasB b u v) eb;have no:¬ (b.x <= u /\ u <= b.X /\ b.y <= v /\ v <= b.Y)->((bs.take i).filter λ b=>hasB b u v).map (λ _=>PyData.int 1) = ((bs.take (i + 1)).filter λ b=>hasB b u v).map (λ _=>PyData.int 1):=λ z=>by
   rw [flt,if_neg (λ y=>z (Zj.mp y)),List.append_nil]
  walk_at "rk";refine Zq (λ c1=>?_) λ c1=>no (λ z=>c1 z.1);refine Zq (λ c2=>?_) λ c2=>no (λ z=>c2 z.2.1);refine Zq (λ c3=>?_) λ c3=>no (λ z=>c3 z.2.2.1);refine Zq (λ c4=>?_) λ c4=>no (λ z=>c4 z.2.2.2);rw [flt,if_pos (Zj.mpr ⟨c1,c2,c3,c4⟩),List.map_append];rfl
 ·rintro acc M' ⟨rfl,rfl⟩;rw [List.length_map,List.length_map,List.take_length,OE];exact h
theorem LF (T:Tx K mg):Qh P w K mg base CX0 1 T.Dd T.BZ ["_law_depths", "_law_spot"] (lift K Eh):=by
 refine okD T.DU.F J2 (λ xs M Φ h=>by obtain ⟨_,_,rfl,_⟩:=Zp h; rfl) λ cdv A outer s H E hr=>⟨_,(Ze (Zl 2 J2.nd (Yf hr (Zb 0) (Zb 1)))
 (Ze (Zl 3 J2.nd (Ql Zd))
 (Ze (VL rfl T.Z5 (Za (Zm ZY (Zg (Zb 1) Zc) Zc) (Za (Zm Zu (Zg (Zb 1) Zc) Zc) Zd)) (Zr 4 J2.nd) (Zh (VL rfl T.Z5 (Za (Zm ZY (Zg (Zb 1) Zc) Zc) (Za (Zm Zu (Zg (Zb 1) Zc) Zc) Zd)) (Zr 5 J2.nd) (Zh (QD (DW.dt (U8 (ZI (Yk hr) (Zk (Za (Zb 4) (Za (Zb 5) Zd))) (Zb 1)) (XS (ZI (Zaj hr) (Zk (Za (Zb 4) (Za (Zb 5) Zd))) (Zb 0))))) (Zh (Q5 (J4 (Zb 3) (Zm Vo (Zi YC rfl T.WJ Yw (Za (Yf hr (Zb 0) (Zk (Za (Zb 4) (Za (Zb 5) Zd)))) Zd)) (Qa Gu rfl T.Fv Up (Za (Qi (Js hr) (Qi VE (Yf hr (Zb 0) (Zk (Za (Zb 4) (Za (Zb 5) Zd)))) Zc) (Qi VE (Zb 2) Zc)) Zd)))))) ZH)) PassesOwn.never rfl)) PassesOwn.never rfl)
 (Zh (Zo (Qi (Js hr) (Zi YC rfl T.WJ Yw (Za (Zb 2) Zd)) (Zm Zu Zc (Zi (Xa rfl) rfl T.J6 QS (Za (Zb 3) Zd))))))))),λ xs M Φ h=>?_⟩
 replace h:=Zp h;obtain ⟨x1,x2,rfl,h⟩:=h;replace h:=QA h;obtain ⟨u,v,rfl,h⟩:=h;replace h:=NU h;obtain ⟨l,o,bs,rfl,hl,⟨hs,hi⟩,h⟩:=h;have hd:=G4 hs u v;have i1:=hi.1;have i2:=hi.2;walk_at "h";rw [hl];walk_at "rk";refine ⟨kP u v,_,rfl,Vi bs (q:=(u,v)) (VN.mpr hi),?_⟩;generalize dp bs u v = e at *;walk_at "h";intro q hq;have nq:l ≠ q:=λ z=>by rw [z,hq] at hl; cases hl
 walk_at "h"
 refine ⟨⟨⟨by lia,by lia⟩,by lia,by lia⟩,λ a U M2=>∃ (k4 k5:Option DV) (ns:List Int),U = [some (.own l),some (.dat (.tuple [.int u,.int v])),some (.dat (.int e)),some (.own q),k4,k5] /\ M2 = ZJ M q (.lst (ns.map PyData.int)) /\ ns.length <= 3 * a /\ (∀ n ∈ ns,ab e <= 1 + n) /\
  ∀ x y,(u - 1 <= x /\ x < u - 1 + (a:Int))->(v - 1 <= y /\ y <= v + 1)->¬ (x = u /\ y = v)->Bn x y->nv e (dp bs x y) ∈ ns,⟨none,none,[],rfl,rfl,Nat.zero_le _,⟨λ n hn=>(nomatch hn),λ x y hx=>by lia⟩⟩,?_,?_⟩
 ·rintro a U M2 ha ⟨k4,k5,ns,rfl,rfl,hn,hle,hin⟩;walk_at "rk"
  refine ⟨⟨⟨by lia,by lia⟩,by lia,by lia⟩,λ b U M2=>∃ (k5:Option DV) (ns:List Int),U = [some (.own l),some (.dat (.tuple [.int u,.int v])),some (.dat (.int e)),some (.own q),some (.dat (.int (u - 1 + (a:Int)))),k5] /\ M2 = ZJ M q (.lst (ns.map PyData.int)) /\ ns.length <= 3 * a + b /\ (∀ n ∈ ns,ab e <= 1 + n) /\
   ∀ x y,(u - 1 <= x /\ x < u - 1 + (a:Int)) /\ (v - 1 <= y /\ y <= v + 1) \/ x = u - 1 + (a:Int) /\ (v - 1 <= y /\ y < v - 1 + (b:Int))->¬ (x = u /\ y = v)->Bn x y->nv e (dp bs x y) ∈ ns,⟨k5,ns,rfl,rfl,hn,hle,λ x y hx=>?_⟩,?_,?_⟩
  ·exact hin x y (by lia) (by lia)
  ·rintro b U M2 hb ⟨k5,ns,rfl,rfl,hn,hle,hin⟩;walk_at "rk";have skip:(u - 1 + (a:Int) = u /\ v - 1 + (b:Int) = v) \/ ¬ Bn (u - 1 + (a:Int)) (v - 1 + (b:Int))->∀ x y,(u - 1 <= x /\ x < u - 1 + (a:Int)) /\ (v - 1 <= y /\ y <= v + 1) \/ x = u - 1 + (a:Int) /\ (v - 1 <= y /\ y < v - 1 + ((b + 1:Nat):Int))->¬ (x = u /\ y = v)->Bn x y->nv e (dp bs x y) ∈ ns:=λ z x y hx h1 h2=>by
    by_cases c:x = u - 1 + (a:Int) /\ y = v - 1 + (b:Int)
    ·obtain ⟨rfl,rfl⟩:=c
     rcases z with z | z
     ·exact absurd z h1
     ·exact absurd h2 z
    ·exact hin x y (by lia) h1 h2
   have tm:Fy (List.map (λ x=>x.1) (YD bs (Qb 12))) (kP (u - 1 + (a:Int)) (v - 1 + (b:Int))) = decide ((u - 1 + (a:Int),v - 1 + (b:Int)) ∈ Qb 12):=Ny bs (_,_) _;refine Ex ?_
   by_cases c:u - 1 + (a:Int) = u /\ v - 1 + (b:Int) = v
   ·rw [decide_eq_true c,if_neg (by decide)];exact ⟨_,ns,rfl,rfl,by lia,hle,skip (.inl c)⟩
   ·rw [decide_eq_false c,if_pos (show (!false) = true from rfl)];simp only [ZC nq,hl];walk_at "rk";rw [tm];refine Zq (λ z=>?_) λ z=>⟨_,ns,rfl,rfl,by lia,hle,skip (.inr λ y=>z (VN.mpr y))⟩;refine ⟨kP _ _,_,rfl,Vi bs z,?_⟩;walk_at "rk";refine ⟨kP _ _,_,rfl,Vi bs z,?_⟩;walk_at "rk";rw [ZcS];refine ⟨.inr (by split <;> decide),by rw [List.length_map]; lia,_,ns ++ [nv e (dp bs (u - 1 + (a:Int)) (v - 1 + (b:Int)))],rfl,by rw [List.map_append]; rfl,by rw [List.length_append,List.length_singleton]; lia,λ n hn=>?_,λ x y hx h1 h2=>?_⟩
    ·rcases List.mem_append.mp hn with hn | hn
     ·exact hle n hn
     ·rw [List.mem_singleton.mp hn];exact NV hd (G4 hs _ _) (ZA.mpr (by lia))
    ·by_cases c:x = u - 1 + (a:Int) /\ y = v - 1 + (b:Int)
     ·obtain ⟨rfl,rfl⟩:=c;exact List.mem_append_right _ (List.mem_singleton.mpr rfl)
     ·exact List.mem_append_left _ (hin x y (by lia) h1 h2)
  ·rintro U M2 ⟨k5,ns,rfl,rfl,hn,hle,hin⟩;exact ⟨_,_,ns,rfl,rfl,by lia,hle,λ x y hx hy=>hin x y (by lia)⟩
 ·rintro U M2 ⟨k4,k5,ns,rfl,rfl,hn,hle,hin⟩;obtain ⟨x,y,c,ne,i,key⟩:=NL hd hi λ x y=>hs.inn;have c:=ZA.mp c;have m:=hin x y (by lia) (by lia) ne i;have k1:=key _ (G4 hs x y);subst_vars;walk_at "rk";refine ⟨ns,.inr ⟨q,rfl,ZD⟩,List.length_pos_of_mem m,λ m' hm hmin=>?_⟩;have k2:=hle m' hm;have k3:=hmin _ m;rw [show (if e < 0 then -e else e) = ab e from rfl,decide_eq_true (show ab e = 1 + m' by lia)];exact h _ λ c hc=>ZC λ z=>hc (by rw [z]; exact hq)
theorem DC (T:Tx K mg):Qh P w K mg base CX0 33 T.UP T.Ul ["_law_shape_here", "_law_spot", "_law_here"] (lift K Uj):=by
 refine okD T.U4.F Q3 (λ xs M Φ h=>by obtain ⟨_,_,_,rfl,_⟩:=QR h; rfl) λ cdv A outer s H E hr=>⟨_,(Ze (Zl 3 Q3.nd (cO T.Q4 (Jj T) hr (Za (Zb 0) (Za (Zb 1) Zd))))
 (Ze (QD (DW.dt (GU (Kz (Ju (Zi (Tc (FK _)) rfl T.KH Xm (Za (Zb 3) (Za (ZbL rfl T.Zar Pl) Zd))))) (GU (ZI (Yk hr) (Zb 3) (Qi VE (Zb 2) Zc)) (K6 (ZI (Yk hr) (cO T.WC (UO T) hr (Za (Zb 0) (Za (Zb 1) Zd))) (Zb 2)))))) (Zh (Zo YF)) ZH)
 (Ze (Zl 4 Q3.nd (cO T.Kw (GB T) hr (Za (Zb 0) (Za (Zb 1) Zd))))
 (Ze (QD (DW.dt (GU (ZI (Yk hr) (cO T.o_steps (Lq T) hr (Za (Zb 1) (Za (Zb 4) Zd))) (Zi YC rfl T.WJ Yw (Za (Zb 2) Zd))) (K6 (ZI (Js hr) (cO T.Q4 (Jj T) hr (Za (Zb 0) (Za (Zb 4) Zd))) (Qi VE (Zb 2) Zc))))) (Zh (Zo YF)) ZH)
 (Ze (QK rfl T.Z5 (Za Zc Zd) (Zr 5 Q3.nd) (Ze (Zl 6 Q3.nd (Zg (Je (Za Qr (Za Qr (Za Qr Zd)))) (Zm Zu (Qa Gu rfl T.Fv Up (Za (Qi VE (Zb 2) (Zb 5)) Zd)) (Zm Vo Zc (Qa Gu rfl T.Fv Up (Za (Qi Nk (Zb 2) (Zm ZY Zc (Zb 5))) Zd))))))
 (Zh (QD (DW.dt (GU (ZI (Yk hr) (cO T.MV (N5 T) hr (Za (Zb 0) (Za (Zb 5) (Za (Zb 1) Zd)))) (Zb 6)) (K6 (ZI (Yk hr) (Qi (Js hr) (Zg (cO T.J1 (Vd T) hr (Za (Zb 0) (Za (cO T.VQ (VS T) hr (Za (Zb 1) (Za (Zb 5) Zd))) Zd))) Zc) Qr) (Qi VE (Zb 2) (Zb 5)))))) (Zh (Zo YF)) ZH))) PassesOwn.never rfl)
 (Zh (Zo YF))))))),λ xs M Φ h=>?_⟩
 replace h:=QR h;obtain ⟨x1,x2,x3,rfl,h⟩:=h;replace h:=Z0 h;obtain ⟨bs,rfl,h⟩:=h;replace h:=QA h;obtain ⟨u,v,rfl,h⟩:=h;replace h:=Zw h;obtain ⟨d,rfl,⟨hs,hd⟩,h⟩:=h;walk_at "h";refine ⟨hs.2.1,?_⟩;walk_at "h";rw [if_neg (by rw [show anyB bs u v = decide (0 < d) from hd.sg]; simp)];refine ⟨hs,λ d1 h1=>?_⟩;obtain rfl:=h1.eq hd;rw [if_neg (by simp)];walk_at "h";refine ⟨hs,λ a b hab=>?_⟩;have ln:=hab d1 hd;have lo:anyB bs a b ≠ anyB bs u v:=ln.o;walk_at "h";rw [if_neg (by rw [ln.c]; simp [ab])];refine ⟨hs.2.1,?_⟩;rw [if_neg (by rw [<- show anyB bs u v = decide (0 < d1) from hd.sg]; simpa using lo)];walk_at "h";refine ⟨⟨by decide,by decide⟩,λ i U M'=>∃ k5 k6,U = [some (.dat (.tuple (bs.map bD))),some (.dat (.tuple [.int u,.int v])),some (.dat (.int d1)),some (.dat (.bool (anyB bs u v))),some (.dat (.tuple [.int a,.int b])),k5,k6] /\ M' = M,⟨none,none,rfl,rfl⟩,?_,?_⟩
 ·rintro i U M' hi ⟨k5,k6,rfl,rfl⟩;walk_at "h";have wd:∃ w:Str,w = Cu d1 i /\ ∀ P:PyData->Prop,P (.str w)->YI [.str (Str.ofString "between"),.str (Str.ofString "in"),.str (Str.ofString "out")] ((if decide ((i:Int) < d1) = true then 1 else 0) + 2 * if decide (d1 < 0 - (i:Int)) = true then 1 else 0) P:=by
   unfold Cu
   by_cases c1:(i:Int) < d1
   ·rw [decide_eq_true c1,decide_eq_false (show ¬ d1 < 0 - (i:Int) by lia),if_pos c1];exact ⟨_,rfl,λ P h=>h⟩
   ·by_cases c2:d1 < -(i:Int)
    ·rw [decide_eq_false c1,decide_eq_true (show d1 < 0 - (i:Int) by lia),if_neg c1,if_pos c2];exact ⟨_,rfl,λ P h=>h⟩
    ·rw [decide_eq_false c1,decide_eq_false (show ¬ d1 < 0 - (i:Int) by lia),if_neg c1,if_neg c2];exact ⟨_,rfl,λ P h=>h⟩
  obtain ⟨w,ew,wd⟩:=wd;refine ⟨.inl (by decide),wd _ ?_⟩;have i0:(0:Int) <= i:=by lia
  have cs:=Sh (r:=(i:Int)) hs.2.2 i0 hd;clear wd;subst ew;subst_vars;walk_at "rk";refine ⟨⟨hs,i0⟩,λ d hd'=>?_⟩;obtain rfl:=hd'.eq hd;rw [if_neg (by simp)];refine ⟨⟨hs,Ox u v i0⟩,λ c _ _ _=>?_,λ _ _ l=>?_⟩
  ·rw [decide_eq_true (cs.mp c),if_neg (by decide)];exact ⟨_,_,rfl⟩
  ·rw [decide_eq_false (λ z=>l.ZdA (cs.mpr z)),if_neg (by walk_at "k")];exact ⟨_,_,rfl⟩
 ·rintro U M' ⟨k5,k6,rfl,rfl⟩;subst_vars;walk_at "rk";exact h
theorem Xq (T:Tx K mg):Qh P w K mg base CX0 34 T.Vq T.VD ["_law_pen_here", "_law_shape_here"] (lift K Yi):=by
 refine okD T.Vr.F ZL (λ xs M Φ h=>by obtain ⟨_,_,rfl,_⟩:=Zp h; rfl) λ cdv A outer s H E hr=>⟨_,(Ze (Zl 2 ZL.nd (Zk (Za (cO T.Qw (Z7 T) hr (Za (Zb 0) (Za Zc Zd))) (Za (cO T.Qw (Z7 T) hr (Za (Zb 0) (Za Zc Zd))) Zd))))
 (Ze (Zl 3 ZL.nd (Zk (Za (Zm Zu (Zg (Zb 2) Zc) (cO T.Qw (Z7 T) hr (Za (Zb 0) (Za Zc Zd)))) (Za (Zm Zu (Zg (Zb 2) Zc) (cO T.Qw (Z7 T) hr (Za (Zb 0) (Za Zc Zd)))) Zd))))
 (Ze (Zl 4 ZL.nd (Ql Zd))
 (Ze (VL rfl T.Z5 (Za (Zg (Zb 2) Zc) (Za (Zm Zu (Zg (Zb 3) Zc) Zc) Zd)) (Zr 5 ZL.nd) (Zh (Q5 (Yv (Zb 4) (Z6 true (Zx (sc:=Zf QJ) (XN:=["_law_pen_here", "_law_shape_here", "_law_low", "_law_high", "_law_lacks", "_law_x", "_law_word", "_law_found"]) (N:=["_law_y", "_law_x", "_law_shape_here"]) (ix:=[none,some 5,some 1]) rfl rfl (by walk_at "k")) (Kh rfl T.Z5 (Za (Zg (Zb 2) Zc) (Za (Zm Zu (Zg (Zb 3) Zc) Zc) Zd))) (λ C ex s H=>(Zr 0 (show List.Nodup (["_law_y", "_law_x", "_law_shape_here"]:List Str) by walk_at "k"))) (λ C ex s H=>(JE (Kz (Ju (cO T.ER (D5 T) hr (Za (Zb 2) (Za (Zk (Za (Zb 1) (Za (Zb 0) Zd))) Zd))))))) (λ C ex s H=>(Zk (Za (Zb 1) (Za (Zb 0) Zd)))) rfl)))) PassesOwn.never rfl)
 (Ze (N0 4 (Zl 6 ZL.nd (Zg (Je (Za Qr (Za Qr Zd))) (Qa Gu rfl T.Fv Up (Za (Qi (Js hr) (Zb 4) (Je Zd)) Zd)))))
 (Ze (Zl 7 ZL.nd (cO T.J1 (Vd T) hr (Za (Zb 1) (Za (Zk (Za (Zb 2) (Za (Zb 3) Zd))) Zd))))
 (Ze (QD (DW.dt (GU (ZI (Yk hr) (Zg (Zb 7) Zc) (Zb 6)) (K6 (DW.dt (U8 (ZI (Yk hr) (Zb 4) (Je Zd)) (XS (ZI (Yk hr) (Zg (Zb 7) Zc) (Zg (Zb 4) Zc)))))))) (Zh (Zo YF)) ZH)
 (Zh (Zo (Qi (Js hr) (Zg (cO T.Gf (BW T) hr (Za (Zk (Za (Zk (Za (Zb 2) (Za (Zb 3) Zd))) Zd)) (Za (Zb 1) Zd))) Zc) (Zb 6))))))))))),λ xs M Φ h=>?_⟩
 replace h:=Zp h;obtain ⟨x1,x2,rfl,h⟩:=h;replace h:=Qq h;obtain ⟨p,rfl,h⟩:=h;replace h:=Z0 h;obtain ⟨bs,rfl,⟨hs,hp⟩,h⟩:=h;walk_at "h";refine ⟨hp,λ r1 M1 a1 b1 f1=>⟨f1.1,λ r2 M2 a2 b2 f2=>?_⟩⟩;walk_at "h";refine ⟨f2.1,λ r3 M3 a3 b3 f3=>⟨f3.1,λ r4 M4 a4 b4 f4=>?_⟩⟩;walk_at "h";intro q hq;have nq:p ≠ q:=f4.1.ne hq;walk_at "h";refine ⟨⟨⟨by lia,by lia⟩,by lia,by lia⟩,λ i U M5=>∃ k5 k6 k7,U = [some (.own p),some (.dat (.tuple (bs.map bD))),some (.dat (.tuple [.int r1,.int r2])),some (.dat (.tuple [.int (r1 + r3),.int (r2 + r4)])),some (.own q),k5,k6,k7] /\ M5 = ZJ M4 q (.lst ((lkG bs r1 r2 i (r2 + r4 - r2 + 1).toNat).map prD)),⟨none,none,none,rfl,rfl⟩,?_,?_⟩
 ·rintro i U M5 hi ⟨k5,k6,k7,rfl,rfl⟩;walk_at "rk";have em:(r2 + r4 + 1 - r2).toNat = (r2 + r4 - r2 + 1).toNat:=by lia
  rw [JM,em];refine ⟨⟨⟨by lia,by lia⟩,by lia,by lia⟩,by lia,λ j acc M'=>acc = (lkC bs (r1 + (i:Int)) r2 j).map prD /\ M' = ZJ M4 q (OO.lst (List.map prD (lkG bs r1 r2 i (r2 + r4 - r2 + 1).toNat))),⟨rfl,rfl⟩,?_,?_⟩
  ·rintro j d acc M' hd ⟨rfl,rfl⟩;obtain ⟨hj,rfl⟩:=Um hd;walk_at "rk";refine ⟨hs.2.1,JG (λ z=>?_) λ z=>?_⟩
   ·rw [UI,if_pos z,List.map_append];rfl
   ·rw [UI,if_neg z,List.append_nil]
  ·rintro acc M' ⟨rfl,rfl⟩ c hc;have hne:=fresh_ne hc;simp only [ZC (Ne.symm hne)];walk_at "rk";have g1:=Ej bs r1 r2 (r2 + r4 - r2 + 1).toNat i;have g2:=BU bs (r1 + (i:Int)) r2 (r2 + r4 - r2 + 1).toNat;have g3:i * (r2 + r4 - r2 + 1).toNat <= 3 * 3:=Nat.mul_le_mul (by lia) (by lia);refine ⟨hne,by rw [List.length_map,List.length_map]; lia,_,_,_,rfl,?_⟩;rw [W6 hc,Ux,List.map_append]
 ·rintro U M5 ⟨k5,k6,k7,rfl,rfl⟩;have en:(r1 + r3 + 1 - r1).toNat = (r1 + r3 - r1 + 1).toNat:=by lia
  rw [en];have x1:r1 <= r1 + r3:=by lia
  have x2:r2 <= r2 + r4:=by lia
  have hc:=S0 (bs:=bs) x1 x2;have hl:=λ u v=>RY (bs:=bs) (u:=u) (v:=v) x1 x2;have hok:okB ⟨r1,r2,r1 + r3,r2 + r4⟩ = true:=ZG.mpr ⟨x1,x2⟩;generalize lkG bs r1 r2 (r1 + r3 - r1 + 1).toNat (r2 + r4 - r2 + 1).toNat = ls at *;walk_at "h";refine WQ ls ?_;rw [Yz hq];rename_i R hR;cases ls with
  | nil=>
   have no:∀ u v,¬ Lst bs ⟨r1,r2,r1 + r3,r2 + r4⟩ u v:=λ u v z=>by
    obtain ⟨_,e⟩:=hl u v z;cases e
   show R _ _ _;walk_at "h";refine ⟨⟨hs,hok⟩,λ cv c _ _=>?_,λ u v z=>absurd z (no u v)⟩;walk_at "h";refine WQ [] ?_;rw [show (([]:List (Int × Int)).isEmpty) = true from rfl,if_neg (by decide)];subst_vars;walk_at "rk";refine ⟨⟨hs,hok⟩,λ _ c'=>?_,λ u v z=>absurd z (no u v)⟩;walk_at "rk";exact h _ (f1.trans (f2.trans (f3.trans f4)))
  | cons p0 l0=>
   have no:¬ Cov bs ⟨r1,r2,r1 + r3,r2 + r4⟩:=λ z=>nomatch hc z;show R _ _ _;walk_at "h";refine ⟨⟨hs,hok⟩,λ z=>absurd z no,λ u v z=>?_⟩;obtain ⟨l1,e⟩:=hl u v z;obtain rfl:p0 = (u,v):=(List.cons.inj e).1;clear e hl hc;walk_at "h";refine WQ ((u,v) :: l0) ?_;rw [show (((u,v) :: l0).isEmpty) = false from rfl,if_pos (show (!false) = true from rfl)];refine Ex (X:=u) (Y:=v) ?_;rw [decide_eq_true ⟨rfl,rfl⟩,if_neg (by decide)];subst_vars;walk_at "rk";refine ⟨⟨hs,hok⟩,λ z=>absurd z no,λ u' v' _=>?_⟩;unfold noD;walk_at "rk";exact h _ (f1.trans (f2.trans (f3.trans f4)))
theorem Tz (T:Tx K mg):Qh P w K mg base CX0 35 T.Sy T.Sq ["_law_script"] (lift K CN):=by
 refine okD T.o_law.F Jw (λ xs M Φ ⟨ns,e,_⟩=>by rw [e]; rfl) λ cdv A outer s H E hr=>⟨_,(Ze (QK rfl T.Z5 (Za (Zi (JF rfl) rfl T.YH Jx (Za Zc (Za (Zi (Vn rfl) rfl T.J6 QS (Za (Zi Ja rfl T.YB Q9 (Za (Zb 0) Zd)) (Za Zc Zd))) Zd))) Zd) (Zr 1 Jw.nd) (Ze (Zl 2 Jw.nd (cO T.RF (R6 T) hr (Za (Zb 0) (Za (Zb 1) Zd))))
 (Ze (Zl 3 Jw.nd (cO T.o_shape (LH T) hr (Za (Zb 2) Zd)))
 (Ze (Zl 4 Jw.nd B5)
 (Ze (Oe (cO T.C8 (EU T) hr (Za (Zm ZY Zc Zc) (Za Zc Zd))) (Zr 5 Jw.nd) (Zh (Pb hr (Zb 4) (Zb 5) (Oq [3,5] (cO T.WC (UO T) hr (Za (Zb 3) (Za (Zb 5) Zd)))))) PassesOwn.never rfl)
 (Ze (QD (ZI (Yk hr) (cO T.MH (OY T) hr (Za (Zb 3) Zd)) (Zi Ja rfl T.YB Q9 (Za (Gj false (Zx (sc:=Zf Lc) (XN:=["_law_script", "_law_k", "_law_pen_here", "_law_shape_here", "_law_depths", "_law_spot", "_law_turn"]) (N:=["_law_spot", "_law_shape_here"]) (ix:=[none,some 3]) rfl rfl (by walk_at "k")) (Dz (Zb 4)) (λ C ex s H=>(Zr 0 (show List.Nodup (["_law_spot", "_law_shape_here"]:List Str) by walk_at "k"))) (λ C ex s H=>(JE (Ju (cO T.ER (D5 T) hr (Za (Zb 1) (Za (Zb 0) Zd)))))) (λ C ex s H=>(Zb 0)) rfl) Zd))) (Zh (Zo YF)) ZH)
 (Ze (Ot (Dz (Zb 4)) (Zr 5 Jw.nd) (Zh (QD (DW.dt (GU (ZI (Yk hr) (Qi VE (Yf hr (Zb 4) (Zb 5)) Zc) (cO T.ER (D5 T) hr (Za (Zb 3) (Za (Zb 5) Zd)))) (K6 (Kz (Ju (cO T.DU (LF T) hr (Za (Zb 4) (Za (Zb 5) Zd)))))))) (Zh (Zo YF)) ZH)) PassesOwn.never rfl)
 (Ze (QK rfl T.Z5 (Za Zc Zd) (Zr 6 Jw.nd) (Ze (Zl 5 Jw.nd (Zk (Za (Zm ZY (cO T.Qw (Z7 T) hr (Za (Zb 2) (Za Zc Zd))) Zc) (Za (Zm ZY (cO T.Qw (Z7 T) hr (Za (Zb 2) (Za Zc Zd))) Zc) Zd))))
 (Zh (QD (Kz (Ju (cO T.U4 (DC T) hr (Za (Zb 3) (Za (Zb 5) (Za (Yf hr (Zb 4) (Zb 5)) Zd)))))) (Zh (Zo YF)) ZH))) PassesOwn.never rfl)
 (Zh (QK rfl T.Z5 (Za Zc Zd) (Zr 6 Jw.nd) (Zh (QD (Kz (Ju (cO T.Vr (Xq T) hr (Za (Zb 2) (Za (Zb 3) Zd))))) (Zh (Zo YF)) ZH)) PassesOwn.never rfl))))))))) PassesOwn.never rfl)
 (Zh (Zo YF))),λ xs M Φ ⟨ns,e,hn,h⟩=>?_⟩
 subst e;walk_at "h";rw [List.length_map];refine ⟨⟨by lia,by lia⟩,λ i U M'=>∃ k1 k2 k3 k4 k5 k6,U = [some (.dat (.list (ns.map PyData.int))),k1,k2,k3,k4,k5,k6],⟨none,none,none,none,none,none,rfl⟩,?_,?_⟩
 ·rintro i U M' hi ⟨k1,k2,k3,k4,k5,k6,rfl⟩;rw [JI];walk_at "h";refine ⟨by lia,λ p o hp ho=>?_⟩;walk_at "h";refine ⟨Pen.ZJ ho,λ bs M1 hg hP=>?_⟩;walk_at "h";intro l hl;have n1:p ≠ l:=hP.ne hl;have g0:=hg.shp;walk_at "h";refine λ q M2 hq k2 e2=>?_;have gl:M2 l = some (.dtv []):=by rw [k2 l (by rw [ZD]; exact Option.some_ne_none _),ZD]
  have hP2:Pen M2 p:=by
   obtain ⟨o',z1,z2⟩:=hP;exact ⟨o',z1,by rw [k2 p (by rw [ZC n1,z2]; exact Option.some_ne_none _),ZC n1,z2]⟩
  have nq:q ≠ l:=λ z=>by rw [z,ZD] at hq; cases hq
  have npq:p ≠ q:=λ z=>by
   obtain ⟨o',_,z2⟩:=hP;rw [<- z,ZC n1,z2] at hq;cases hq
  rw [e2];walk_at "rk";refine ⟨λ j U M3=>∃ k5 k6,U = [some (.dat (.list (ns.map PyData.int))),some (.dat (.int (i:Int))),some (.own p),some (.dat (.tuple (bs.map bD))),some (.own l),k5,k6] /\ M3 l = some (.dtv (YD bs ((Qb 12).take j))) /\ Pen M3 p /\ M3 q = some (.lsv 0 ((Qb 12).map λ q=>kDV (pK q))),?_,⟨_,_,rfl,gl,hP2,e2⟩,?_,?_⟩
  ·rintro j U M3 ⟨k5,k6,_,_,_,e⟩;exact e
  ·rintro j x U M3 hx ⟨k5,k6,rfl,gl,hP3,e3⟩;rw [List.getElem?_map] at hx;obtain ⟨c,ec,rfl⟩:=Option.map_eq_some_iff.mp hx;have lt:=(List.getElem?_eq_some_iff.mp ec).1;rw [XD] at lt;walk_at "rk";refine ⟨_,.dat _,_,Po M3 c,?_⟩;walk_at "rk";refine ⟨g0,λ d hd=>⟨by simp [YG],?_⟩⟩;rw [gl];walk_at "rk";refine ⟨pK c,rfl,UQ bs (Hu ec),?_,_,_,rfl,?_,hP3.put n1,by rw [ZC nq]; exact e3⟩
   ·unfold YD;rw [List.length_map,List.length_take];lia
   ·rw [Lh bs ec,hd.eq (G4 hg _ _)]
  ·rintro U M3 ⟨k5,k6,rfl,gl,hP3,e3⟩;rw [List.length_map,List.take_length] at gl;clear e2 e3 k2 hq hP2;walk_at "h";refine ⟨hg,?_⟩;rw [gl];walk_at "rk";intro o;rw [Uz];refine ⟨by rw [List.length_map,XD]; decide,λ j acc M4=>acc = (((Qb 12).take j).filter λ q=>anyB bs q.1 q.2).map prD /\ M4 = ZJ M3 l (.fdt o (YD bs (Qb 12))),?_,⟨rfl,rfl⟩,?_,?_⟩
   ·rintro j acc M4 ⟨_,rfl⟩;exact ZD
   ·rintro j d acc M4 hd ⟨rfl,rfl⟩;obtain ⟨c,ec,rfl⟩:=ZU hd;have flt:=Qz (λ q:Int × Int=>anyB bs q.1 q.2) ec;show onP (.dat (.tuple [.int c.1,.int c.2])) _;walk_at "rk";refine ⟨g0.2.1,JG (λ z=>?_) λ z=>?_⟩
    ·rw [flt,if_pos z,List.map_append];rfl
    ·rw [flt,if_neg z,List.append_nil]
   ·rintro acc M4 ⟨rfl,rfl⟩;rw [List.length_map,List.length_map,List.take_length,decide_eq_true (EO hg),if_neg (by decide)];walk_at "h";rw [Uz];refine ⟨λ j U M5=>∃ k5 k6,U = [some (.dat (.list (ns.map PyData.int))),some (.dat (.int (i:Int))),some (.own p),some (.dat (.tuple (bs.map bD))),some (.own l),k5,k6] /\ M5 l = some (.fdt o (YD bs (Qb 12))) /\ Pen M5 p,?_,⟨_,_,rfl,ZD,hP3.put n1⟩,?_,?_⟩
    ·rintro j U M5 ⟨k5,k6,_,e,_⟩;exact e
    ·rintro j d U M5 hd ⟨k5,k6,rfl,gl5,hP5⟩;obtain ⟨c,ec,rfl⟩:=ZU hd;have mc:=List.mem_of_getElem? ec;show Yh 5 (.dat (.tuple [.int c.1,.int c.2])) _ _ _;walk_at "rk";rw [gl5];walk_at "rk";refine ⟨pK c,_,rfl,Vi bs mc,?_⟩;walk_at "rk";refine ⟨g0.2.1,?_⟩;rw [<- show anyB bs c.1 c.2 = decide (0 < dp bs c.1 c.2) from (G4 hg _ _).sg,if_neg (by simp)];rw [C4];walk_at "rk";refine ⟨l,o,bs,rfl,gl5,⟨hg,VN.mp mc⟩,λ M6 k6=>?_⟩;walk_at "rk";obtain ⟨o',z1,z2⟩:=hP5;exact ⟨_,_,rfl,(k6 l (by rw [gl5]; exact Option.some_ne_none _)).trans gl5,o',z1,(k6 p (by rw [z2]; exact Option.some_ne_none _)).trans z2⟩
    ·rintro U M5 ⟨k5,k6,rfl,gl5,hP5⟩;walk_at "h";refine ⟨⟨by decide,by decide⟩,λ j U M6=>∃ k5 k6,U = [some (.dat (.list (ns.map PyData.int))),some (.dat (.int (i:Int))),some (.own p),some (.dat (.tuple (bs.map bD))),some (.own l),k5,k6] /\ M6 l = some (.fdt o (YD bs (Qb 12))) /\ Pen M6 p,⟨_,_,rfl,gl5,hP5⟩,?_,?_⟩
     ·rintro j U M6 hj ⟨k5,k6,rfl,gl6,hP6⟩;rw [JI];walk_at "h";refine ⟨hP6,λ r1 M7 a1 b1 f1=>⟨f1.1,λ r2 M8 a2 b2 f2=>?_⟩⟩;have gl8:=f2.own (f1.own gl6 (Ne.symm n1)) (Ne.symm n1);subst_vars;walk_at "rk";rw [gl8];walk_at "rk";refine ⟨kP _ _,_,rfl,Vi bs (q:=(r1 - 2,r2 - 2)) (VN.mpr ⟨by lia,by lia⟩),?_⟩;walk_at "rk";exact ⟨⟨g0,G4 hg _ _⟩,_,_,rfl,f2.1⟩
     ·rintro U M6 ⟨k5,k6,rfl,gl6,hP6⟩;subst_vars;walk_at "rk";refine ⟨⟨by decide,by decide⟩,λ j U M7=>∃ k5 k6,U = [some (.dat (.list (ns.map PyData.int))),some (.dat (.int (i:Int))),some (.own p),some (.dat (.tuple (bs.map bD))),some (.own l),k5,k6] /\ Pen M7 p,⟨_,_,rfl,hP6⟩,?_,?_⟩
      ·rintro j U M7 hj ⟨k5,k6,rfl,hP7⟩;walk_at "rk";exact ⟨⟨g0,hP7⟩,λ M8 f8=>⟨_,_,rfl,f8.1⟩⟩
      ·rintro U M7 ⟨k5,k6,rfl,hP7⟩;exact ⟨_,_,_,_,_,_,rfl⟩
 ·rintro U M' ⟨k1,k2,k3,k4,k5,k6,rfl⟩;subst_vars;walk_at "rk";exact h _
end
def Ow (K:Fk) (x:Str) (st:Stmt) (f:Addr) (fd:FuncData):Prop:=PySem.W.nsIn K mainGlobals x = some (some (.ref f)) /\ Fun K x x st f fd
theorem ZN {od an:Option Addr} {sl:Array (Option Value)} {oc kV dc pm cd ct:Value} (a:PySem.W.nsIn K mainGlobals x = some (some (.ref f))) (l:K.lookup f = some ⟨oc,od,.func (PySem.W.fnOf x x (JH st) (QN st) (Zf st) .none kV dc pm an cd ct),sl⟩) (c:PySem.W.codeIn K cd x = true) (k:PySem.W.keepIn K (.ref f) = true):Ow K x st f (PySem.W.fnOf x x (JH st) (QN st) (Zf st) .none kV dc pm an cd ct):=⟨a,Te l c k⟩
theorem Zz (X:K.In h) (G:h.Ns mainGlobals mg) (o:Ow K x st f fd) (b:∀ (kV doc pm:Value) (an:Option Addr) (cdv ct:Value) (us:List Value),us.length = ps.length->bindArgs (PySem.W.fnOf x x (JH st) (QN st) (Zf st) .none kV doc pm an cdv ct) ⟨us,[]⟩ = pure (ps.zip us)):Own K mg x st ps f fd:=⟨o.2,PySem.W.mg_of X G o.1,o.2.binds b⟩
theorem ln1 {α:Type} {P:List α->Prop} (h:∀ a0,P [a0]) (l:List α) (e:l.length = 1):P l:=by
 match l,e with
 | [a0],_=>exact h a0
theorem ln2 {α:Type} {P:List α->Prop} (h:∀ a0 a1,P [a0,a1]) (l:List α) (e:l.length = 2):P l:=by
 match l,e with
 | [a0,a1],_=>exact h a0 a1
theorem ln3 {α:Type} {P:List α->Prop} (h:∀ a0 a1 a2,P [a0,a1,a2]) (l:List α) (e:l.length = 3):P l:=by
 match l,e with
 | [a0,a1,a2],_=>exact h a0 a1 a2
theorem all_mk {l:PySem.W.OpenLaw} {w:World} {fa:Addr} (X:K.In h) (G:h.Ns mainGlobals mg) (hfa:mg "law" = some (.ref fa))
  {f0 f1 f2 f3 f4 f5 f6 f7 f8 f9 f10 f11 f12 f13 f14 f15 f16 f17 f18 f19 f20 f21 f22 f23 f24 f25 f26 f27 f28 f29 f30 f31 f32 f33 f34 f35:Addr} {d0 d1 d2 d3 d4 d5 d6 d7 d8 d9 d10 d11 d12 d13 d14 d15 d16 d17 d18 d19 d20 d21 d22 d23 d24 d25 d26 d27 d28 d29 d30 d31 d32 d33 d34 d35:FuncData}
  (o0:Ow K "has_spots" JC f0 d0)
  (o1:Ow K "steps" WR f1 d1)
  (o2:Ow K "has" Pr f2 d2)
  (o3:Ow K "has_all" Yy f3 d3)
  (o4:Ow K "steps_to" J7 f4 d4)
  (o5:Ow K "steps_between" Qy f5 d5)
  (o6:Ow K "gap" NP f6 d6)
  (o7:Ow K "square" XA f7 d7)
  (o8:Ow K "up_to" Wk f8 d8)
  (o9:Ow K "onward_from" QW f9 d9)
  (o10:Ow K "common" XE f10 d10)
  (o11:Ow K "cut_out" JO f11 d11)
  (o12:Ow K "left_over" JD f12 d12)
  (o13:Ow K "spots_in" Vj f13 d13)
  (o14:Ow K "lies_in" JL f14 d14)
  (o15:Ow K "size" Uw f15 d15)
  (o16:Ow K "depth" Ub f16 d16)
  (o17:Ow K "nearest" JW f17 d17)
  (o18:Ow K "side" Dy f18 d18)
  (o19:Ow K "other_side" Q0 f19 d19)
  (o20:Ow K "frame" Jz f20 d20)
  (o21:Ow K "steps_away" QL f21 d21)
  (o22:Ow K "covered" JY f22 d22)
  (o23:Ow K "cover_of" Vf f23 d23)
  (o24:Ow K "cut_places" QE f24 d24)
  (o25:Ow K "within" Jp f25 d25)
  (o26:Ow K "_law_pen" O5 f26 d26)
  (o27:Ow K "_law_draw" Ez f27 d27)
  (o28:Ow K "_law_box" PQ f28 d28)
  (o29:Ow K "_law_shape" W8 f29 d29)
  (o30:Ow K "_law_spots" XI f30 d30)
  (o31:Ow K "_law_own" Le f31 d31)
  (o32:Ow K "_law_grows" W5 f32 d32)
  (o33:Ow K "_law_agrees" Xe f33 d33)
  (o34:Ow K "_law_box_agrees" QJ f34 d34)
  (o35:Ow K "law" Lc f35 d35)
  (z0:PySem.W.nsIn K mainGlobals "abs" = some none)
  (z1:PySem.W.nsIn K mainGlobals "any" = some none)
  (z2:PySem.W.nsIn K mainGlobals "bool" = some none)
  (z3:PySem.W.nsIn K mainGlobals "int" = some none)
  (z4:PySem.W.nsIn K mainGlobals "isinstance" = some none)
  (z5:PySem.W.nsIn K mainGlobals "len" = some none)
  (z6:PySem.W.nsIn K mainGlobals "list" = some none)
  (z7:PySem.W.nsIn K mainGlobals "max" = some none)
  (z8:PySem.W.nsIn K mainGlobals "min" = some none)
  (z9:PySem.W.nsIn K mainGlobals "range" = some none)
  (z10:PySem.W.nsIn K mainGlobals "set" = some none)
  (z11:PySem.W.nsIn K mainGlobals "sorted" = some none)
  (z12:PySem.W.nsIn K mainGlobals "sum" = some none)
  (z13:PySem.W.nsIn K mainGlobals "tuple" = some none) :
  ∃ fd:FuncData,(∀ (s:Shared) (v:Value),BindsTo s fd ⟨[v],[]⟩ [("_law_script",v)]) /\ ∀ base:Heap,K.In base->base.Ns mainGlobals mg->Qh l.prog w K mg base CX0 35 fa fd ["_law_script"] (lift K CN):=by
 have e:=hfa.symm.trans (PySem.W.mg_of X G o35.1);cases e;obtain ⟨_,_,_,_,_,_,_,_,_,rfl,_,_⟩:=o35.2.ex
 let T:Tx K mg:=⟨_,_,Zz X G o0 λ _ _ _ _ _ _=>ln1 λ _=>rfl,_,_,Zz X G o1 λ _ _ _ _ _ _=>ln2 λ _ _=>rfl,_,_,Zz X G o2 λ _ _ _ _ _ _=>ln2 λ _ _=>rfl,_,_,Zz X G o3 λ _ _ _ _ _ _=>ln2 λ _ _=>rfl,_,_,Zz X G o4 λ _ _ _ _ _ _=>ln2 λ _ _=>rfl,_,_,Zz X G o5 λ _ _ _ _ _ _=>ln2 λ _ _=>rfl,_,_,Zz X G o6 λ _ _ _ _ _ _=>ln3 λ _ _ _=>rfl,_,_,Zz X G o7 λ _ _ _ _ _ _=>ln2 λ _ _=>rfl,_,_,Zz X G o8 λ _ _ _ _ _ _=>ln3 λ _ _ _=>rfl,_,_,Zz X G o9 λ _ _ _ _ _ _=>ln3 λ _ _ _=>rfl,_,_,Zz X G o10 λ _ _ _ _ _ _=>ln2 λ _ _=>rfl,_,_,Zz X G o11 λ _ _ _ _ _ _=>ln2 λ _ _=>rfl,_,_,Zz X G o12 λ _ _ _ _ _ _=>ln2 λ _ _=>rfl,_,_,Zz X G o13 λ _ _ _ _ _ _=>ln1 λ _=>rfl,_,_,Zz X G o14 λ _ _ _ _ _ _=>ln2 λ _ _=>rfl,_,_,Zz X G o15 λ _ _ _ _ _ _=>ln1 λ _=>rfl,_,_,Zz X G o16 λ _ _ _ _ _ _=>ln2 λ _ _=>rfl,_,_,Zz X G o17 λ _ _ _ _ _ _=>ln2 λ _ _=>rfl,_,_,Zz X G o18 λ _ _ _ _ _ _=>ln3 λ _ _ _=>rfl,_,_,Zz X G o19 λ _ _ _ _ _ _=>ln2 λ _ _=>rfl,_,_,Zz X G o20 λ _ _ _ _ _ _=>ln1 λ _=>rfl,_,_,Zz X G o21 λ _ _ _ _ _ _=>ln2 λ _ _=>rfl,_,_,Zz X G o22 λ _ _ _ _ _ _=>ln2 λ _ _=>rfl,_,_,Zz X G o23 λ _ _ _ _ _ _=>ln2 λ _ _=>rfl,_,_,Zz X G o24 λ _ _ _ _ _ _=>ln3 λ _ _ _=>rfl,_,_,Zz X G o25 λ _ _ _ _ _ _=>ln2 λ _ _=>rfl,_,_,Zz X G o26 λ _ _ _ _ _ _=>ln2 λ _ _=>rfl,_,_,Zz X G o27 λ _ _ _ _ _ _=>ln2 λ _ _=>rfl,_,_,Zz X G o28 λ _ _ _ _ _ _=>ln2 λ _ _=>rfl,_,_,Zz X G o29 λ _ _ _ _ _ _=>ln1 λ _=>rfl,_,_,Zz X G o30 λ _ _ _ _ _ _=>ln2 λ _ _=>rfl,_,_,Zz X G o31 λ _ _ _ _ _ _=>ln2 λ _ _=>rfl,_,_,Zz X G o32 λ _ _ _ _ _ _=>ln2 λ _ _=>rfl,_,_,Zz X G o33 λ _ _ _ _ _ _=>ln3 λ _ _ _=>rfl,_,_,Zz X G o34 λ _ _ _ _ _ _=>ln2 λ _ _=>rfl,_,_,Zz X G o35 λ _ _ _ _ _ _=>ln1 λ _=>rfl,PySem.W.mg_none_of X G z0,PySem.W.mg_none_of X G z1,PySem.W.mg_none_of X G z2,PySem.W.mg_none_of X G z3,PySem.W.mg_none_of X G z4,PySem.W.mg_none_of X G z5,PySem.W.mg_none_of X G z6,PySem.W.mg_none_of X G z7,PySem.W.mg_none_of X G z8,PySem.W.mg_none_of X G z9,PySem.W.mg_none_of X G z10,PySem.W.mg_none_of X G z11,PySem.W.mg_none_of X G z12,PySem.W.mg_none_of X G z13⟩
 exact ⟨_,λ s v=>.of_eq rfl,λ base _ _=>Tz T⟩
theorem walk {l:PySem.W.OpenLaw} {q:Program} {loose:List Str} {XP:(Str->Option Value)->Heap->Prop} {YP:World->Heap->Prop} {d:DefRec} {K:Params->Fk} (hn:l.most = some 63) (hdf:d.params.defaults = [])
  (hY:∀ (w:World) (h:Heap),YP w h->(K w.params).In h)
  (F:∀ (w:World) (mg:Str->Option Value) (fa:Addr) (h:Heap),(K w.params).In h->h.Ns mainGlobals mg->mg d.name = some (.ref fa) ->
   ∃ fd:FuncData,(∀ (s:Shared) (u:Value),BindsTo s fd ⟨[u],[]⟩ [("_law_script",u)]) /\ ∀ base:Heap,(K w.params).In base->base.Ns mainGlobals mg->Qh l.prog w (K w.params) mg base CX0 35 fa fd ["_law_script"] (lift (K w.params) CN)) :
  PySem.W.WalkO q loose XP YP l.row.toRowW d [] (λ f vs=>PySem.call f vs):=
 L2.Ng (n:=63) (k:=35) (x := "_law_script") (CX:=λ _=>CX0) (sp:=λ w=>lift (K w.params) CN) hn (by decide) hdf ⟨rfl,by decide,by decide,rfl⟩ hY F
  (λ w H a ns hl hO hS=>BN hl hO hS) λ _ _ _ _ _ z=>z
end My
set_option genInjectivity false in
structure PySem.W.Fast:Prop where
 (tw17666541495405917015 tw9010516072819636338 tw11331085723287810527 tw5335922669823056645 tw11098280841607517451 tw7900848978658289704 tw6746840300782325566 tw3629337888264357241 tw5112989134224800612 tw10764929453715312004 tw9849901333677804029 tw17052660587812338011 tw15428989018460754795 tw1111105870637616358 tw9845533025347493839 tw7195349347375679626 tw9556585084630448582 tw1269100041380413970 tw4018367220488433790 tw12314240744709450280 tw17625761682752794932 tw11250003841736229296 tw8973531446157565758 tw14976053243558924634 tw3398295070783424650 tw17235491577884215755 tw13742150187846185846 tw3090845412733994097 tw5330277953155843037 tw3729015258695005894 tw1989659846851847764 tw15262304674979860998 tw18216463231531903855 tw14813605009877081181 tw9299319866376709800 tw2008970737183177073 tw10021231601084230040 tw14121070471851237220 tw3272685480709032963 tw9990909355640318362 tw11405592664287614987 tw4687755565981030767 tw16109276616186512808 tw702789189623825440 tw4790552540976442356 tw11538047094585686236 tw10192958339143754468 tw2671923040062471824 tw2044531198901850392 tw12739169464631211907 tw11316114409152657510 tw11960203574102280991 tw16224911802227362288 tw10431557005346424910 tw2309644700545733455 tw17783615688920091579 tw12529733241696385297 tw6759989693417221779 tw2642242912459060875 tw12020493558583140404 tw12191064987487321831 tw175866064581235492 tw2768238881137031538 tw17981281445564004988 tw13900663872722520351 tw11096618426430774705 tw9320991141779567338 tw344991583062465364 tw16268859808315709161 tw14687270151580769428 tw3302605883799139872 tw8239082642431084186 tw13086465453992282703 tw10152838325304163319 tw12431689829693158181 tw8377714379648123147 tw5073769175960513988 tw6789217488467718241 tw631011064876602449 tw11867165566436023125 tw14452547809875680676 tw13752411718728700533 tw14866421083849234107 tw9941600647328441427 tw2856265632572577262 tw3245346563613813101 tw14345438234788342592 tw18359355328817205801 tw5059547451241753413 tw16635321313620798713 tw200374053723649472 tw9072188251843863284 tw2100242198138604314 tw13348995353927489132 tw3430743908662314440 tw13968937716184942754 tw12969219340576513664 tw14711055401544165879 tw12470613071419035705 tw107580987919533409 tw7964157817917430981 tw4239206811534799162 tw15475947566931639389 tw7463742425484428816 tw4306181722800693115 tw12207403457708667906 tw17099380430807128264 tw81722299411283345 tw11580859950817913832 tw16929708580430201249 tw2007582403237180911 tw3471948005558721215 tw14588203957066439071 tw6472768412112182754 tw13261721736343702845 tw10059228370249940874 tw9296247664700718315 tw547030592630959277 tw14325273045692333176 tw15377021599197086616 tw9547314651941718555 tw13938161615314465832 tw1148939784021482056 tw1039687283177571229 tw15375127621045607915 tw11175808381390450607 tw16970056896668664674 tw3332230189476413556 tw12620945322440377610 tw18075517942664948382 tw2904717013285529924 tw12862304761631540556 tw4667395355154029710 tw8117460172003960412 tw16599673437312870066 tw15593528999241331403 tw7183193528903239635 tw12206063199518441628 tw11964147015404195558 tw6000586709118364484 tw8449808310083033269 tw7023796841914991973 tw3675588771280456463 tw12473354168392188086 tw7412411001276930902 tw6100766097361835381 tw6846544984972756614 tw9783502888159816288 tw3616694142006319238 tw13938915452284972695 tw4320268451308089291 tw15813949054278378571 tw6495577141442689780 tw4062933180717939710 tw7977338953270880332 tw16440442397363022786 tw7932888223649568987 tw10272855945682000375 tw6439775191915582061 tw17803458356763568788 tw16243181649743073281 tw6087502367489147714 tw17885514128265325245 tw10323192971428170492 tw7315116883501269135 tw9919660436814709158 tw3988656767923781012 tw5614201418267688931 tw17895224747869902492 tw1307436759235879458 tw16465138963052056410 tw2094182098842578507 tw8534995516672095168 tw5078284564582516632 tw17476338188314691408 tw2398871895037923433 tw3804201962481270843 tw17138629545020013921 tw8504131024768233558 tw15632188727248979532 tw6375028046166584622 tw2007721609278476306 tw11858150186940843733 tw3291266646484832429 tw7085955530016387768 tw2202133249880700766 tw16277607433658535512 tw18397945054144661585 tw1816332408655088549 tw1289326375501142959 tw11988873894650736099 tw4490280548723113662 tw1314495206004476529 tw16718761883318357447 tw15012359870339038519 tw16269190782975527367 tw5712634916443201434 tw8547336016116702691 tw14520363695512659184 tw17981842722967276688 tw11635449879707768352 tw10928685769592870107 tw4916859268683385529 tw1841742773737712604 tw14709691489165387100 tw10012908294862549567 tw3969817307853516792 tw18197294229578863901 tw12756871922395518268 tw4560705292621559579:True)
open PySem.W
set_option maxRecDepth 100000 in
set_option maxHeartbeats 0 in
theorem PySem.Challenge.cw_landsentered_k55_whole_all_spots_agree_holds : PySem.Challenge.rw_landsentered_k55_whole_all_spots_agree.Holds := by
 w_on; o_law; k_head; (case hw => w_witness2)
 k_fill
 refine My.walk (l := PySem.Challenge.rw_landsentered_k55_whole_all_spots_agree) rfl rfl (fun w h Y => PySem.W.kIn_of Y) ?F
 case F =>
  intro w mg fa h KX G hmg
  refine' My.all_mk KX G hmg (My.ZN ?_ ?_ ?_ ?_) (My.ZN ?_ ?_ ?_ ?_) (My.ZN ?_ ?_ ?_ ?_) (My.ZN ?_ ?_ ?_ ?_) (My.ZN ?_ ?_ ?_ ?_) (My.ZN ?_ ?_ ?_ ?_) (My.ZN ?_ ?_ ?_ ?_) (My.ZN ?_ ?_ ?_ ?_) (My.ZN ?_ ?_ ?_ ?_) (My.ZN ?_ ?_ ?_ ?_) (My.ZN ?_ ?_ ?_ ?_) (My.ZN ?_ ?_ ?_ ?_) (My.ZN ?_ ?_ ?_ ?_) (My.ZN ?_ ?_ ?_ ?_) (My.ZN ?_ ?_ ?_ ?_) (My.ZN ?_ ?_ ?_ ?_) (My.ZN ?_ ?_ ?_ ?_) (My.ZN ?_ ?_ ?_ ?_) (My.ZN ?_ ?_ ?_ ?_) (My.ZN ?_ ?_ ?_ ?_) (My.ZN ?_ ?_ ?_ ?_) (My.ZN ?_ ?_ ?_ ?_) (My.ZN ?_ ?_ ?_ ?_) (My.ZN ?_ ?_ ?_ ?_) (My.ZN ?_ ?_ ?_ ?_) (My.ZN ?_ ?_ ?_ ?_) (My.ZN ?_ ?_ ?_ ?_) (My.ZN ?_ ?_ ?_ ?_) (My.ZN ?_ ?_ ?_ ?_) (My.ZN ?_ ?_ ?_ ?_) (My.ZN ?_ ?_ ?_ ?_) (My.ZN ?_ ?_ ?_ ?_) (My.ZN ?_ ?_ ?_ ?_) (My.ZN ?_ ?_ ?_ ?_) (My.ZN ?_ ?_ ?_ ?_) (My.ZN ?_ ?_ ?_ ?_) ?_ ?_ ?_ ?_ ?_ ?_ ?_ ?_ ?_ ?_ ?_ ?_ ?_ ?_
  any_goals first | k_is | kit_is | decide +kernel
