import PyProof.Rows.All
import Wide.All
import OpenK.AllK
import Wide.FinOn
import Lean
import PyProof.EqAt
import PyProof.EqKinds
import PyProof.TupleCall
import PyProof.ReprRoads
import PyProof.EqLayable
import PyProof.NeData
import PyProof.Rows.TupDisplay
import PySem.Challenge.RW_landsentered_k41_moved_and_turned
set_option Elab.async false
set_option linter.all false
set_option maxRecDepth 100000
set_option compiler.extract_closed false
set_option bootstrap.genMatcherCode false
theorem qI {p:Prop}:p=p:=propext Iff.rfl
theorem zz0 (h:True:=by first | exact .inl rfl | exact .inr rfl | assumption):True:=h
theorem zz1 (h:True:=by decide):True:=h
theorem zz2 (h:True:=by intro _; rfl):True:=h
theorem zz3 (h:True:=by rfl):True:=h
theorem zz4 (h:True:=by with_unfolding_all rfl):True:=h
theorem zz5 (h:True:=by first | exact Or.inl rfl | exact Or.inr (Or.inl rfl) | exact Or.inr (Or.inr rfl)):True:=h
theorem zz6 (h:True:=by first | exact Rx _ | rfl):True:=h
theorem zz7 (h:True:=by intro _ _; rfl):True:=h
theorem zz8 (h:True:=by first | exact Or.inl rfl | exact Or.inr rfl):True:=h
theorem zz9 (h:True:=by first | decide | lia):True:=h
theorem zz10 (h:True:=by exact rfl):True:=h
theorem zz11 (h:True:=by first | exact .inl rfl | exact .inr rfl):True:=h
theorem zz12 (h:True:=by first | exact .inr (.inl rfl) | exact .inr (.inr rfl)):True:=h
local macro_rules | `(tactic| walk_at "k")=>`(tactic| decide +kernel)
local macro_rules | `(tactic| walk_at "s")=>`(tactic| exact ⟨rfl,rfl,rfl,by walk_at "k",rfl,by walk_at "k",by walk_at "k"⟩)
local macro_rules | `(tactic| walk_at "w")=>`(tactic| (first | decide | lia))
abbrev Fk:=PySem.W.Frag
namespace L2
open PySem PySem.Spec PyProof.Rows
abbrev Key:=Sum Int Str
noncomputable def Eu:Key->Value->Bool
 | .inl k,v=>Value.isInt k v
 | .inr x,v=>Value.isStrOf x v
noncomputable def ZjN (w:World):Key->Int
 | .inl k=>hashInt k
 | .inr x=>hashStr w x
theorem ZT:∀ {k:Key} {v:Value},Eu k v = true->(∃ i t,k = Sum.inl i /\ v = Value.int i t) \/ (∃ x t,k = Sum.inr x /\ v = Value.str x t)
 | .inl i,v,h=>by
  obtain ⟨t,e⟩:=Value.isInt_shape (k:=i) (v:=v) h;exact .inl ⟨i,t,rfl,e⟩
 | .inr x,v,h=>by
  obtain ⟨t,e⟩:=Value.isStrOf_shape (x:=x) (v:=v) h;exact .inr ⟨x,t,rfl,e⟩
theorem HX (i:Int) (t:Tok):Eu (.inl i) (.int i t) = true:=by simp [Eu,Value.isInt]
theorem HJ (x:Str) (t:Tok):Eu (.inr x) (.str x t) = true:=by simp [Eu,Value.isStrOf]
theorem Ze7 (a b:Int):decide ((Sum.inl a:Key) = Sum.inl b) = (a == b):=by
 by_cases e:a = b
 ·subst e; simp
 ·have h:¬ (Sum.inl a:Key) = Sum.inl b:=λ q=>e (Sum.inl.inj q);rw [decide_eq_false h];exact (beq_eq_false_iff_ne.mpr e).symm
theorem Zfh (a b:Str):decide ((Sum.inr a:Key) = Sum.inr b) = decide (a = b):=by
 by_cases e:a = b
 ·subst e; simp
 ·have h:¬ (Sum.inr a:Key) = Sum.inr b:=λ q=>e (Sum.inr.inj q);rw [decide_eq_false h,decide_eq_false e]
theorem Zf8 (a:Int) (b:Str):decide ((Sum.inl a:Key) = Sum.inr b) = false:=decide_eq_false (λ q=>nomatch q)
theorem Zce (a:Str) (b:Int):decide ((Sum.inr a:Key) = Sum.inl b) = false:=decide_eq_false (λ q=>nomatch q)
noncomputable def Qe (prog:Program) (w:World):PySem.KeyKind prog w Key where
 is:=Eu
 hash:=ZjN w
 inj:=λ v a b ha hb=>by
  rcases ZT ha with ⟨i,t,rfl,rfl⟩ | ⟨x,t,rfl,rfl⟩
  ·rcases ZT hb with ⟨j,u,rfl,e⟩ | ⟨y,u,rfl,e⟩
   ·injection e with e1 _; rw [e1]
   ·exact nomatch e
  ·rcases ZT hb with ⟨j,u,rfl,e⟩ | ⟨y,u,rfl,e⟩
   ·exact nomatch e
   ·injection e with e1 _; rw [e1]
 byValue:=λ k v h=>by
  rcases ZT h with ⟨i,t,rfl,rfl⟩ | ⟨x,t,rfl,rfl⟩ <;> rfl
 pyHash:=λ hv h=>by
  rcases ZT hv with ⟨i,t,rfl,rfl⟩ | ⟨x,t,rfl,rfl⟩
  ·exact wpAny_pyHash_int h
  ·exact wpAny_pyHash_str h
 eqBool:=λ hu hv h=>by
  rcases ZT hu with ⟨i,t,rfl,rfl⟩ | ⟨x,t,rfl,rfl⟩
  ·rcases ZT hv with ⟨j,u,rfl,rfl⟩ | ⟨y,u,rfl,rfl⟩
   ·rw [Ze7] at h; exact wpAny_eqBool_int h
   ·rw [Zf8] at h; exact SeqAt.EqAt.int_str i t y u _ _ _ _ h
  ·rcases ZT hv with ⟨j,u,rfl,rfl⟩ | ⟨y,u,rfl,rfl⟩
   ·rw [Zce] at h; exact SeqAt.EqAt.str_int x t j u _ _ _ _ h
   ·rw [Zfh] at h; exact wpAny_eqBool_str h
 «strs» := λ k x t v h=>by
  rcases ZT h with ⟨i,u,rfl,e⟩ | ⟨y,u,rfl,e⟩
  ·exact nomatch e
  ·injection e with e1 _
   subst e1;cases v <;> rfl
theorem BQ (prog:Program) (w:World) (i:Int) (t:Tok):(Qe prog w).is (.inl i) (.int i t) = true:=HX i t
theorem Co (prog:Program) (w:World) (x:Str) (t:Tok):(Qe prog w).is (.inr x) (.str x t) = true:=HJ x t
inductive V where
 | non | bl (b:Bool) | int (i:Int) | str (x:Str) | byt (b:Array UInt8) | flt (b:UInt64) | ref (a:Addr) | ty (n:String)
 deriving DecidableEq
def RelV:V->Value->Prop
 | .non,u=>u = Value.none
 | .bl b,u=>u = Value.bool b
 | .int i,u=>∃ t,u = Value.int i t
 | .str x,u=>∃ t,u = Value.str x t
 | .byt b,u=>∃ t,u = Value.bytes b t
 | .flt b,u=>∃ t,u = Value.float b t
 | .ref a,u=>u = Value.ref a
 | .ty n,u=>u = Value.type n
abbrev Vals:List V->List Value->Prop:=Paired RelV
theorem Vals.length {xs:List V} {us:List Value} (r:Vals xs us):xs.length = us.length:=Paired.length r
theorem Vals.get:∀ {xs:List V} {us:List Value} {i:Nat} {x:V},Vals xs us->xs[i]? = some x->∃ u,us[i]? = some u /\ RelV x u
 | _,_,_,_,.nil,e=>by simp at e
 | _,_,0,_,.cons r _,e=>by simp at e; subst e; exact ⟨_,rfl,r⟩
 | _,_,i + 1,x,.cons _ t,e=>by
  obtain ⟨u,h1,h2⟩:=Vals.get (i:=i) (x:=x) t (by simpa using e);exact ⟨u,by simpa using h1,h2⟩
theorem Vals.set {x:V} {u:Value} (r:RelV x u):∀ {xs:List V} {us:List Value} (i:Nat),Vals xs us->Vals (xs.set i x) (us.set i u)
 | _,_,_,.nil=>.nil
 | _,_,0,.cons _ t=>.cons r t
 | _,_,i + 1,.cons q t=>.cons q (Vals.set r i t)
theorem Vals.append:∀ {xs ys:List V} {us ws:List Value},Vals xs us->Vals ys ws->Vals (xs ++ ys) (us ++ ws)
 | _,_,_,_,.nil,s=>s
 | _,_,_,_,.cons r t,s=>.cons r (Vals.append t s)
theorem Vals.take:∀ {xs:List V} {us:List Value} (n:Nat),Vals xs us->Vals (xs.take n) (us.take n)
 | _,_,0,_=>.nil
 | _,_,_ + 1,.nil=>.nil
 | _,_,n + 1,.cons r t=>.cons r (Vals.take n t)
theorem Vals.drop:∀ {xs:List V} {us:List Value} (n:Nat),Vals xs us->Vals (xs.drop n) (us.drop n)
 | _,_,0,r=>r
 | _,_,_ + 1,.nil=>.nil
 | _,_,n + 1,.cons _ t=>Vals.drop n t
theorem Vals.none_of:∀ {xs:List V} {us:List Value} {i:Nat},Vals xs us->xs[i]? = none->us[i]? = none:=λ {xs us i} r e=>by
 have h1:=r.length;have h2:xs.length <= i:=List.getElem?_eq_none_iff.mp e;exact List.getElem?_eq_none_iff.mpr (by lia)
def MU:Option V->Option Value->Prop
 | some v,some u=>RelV v u
 | none,none=>True
 | _,_=>False
def KV {κ:Type}:List (κ × V)->List (κ × Value)->Prop:=Paired λ (p:κ × V) (q:κ × Value)=>p.1 = q.1 /\ RelV p.2 q.2
noncomputable def kV:Key->V
 | .inl i=>.int i
 | .inr x=>.str x
inductive HO where
  | lst (xs:List V)
  | tup (xs:List V)
  | dK (kvs:List (Key × V)) | dT (kvs:List (List Key × V))
  | set (S:Int->Bool) (n:Nat)
  | ins (C dx:Addr) (fs:List (Str × V))
  | own (x:Addr)
  | xd (fs:List (Str × V))
  | met (f x:Addr)
  | rng (lo hi:Int)
  | frz (o:Obj) (u:HO)
  | tbl (ps:Array Value)
  | ext (φ:Heap->Prop)
abbrev Hp:=Addr->Option HO
noncomputable def upd (H:Hp) (a:Addr) (o:HO):Hp:=λ b=>if b = a then some o else H b
theorem Qk {H:Hp} {a:Addr} {o:HO}:upd H a o a = some o:=by unfold upd; rw [if_pos rfl]
theorem ZH {H:Hp} {a b:Addr} {o:HO} (h:b ≠ a):upd H a o b = H b:=by unfold upd; rw [if_neg h]
theorem Zal {H:Hp} {a:Addr} {o u:HO}:upd (upd H a o) a u = upd H a u:=by
 funext b; unfold upd; split <;> rfl
theorem ZA {H:Hp} {a b:Addr} {o:HO} (h:H a = some o) (h':H b = none):a ≠ b:=by
 intro e; subst e; rw [h] at h'; cases h'
section
variable (P:Program) (w:World)
def Z3 (H:Hp) (h:Heap) (a:Addr):HO->Prop
 | .lst xs=>xs.length <= sizeLine /\ ∃ (its:List Value) (n:Nat),Vals xs its /\ h.get? a = some { cls:=.type "list",data:=.seq its.toArray n }
 | .tup xs=>xs.length <= sizeLine /\ ∃ its:List Value,Vals xs its /\ IsTup h a its.toArray
 | .dK kvs=>kvs.length <= sizeLine /\ (a == sysModules) = false /\ ∃ vs,KV kvs vs /\ h.DictOf (Qe P w) a vs
 | .dT kvs=>kvs.length <= sizeLine /\ (a == sysModules) = false /\ ∃ xs:List (List Key × Addr × Value),
   Paired (λ (p:List Key × V) (q:List Key × Addr × Value)=>p.1 = q.1 /\ H q.2.1 = some (.tup (p.1.map kV)) /\ RelV p.2 q.2.2) kvs xs /\
   ∃ o es ep,h.get? a = some o /\ o.ExactDict /\ o.data = .dict es ep /\ es.toList = xs.map (entryOfKey (tupleKind (Qe P w))) /\ (xs.map (·.1)).Nodup
 | .set S n=>h.SetOf (intKind P w) a S n
 | .ins C dx fs=>H dx = some (.own a) /\ fs.length <= 1000 /\ dx ≠ a /\ h.get? a = some (PySem.W.instObj C dx) /\
   ∃ mA,h.Ns1 dx mA /\ (∀ f,MU (fs.lookup f) (mA f)) /\ PySem.Within mA (fs.map (·.1))
 | .own _=>∃ o,h.get? a = some o
 | .xd fs=>∃ mA,h.Ns1 a mA /\ ∀ f,MU (fs.lookup f) (mA f)
 | .rng lo hi=>∃ t u v,h.get? a = some { cls:=.type "range",data:=.fields #[.int lo t,.int hi u,.int 1 v] }
 | .frz o u=>h.get? a = some o /\ Z3 H h a u
 | .tbl ps=>h.get? a = some { cls:=.none,data:=.fields ps }
 | .met f x=>h.get? a = some (PySem.W.methodObj (.ref f) (.ref x))
 | .ext φ=>φ h /\ (∃ o,h.get? a = some o) /\ ∀ h1 h2:Heap,φ h1->(∀ o,h1.get? a = some o->h2.get? a = some o)->φ h2
def HOk (H:Hp) (h:Heap):Prop:=∀ a o,H a = some o->Z3 P w H h a o
end
section
variable {P:Program} {w:World} {H H':Hp} {h h':Heap} {a:Addr} {o:HO}
theorem Z3.lt (x:Z3 P w H h a o):a < h.objs.size:=by
 cases o with
 | lst xs=>obtain ⟨_,_,_,_,e⟩:=x; exact Heap.lt_size e
 | tup xs=>obtain ⟨_,_,_,p⟩:=x; exact p.lt
 | dK kvs=>obtain ⟨_,_,_,_,o,_,_,e,_⟩:=x; exact Heap.lt_size e
 | dT kvs=>obtain ⟨_,_,_,_,o,_,_,e,_⟩:=x; exact Heap.lt_size e
 | set S n=>obtain ⟨o,_,_,_,e,_⟩:=x; exact Heap.lt_size e
 | ins C dx fs=>obtain ⟨_,_,_,e,_⟩:=x; exact Heap.lt_size e
 | own y=>obtain ⟨_,e⟩:=x; exact Heap.lt_size e
 | xd fs=>obtain ⟨_,⟨_,_,_,e,_⟩,_⟩:=x; exact Heap.lt_size e
 | rng lo hi=>obtain ⟨_,_,_,e⟩:=x; exact Heap.lt_size e
 | frz ob u=>obtain ⟨e,_⟩:=x; exact Heap.lt_size e
 | tbl ps=>exact Heap.lt_size (show h.get? a = some _ from x)
 | met f y=>exact Heap.lt_size (show h.get? a = some _ from x)
 | ext φ=>obtain ⟨_,⟨_,e⟩,_⟩:=x; exact Heap.lt_size e
theorem Paired.Zb4 {α β:Type} {F G:α->β->Prop}:∀ {l₁:List α} {l₂:List β},Paired F l₁ l₂->(∀ a b,F a b->G a b)->Paired G l₁ l₂
 | _,_,.nil,_=>.nil
 | _,_,.cons r t,f=>.cons (f _ _ r) (Paired.Zb4 t f)
theorem Z3.Fx (x:Z3 P w H h a o) (k:∀ b u,(b = a \/ H b = some (.own a))->h.get? b = some u->h'.get? b = some u)
  (ho:∀ b,H b = some (.own a)->H' b = some (.own a)) (ht:∀ b xs,H b = some (.tup xs)->H' b = some (.tup xs)):Z3 P w H' h' a o:=by
 induction o with
 | lst xs=>obtain ⟨z,its,n,r,e⟩:=x; exact ⟨z,its,n,r,k _ _ (.inl rfl) e⟩
 | tup xs=>obtain ⟨z,its,r,ob,e,c⟩:=x; exact ⟨z,its,r,ob,k _ _ (.inl rfl) e,c⟩
 | dK kvs=>obtain ⟨z,y,vs,r,ob,es,ep,e,c⟩:=x; exact ⟨z,y,vs,r,ob,es,ep,k _ _ (.inl rfl) e,c⟩
 | dT kvs=>
  obtain ⟨z,y,xs,r,ob,es,ep,e,c⟩:=x;exact ⟨z,y,xs,Paired.Zb4 r λ p q z=>⟨z.1,ht _ _ z.2.1,z.2.2⟩,ob,es,ep,k _ _ (.inl rfl) e,c⟩
 | set S n=>obtain ⟨ob,es,ep,t,e,c⟩:=x; exact ⟨ob,es,ep,t,k _ _ (.inl rfl) e,c⟩
 | ins C dx fs=>
  obtain ⟨d,z,ne,e,mA,⟨od,es,ep,e2,c⟩,r⟩:=x;exact ⟨ho _ d,z,ne,k _ _ (.inl rfl) e,mA,⟨od,es,ep,k _ _ (.inr d) e2,c⟩,r⟩
 | own y=>obtain ⟨ob,e⟩:=x; exact ⟨ob,k _ _ (.inl rfl) e⟩
 | xd fs=>obtain ⟨mA,⟨od,es,ep,e,c⟩,r⟩:=x; exact ⟨mA,⟨od,es,ep,k _ _ (.inl rfl) e,c⟩,r⟩
 | rng lo hi=>obtain ⟨t,u,v,e⟩:=x; exact ⟨t,u,v,k _ _ (.inl rfl) e⟩
 | frz ob u ih=>obtain ⟨e,q⟩:=x; exact ⟨k _ _ (.inl rfl) e,ih q⟩
 | tbl ps=>
  have e:h.get? a = some { cls:=.none,data:=.fields ps }:=x;show h'.get? a = some { cls:=.none,data:=.fields ps };exact k a _ (.inl rfl) e
 | met f y=>
  have e:h.get? a = some (PySem.W.methodObj (.ref f) (.ref y)):=x;show h'.get? a = some (PySem.W.methodObj (.ref f) (.ref y));exact k a _ (.inl rfl) e
 | ext φ=>obtain ⟨p,⟨o,e⟩,st⟩:=x; exact ⟨st _ _ p λ o q=>k _ _ (.inl rfl) q,⟨o,k _ _ (.inl rfl) e⟩,st⟩
theorem HOk.lt (x:HOk P w H h) (e:H a = some o):a < h.objs.size:=(x a o e).lt
theorem HOk.fresh (x:HOk P w H h) (e:h.objs.size <= a):H a = none:=by
 cases q:H a with
 | none=>rfl
 | some u=>exact absurd (Nat.lt_of_lt_of_le (x.lt q) e) (Nat.lt_irrefl _)
theorem HOk.kept (x:HOk P w H h) (k:∀ b u,h.get? b = some u->h'.get? b = some u):HOk P w H h':=λ a o e=>
 (x a o e).Fx (λ b u _ q=>k b u q) (λ _ q=>q) λ _ _ q=>q
theorem HOk.laid (x:HOk P w H h) (k:∀ b u,h.get? b = some u->h'.get? b = some u) (hp:h.objs.size <= a) (new:Z3 P w (upd H a o) h' a o):HOk P w (upd H a o) h':=λ b u e=>by
 have hn:=x.fresh hp
 by_cases hb:b = a
 ·subst hb; rw [Qk] at e; cases e; exact new
 ·rw [ZH hb] at e;exact (x b u e).Fx (λ c v _ q=>k c v q) (λ c q=>by rw [ZH (ZA q hn)]; exact q) λ c xs q=>by rw [ZH (ZA q hn)]; exact q
end
def Rd (H:Hp) (a:Addr) (u:HO):Prop:=H a = some u \/ ∃ o,H a = some (.frz o u)
theorem Rd.of {H:Hp} {a:Addr} {u:HO} (h:H a = some u):Rd H a u:=.inl h
theorem Rd.ok {P:Program} {w:World} {H:Hp} {h:Heap} {a:Addr} {u:HO} (r:Rd H a u) (x:HOk P w H h):Z3 P w H h a u:=by
 rcases r with r | ⟨o,r⟩
 ·exact x a u r
 ·obtain ⟨_,q⟩:=x a _ r;exact q
def Mut:Option HO->Prop
 | some (.lst _)=>True
 | some (.dK _)=>True
 | some (.dT _)=>True
 | some (.set _ _)=>True
 | some (.ins _ _ _)=>True
 | some (.ext _)=>True
 | _=>False
section
variable {P:Program} {w:World} {H:Hp} {h h':Heap} {x e:Addr} {o':HO}
theorem HOk.write (ok:HOk P w H h) (mu:Mut (H x)) (he:e = x \/ H e = some (.own x)) (k:∀ b u,b ≠ e->h.get? b = some u->h'.get? b = some u) (heo:∃ u,h'.get? e = some u)
  (new:Z3 P w (upd H x o') h' x o'):HOk P w (upd H x o') h':=λ b u q=>by
 have nown:∀ c y,H c = some (.own y)->c ≠ x:=λ c y r z=>by subst z; rw [r] at mu; exact mu
 have ntup:∀ c xs,H c = some (.tup xs)->c ≠ x:=λ c xs r z=>by subst z; rw [r] at mu; exact mu
 by_cases hb:b = x
 ·subst hb; rw [Qk] at q; cases q; exact new
 ·rw [ZH hb] at q
  by_cases hbe:b = e
  ·have q':H b = some (.own x):=by
    rcases he with z | z
    ·exact absurd (hbe.trans z) hb
    ·rw [hbe]; exact z
   rw [q] at q'; cases q';obtain ⟨v,hv⟩:=heo;exact ⟨v,by rw [hbe]; exact hv⟩
  ·refine (ok b u q).Fx (λ c v hc r=>k c v ?_ r) (λ c r=>by rw [ZH (nown c b r)]; exact r) λ c xs r=>by rw [ZH (ntup c xs r)]; exact r
   rcases hc with rfl | hc
   ·exact hbe
   ·rintro rfl
    rcases he with z | z
    ·exact nown c b hc z
    ·rw [hc] at z; cases z; exact hb rfl
end
structure Un (fs ex:List Addr) (H H':Hp) (h h':Heap):Prop where
 keep:∀ b o,h.get? b = some o->H b = none->b ∉ fs->b ∉ ex->h'.get? b = some o
 slot:∀ b o,h.get? b = some o->H b = none->b ∈ fs->b ∉ ex->∃ sl,h'.get? b = some { o with slots:=sl }
 free:∀ b o,h.get? b = some o->H b = none->b ∉ ex->H' b = none
 there:∀ b o,h.get? b = some o->b ∉ ex->∃ o',h'.get? b = some o'
 tups:∀ b xs,H b = some (.tup xs)->H' b = some (.tup xs)
 frzs:∀ b o u,H b = some (.frz o u)->H' b = some (.frz o u)
 tbls:∀ b ps,H b = some (.tbl ps)->∃ more,H' b = some (.tbl (ps ++ more))
section
variable {fs fs' ex ex':List Addr} {H H1 H2:Hp} {h h1 h2 h':Heap} {a x e:Addr} {o:HO}
theorem Un.any (u:Un fs ex H H1 h h1) {b:Addr} {ob:Obj} (q:h.get? b = some ob) (n:H b = none) (hx:b ∉ ex):∃ sl,h1.get? b = some { ob with slots:=sl }:=by
 by_cases hb:b ∈ fs
 ·exact u.slot b ob q n hb hx
 ·exact ⟨ob.slots,u.keep b ob q n hb hx⟩
theorem Un.trans (a:Un fs ex H H1 h h1) (b:Un fs ex H1 H2 h1 h2):Un fs ex H H2 h h2 where
 keep:=λ c ob q n hc hx=>b.keep c ob (a.keep c ob q n hc hx) (a.free c ob q n hx) hc hx
 slot:=λ c ob q n hc hx=>by
  obtain ⟨sl,e1⟩:=a.slot c ob q n hc hx;obtain ⟨sl',e2⟩:=b.slot c _ e1 (a.free c ob q n hx) hc hx;exact ⟨sl',e2⟩
 free:=λ c ob q n hx=>by
  obtain ⟨o',e1⟩:=a.there c ob q hx;exact b.free c o' e1 (a.free c ob q n hx) hx
 there:=λ c ob q hx=>by
  obtain ⟨o',e1⟩:=a.there c ob q hx;exact b.there c o' e1 hx
 tups:=λ c xs q=>b.tups c xs (a.tups c xs q)
 frzs:=λ c ob xs q=>b.frzs c ob xs (a.frzs c ob xs q)
 tbls:=λ c ps q=>by
  obtain ⟨m1,e1⟩:=a.tbls c ps q;obtain ⟨m2,e2⟩:=b.tbls c _ e1;exact ⟨m1 ++ m2,by rw [e2,Array.append_assoc]⟩
theorem Un.kept (k:∀ b u,h.get? b = some u->h'.get? b = some u):Un fs ex H H h h':=
 ⟨λ b ob q _ _ _=>k b ob q,λ b ob q _ _ _=>⟨ob.slots,k b ob q⟩,λ _ _ _ n _=>n,λ b ob q _=>⟨ob,k b ob q⟩,λ _ _ q=>q,λ _ _ _ q=>q,λ _ ps q=>⟨#[],by rw [q]; simp⟩⟩
theorem Un.refl:Un fs ex H H h h:=Un.kept λ _ _ q=>q
theorem Un.laid (k:∀ b u,h.get? b = some u->h'.get? b = some u) (hp:h.objs.size <= a) (hn:H a = none):Un fs ex H (upd H a o) h h' where
 keep:=λ b u q _ _ _=>k b u q
 slot:=λ b u q _ _ _=>⟨u.slots,k b u q⟩
 free:=λ b u q n _=>by rw [ZH (Nat.ne_of_lt (Nat.lt_of_lt_of_le (Heap.lt_size q) hp))]; exact n
 there:=λ b u q _=>⟨u,k b u q⟩
 tups:=λ b xs q=>by rw [ZH (ZA q hn)]; exact q
 frzs:=λ b u xs q=>by rw [ZH (ZA q hn)]; exact q
 tbls:=λ b ps q=>⟨#[],by rw [ZH (ZA q hn),q]; simp⟩
theorem Un.write (mu:Mut (H x)) (he:e = x \/ H e = some (.own x)) (k:∀ b u,b ≠ e->h.get? b = some u->h'.get? b = some u) (heo:∃ u,h'.get? e = some u):Un fs ex H (upd H x o) h h':=by
 have hx:∀ b,H b = none->b ≠ x:=λ b n z=>by subst z; rw [n] at mu; exact mu
 have hb:∀ b,H b = none->b ≠ e:=λ b n z=>by
  subst z
  rcases he with r | r
  ·exact hx b n r
  ·rw [n] at r; cases r
 have hm:∀ b u,H b = some u->¬ Mut (some u)->b ≠ x:=λ b u q nm z=>by subst z; rw [q] at mu; exact nm mu
 refine ⟨λ b u q n _ _=>k b u (hb b n) q,λ b u q n _ _=>⟨u.slots,k b u (hb b n) q⟩,λ b u q n _=>by rw [ZH (hx b n)]; exact n,λ b u q _=>?_,
  λ b xs q=>by rw [ZH (hm b _ q λ z=>z)]; exact q,λ b u xs q=>by rw [ZH (hm b _ q λ z=>z)]; exact q,λ b ps q=>⟨#[],by rw [ZH (hm b _ q λ z=>z),q]; simp⟩⟩
 by_cases hbe:b = e
 ·subst hbe; exact heo
 ·exact ⟨u,k b u hbe q⟩
end
noncomputable def trk (h:Heap) (H:Hp):List Addr:=(List.range h.objs.size).filter λ a=>(H a).isSome
noncomputable def MX (h:Heap) (H:Hp):Heap:=PySem.W.hideAll h (trk h H)
theorem HM (h:Heap) (H:Hp):(MX h H).objs.size = h.objs.size:=PySem.W.hideAll_size _ _
theorem NX {h:Heap} {H:Hp} {b:Addr} {o:Obj} (e:h.get? b = some o) (n:H b = none):(MX h H).get? b = some o:=
 PySem.W.hideAll_get _ e λ hm=>by
  have q:(H b).isSome = true:=(List.mem_filter.mp hm).2;rw [n] at q; simp at q
theorem ZaQ {h:Heap} {H:Hp} {b:Addr} {o:Obj} (e:(MX h H).get? b = some o):h.get? b = some o /\ H b = none:=by
 have e':h.get? b = some o:=PySem.W.of_hideAll (trk h H) e;refine ⟨e',?_⟩;cases q:H b with
 | none=>rfl
 | some x=>
  have hm:b ∈ trk h H:=List.mem_filter.mpr ⟨List.mem_range.mpr (Heap.lt_size e'),by simp [q]⟩;have z:(MX h H).get? b = none:=PySem.W.hideAll_none (trk h H) hm;rw [z] at e; cases e
structure Mod (K:Fk) (mg:Str->Option Value) (base:Heap):Prop where
 kin:K.In base
 glob:base.Ns mainGlobals mg
 blt:∃ mb,base.Ns builtinsNs mb /\ ∀ x:Str,x ≠ "__name__" -> mb x = bootBuiltins x
 nolimit:base.NoLimit
structure Cx where
 prog:Program
 w:World
 K:Fk
 mg:Str->Option Value
 base:Heap
 A:Around
 N:List Str
 s₀:Shared
 H₀:Hp
 env:Env
 outer:List Env
 stack:List Env
 ex:List Addr
 fn:Str->Bool
 calm:Bool
 pn:List (Addr × Obj)
 xe:Value->Shared->Prop
noncomputable def frs (l:List Env):List Addr:=l.filterMap (·.frame)
noncomputable abbrev Cx.fs (X:Cx):List Addr:=frs X.outer
def Vis (sc:Scope) (x:Str):Prop:=sc.names.lookup x = some .local \/ sc.names.lookup x = some .cell \/ sc.names.lookup x = some .free
def Loc (sc:Scope) (x:Str):Prop:=sc.names.lookup x = some .local \/ sc.names.lookup x = some .cell
def Look (env:Env) (h:Heap) (m:Str->Option Value) (x:Str) (u:Value):Prop:=
 (env.kindOf x = some .local /\ m x = some u) \/ ((env.kindOf x = some .cell \/ env.kindOf x = some .free) /\ ∃ c,env.cells.lookup x = some c /\ h.IsCell c (some u))
structure Cx.Ok (X:Cx):Prop where
 mod:Mod X.K X.mg X.base
 kind:X.env.scope.kind = .function
 glob:X.env.globals = mainGlobals
 blt:X.env.builtins = builtinsNs
 above:X.s₀.heap.objs.size <= X.env.locals
 inj:∀ x y c,X.env.cells.lookup x = some c->X.env.cells.lookup y = some c->x = y
 has:∀ x,(X.env.kindOf x = some .cell \/ X.env.kindOf x = some .free)->∃ c,X.env.cells.lookup x = some c
 cab:∀ x c,X.fn x = true->X.env.cells.lookup x = some c->X.s₀.heap.objs.size <= c
 hd:X.calm = true->X.A.handled = none
 frames:X.A.frames = some X.stack
 stk:X.stack = X.outer \/ (X.stack = X.env :: X.outer /\ X.env.frame = some X.env.locals)
 exf:∀ b ∈ X.ex,b ≠ X.env.locals /\ ∀ x c,X.env.cells.lookup x = some c->c ≠ b
 bs:∀ b o,X.base.get? b = some o->X.s₀.heap.get? b = some o /\ X.H₀ b = none
 bsz:X.base.objs.size <= X.s₀.heap.objs.size
 noex:∀ b o,X.base.get? b = some o->b ∉ X.ex
 exfs:∀ b ∈ X.ex,b ∉ X.fs
 Cs:X.s₀.heap.FunFrames X.base X.outer
 frf:∀ b ∈ X.fs,X.H₀ b = none
structure Inv (X:Cx) (pins:List (Addr × Obj)) (Z:List (Option V)) (H:Hp) (s:Shared):Prop where
 ok:X.Ok
 os:s.os = X.s₀.os
 bare:AllBare s.gens
 base:Un X.fs X.ex X.H₀ H X.s₀.heap s.heap
 loc:∃ m,s.heap.Ns X.env.locals m /\ ∀ (i:Nat) (x:Str) (v:V),X.N[i]? = some x->Z[i]? = some (some v)->Vis X.env.scope x->∃ u,RelV v u /\ Look X.env s.heap m x u
 cell:∀ x c,X.env.cells.lookup x = some c->∃ v,s.heap.IsCell c v
 free:H X.env.locals = none
 freeC:∀ x c,X.env.cells.lookup x = some c->H c = none
 pin:∀ p ∈ X.pn ++ pins,s.heap.get? p.1 = some p.2 /\ H p.1 = none /\ p.1 ≠ X.env.locals /\ p.1 ∉ X.fs /\ ∀ v,p.2.data ≠ .cell v
 hok:HOk X.prog X.w H s.heap
 len:Z.length = X.N.length
section
variable {X:Cx} {pins:List (Addr × Obj)} {Z:List (Option V)} {H H':Hp} {s:Shared} {h':Heap}
theorem Cx.Ok.ZjE (ok:X.Ok) {b:Addr} {o:Obj} (e:X.base.get? b = some o):b ∉ X.fs:=λ hb=>by
 have:=(ok.Cs.mem hb).1;rw [e] at this; cases this
theorem Inv.bs (I:Inv X pins Z H s):∀ b o,X.base.get? b = some o->s.heap.get? b = some o /\ H b = none:=λ b o e=>
 ⟨I.base.keep b o (I.ok.bs b o e).1 (I.ok.bs b o e).2 (I.ok.ZjE e) (I.ok.noex b o e),I.base.free b o (I.ok.bs b o e).1 (I.ok.bs b o e).2 (I.ok.noex b o e)⟩
theorem Inv.bk (I:Inv X pins Z H s):∀ b o,X.base.get? b = some o->s.heap.get? b = some o:=λ b o e=>(I.bs b o e).1
theorem Inv.mod (I:Inv X pins Z H s):Mod X.K X.mg X.base:=I.ok.mod
theorem Inv.kIn (I:Inv X pins Z H s):X.K.In s.heap:=I.ok.mod.kin.keeps I.bk
theorem Inv.fr (I:Inv X pins Z H s):∃ m,Fr X.base X.env.locals s.heap m:=
 let ⟨m,hn,_⟩:=I.loc
 ⟨m,hn,I.bk,Nat.le_trans I.ok.bsz I.ok.above⟩
theorem Inv.lt (I:Inv X pins Z H s):X.env.locals < s.heap.objs.size:=let ⟨_,hn,_⟩:=I.loc; hn.lt
theorem Inv.sz (I:Inv X pins Z H s):X.s₀.heap.objs.size <= s.heap.objs.size:=Nat.le_trans I.ok.above (Nat.le_of_lt I.lt)
theorem Inv.Zjs (I:Inv X pins Z H s) {a:Addr} (h:s.heap.objs.size <= a):a ∉ X.fs:=λ hb=>by
 obtain ⟨_,o,ho,_⟩:=I.ok.Cs.mem hb;exact absurd (Nat.lt_of_lt_of_le (Heap.lt_size ho) (Nat.le_trans I.sz h)) (Nat.lt_irrefl _)
theorem Inv.cne (I:Inv X pins Z H s):∀ x c,X.env.cells.lookup x = some c->c ≠ X.env.locals:=λ x c e z=>by
 obtain ⟨v,o,ho,hd⟩:=I.cell x c e;obtain ⟨m,⟨o',es,ep,ho',hd',_⟩,_⟩:=I.loc;rw [z,ho'] at ho; cases ho; rw [hd'] at hd; cases hd
theorem Inv.Cs (I:Inv X pins Z H s):s.heap.FunFrames X.base X.outer:=by
 have all:∀ (l:List Env),(∀ b ∈ frs l,b ∈ X.fs)->X.s₀.heap.FunFrames X.base l->s.heap.FunFrames X.base l:=by
  intro l
  induction l with
  | nil=>intro _ _; trivial
  | cons env r ih=>
   intro hs hl;obtain ⟨hk,⟨L,o,hf,hn,ho,hd⟩,hr⟩:=hl;have hL:L ∈ X.fs:=hs L (by unfold frs; rw [List.filterMap_cons,hf]; exact List.mem_cons_self);obtain ⟨sl,e⟩:=I.base.slot L o ho (I.ok.frf L hL) hL λ z=>I.ok.exfs L z hL;exact ⟨hk,⟨L,_,hf,hn,e,hd⟩,ih (λ b hb=>hs b (by unfold frs; rw [List.filterMap_cons,hf]; exact List.mem_cons_of_mem _ hb)) hr⟩
 exact all X.outer (λ _ hb=>hb) I.ok.Cs
theorem Inv.stack (I:Inv X pins Z H s):s.heap.FunFrames X.base X.stack:=by
 rcases I.ok.stk with e | ⟨e,hf⟩
 ·rw [e]; exact I.Cs
 ·rw [e];obtain ⟨m,hn,_⟩:=I.loc;refine .cons (by rw [I.ok.kind]; decide) hf hn ?_ I.Cs;exact Heap.get?_none_of_le (Nat.le_trans I.ok.bsz I.ok.above)
theorem Inv.LD (I:Inv X pins Z H s):∀ b ∈ frs X.stack,b ∈ X.env.locals :: X.fs:=λ b hb=>by
 rcases I.ok.stk with e | ⟨e,hf⟩
 ·rw [e] at hb; exact List.mem_cons_of_mem _ hb
 ·rw [e] at hb;unfold frs at hb;rw [List.filterMap_cons,hf] at hb;exact hb
theorem Inv.Hw (I:Inv X pins Z H s):∀ b ∈ frs X.stack,H b = none:=λ b hb=>by
 rcases List.mem_cons.mp (I.LD b hb) with e | hb
 ·rw [e]; exact I.free
 ·obtain ⟨_,o,ho,_⟩:=I.ok.Cs.mem hb;exact I.base.free b o ho (I.ok.frf b hb) λ z=>I.ok.exfs b z hb
theorem Inv.step {g':Array GenState} {t':Nat} {d':Drawn} {ch:List Addr} (I:Inv X pins Z H s)
  (hch:∀ b ∈ ch,(b ∈ X.ex \/ X.s₀.heap.objs.size <= b) /\ b ≠ X.env.locals /\ (∀ x c,X.env.cells.lookup x = some c->c ≠ b) /\ ∀ p ∈ X.pn ++ pins,p.1 ≠ b)
  (keep:∀ b o,b ≠ X.env.locals->b ∉ X.fs->b ∉ ch->s.heap.get? b = some o->H b = none->h'.get? b = some o)
  (slot:∀ b o,b ≠ X.env.locals->b ∈ X.fs->b ∉ ch->s.heap.get? b = some o->H b = none->∃ sl,h'.get? b = some { o with slots:=sl }) (free:∀ b o,b ∉ ch->s.heap.get? b = some o->H b = none->H' b = none)
  (there:∀ b o,b ∉ ch->s.heap.get? b = some o->∃ o',h'.get? b = some o')
  (tups:∀ b xs,H b = some (.tup xs)->H' b = some (.tup xs)) (frzs:∀ b o u,H b = some (.frz o u)->H' b = some (.frz o u)) (tbls:∀ b ps,H b = some (.tbl ps)->∃ more,H' b = some (.tbl (ps ++ more)))
  (ns:∀ m,s.heap.Ns X.env.locals m->h'.Ns X.env.locals m) (hok:HOk X.prog X.w H' h') (hg:AllBare g') :
  Inv X pins Z H' { s with heap:=h',gens:=g',drawn:=d',toks:=t' }:=by
 have neL:∀ b o,X.s₀.heap.get? b = some o->b ≠ X.env.locals:=λ b o e=>Nat.ne_of_lt (Nat.lt_of_lt_of_le (Heap.lt_size e) I.ok.above);have neC:∀ b o,X.s₀.heap.get? b = some o->b ∉ X.ex->b ∉ ch:=λ b o e hx hb=>by
  rcases (hch b hb).1 with z | z
  ·exact hx z
  ·exact absurd (Nat.lt_of_lt_of_le (Heap.lt_size e) z) (Nat.lt_irrefl _)
 have cellK:∀ x c,X.env.cells.lookup x = some c->∀ v,s.heap.IsCell c v->h'.IsCell c v:=λ x c e v ⟨o,ho,hd⟩=>by
  have nch:c ∉ ch:=λ z=>(hch c z).2.2.1 x c e rfl
  by_cases hc:c ∈ X.fs
  ·obtain ⟨sl,q⟩:=slot c o (I.cne x c e) hc nch ho (I.freeC x c e);exact ⟨_,q,hd⟩
  ·exact ⟨o,keep c o (I.cne x c e) hc nch ho (I.freeC x c e),hd⟩
 refine ⟨I.ok,I.os,hg,⟨λ b o e n hb hx=>?_,λ b o e n hb hx=>?_,λ b o e n hx=>?_,λ b o e hx=>?_,λ b xs e=>tups b xs (I.base.tups b xs e),λ b o xs e=>frzs b o xs (I.base.frzs b o xs e),λ b ps e=>?_⟩,?_,λ x c e=>?_,?_,λ x c e=>?_,λ p hp=>?_,hok,I.len⟩
 ·exact keep b o (neL b o e) hb (neC b o e hx) (I.base.keep b o e n hb hx) (I.base.free b o e n hx)
 ·obtain ⟨sl,e1⟩:=I.base.slot b o e n hb hx;obtain ⟨sl',e2⟩:=slot b _ (neL b o e) hb (neC b o e hx) e1 (I.base.free b o e n hx);exact ⟨sl',e2⟩
 ·obtain ⟨o',e1⟩:=I.base.there b o e hx;exact free b o' (neC b o e hx) e1 (I.base.free b o e n hx)
 ·obtain ⟨o',e1⟩:=I.base.there b o e hx;exact there b o' (neC b o e hx) e1
 ·obtain ⟨m1,e1⟩:=I.base.tbls b ps e;obtain ⟨m2,e2⟩:=tbls b _ e1;exact ⟨m1 ++ m2,by rw [e2,Array.append_assoc]⟩
 ·obtain ⟨m,hn,hl⟩:=I.loc;refine ⟨m,ns m hn,λ i x v e1 e2 e3=>?_⟩;obtain ⟨u,r,l⟩:=hl i x v e1 e2 e3;refine ⟨u,r,?_⟩
  rcases l with l | ⟨k,c,e,z⟩
  ·exact .inl l
  ·exact .inr ⟨k,c,e,cellK x c e _ z⟩
 ·obtain ⟨v,z⟩:=I.cell x c e;exact ⟨v,cellK x c e v z⟩
 ·obtain ⟨m,⟨o,_,_,ho,_⟩,_⟩:=I.loc;exact free _ o (λ z=>(hch _ z).2.1 rfl) ho I.free
 ·obtain ⟨v,o,ho,hd⟩:=I.cell x c e;exact free c o (λ z=>(hch c z).2.2.1 x c e rfl) ho (I.freeC x c e)
 ·obtain ⟨e,n,ne,nf,d⟩:=I.pin p hp;have nch:p.1 ∉ ch:=λ z=>(hch p.1 z).2.2.2 p hp rfl;exact ⟨keep p.1 p.2 ne nf nch e n,free p.1 p.2 nch e n,ne,nf,d⟩
theorem Inv.un {t':Nat} (I:Inv X pins Z H s) (u:Un X.fs [] H H' s.heap h') (hok:HOk X.prog X.w H' h'):Inv X pins Z H' { s with heap:=h',toks:=t' }:=by
 obtain ⟨m,⟨o,es,ep,ho,r⟩,_⟩:=id I.loc;obtain ⟨sl,hL⟩:=u.any ho I.free (by simp)
 exact I.step (g':=s.gens) (d':=s.drawn) (ch:=[]) (λ _ z=>nomatch z) (λ b o _ hb _ e n=>u.keep b o e n hb (by simp)) (λ b o _ hb _ e n=>u.slot b o e n hb (by simp)) (λ b o _ e n=>u.free b o e n (by simp)) (λ b o _ e=>u.there b o e (by simp)) u.tups u.frzs u.tbls (λ m' hm=>by
  obtain ⟨o',es',ep',ho',r'⟩:=hm;rw [ho] at ho'; cases ho'
  exact ⟨_,es',ep',hL,r'⟩) hok I.bare
theorem Inv.call {g':Array GenState} {t':Nat} {d':Drawn} {ch:List Addr} (I:Inv X pins Z H s) (u:Un (frs X.stack) ch H H' s.heap h') (hok:HOk X.prog X.w H' h') (hg:AllBare g')
  (hch:∀ b ∈ ch,(b ∈ X.ex \/ X.s₀.heap.objs.size <= b) /\ b ≠ X.env.locals /\ (∀ x c,X.env.cells.lookup x = some c->c ≠ b) /\ ∀ p ∈ X.pn ++ pins,p.1 ≠ b) :
  Inv X pins Z H' { s with heap:=h',gens:=g',drawn:=d',toks:=t' }:=by
 obtain ⟨m,⟨o,es,ep,ho,r⟩,_⟩:=id I.loc;obtain ⟨sl,hL⟩:=u.any ho I.free λ z=>(hch _ z).2.1 rfl
 exact I.step (ch:=ch) hch (λ b o hL hb hc e n=>u.keep b o e n (λ z=>(List.mem_cons.mp (I.LD b z)).elim hL hb) hc) (λ b o _ _ hc e n=>u.any e n hc) (λ b o hc e n=>u.free b o e n hc) (λ b o hc e=>u.there b o e hc) u.tups u.frzs u.tbls (λ m' hm=>by
  obtain ⟨o',es',ep',ho',r'⟩:=hm;rw [ho] at ho'; cases ho'
  exact ⟨_,es',ep',hL,r'⟩) hok hg
theorem Inv.turned {t':Nat} {it:Addr} (I:Inv X pins Z H s) (k:∀ b o,b ≠ it->s.heap.get? b = some o->h'.get? b = some o) (hn:H it = none) (hL:it ≠ X.env.locals)
  (h1:it ∈ X.ex \/ X.s₀.heap.objs.size <= it) (h2:∀ x c,X.env.cells.lookup x = some c->c ≠ it) (h3:∀ p ∈ X.pn ++ pins,p.1 ≠ it):Inv X pins Z H { s with heap:=h',toks:=t' }:=by
 have nit:∀ b u,H b = some u->b ≠ it:=λ b u e z=>by rw [z,hn] at e; cases e
 refine I.step (g':=s.gens) (d':=s.drawn) (ch:=[it]) (λ b hb=>?_) (λ b o _ _ hc e _=>k b o (λ z=>hc (by simp [z])) e) (λ b o _ _ hc e _=>⟨o.slots,k b o (λ z=>hc (by simp [z])) e⟩) (λ _ _ _ _ n=>n)
  (λ b o hc e=>⟨o,k b o (λ z=>hc (by simp [z])) e⟩) (λ _ _ e=>e) (λ _ _ _ e=>e) (λ b ps e=>⟨#[],by rw [e]; simp⟩) (λ m hm=>?_) (λ b u e=>?_) I.bare
 ·have e:b = it:=by simpa using hb
  subst e;exact ⟨h1,hL,h2,h3⟩
 ·obtain ⟨o,es,ep,ho,r⟩:=hm;exact ⟨o,es,ep,k _ o (Ne.symm hL) ho,r⟩
 ·refine (I.hok b u e).Fx (λ c v hc q=>k c v ?_ q) (λ _ q=>q) λ _ _ q=>q
  rcases hc with z | z
  ·rw [z]; exact nit b u e
  ·exact nit c _ z
theorem Inv.tok (I:Inv X pins Z H s) (t:Nat):Inv X pins Z H { s with toks:=t }:=I.un (h':=s.heap) (t':=t) Un.refl I.hok
theorem Inv.kept {t':Nat} (I:Inv X pins Z H s) (k:∀ b u,s.heap.get? b = some u->h'.get? b = some u):Inv X pins Z H { s with heap:=h',toks:=t' }:=I.un (Un.kept k) (I.hok.kept k)
theorem Inv.laid {a:Addr} {o:HO} {t':Nat} (I:Inv X pins Z H s) (k:∀ b u,s.heap.get? b = some u->h'.get? b = some u) (hp:s.heap.objs.size <= a) (new:Z3 X.prog X.w (upd H a o) h' a o) :
  Inv X pins Z (upd H a o) { s with heap:=h',toks:=t' }:=I.un (Un.laid k hp (I.hok.fresh hp)) (I.hok.laid k hp new)
theorem Inv.write {x e:Addr} {o:HO} {t':Nat} (I:Inv X pins Z H s) (mu:Mut (H x)) (he:e = x \/ H e = some (.own x)) (k:∀ b u,b ≠ e->s.heap.get? b = some u->h'.get? b = some u) (heo:∃ u,h'.get? e = some u)
  (new:Z3 X.prog X.w (upd H x o) h' x o):Inv X pins Z (upd H x o) { s with heap:=h',toks:=t' }:=I.un (Un.write mu he k heo) (I.hok.write mu he k heo new)
theorem Inv.XF {pins':List (Addr × Obj)} (I:Inv X pins Z H s) (h:∀ p ∈ pins',s.heap.get? p.1 = some p.2 /\ H p.1 = none /\ p.1 ≠ X.env.locals /\ p.1 ∉ X.fs /\ ∀ v,p.2.data ≠ .cell v):Inv X pins' Z H s:=
 ⟨I.ok,I.os,I.bare,I.base,I.loc,I.cell,I.free,I.freeC,λ p hp=>(List.mem_append.mp hp).elim (λ z=>I.pin p (List.mem_append_left _ z)) (h p),I.hok,I.len⟩
theorem Di {N:List Str} (hN:N.Nodup) {i j:Nat} {x:Str} (a:N[i]? = some x) (b:N[j]? = some x):i = j:=by
 obtain ⟨h1,e1⟩:=List.getElem?_eq_some_iff.mp a;obtain ⟨h2,e2⟩:=List.getElem?_eq_some_iff.mp b;exact (List.getElem_inj hN).mp (e1.trans e2.symm)
theorem Hd {M:Model} {A:Around} {E:Value->Shared->Prop} {i:Nat} {x:Str} {v:V} {u:Value} {Q:Unit->Shared->Prop} (I:Inv X pins Z H s) (hN:X.N.Nodup) (hi:X.N[i]? = some x) (hx:Loc X.env.scope x) (r:RelV v u)
  (h:∀ s',Inv X pins (Z.set i (some v)) H s'->(∃ a,Heap.SameBut a s.heap s'.heap /\ (a = X.env.locals \/ X.env.cells.lookup x = some a))->Q () s') (hf:autoParam (X.fn x = true \/ X.env.scope.names.lookup x = some .local) zz0._auto_1):wpAny M A (storeName X.env x u) Q E s:=by
 obtain ⟨m,hn,hl⟩:=id I.loc;have hcls:(X.env.scope.kind == .class || (X.env.scope.kind == .module && X.env.locals != X.env.globals)) = false:=by rw [I.ok.kind]; rfl
 have hiσ:i < Z.length:=by rw [I.len]; exact (List.getElem?_eq_some_iff.mp hi).1
 have cne:=I.cne;have tracked:∀ {a:Addr} {h':Heap},(∃ o,s.heap.get? a = some o /\ H a = none)->Heap.SameBut a s.heap h'->HOk X.prog X.w H h':=λ {a h'} ha hs b ob e=>by
  obtain ⟨_,_,hfree⟩:=ha;refine (I.hok b ob e).Fx (λ c w' hc q=>(hs.2 c ?_).trans q) (λ _ q=>q) λ _ _ q=>q;rintro rfl
  rcases hc with rfl | hc
  ·rw [hfree] at e; cases e
  ·rw [hfree] at hc; cases hc
 rcases hx with hk | hk
 ·refine wpAny_storeName_local hk hn (λ h' hn' hs=>?_) hcls;obtain ⟨oL,_,_,hoL,_⟩:=id hn;refine h _ ⟨I.ok,I.os,I.bare,⟨λ b o e n hb hx=>?_,λ b o e n hb hx=>?_,I.base.free,λ b o e hx=>?_,I.base.tups,I.base.frzs,I.base.tbls⟩,⟨_,hn',λ j y v' e1 e2 e3=>?_⟩,λ y c e=>?_,I.free,I.freeC,λ p hp=>?_,tracked ⟨oL,hoL,I.free⟩ hs,by simpa using I.len⟩ ⟨_,hs,.inl rfl⟩
  ·exact (hs.2 b (Nat.ne_of_lt (Nat.lt_of_lt_of_le (Heap.lt_size e) I.ok.above))).trans (I.base.keep b o e n hb hx)
  ·obtain ⟨sl,e1⟩:=I.base.slot b o e n hb hx;exact ⟨sl,(hs.2 b (Nat.ne_of_lt (Nat.lt_of_lt_of_le (Heap.lt_size e) I.ok.above))).trans e1⟩
  ·obtain ⟨o',e1⟩:=I.base.there b o e hx;exact ⟨o',(hs.2 b (Nat.ne_of_lt (Nat.lt_of_lt_of_le (Heap.lt_size e) I.ok.above))).trans e1⟩
  ·by_cases hj:j = i
   ·subst hj;rw [hi] at e1; cases e1;rw [List.getElem?_set_self hiσ] at e2;cases e2;exact ⟨u,r,.inl ⟨hk,by simp⟩⟩
   ·rw [List.getElem?_set_ne (Ne.symm hj)] at e2;obtain ⟨u',r',q⟩:=hl j y v' e1 e2 e3;refine ⟨u',r',?_⟩
    rcases q with ⟨k,e⟩ | ⟨k,c,e,z⟩
    ·refine .inl ⟨k,?_⟩;have:y ≠ x:=λ e=>hj (Di hN e1 (e ▸ hi));simp [this,e]
    ·exact .inr ⟨k,c,e,z.sameBut hs (cne y c e)⟩
  ·obtain ⟨w',z⟩:=I.cell y c e;exact ⟨w',z.sameBut hs (cne y c e)⟩
  ·obtain ⟨e,n,ne,nf,d⟩:=I.pin p hp;exact ⟨(hs.2 p.1 ne).trans e,n,ne,nf,d⟩
 ·have hfn:X.fn x = true:=by
   rcases hf with z | z
   ·exact z
   ·rw [z] at hk; cases hk
  obtain ⟨c,hc⟩:=I.ok.has x (.inl hk);obtain ⟨w',z⟩:=I.cell x c hc;refine wpAny_storeName_cell I.ok.kind hk hc z (λ h' hc' hs=>?_);obtain ⟨oc,hoc,hocd⟩:=id z;refine h { s with heap:=h' } ⟨I.ok,I.os,I.bare,⟨λ b o e n hb hx=>?_,λ b o e n hb hx=>?_,I.base.free,λ b o e hx=>?_,I.base.tups,I.base.frzs,I.base.tbls⟩,⟨m,hn.sameBut hs (Ne.symm (cne x c hc)),λ j y v' e1 e2 e3=>?_⟩,λ y c' e=>?_,I.free,I.freeC,λ p hp=>?_,tracked ⟨oc,hoc,I.freeC x c hc⟩ hs,by simpa using I.len⟩ ⟨c,hs,.inr hc⟩
  ·exact (hs.2 b (Nat.ne_of_lt (Nat.lt_of_lt_of_le (Heap.lt_size e) (I.ok.cab x c hfn hc)))).trans (I.base.keep b o e n hb hx)
  ·obtain ⟨sl,e1⟩:=I.base.slot b o e n hb hx;exact ⟨sl,(hs.2 b (Nat.ne_of_lt (Nat.lt_of_lt_of_le (Heap.lt_size e) (I.ok.cab x c hfn hc)))).trans e1⟩
  ·obtain ⟨o',e1⟩:=I.base.there b o e hx;exact ⟨o',(hs.2 b (Nat.ne_of_lt (Nat.lt_of_lt_of_le (Heap.lt_size e) (I.ok.cab x c hfn hc)))).trans e1⟩
  ·by_cases hj:j = i
   ·subst hj;rw [hi] at e1; cases e1;rw [List.getElem?_set_self hiσ] at e2;cases e2;exact ⟨u,r,.inr ⟨.inl hk,c,hc,hc'⟩⟩
   ·rw [List.getElem?_set_ne (Ne.symm hj)] at e2;obtain ⟨u',r',q⟩:=hl j y v' e1 e2 e3;refine ⟨u',r',?_⟩
    rcases q with q | ⟨k,c',e,z'⟩
    ·exact .inl q
    ·refine .inr ⟨k,c',e,z'.sameBut hs ?_⟩;rintro rfl;exact hj (Di hN e1 (I.ok.inj _ _ _ e hc ▸ hi))
  ·by_cases hcc:c' = c
   ·subst hcc; exact ⟨_,hc'⟩
   ·obtain ⟨w2,z2⟩:=I.cell y c' e;exact ⟨w2,z2.sameBut hs hcc⟩
  ·obtain ⟨e,n,ne,nf,d⟩:=I.pin p hp;refine ⟨(hs.2 p.1 ?_).trans e,n,ne,nf,d⟩;intro q;rw [q,hoc] at e;have q':oc = p.2:=Option.some.inj e;exact d w' (by rw [<- q']; exact hocd)
theorem D0 {M:Model} {A:Around} {E:Value->Shared->Prop} {i:Nat} {x:Str} {v:V} {u:Value} {Q:Unit->Shared->Prop} (I:Inv X pins Z H s) (hN:X.N.Nodup) (hi:X.N[i]? = some x) (hx:Loc X.env.scope x) (r:RelV v u)
  (h:∀ s',Inv X pins (Z.set i (some v)) H s'->Q () s') (hf:autoParam (X.fn x = true \/ X.env.scope.names.lookup x = some .local) zz0._auto_1):wpAny M A (storeName X.env x u) Q E s:=
 Hd I hN hi hx r (λ s' I' _=>h s' I') hf
theorem Inv.ZhC {s':Shared} {ch:List Addr} (I:Inv X pins Z H s) (ho:s'.os = s.os) (u:Un (frs X.stack) ch H H' s.heap s'.heap) (hok:HOk X.prog X.w H' s'.heap) (hg:AllBare s'.gens)
  (hch:∀ b ∈ ch,(b ∈ X.ex \/ X.s₀.heap.objs.size <= b) /\ b ≠ X.env.locals /\ (∀ x c,X.env.cells.lookup x = some c->c ≠ b) /\ ∀ p ∈ X.pn ++ pins,p.1 ≠ b):Inv X pins Z H' s':=by
 obtain ⟨h',g',d',t',o'⟩:=s';have e:o' = s.os:=ho;subst e;exact I.call (g':=g') (t':=t') (d':=d') u hok hg hch
end
abbrev XK:=Value->Option Addr->Hp->Prop
abbrev St:=List (Option V)
abbrev VK:=V->Hp->Prop
abbrev TE:=St->Hp->VK->Prop
abbrev TT:=St->Hp->(Bool->Hp->Prop)->Prop
abbrev TA:=St->Hp->(List V->Hp->Prop)->Prop
structure Ends where
 nx:St->Hp->Prop
 rt:VK
 bk:St->Hp->Prop:=λ _ _=>False
 ct:St->Hp->Prop:=λ _ _=>False
abbrev TS:=Ends->St->Hp->Prop
def EP (X:Cx) (pins:List (Addr × Obj)) (Z:St) (Q:VK) (u:Value) (s':Shared):Prop:=∃ v H',Inv X pins Z H' s' /\ RelV v u /\ Q v H'
def TP (X:Cx) (pins:List (Addr × Obj)) (Z:St) (Q:Bool->Hp->Prop) (b:Bool) (s':Shared):Prop:=∃ H',Inv X pins Z H' s' /\ Q b H'
def AP (X:Cx) (pins:List (Addr × Obj)) (Z:St) (Q:List V->Hp->Prop) (us:List Value) (s':Shared):Prop:=∃ vs H',Inv X pins Z H' s' /\ Vals vs us /\ Q vs H'
def SP (X:Cx) (pins:List (Addr × Obj)) (D:Ends) (f:Flow) (s':Shared):Prop:=
 match f with
 | .next=>∃ σ' H',Inv X pins σ' H' s' /\ D.nx σ' H'
 | .brk=>∃ σ' H',Inv X pins σ' H' s' /\ D.bk σ' H'
 | .cont=>∃ σ' H',Inv X pins σ' H' s' /\ D.ct σ' H'
 | .ret u=>∃ v σ' H',Inv X pins σ' H' s' /\ RelV v u /\ D.rt v H'
def PE (X:Cx) (e:Expr) (t:TE):Prop:=
 ∀ (pins:List (Addr × Obj)) (s:Shared) (Z:St) (H:Hp) (Q:VK),Inv X pins Z H s->t Z H Q->wpAny (model X.prog X.w) X.A (eval e X.env) (EP X pins Z Q) X.xe s
def PT (X:Cx) (e:Expr) (t:TT):Prop:=
 ∀ (pins:List (Addr × Obj)) (s:Shared) (Z:St) (H:Hp) (Q:Bool->Hp->Prop),Inv X pins Z H s->t Z H Q->wpAny (model X.prog X.w) X.A (isTrue e X.env (eval e X.env)) (TP X pins Z Q) X.xe s
def PW (X:Cx) (e:Expr) (t:TT):Prop:=
 ∀ (whole:Sem Value) (pins:List (Addr × Obj)) (s:Shared) (Z:St) (H:Hp) (Q:Bool->Hp->Prop),Inv X pins Z H s->t Z H Q->wpAny (model X.prog X.w) X.A (isTrue e X.env whole) (TP X pins Z Q) X.xe s
theorem PW.pt {X:Cx} {e:Expr} {t:TT} (h:PW X e t):PT X e t:=h _
def PA (X:Cx) (es:List Expr) (t:TA):Prop:=
 ∀ (pos:Pos) (pins:List (Addr × Obj)) (s:Shared) (Z:St) (H:Hp) (Q:List V->Hp->Prop),Inv X pins Z H s->t Z H Q->wpAny (model X.prog X.w) X.A (spliced (backTo pos (starEach es X.env))) (AP X pins Z Q) X.xe s
def PS (X:Cx) (st:Stmt) (t:TS):Prop:=
 ∀ (pins:List (Addr × Obj)) (s:Shared) (Z:St) (H:Hp) (D:Ends),Inv X pins Z H s->t D Z H->wpAny (model X.prog X.w) X.A (exec st X.env) (SP X pins D) X.xe s
def PSs (X:Cx) (st:List Stmt) (t:TS):Prop:=
 ∀ (pins:List (Addr × Obj)) (s:Shared) (Z:St) (H:Hp) (D:Ends),Inv X pins Z H s->t D Z H->wpAny (model X.prog X.w) X.A (execs st X.env) (SP X pins D) X.xe s
theorem thn {α:Type} {t:Sem α} {Q Q':α->Shared->Prop} {M:Model} {A:Around} {E:Value->Shared->Prop} {s:Shared} (h:wpAny M A t Q E s) (hQ:∀ a s,Q a s->Q' a s):wpAny M A t Q' E s:=wpAny_mono h hQ λ _ _ x=>x
section
variable {X:Cx}
def Zjo (i:Nat):TE:=λ Z H Q=>∃ v,Z[i]? = some (some v) /\ Q v H
def tC (v:V):TE:=λ _ H Q=>Q v H
theorem Rv {i:Nat} {x:Str} {pos:Pos} (hN:X.N[i]? = some x) (hv:Vis X.env.scope x) (hd:autoParam ((x == ("__debug__" : Str)) = false) zz1._auto_1) (hcd:autoParam ((x == ("__classdict__" : Str)) = false) zz1._auto_1):PE X (.Name x pos) (Zjo i):=by
 intro pins s Z H Q I h;obtain ⟨v,e,h⟩:=h;obtain ⟨m,hn,hl⟩:=I.loc;obtain ⟨u,r,l⟩:=hl i x v hN e hv;have fin:EP X pins Z Q u s:=⟨v,H,I,r,h⟩
 rcases l with ⟨hk,hm⟩ | ⟨hk,c,hc,hcell⟩
 ·exact wpAny_Name (wpAny_loadName_local I.ok.kind hk hn hm fin) hd
 ·rcases hk with hk | hk
  ·exact wpAny_Name (wpAny_loadName_cell I.ok.kind hk hc hcell fin) hd
  ·exact wpAny_Name (wpAny_loadName_free I.ok.kind hk hc hcell fin hcd) hd
theorem Zf9 {i j pos}:PE X (.Constant (.int i) j pos) (tC (.int i)):=λ _ _ _ H _ I h=>wpAny_Constant_int ⟨.int i,H,I.tok _,⟨_,rfl⟩,h⟩
theorem Zif {b j pos}:PE X (.Constant (.bool b) j pos) (tC (.bl b)):=λ _ _ _ H _ I h=>Constant_bool ⟨.bl b,H,I,rfl,h⟩
theorem Zco {j pos}:PE X (.Constant .none j pos) (tC .non):=λ _ _ _ H _ I h=>Constant_none ⟨.non,H,I,rfl,h⟩
theorem R1 {x j pos}:PE X (.Constant (.str x) j pos) (tC (.str x)):=λ _ _ _ H _ I h=>Calls.Constant_str ⟨.str x,H,I.tok _,⟨_,rfl⟩,h⟩
def Gl (X:Cx) (x:Str):Prop:=X.env.kindOf x = some .globalImplicit
theorem CH {E:Value->Shared->Prop} {pins:List (Addr × Obj)} {s:Shared} {Z:St} {H:Hp} {x:Str} {u:Value} {pos:Pos} {Q:Value->Shared->Prop} (I:Inv X pins Z H s) (hg:Gl X x) (hm:X.mg x = some u) (h:Q u s)
  (hd:autoParam ((x == ("__debug__" : Str)) = false) zz1._auto_1):wpAny (model X.prog X.w) X.A (eval (.Name x pos) X.env) Q E s:=
 Calls.Name_function_global I.ok.kind hg (Calls.loadGlobal_global (by rw [I.ok.glob]; exact I.mod.glob.keeps I.bk) hm h) hd
theorem X9 {E:Value->Shared->Prop} {pins:List (Addr × Obj)} {s:Shared} {Z:St} {H:Hp} {x:Str} {u:Value} {pos:Pos} {Q:Value->Shared->Prop} (I:Inv X pins Z H s) (hg:Gl X x) (hm:X.mg x = none) (hv:bootBuiltins x = some u) (h:Q u s)
  (hn:autoParam (x ≠ "__name__") zz1._auto_1) (hd:autoParam ((x == ("__debug__" : Str)) = false) zz1._auto_1):wpAny (model X.prog X.w) X.A (eval (.Name x pos) X.env) Q E s:=by
 obtain ⟨mb,h1,h2⟩:=I.mod.blt;exact Calls.Name_function_global I.ok.kind hg (Calls.loadGlobal_builtin (by rw [I.ok.glob]; exact I.mod.glob.keeps I.bk) hm (by rw [I.ok.blt]; exact h1.keeps I.bk) ((h2 x hn).trans hv) h) hd
theorem Zbb {x:Str} {v:V} {u:Value} {pos:Pos} (hg:Gl X x) (hm:X.mg x = some u) (r:RelV v u) (hd:autoParam ((x == ("__debug__" : Str)) = false) zz1._auto_1):PE X (.Name x pos) (tC v):=
 λ _ _ _ H _ I h=>CH I hg hm ⟨v,H,I,r,h⟩ hd
theorem ZbF {x:Str} {v:V} {u:Value} {pos:Pos} (hg:Gl X x) (hm:X.mg x = none) (hv:bootBuiltins x = some u) (r:RelV v u) (hn:autoParam (x ≠ "__name__") zz1._auto_1) (hd:autoParam ((x == ("__debug__" : Str)) = false) zz1._auto_1):PE X (.Name x pos) (tC v):=
 λ _ _ _ H _ I h=>X9 I hg hm hv ⟨v,H,I,r,h⟩ hn hd
variable {a b:Expr} {ta tb:TE} {pos:Pos}
def tB (t:TE):TT:=λ Z H Q=>t Z H λ x H1=>∃ c,x = .bl c /\ Q c H1
theorem ZeL {e:Expr} {t:TE} (h:PE X e t) (he:autoParam (∀ whole,isTrue e X.env whole = (do let v <- whole; standAt e.pos; holding [v] (truthy v))) zz2._auto_1):PT X e (tB t):=by
 intro pins s Z H Q I hw;refine isTrue_plain (thn (h pins s Z H _ I hw) λ v s1 ⟨x,H1,I1,r1,q1⟩=>?_) (he _);obtain ⟨d,rfl,q⟩:=q1;cases r1;exact wpAny_truthy_bool ⟨H1,I1,q⟩
variable {tA tB':TT} {rest:List Expr}
def ZjF (t u:TT):TT:=λ Z H Q=>t Z H λ c H1=>if c = true then u Z H1 Q else Q false H1
def tOr (t u:TT):TT:=λ Z H Q=>t Z H λ c H1=>if c = true then Q true H1 else u Z H1 Q
def ZjO (t:TT):TT:=λ Z H Q=>t Z H λ c H1=>Q (!c) H1
theorem S2 (ha:PT X a tA):PW X (.BoolOp .And [a] pos) tA:=by
 intro wh pins s Z H Q I h;refine isTrue_and (thn (ha pins s Z H Q I h) λ c s1 e=>?_);cases c with
 | true=>exact isTrue_and_nil e
 | false=>exact e
theorem Zdp (ha:PT X a tA):PW X (.BoolOp .Or [a] pos) tA:=by
 intro wh pins s Z H Q I h;refine isTrue_or (thn (ha pins s Z H Q I h) λ c s1 e=>?_);cases c with
 | false=>exact isTrue_or_nil e
 | true=>exact e
theorem Zc0 (ha:PT X a tA) (hb:PW X (.BoolOp .And (b :: rest) pos) tB'):PW X (.BoolOp .And (a :: b :: rest) pos) (ZjF tA tB'):=by
 intro wh pins s Z H Q I h;refine isTrue_and (thn (ha pins s Z H _ I h) λ c s1 ⟨H1,I1,q1⟩=>?_);cases c with
 | true=>exact hb wh pins s1 Z H1 Q I1 q1
 | false=>exact ⟨H1,I1,q1⟩
theorem ZhO (ha:PT X a tA) (hb:PW X (.BoolOp .Or (b :: rest) pos) tB'):PW X (.BoolOp .Or (a :: b :: rest) pos) (tOr tA tB'):=by
 intro wh pins s Z H Q I h;refine isTrue_or (thn (ha pins s Z H _ I h) λ c s1 ⟨H1,I1,q1⟩=>?_);cases c with
 | true=>exact ⟨H1,I1,q1⟩
 | false=>exact hb wh pins s1 Z H1 Q I1 q1
theorem ZfB (ha:PT X a tA):PT X (.UnaryOp .Not a pos) (ZjO tA):=by
 intro pins s Z H Q I h;exact isTrue_not (ha pins s Z H (λ c H1=>Q (!c) H1) I h)
def ZhK (ta tb:TE):TE:=λ Z H Q=>ta Z H λ x H1=>∃ c,x = .bl c /\ if c = true then tb Z H1 Q else Q (.bl false) H1
def Zjt (ta tb:TE):TE:=λ Z H Q=>ta Z H λ x H1=>∃ c,x = .bl c /\ if c = true then Q (.bl true) H1 else tb Z H1 Q
def Zg0 (ta:TE):TE:=λ Z H Q=>ta Z H λ x H1=>∃ c,x = .bl c /\ Q (.bl (!c)) H1
theorem ZfA {op} {t:TE} (h:PE X a t):PE X (.BoolOp op [a] pos) t:=λ pins s Z H Q I hw=>BoolOp_one (h pins s Z H Q I hw)
theorem Zdx (ha:PE X a ta) (hb:PE X (.BoolOp .And (b :: rest) pos) tb):PE X (.BoolOp .And (a :: b :: rest) pos) (ZhK ta tb):=by
 intro pins s Z H Q I h;refine BoolOp_and (thn (ha pins s Z H _ I h) λ v s1 ⟨x,H1,I1,r1,q1⟩=>?_);obtain ⟨c,rfl,q1⟩:=q1;cases r1;refine wpAny_truthy_bool ?_;cases c with
 | true=>exact hb pins s1 Z H1 Q I1 q1
 | false=>exact ⟨.bl false,H1,I1,rfl,q1⟩
theorem Zhy (ha:PE X a ta) (hb:PE X (.BoolOp .Or (b :: rest) pos) tb):PE X (.BoolOp .Or (a :: b :: rest) pos) (Zjt ta tb):=by
 intro pins s Z H Q I h;refine BoolOp_or (thn (ha pins s Z H _ I h) λ v s1 ⟨x,H1,I1,r1,q1⟩=>?_);obtain ⟨c,rfl,q1⟩:=q1;cases r1;refine wpAny_truthy_bool ?_;cases c with
 | false=>exact hb pins s1 Z H1 Q I1 q1
 | true=>exact ⟨.bl true,H1,I1,rfl,q1⟩
theorem ZeT (ha:PE X a ta):PE X (.UnaryOp .Not a pos) (Zg0 ta):=by
 intro pins s Z H Q I h;refine UnaryOp_ (thn (ha pins s Z H _ I h) λ v s1 ⟨x,H1,I1,r1,q1⟩=>?_);obtain ⟨c,rfl,q1⟩:=q1;cases r1;exact not_of (wpAny_truthy_bool ⟨.bl (!c),H1,I1,rfl,q1⟩)
def tIf (t:TT) (ta tb:TE):TE:=λ Z H Q=>t Z H λ c H1=>if c = true then ta Z H1 Q else tb Z H1 Q
theorem O8 {c:Expr} (hc:PT X c tA) (ha:PE X a ta) (hb:PE X b tb):PE X (.IfExp c a b pos) (tIf tA ta tb):=by
 intro pins s Z H Q I h;refine wpAny_IfExp (thn (hc pins s Z H _ I h) λ d s1 ⟨H1,I1,q1⟩=>?_);cases d with
 | true=>exact ha pins s1 Z H1 Q I1 q1
 | false=>exact hb pins s1 Z H1 Q I1 q1
end
end L2
open PySem PySem.Spec PyProof.Rows L2
variable {H H':Hp} {a p b f q c' c:Addr} {K:Fk} {n i m j base x1 k':Nat} {x qual:Str} {pos p2:Pos} {d:PyData} {w:World} {P:Program} {h h':Heap} {ds l:List PyData} {s:Shared} {tg e iter elt:Expr} {v y:V} {xs vs:List V} {X:Cx} {Z:L2.St} {N:List Str} {pins:List (Addr × Obj)} {scope:Scope} {pm ct u:Value} {cs:List Addr} {fd:FuncData} {st:Stmt} {A:Around} {us:List Value} {mg:Str->Option Value} {kvs:List (Key × V)} {ix:List (Option Nat)} {cl:List (Str × Addr)} {Q:VK} {env:Env} {ifs es elts:List Expr} {ns:List Int} {dx dy:Int}
namespace L2
def SqL (K:Fk) (H:Hp) (a:Addr) (xs:List V):Prop:=
 Rd H a (.lst xs) \/
  ∃ (o:Obj) (its:Array Value) (n:Nat),K.lookup a = some o /\ o.cls = .type "list" /\ o.dict = none /\ o.data = .seq its n /\ its.size <= sizeLine /\ Vals xs its.toList
def SqT (K:Fk) (H:Hp) (a:Addr) (xs:List V):Prop:=
 Rd H a (.tup xs) \/
  ∃ (o:Obj) (its:Array Value) (n:Nat),K.lookup a = some o /\ o.cls = .type "tuple" /\ o.data = .seq its n /\ its.size <= sizeLine /\ Vals xs its.toList
noncomputable def ZjP:Value->Option V
 | .none=>some .non
 | .bool b=>some (.bl b)
 | .int i _=>some (.int i)
 | .str x _=>some (.str x)
 | .bytes b _=>some (.byt b)
 | .float b _=>some (.flt b)
 | .ref a=>some (.ref a)
 | .type n=>some (.ty n)
 | _=>none
theorem RelV.abs {x:V} (r:RelV x u):ZjP u = some x:=by
 cases x with
 | non=>cases r; rfl
 | bl _=>cases r; rfl
 | int _=>obtain ⟨t,rfl⟩:=r; rfl
 | str _=>obtain ⟨t,rfl⟩:=r; rfl
 | byt _=>obtain ⟨t,rfl⟩:=r; rfl
 | flt _=>obtain ⟨t,rfl⟩:=r; rfl
 | ref _=>cases r; rfl
 | ty _=>cases r; rfl
theorem RelV.inj {x:V} (r:RelV x u) (q:RelV y u):x = y:=Option.some.inj (r.abs.symm.trans q.abs)
theorem Vals.inj:∀ {xs ys:List V} {us:List Value},Vals xs us->Vals ys us->xs = ys
 | _,_,_,.nil,.nil=>rfl
 | _,_,_,.cons r t,.cons r' t'=>by rw [r.inj r',Vals.inj t t']
section
variable {ys:List V}
theorem SqL.of (h:H a = some (.lst xs)):SqL K H a xs:=.inl (.inl h)
theorem SqT.of (h:H a = some (.tup xs)):SqT K H a xs:=.inl (.inl h)
theorem Inv.list (I:Inv X pins Z H s) (h:SqL X.K H a xs):∃ its:List Value,Vals xs its /\ PlainL s.heap a its.toArray /\ xs.length <= sizeLine:=by
 rcases h with h | ⟨o,its,n,hk,hc,hd,hs,hz,r⟩
 ·obtain ⟨z,its,n,r,e⟩:=h.ok I.hok;exact ⟨its,r,⟨_,n,e,rfl,rfl,rfl⟩,z⟩
 ·refine ⟨its.toList,r,⟨o,n,I.kIn a o hk,hc,hd,by simpa using hs⟩,?_⟩;have e:=r.length;simp only [Array.length_toList] at e;lia
theorem Inv.tuple (I:Inv X pins Z H s) (h:SqT X.K H a xs):∃ its:List Value,Vals xs its /\ IsTup s.heap a its.toArray /\ xs.length <= sizeLine:=by
 rcases h with h | ⟨o,its,n,hk,hc,hs,hz,r⟩
 ·obtain ⟨z,its,r,p⟩:=h.ok I.hok;exact ⟨its,r,p,z⟩
 ·refine ⟨its.toList,r,⟨o,I.kIn a o hk,hc,n,by simpa using hs⟩,?_⟩;have e:=r.length;simp only [Array.length_toList] at e;lia
theorem Inv.Ur (I:Inv X pins Z H s) (h:SqL X.K H a xs) (h':SqL X.K H a ys):xs = ys:=by
 obtain ⟨its,r,⟨o,n,e,_,_,d⟩,_⟩:=I.list h;obtain ⟨its',r',⟨o',n',e',_,_,d'⟩,_⟩:=I.list h';rw [e] at e'; cases e';rw [d] at d'
 injection d' with d1 _
 have:its = its':=by simpa using congrArg Array.toList d1
 subst this;exact r.inj r'
theorem Inv.XU (I:Inv X pins Z H s) (h:SqT X.K H a xs) (h':SqT X.K H a ys):xs = ys:=by
 obtain ⟨its,r,⟨o,e,_,n,d⟩,_⟩:=I.tuple h;obtain ⟨its',r',⟨o',e',_,n',d'⟩,_⟩:=I.tuple h';rw [e] at e'; cases e';rw [d] at d'
 injection d' with d1 _
 have:its = its':=by simpa using congrArg Array.toList d1
 subst this;exact r.inj r'
end
noncomputable abbrev Cx.MW (X:Cx) (E:Value->Shared->Prop):Cx:={ X with xe:=E }
noncomputable abbrev Cx.nox (X:Cx):Cx:=X.MW λ _ _=>False
theorem Cx.Ok.MW (ok:X.Ok) (E:Value->Shared->Prop):(X.MW E).Ok:=
 ⟨ok.mod,ok.kind,ok.glob,ok.blt,ok.above,ok.inj,ok.has,ok.cab,ok.hd,ok.frames,ok.stk,ok.exf,ok.bs,ok.bsz,ok.noex,ok.exfs,ok.Cs,ok.frf⟩
theorem Cx.Ok.Y5 {E:Value->Shared->Prop} (ok:(X.MW E).Ok):X.Ok:=
 ⟨ok.mod,ok.kind,ok.glob,ok.blt,ok.above,ok.inj,ok.has,ok.cab,ok.hd,ok.frames,ok.stk,ok.exf,ok.bs,ok.bsz,ok.noex,ok.exfs,ok.Cs,ok.frf⟩
section
variable {E:Value->Shared->Prop}
theorem Inv.MW (I:Inv X pins Z H s) (E:Value->Shared->Prop):Inv (X.MW E) pins Z H s:=⟨I.ok.MW E,I.os,I.bare,I.base,I.loc,I.cell,I.free,I.freeC,I.pin,I.hok,I.len⟩
theorem Inv.Y5 (I:Inv (X.MW E) pins Z H s):Inv X pins Z H s:=⟨I.ok.Y5,I.os,I.bare,I.base,I.loc,I.cell,I.free,I.freeC,I.pin,I.hok,I.len⟩
theorem SP.Y5 {D:Ends} {f:Flow} {s':Shared} (h:SP (X.MW E) pins D f s'):SP X pins D f s':=by
 cases f with
 | next=>obtain ⟨σ',H',I,q⟩:=h; exact ⟨σ',H',I.Y5,q⟩
 | brk=>obtain ⟨σ',H',I,q⟩:=h; exact ⟨σ',H',I.Y5,q⟩
 | cont=>obtain ⟨σ',H',I,q⟩:=h; exact ⟨σ',H',I.Y5,q⟩
 | ret u=>obtain ⟨v,σ',H',I,r,q⟩:=h; exact ⟨v,σ',H',I.Y5,r,q⟩
theorem PSs.nox {st:List Stmt} {t:TS} (h:PSs X.nox st t):PSs X st t:=λ pins s Z H D I hw=>
 wpAny_mono (h pins s Z H D (I.MW _) hw) (λ _ _ q=>q.Y5) λ _ _ z=>False.elim z
end
section
variable {rest:List Stmt} {t u:TS} {te:TE}
def Zhz:TS:=λ D Z H=>D.nx Z H
def Zje (t u:TS):TS:=λ D Z H=>t { D with nx:=u D } Z H
theorem Zbu:PSs X [] Zhz:=λ _ _ Z H _ I h=>wpAny_execs_nil ⟨Z,H,I,h⟩
theorem Nf (h1:PS X st t) (h2:PSs X rest u):PSs X (st :: rest) (Zje t u):=by
 intro pins s Z H D I h;refine wpAny_execs_cons (thn (h1 pins s Z H { D with nx:=u D } I h) λ f s1 q=>?_);cases f with
 | next=>
  obtain ⟨σ',H',I',q⟩:=q;exact h2 pins s1 σ' H' D I' q
 | ret v=>exact q
 | brk=>exact q
 | cont=>exact q
theorem Zbo (h1:PS X st t):PSs X [st] t:=by
 intro pins s Z H D I h;refine wpAny_execs_cons (thn (h1 pins s Z H D I h) λ f s1 q=>?_);cases f with
 | next=>exact wpAny_execs_nil q
 | ret v=>exact q
 | brk=>exact q
 | cont=>exact q
theorem Inv.quiet (I:Inv X pins Z H s):interactive X.env = false:=by simp [interactive,I.ok.kind]
def ZgV (te:TE):TS:=λ D Z H=>te Z H λ _ H1=>D.nx Z H1
theorem Zbx (he:PE X e te) (hs:autoParam (swapsWith e none pos.line X.env = pure false) zz3._auto_1):PS X (.Expr e pos) (ZgV te):=by
 intro pins s Z H D I h;exact wpAny_Expr_any (thn (he pins s Z H _ I h) λ v s1 ⟨x,H1,I1,r1,q1⟩=>⟨Z,H1,I1,q1⟩) I.quiet hs
def Zjl (te:TE):TS:=λ D Z H=>te Z H D.rt
theorem ZeY (he:PE X e te):PS X (.Return (some e) pos) (Zjl te):=by
 intro pins s Z H D I h;exact wpAny_Return_some (thn (he pins s Z H _ I h) λ v s1 ⟨x,H1,I1,r1,q1⟩=>⟨x,Z,H1,I1,r1,q1⟩)
def Zjx (c:TT) (t u:TS):TS:=λ D Z H=>c Z H λ b H1=>if b = true then t D Z H1 else u D Z H1
theorem Zic {c:Expr} {a b:List Stmt} {tc:TT} (hc:PT X c tc) (ha:PSs X a t) (hb:PSs X b u):PS X (.If c a b pos) (Zjx tc t u):=by
 intro pins s Z H D I h;refine wpAny_If (thn (hc pins s Z H _ I h) λ d s1 ⟨H1,I1,q1⟩=>?_);cases d with
 | true=>exact ha pins s1 Z H1 D I1 q1
 | false=>exact hb pins s1 Z H1 D I1 q1
def ZdR:TS:=λ _ _ _=>False
theorem NK:PS X st ZdR:=λ _ _ _ _ _ _ h=>h.elim
end
abbrev TG:=V->St->Hp->(St->Hp->Prop)->Prop
abbrev TGs:=List V->St->Hp->(St->Hp->Prop)->Prop
def PG (X:Cx) (target:Expr) (t:TG):Prop:=
 ∀ (pins:List (Addr × Obj)) (s:Shared) (Z:St) (H:Hp) (v:V) (u:Value) (Q:St->Hp->Prop),Inv X pins Z H s->RelV v u->t v Z H Q ->
  wpAny (model X.prog X.w) X.A (assign target X.env u) (λ _ s'=>∃ σ' H',Inv X pins σ' H' s' /\ Q σ' H') X.xe s
def PGs (X:Cx) (ts:List Expr) (t:TGs):Prop:=
 ∀ (pins:List (Addr × Obj)) (s:Shared) (Z:St) (H:Hp) (vs:List V) (us:List Value) (Q:St->Hp->Prop),Inv X pins Z H s->Vals vs us->t vs Z H Q ->
  wpAny (model X.prog X.w) X.A (assignInOrder ((assignEach ts X.env).map (·.2)) us) (λ _ s'=>∃ σ' H',Inv X pins σ' H' s' /\ Q σ' H') X.xe s
abbrev Zh5:=V->V->V->Hp->(Hp->Prop)->Prop
def Ziu (X:Cx) (t:Zh5):Prop:=
 ∀ (pins:List (Addr × Obj)) (s:Shared) (Z:St) (H:Hp) (o i v:V) (ov iv u:Value) (Q:Hp->Prop),Inv X pins Z H s->RelV o ov->RelV i iv->RelV v u->t o i v H Q ->
  wpAny (model X.prog X.w) X.A (setItem ov iv u) (λ _ s'=>∃ H',Inv X pins Z H' s' /\ Q H') X.xe s
def ZdS (i:Nat):TG:=λ v Z H Q=>Q (Z.set i (some v)) H
theorem Lq (hN:X.N.Nodup) (hi:X.N[i]? = some x) (hx:Loc X.env.scope x) (hf:autoParam (X.fn x = true \/ X.env.scope.names.lookup x = some .local) zz0._auto_1):PG X (.Name x pos) (ZdS i):=by
 intro pins s Z H v u Q I r h;exact wpAny_assign_Name (D0 I hN hi hx r (λ s' I'=>⟨_,H,I',h⟩) hf)
def Zjp:TGs:=λ vs Z H Q=>vs = [] /\ Q Z H
def Zh1 (t:TG) (u:TGs):TGs:=λ vs Z H Q=>∃ v r,vs = v :: r /\ t v Z H λ σ' H'=>u r σ' H' Q
theorem Tu:PGs X [] Zjp:=by
 intro pins s Z H vs us Q I r h;obtain ⟨e,h⟩:=h;subst e;cases r;exact assignInOrder_nil ⟨Z,H,I,h⟩
theorem Po {t:TG} {u:TGs} (h1:PG X e t) (h2:PGs X es u)
  (hs:autoParam ((assignEach (e :: es) X.env).map (·.2) = assign e X.env :: (assignEach es X.env).map (·.2)) zz3._auto_1):PGs X (e :: es) (Zh1 t u):=by
 intro pins s Z H vs us Q I r h;obtain ⟨v,vr,e1,h⟩:=h;subst e1;cases r with
 | cons r rr=>
  rw [hs];refine assignInOrder_cons (thn (h1 pins s Z H _ _ _ I r h) λ _ s1 ⟨σ1,H1,I1,q1⟩=>?_);exact h2 pins s1 σ1 H1 _ _ Q I1 rr q1
def Zjv (K:Fk) (n:Nat) (t:TGs):TG:=λ v Z H Q=>∃ a xs,v = .ref a /\ SqT K H a xs /\ xs.length = n /\ t xs Z H Q
theorem Zeu {k:Nat} {t:TGs} {n:Nat} (hc:X.calm = true) (h:PGs X es t)
  (hn:autoParam ((assignEach es X.env).length = n) zz3._auto_1) (hst:autoParam ((assignEach es X.env).findIdx? (·.1) = none) zz3._auto_1):PG X (.Tuple es k pos) (Zjv X.K n t):=by
 intro pins s Z H v u Q I r hw;obtain ⟨a,xs,e1,hq,hl,hw⟩:=hw;subst e1;cases r;obtain ⟨its,rv,ht,hz⟩:=I.tuple hq;refine assign_Tuple_tuple (I.ok.hd hc) ht (by simp [hn,<- hl,rv.length]) hst λ h' hx=>?_;have I1:Inv X pins Z H { s with heap:=h' }:=I.kept (t':=s.toks) λ b o e=>hx b o (Nat.ne_of_lt (Heap.lt_size e)) e;exact h pins _ Z H xs _ Q I1 (by simpa using rv) hw
def ZjB (to ti:TE) (t:Zh5):TG:=λ v Z H Q=>to Z H λ o H1=>ti Z H1 λ i H2=>t o i v H2 λ H3=>Q Z H3
theorem ZeK {o i:Expr} {to ti:TE} {t:Zh5} (ho:PE X o to) (hi:PE X i ti) (hs:Ziu X t)
  (ha:∀ v,assign (.Subscript o i pos) X.env v = (do
   let ov <- holding [v] (eval o X.env)
   let iv <- holding [v,ov] (eval i X.env)
   standAt pos
   holding [v,ov,iv] (setItem ov iv v)
   release [v,ov,iv] []):=by intro _; rfl):PG X (.Subscript o i pos) (ZjB to ti t):=by
 intro pins s Z H v u Q I r h;rw [ha];refine wpAny_bind (wpAny_holding (thn (ho pins s Z H _ I h) λ ov s1 ⟨x,H1,I1,r1,q1⟩=>?_));refine wpAny_bind (wpAny_holding (thn (hi pins s1 Z H1 _ I1 q1) λ iv s2 ⟨y,H2,I2,r2,q2⟩=>?_));refine wpAny_bind (wpAny_standAt (wpAny_bind (wpAny_holding (thn (hs pins s2 Z H2 x y v ov iv u _ I2 r1 r2 r q2) λ _ s3 ⟨H3,I3,q3⟩=>?_))));exact wpAny_release ⟨Z,H3,I3,q3⟩
def Zix (te:TE) (g:TG):TS:=λ D Z H=>te Z H λ x H1=>g x Z H1 D.nx
theorem Zc5 {te:TE} {g:TG} (he:PE X e te) (hg:PG X tg g) (hs:autoParam (swapsWithSole [tg] e pos.line X.env = pure false) zz3._auto_1) (hw:autoParam (swappedStores [tg] e X.env = pure none) zz3._auto_1)
  (h1:autoParam ((assignEach [tg] X.env).map (·.2) = [assign tg X.env]) zz3._auto_1):PS X (.Assign [tg] e pos) (Zix te g):=by
 intro pins s Z H D I h;refine wpAny_Assign_stores (thn (he pins s Z H _ I h) λ v s1 ⟨x,H1,I1,r1,q1⟩=>?_) hs hw;rw [h1];exact thn (hg pins s1 Z H1 x v _ I1 r1 q1) λ _ s2 q=>q
theorem ZeM {te:TE} {pos':Pos} (hN:X.N.Nodup) (hi:X.N[i]? = some x) (hx:Loc X.env.scope x) (he:PE X e te) (hs:autoParam (swapsWith e (some (.Name x pos')) pos.line X.env = pure false) zz3._auto_1) (hf:autoParam (X.fn x = true \/ X.env.scope.names.lookup x = some .local) zz0._auto_1) :
  PS X (.Assign [.Name x pos'] e pos) (Zix te (ZdS i)):=by
 intro pins s Z H D I h;refine wpAny_Assign_Name (thn (he pins s Z H _ I h) λ v s1 ⟨y,H1,I1,r1,q1⟩=>?_) hs;exact D0 I1 hN hi hx r1 (λ s2 I2=>⟨_,H1,I2,q1⟩) hf
structure It where
 go:Nat->Hp->Prop
 yld:Nat->Hp->V->Hp->Prop
 stop:Nat->Hp->Prop
def CQ (X:Cx) (pins:List (Addr × Obj)) (H:Hp) (b:Addr):Prop:=
 H b = none /\ b ≠ X.env.locals /\ b ∉ X.fs /\ (b ∈ X.ex \/ X.s₀.heap.objs.size <= b) /\ (∀ x c,X.env.cells.lookup x = some c->c ≠ b) /\ ∀ p ∈ X.pn ++ pins,p.1 ≠ b
theorem Inv.Rk (I:Inv X pins Z H s) (hb:s.heap.objs.size <= b) (hn:H' b = none):CQ X pins H' b:=by
 refine ⟨hn,Nat.ne_of_gt (Nat.lt_of_lt_of_le I.lt hb),I.Zjs hb,.inr (Nat.le_trans I.sz hb),λ x c e z=>?_,λ p hp z=>?_⟩
 ·obtain ⟨v,q⟩:=I.cell x c e;exact absurd (Nat.lt_of_lt_of_le q.lt (by rw [z]; exact hb)) (Nat.lt_irrefl _)
 ·exact absurd (Nat.lt_of_lt_of_le (Heap.lt_size (I.pin p hp).1) (by rw [z]; exact hb)) (Nat.lt_irrefl _)
structure Turn (P:Program) (w:World) (K:Fk) (tg:Expr) (J:It) (fp:List Addr) (it:Addr) (tn:Nat->Heap->Prop):Prop where
 mem:it ∈ fp
 obj:∀ i h,tn i h->∀ b ∈ fp,∃ o,h.get? b = some o /\ ∀ v,o.data ≠ .cell v
 keep:∀ i h h',tn i h->(∀ b ∈ fp,∀ o,h.get? b = some o->h'.get? b = some o)->tn i h'
 item:∀ (X:Cx),X.prog = P->X.w = w->X.K = K->X.calm = true->∀ (i:Nat) (pins:List (Addr × Obj)) (s:Shared) (Z:St) (H:Hp) (E:Value->Shared->Prop),Inv X pins Z H s->(∀ b ∈ fp,CQ X pins H b)->tn i s.heap->J.go i H ->
  wpAny (model P w) X.A (pyNext (.ref it)) (λ r s1=>∃ u,r = some u /\
   wpAny (model P w) X.A (letOwnedTupleGo tg (.ref it) u) (λ _ s2=>∃ x H',Inv X pins Z H' s2 /\ RelV x u /\ J.yld i H x H' /\ tn (i + 1) s2.heap /\ ∀ b ∈ fp,H' b = none) E s1) E s
 done:∀ (X:Cx),X.prog = P->X.w = w->X.K = K->X.calm = true->∀ (i:Nat) (pins:List (Addr × Obj)) (s:Shared) (Z:St) (H:Hp) (E:Value->Shared->Prop),Inv X pins Z H s->(∀ b ∈ fp,CQ X pins H b)->tn i s.heap->J.stop i H ->
  wpAny (model P w) X.A (pyNext (.ref it)) (λ r s1=>r = none /\ Inv X pins Z H s1) E s
 self:∀ (A:Around) (i:Nat) (s:Shared) (Q:Value->Shared->Prop) (E:Value->Shared->Prop),tn i s.heap->Q (.ref it) s->wpAny (model P w) A (pyIter (.ref it)) Q E s
abbrev TI:=St->Hp->(It->Hp->Prop)->Prop
def PIE (X:Cx) (pins:List (Addr × Obj)) (Z:St) (tg:Expr) (R:It->Hp->Prop) (itv:Value) (s2:Shared):Prop:=
 ∃ (it:Addr) (fp:List Addr) (tn:Nat->Heap->Prop) (J:It) (H':Hp),itv = .ref it /\ Inv X pins Z H' s2 /\ Turn X.prog X.w X.K tg J fp it tn /\ tn 0 s2.heap /\ (∀ b ∈ fp,CQ X pins H' b) /\ R J H'
def PI (X:Cx) (tg iter:Expr) (wi:TI):Prop:=
 ∀ (pins:List (Addr × Obj)) (s:Shared) (Z:St) (H:Hp) (R:It->Hp->Prop),Inv X pins Z H s->wi Z H R ->
  wpAny (model X.prog X.w) X.A (eval iter X.env) (λ v s1=>wpAny (model X.prog X.w) X.A (pyIter v) (PIE X pins Z tg R) X.xe s1) X.xe s
theorem Hf {M:Model} {A:Around} {E:Value->Shared->Prop} {tg:Expr} {it:Addr} {u:Value} {o:Obj} {n:String} {vs:Array Value} {Q:Unit->Shared->Prop} (ho:s.heap.get? it = some o) (hc:o.cls = .type n) (hd:o.data = .fields vs)
    (hn:["enumerate", "zip", "dict_itemiterator", "dict_reverseitemiterator", "odict_iterator", "itertools.zip_longest", "itertools.pairwise"].contains n = false) (hQ:Q () s):wpAny M A (letOwnedTupleGo tg (.ref it) u) Q E s:=by
  unfold letOwnedTupleGo;cases tg <;> first
    | exact wpAny_pure hQ
    | (cases u <;> first
        | exact wpAny_pure hQ
        | (refine wpAny_bind (wpAny_load ho ?_)
           rw [hc,hd];show wpAny M A (if (["enumerate", "zip", "dict_itemiterator", "dict_reverseitemiterator", "odict_iterator", "itertools.zip_longest", "itertools.pairwise"].contains n && vs[0]? == some (rawInt _)) = true then _ else _) Q E s;rw [if_neg (by intro h; rw [hn,Bool.false_and] at h; cases h)]
           exact wpAny_pure hQ))
noncomputable def Itl (K:Fk) (a:Addr):It:=
 ⟨λ i H=>∃ xs x,SqL K H a xs /\ xs[i]? = some x,λ i H x H'=>H' = H /\ ∀ xs,SqL K H a xs->xs[i]? = some x,λ i H=>∃ xs,SqL K H a xs /\ xs.length <= i⟩
noncomputable def Itt (K:Fk) (a:Addr):It:=
 ⟨λ i H=>∃ xs x,SqT K H a xs /\ xs[i]? = some x,λ i H x H'=>H' = H /\ ∀ xs,SqT K H a xs->xs[i]? = some x,λ i H=>∃ xs,SqT K H a xs /\ xs.length <= i⟩
noncomputable def Itr (lo:Int) (n:Nat):It:=⟨λ i _=>i < n,λ i H x H'=>H' = H /\ x = .int (lo + i),λ i _=>n <= i⟩
theorem ME (a it:Addr):Turn P w K tg (Itl K a) [it] it (λ i h=>h.IsListIter it a i) where
 mem:=by simp
 obj:=λ i h st b hb=>by
  have e:b = it:=by simpa using hb
  subst e;obtain ⟨o,e,c,d⟩:=st;exact ⟨o,e,λ v z=>by rw [d] at z; cases z⟩
 keep:=λ i h h' st k=>st.at λ o e=>k it (by simp) o e
 item:=by
  intro X hP hw hK hc i pins s Z H E I hf st hg;subst hP hw hK;obtain ⟨xs,x,hq,hx⟩:=hg;obtain ⟨its,rv,p,hz⟩:=I.list hq;obtain ⟨u,hu,ru⟩:=rv.get hx;obtain ⟨f0,f1,f2,f3,f4,f5⟩:=hf it (by simp);refine wpAny_pyNext_list_item st p.isList (x:=u) (by simpa using hu) λ h' st' sb=>?_;have I1:Inv X pins Z H { s with heap:=h' }:=I.turned (t':=s.toks) (λ b o hb e=>(sb.2 b hb).trans e) f0 f1 f3 f4 f5;obtain ⟨o,e,c,d⟩:=id st';exact ⟨u,rfl,Hf (s:={ s with heap:=h' }) e c d (by decide) ⟨x,H,I1,ru,⟨rfl,λ ys hy=>by rw [I.Ur hy hq]; exact hx⟩,st',λ b hb=>(hf b hb).1⟩⟩
 done:=by
  intro X hP hw hK hc i pins s Z H E I hf st hg;subst hP hw hK;obtain ⟨xs,hq,hx⟩:=hg;obtain ⟨its,rv,p,hz⟩:=I.list hq;obtain ⟨f0,f1,f2,f3,f4,f5⟩:=hf it (by simp);have hl:=rv.length;exact wpAny_pyNext_list_end (I.ok.hd hc) st p.isList (by simp; lia) λ h' eb=>⟨rfl,I.turned (t':=s.toks) (λ b o hb e=>eb b o hb e) f0 f1 f3 f4 f5⟩
 self:=λ _ _ _ _ _ st h=>wpAny_pyIter_listiter st h
theorem EE (a it:Addr):Turn P w K tg (Itt K a) [it] it (λ i h=>h.IsTupleIter it a i) where
 mem:=by simp
 obj:=λ i h st b hb=>by
  have e:b = it:=by simpa using hb
  subst e;obtain ⟨o,e,c,d⟩:=st;exact ⟨o,e,λ v z=>by rw [d] at z; cases z⟩
 keep:=λ i h h' st k=>st.at λ o e=>k it (by simp) o e
 item:=by
  intro X hP hw hK hc i pins s Z H E I hf st hg;subst hP hw hK;obtain ⟨xs,x,hq,hx⟩:=hg;obtain ⟨its,rv,p,hz⟩:=I.tuple hq;obtain ⟨u,hu,ru⟩:=rv.get hx;obtain ⟨f0,f1,f2,f3,f4,f5⟩:=hf it (by simp);refine wpAny_pyNext_tuple_item st (show s.heap.IsTuple a its.toArray from p) (x:=u) (by simpa using hu) λ h' st' sb=>?_;have I1:Inv X pins Z H { s with heap:=h' }:=I.turned (t':=s.toks) (λ b o hb e=>(sb.2 b hb).trans e) f0 f1 f3 f4 f5;obtain ⟨o,e,c,d⟩:=id st';exact ⟨u,rfl,Hf (s:={ s with heap:=h' }) e c d (by decide) ⟨x,H,I1,ru,⟨rfl,λ ys hy=>by rw [I.XU hy hq]; exact hx⟩,st',λ b hb=>(hf b hb).1⟩⟩
 done:=by
  intro X hP hw hK hc i pins s Z H E I hf st hg;subst hP hw hK;obtain ⟨xs,hq,hx⟩:=hg;obtain ⟨its,rv,p,hz⟩:=I.tuple hq;obtain ⟨f0,f1,f2,f3,f4,f5⟩:=hf it (by simp);have hl:=rv.length;exact wpAny_pyNext_tuple_end (I.ok.hd hc) st (show s.heap.IsTuple a its.toArray from p) (by simp; lia) λ h' eb=>⟨rfl,I.turned (t':=s.toks) (λ b o hb e=>eb b o hb e) f0 f1 f3 f4 f5⟩
 self:=λ _ _ _ _ _ st h=>wpAny_pyIter_tupleiter st h
theorem EF (it:Addr) (lo:Int) (n:Nat):Turn P w K tg (Itr lo n) [it] it (λ i h=>IsRangeIter h it (lo + (i:Nat) * 1) ((n:Int) - (i:Nat)) 1) where
 mem:=by simp
 obj:=λ i h st b hb=>by
  have e:b = it:=by simpa using hb
  subst e
  exact ⟨_,st,λ v z=>by
   have z':Data.fields _ = Data.cell v:=z
   cases z'⟩
 keep:=λ i h h' st k=>k it (by simp) _ st
 item:=by
  intro X hP hw hK hc i pins s Z H E I hf st hg;subst hP hw hK;obtain ⟨f0,f1,f2,f3,f4,f5⟩:=hf it (by simp);have W:=Walks.range (prog:=X.prog) (w:=X.w) (I.ok.hd hc) it lo 1 n;refine W.item i s _ _ hg st λ v h' tk hv st' kk=>?_;obtain ⟨t,rfl⟩:=hv;have I1:Inv X pins Z H { s with heap:=h',toks:=tk }:=I.turned (λ b o hb e=>kk b o (by simpa using hb) e) f0 f1 f3 f4 f5;refine ⟨_,rfl,Hf (s:={ s with heap:=h',toks:=tk }) (n := "range_iterator") st' rfl rfl (by decide) ⟨.int (lo + i),H,I1,⟨t,?_⟩,⟨rfl,rfl⟩,st',λ b hb=>(hf b hb).1⟩⟩;rw [Int.mul_one]
 done:=by
  intro X hP hw hK hc i pins s Z H E I hf st hg;subst hP hw hK;obtain ⟨f0,f1,f2,f3,f4,f5⟩:=hf it (by simp);exact wpAny_pyNext_range_end (I.ok.hd hc) st (by have:n <= i:=hg; lia) λ h' eb=>⟨rfl,I.turned (t':=s.toks) (λ b o hb e=>eb b o hb e) f0 f1 f3 f4 f5⟩
 self:=λ _ _ _ _ _ st h=>wpAny_pyIter_rangeiter st h
def Zhx (K:Fk) (tl:TE):TI:=λ Z H R=>tl Z H λ x H1=>∃ a,x = .ref a /\ (∃ xs,SqL K H1 a xs) /\ R (Itl K a) H1
def Zjg (K:Fk) (tl:TE):TI:=λ Z H R=>tl Z H λ x H1=>∃ a,x = .ref a /\ (∃ xs,SqT K H1 a xs) /\ R (Itt K a) H1
theorem Fz {l:Expr} {tl:TE} (hl:PE X l tl):PI X tg l (Zhx X.K tl):=by
 intro pins s Z H R I h;refine thn (hl pins s Z H _ I h) λ v s1 ⟨x,H1,I1,r1,q1⟩=>?_;obtain ⟨a,e,⟨xs,hq⟩,q⟩:=q1;subst e;cases r1;obtain ⟨its,rv,p,hz⟩:=I1.list hq;refine wpAny_pyIter_list p.isList ?_;refine ⟨s1.heap.objs.size,[s1.heap.objs.size],_,_,H1,rfl,I1.kept (t':=s1.toks) λ b o e=>Heap.get?_push_of_some _ e,ME a _,⟨_,Heap.get?_push_size _ rfl,rfl,rfl⟩,λ b hb=>?_,q⟩;have e:b = s1.heap.objs.size:=by simpa using hb
 subst e;exact I1.Rk (Nat.le_refl _) (I1.hok.fresh (Nat.le_refl _))
theorem SM {l:Expr} {tl:TE} (hl:PE X l tl):PI X tg l (Zjg X.K tl):=by
 intro pins s Z H R I h;refine thn (hl pins s Z H _ I h) λ v s1 ⟨x,H1,I1,r1,q1⟩=>?_;obtain ⟨a,e,⟨xs,hq⟩,q⟩:=q1;subst e;cases r1;obtain ⟨its,rv,p,hz⟩:=I1.tuple hq;refine wpAny_pyIter_tuple (show s1.heap.IsTuple a its.toArray from p) ?_;refine ⟨s1.heap.objs.size,[s1.heap.objs.size],_,_,H1,rfl,I1.kept (t':=s1.toks) λ b o e=>Heap.get?_push_of_some _ e,EE a _,⟨_,Heap.get?_push_size _ rfl,rfl,rfl⟩,λ b hb=>?_,q⟩;have e:b = s1.heap.objs.size:=by simpa using hb
 subst e;exact I1.Rk (Nat.le_refl _) (I1.hok.fresh (Nat.le_refl _))
theorem D3 {R:It->Hp->Prop} {E:Value->Shared->Prop} {lo hi:Int} {t u v:Tok} {tk:Nat} (I:Inv X pins Z H s) (h1:-(2 ^ 62) <= lo) (h2:lo < 2 ^ 62) (h3:-(2 ^ 62) <= hi) (h4:hi < 2 ^ 62)
  (q:R (Itr lo (hi - lo).toNat) H):wpAny (model X.prog X.w) X.A (pyIter (.ref s.heap.objs.size)) (PIE X pins Z tg R) E { s with heap:=s.heap.push { cls:=.type "range",data:=.fields #[.int lo t,.int hi u,.int 1 v] },toks:=tk }:=by
 refine wpAny_pyIter_range (IsRange.new ..) (small_one h1 h2 h3 h4) ?_;have I1:Inv X pins Z H { s with heap:=s.heap.push { cls:=.type "range",data:=.fields #[.int lo t,.int hi u,.int 1 v] },toks:=tk }:=I.kept λ b o e=>Heap.get?_push_of_some _ e
 refine ⟨(s.heap.push { cls:=.type "range",data:=.fields #[.int lo t,.int hi u,.int 1 v] }).objs.size,[(s.heap.push { cls:=.type "range",data:=.fields #[.int lo t,.int hi u,.int 1 v] }).objs.size],_,_,H,rfl,
  I1.kept (t':=tk) λ b o e=>Heap.get?_push_of_some _ e,EF _ lo (hi - lo).toNat,?_,λ b hb=>?_,q⟩
 ·have e1:lo + ((0:Nat):Int) * 1 = lo:=by simp
  have e2:(((hi - lo).toNat:Nat):Int) - ((0:Nat):Int) = Builtin.Range.rangeSize lo hi 1:=by rw [rangeSize_one]; split <;> lia
  show IsRangeIter _ _ (lo + ((0:Nat):Int) * 1) ((((hi - lo).toNat:Nat):Int) - ((0:Nat):Int)) 1;rw [e1,e2];exact Heap.get?_push_size _ rfl
 ·have e:b = (s.heap.push { cls:=.type "range",data:=.fields #[.int lo t,.int hi u,.int 1 v] }).objs.size:=by simpa using hb
  subst e;exact I1.Rk (Nat.le_refl _) (I1.hok.fresh (Nat.le_refl _))
def Zhr (ta:TA):TI:=λ Z H R=>ta Z H λ vs H1=>∃ j:Int,vs = [.int j] /\ -(2 ^ 62) <= j /\ j < 2 ^ 62 /\ R (Itr 0 j.toNat) H1
def ZhM (ta:TA):TI:=λ Z H R=>ta Z H λ vs H1=>∃ i j:Int,vs = [.int i,.int j] /\ (-(2 ^ 62) <= i /\ i < 2 ^ 62 /\ -(2 ^ 62) <= j /\ j < 2 ^ 62) /\ R (Itr i (j - i).toNat) H1
theorem UB {a:Expr} {ta:TA} {p:Pos} (hg:Gl X "range") (hm:X.mg "range" = none) (ha:PA X [a] ta) (hs:autoParam (starEach [a] X.env = [(false,eval a X.env)]) zz3._auto_1):PI X tg (.Call (.Name "range" p) [a] [] pos) (Zhr ta):=by
 intro pins s Z H R I h;refine Call_ (X9 I hg hm boot_range (PyProof.Rows.callWith_type1 (thn (ha pos pins s Z H _ I h) λ us s1 ⟨vs,H1,I1,r1,q1⟩=>?_) hs rfl));obtain ⟨j,e,q1,q2,q⟩:=q1;subst e;cases r1 with
 | cons r rr=>
  cases rr;obtain ⟨t,rfl⟩:=r;exact call_range_1 (D3 I1 (by lia) (by lia) q1 q2 (by simpa using q))
theorem Gf {a b:Expr} {ta:TA} {p pos:Pos} (hg:Gl X "range") (hm:X.mg "range" = none) (ha:PA X [a,b] ta) (hs:autoParam (starEach [a,b] X.env = [(false,eval a X.env),(false,eval b X.env)]) zz3._auto_1) (hs2:autoParam (starEach [b] X.env = [(false,eval b X.env)]) zz3._auto_1) :
  PI X tg (.Call (.Name "range" p) [a,b] [] pos) (ZhM ta):=by
 intro pins s Z H R I h;refine Call_ (X9 I hg hm boot_range (PyProof.Rows.callWith_type1 (thn (ha pos pins s Z H _ I h) λ us s1 ⟨vs,H1,I1,r1,q1⟩=>?_) (by rw [hs,hs2]) (by rw [hs2]; rfl)));obtain ⟨i,j,e,⟨q1,q2,q3,q4⟩,q⟩:=q1;subst e;cases r1 with
 | cons r rr=>
  cases rr with
  | cons r' rr=>
   cases rr;obtain ⟨t,rfl⟩:=r;obtain ⟨t',rfl⟩:=r';exact call_range_2 (D3 I1 q1 q2 q3 q4 q)
def ZjQ (wi:TI) (g:TG) (tb:TS):TS:=λ D Z H=>wi Z H λ J H1=>∃ W:Nat->Nat->St->Hp->Prop,(∃ m,W 0 m Z H1) /\ ∀ i m Z H,W i m Z H ->
 (J.stop i H /\ D.nx Z H) \/ (J.go i H /\ ∃ N:St->Hp->Prop,(∀ σ' H',N σ' H'->∃ m',m' < m /\ W (i + 1) m' σ' H') /\ ∀ x H',J.yld i H x H'->g x Z H' λ σ2 H2=>tb { D with nx:=N,ct:=N,bk:=D.nx } σ2 H2)
noncomputable def GI (fp:List Addr) (h:Heap):List (Addr × Obj):=fp.filterMap λ b=>(h.get? b).map λ o=>(b,o)
theorem Vn {fp:List Addr} {o:Obj} (hb:b ∈ fp) (e:h.get? b = some o):(b,o) ∈ GI fp h:=List.mem_filterMap.mpr ⟨b,hb,by rw [e]; rfl⟩
theorem MM {fp:List Addr} {p:Addr × Obj} (hp:p ∈ GI fp h):p.1 ∈ fp /\ h.get? p.1 = some p.2:=by
 obtain ⟨b,hb,e⟩:=List.mem_filterMap.mp hp;cases q:h.get? b with
 | none=>rw [q] at e; cases e
 | some o=>
  rw [q] at e;have e':(b,o) = p:=Option.some.inj e;subst e';exact ⟨hb,q⟩
theorem Inv.pinned {fp:List Addr} (I:Inv X pins Z H s) (hf:∀ b ∈ fp,CQ X pins H b) (ho:∀ b ∈ fp,∃ o,s.heap.get? b = some o /\ ∀ v,o.data ≠ .cell v):Inv X (pins ++ GI fp s.heap) Z H s:=
 I.XF λ p hp=>(List.mem_append.mp hp).elim (λ z=>I.pin p (List.mem_append_right _ z)) λ z=>by
  obtain ⟨hb,e⟩:=MM z;obtain ⟨f0,f1,f2,_⟩:=hf p.1 hb;obtain ⟨o,e',d⟩:=ho p.1 hb;rw [e] at e'; cases e';exact ⟨e,f0,f1,f2,d⟩
theorem Inv.WH {pl:List (Addr × Obj)} (I:Inv X (pins ++ pl) Z H s):Inv X pins Z H s:=I.XF λ p hp=>I.pin p (List.mem_append_right _ (List.mem_append_left _ hp))
theorem G0 {body:List Stmt} {wi:TI} {g:TG} {tb:TS} {pos:Pos} (hp:PassesOwn (model X.prog X.w) X.A X.env X.xe) (hc:X.calm = true) (hi:PI X tg iter wi) (hg:PG X tg g) (hb:PSs X body tb)
  (hs:autoParam (∀ x,foldedSetIterable iter X.env x = pure x) zz2._auto_1):PS X (.For tg iter body [] pos) (ZjQ wi g tb):=by
 intro pins s Z H D I h;refine wpAny_For (thn (hi pins s Z H _ I h) λ v s1 h1=>thn h1 λ itv s2 h2=>?_) hs;obtain ⟨it,fp,tn,J,H2,e,I2,T,st2,f2,W,⟨m0,w0⟩,turn⟩:=h2;subst e;have stat:∀ {H':Hp},(∀ b ∈ fp,H' b = none)->∀ b ∈ fp,CQ X pins H' b:=λ hn b hb=>⟨hn b hb,(f2 b hb).2⟩;refine codeAny_forLoop_any (λ n s'=>∃ i σ' H',Inv X pins σ' H' s' /\ tn i s'.heap /\ (∀ b ∈ fp,H' b = none) /\ W i n σ' H') ?_ m0 ⟨0,Z,H2,I2,st2,λ b hb=>(f2 b hb).1,w0⟩;rintro n s3 ⟨i,σ3,H3,I3,st3,fr3,w3⟩
 rcases turn i n σ3 H3 w3 with ⟨stop,qn⟩ | ⟨go,N,hN,step⟩
 ·refine wpAny_passesOwn hp (thn (T.done X rfl rfl rfl hc i pins s3 σ3 H3 X.xe I3 (stat fr3) st3 stop) λ r s4 ⟨hr,I4⟩=>?_);subst hr;exact wpAny_execs_nil ⟨σ3,H3,I4,qn⟩
 ·refine wpAny_passesOwn hp (thn (T.item X rfl rfl rfl hc i pins s3 σ3 H3 X.xe I3 (stat fr3) st3 go) λ r s4 ⟨u,hr,h4⟩=>?_);subst hr;refine wpAny_passesOwn hp (thn h4 λ _ s5 ⟨x,H5,I5,r5,y5,st5,fr5⟩=>?_);have I5':=I5.pinned (stat fr5) (T.obj _ _ st5);refine wpAny_passesOwn hp (thn (hg _ s5 σ3 H5 x u _ I5' r5 (step x H5 y5)) λ _ s6 ⟨σ6,H6,I6,q6⟩=>?_);refine wpAny_passesOwn hp (thn (hb _ s6 σ6 H6 _ I6 q6) λ f s7 q7=>?_);have again:∀ {σ7:St} {H7:Hp},Inv X (pins ++ GI fp s5.heap) σ7 H7 s7->N σ7 H7->∃ m,m < n /\ ∃ i σ' H',Inv X pins σ' H' s7 /\ tn i s7.heap /\ (∀ b ∈ fp,H' b = none) /\ W i m σ' H':=λ {σ7 H7} I7 n7=>by
   obtain ⟨m',hm,w7⟩:=hN σ7 H7 n7;refine ⟨m',hm,i + 1,σ7,H7,I7.WH,T.keep _ _ _ st5 λ b hb o e=>(I7.pin (b,o) (List.mem_append_right _ (List.mem_append_right _ (Vn hb e)))).1,λ b hb=>?_,w7⟩;obtain ⟨o,e,d⟩:=T.obj _ _ st5 b hb;exact (I7.pin (b,o) (List.mem_append_right _ (List.mem_append_right _ (Vn hb e)))).2.1
  cases f with
  | next=>obtain ⟨σ7,H7,I7,n7⟩:=q7; exact again I7 n7
  | cont=>obtain ⟨σ7,H7,I7,n7⟩:=q7; exact again I7 n7
  | brk=>obtain ⟨σ7,H7,I7,q7⟩:=q7; exact ⟨σ7,H7,I7.WH,q7⟩
  | ret v=>obtain ⟨x7,σ7,H7,I7,r7,q7⟩:=q7; exact ⟨x7,σ7,H7,I7.WH,r7,q7⟩
theorem P0 {g:TG} {tb:TS} {D:Ends} (Pv:Nat->St->Hp->Prop) (h0:Pv 0 Z H) (hl:∀ i Z H,i <= xs.length->Pv i Z H->SqL K H a xs)
  (hs:∀ i x Z H,xs[i]? = some x->Pv i Z H->g x Z H λ σ2 H2=>tb { D with nx:=Pv (i + 1),ct:=Pv (i + 1),bk:=D.nx } σ2 H2) (hd:∀ Z H,Pv xs.length Z H->D.nx Z H) :
  ∃ W:Nat->Nat->St->Hp->Prop,(∃ m,W 0 m Z H) /\ ∀ i m Z H,W i m Z H ->
   ((Itl K a).stop i H /\ D.nx Z H) \/ ((Itl K a).go i H /\ ∃ N:St->Hp->Prop,(∀ σ' H',N σ' H'->∃ m',m' < m /\ W (i + 1) m' σ' H') /\ ∀ x H',(Itl K a).yld i H x H'->g x Z H' λ σ2 H2=>tb { D with nx:=N,ct:=N,bk:=D.nx } σ2 H2):=by
 refine ⟨λ i m Z H=>m = xs.length - i /\ i <= xs.length /\ Pv i Z H,⟨xs.length,by simp,Nat.zero_le _,h0⟩,?_⟩;rintro i m Z H ⟨rfl,hi,p⟩;have q:=hl i Z H hi p
 by_cases hlt:i < xs.length
 ·refine .inr ⟨⟨xs,xs[i],q,by simp [hlt]⟩,Pv (i + 1),λ σ' H' p'=>⟨xs.length - (i + 1),by lia,rfl,hlt,p'⟩,λ x H' y=>?_⟩;obtain ⟨e,y⟩:=y;subst e;exact hs i x Z _ (y xs q) p
 ·have e:i = xs.length:=by lia
  subst e;exact .inl ⟨⟨xs,q,Nat.le_refl _⟩,hd Z H p⟩
theorem S1 {g:TG} {tb:TS} {D:Ends} (Pv:Nat->St->Hp->Prop) (h0:Pv 0 Z H) (hl:∀ i Z H,i <= xs.length->Pv i Z H->SqT K H a xs)
  (hs:∀ i x Z H,xs[i]? = some x->Pv i Z H->g x Z H λ σ2 H2=>tb { D with nx:=Pv (i + 1),ct:=Pv (i + 1),bk:=D.nx } σ2 H2) (hd:∀ Z H,Pv xs.length Z H->D.nx Z H) :
  ∃ W:Nat->Nat->St->Hp->Prop,(∃ m,W 0 m Z H) /\ ∀ i m Z H,W i m Z H ->
   ((Itt K a).stop i H /\ D.nx Z H) \/ ((Itt K a).go i H /\ ∃ N:St->Hp->Prop,(∀ σ' H',N σ' H'->∃ m',m' < m /\ W (i + 1) m' σ' H') /\ ∀ x H',(Itt K a).yld i H x H'->g x Z H' λ σ2 H2=>tb { D with nx:=N,ct:=N,bk:=D.nx } σ2 H2):=by
 refine ⟨λ i m Z H=>m = xs.length - i /\ i <= xs.length /\ Pv i Z H,⟨xs.length,by simp,Nat.zero_le _,h0⟩,?_⟩;rintro i m Z H ⟨rfl,hi,p⟩;have q:=hl i Z H hi p
 by_cases hlt:i < xs.length
 ·refine .inr ⟨⟨xs,xs[i],q,by simp [hlt]⟩,Pv (i + 1),λ σ' H' p'=>⟨xs.length - (i + 1),by lia,rfl,hlt,p'⟩,λ x H' y=>?_⟩;obtain ⟨e,y⟩:=y;subst e;exact hs i x Z _ (y xs q) p
 ·have e:i = xs.length:=by lia
  subst e;exact .inl ⟨⟨xs,q,Nat.le_refl _⟩,hd Z H p⟩
theorem LP {lo:Int} {n:Nat} {g:TG} {tb:TS} {D:Ends} (Pv:Nat->St->Hp->Prop) (h0:Pv 0 Z H)
  (hs:∀ i Z H,i < n->Pv i Z H->g (.int (lo + i)) Z H λ σ2 H2=>tb { D with nx:=Pv (i + 1),ct:=Pv (i + 1),bk:=D.nx } σ2 H2) (hd:∀ Z H,Pv n Z H->D.nx Z H) :
  ∃ W:Nat->Nat->St->Hp->Prop,(∃ m,W 0 m Z H) /\ ∀ i m Z H,W i m Z H ->
   ((Itr lo n).stop i H /\ D.nx Z H) \/ ((Itr lo n).go i H /\ ∃ N:St->Hp->Prop,(∀ σ' H',N σ' H'->∃ m',m' < m /\ W (i + 1) m' σ' H') /\ ∀ x H',(Itr lo n).yld i H x H'->g x Z H' λ σ2 H2=>tb { D with nx:=N,ct:=N,bk:=D.nx } σ2 H2):=by
 refine ⟨λ i m Z H=>m = n - i /\ i <= n /\ Pv i Z H,⟨n,by simp,Nat.zero_le _,h0⟩,?_⟩;rintro i m Z H ⟨rfl,hi,p⟩
 by_cases hlt:i < n
 ·refine .inr ⟨hlt,Pv (i + 1),λ σ' H' p'=>⟨n - (i + 1),by lia,rfl,hlt,p'⟩,λ x H' y=>?_⟩;obtain ⟨e,y⟩:=y;subst e y;exact hs i Z _ hlt p
 ·have e:i = n:=by lia
  subst e;exact .inl ⟨Nat.le_refl _,hd Z H p⟩
abbrev R2:=V->V->Hp->VK->Prop
def OpR (X:Cx) (f:Value->Value->Sem Value) (r:R2):Prop:=
 ∀ (pins:List (Addr × Obj)) (s:Shared) (Z:St) (H:Hp) (x y:V) (v u:Value) (Q:VK),Inv X pins Z H s->RelV x v->RelV y u->r x y H Q ->
  wpAny (model X.prog X.w) X.A (f v u) (EP X pins Z Q) X.xe s
def UnR (X:Cx) (f:Value->Sem Value) (r:V->Hp->VK->Prop):Prop:=
 ∀ (pins:List (Addr × Obj)) (s:Shared) (Z:St) (H:Hp) (x:V) (v:Value) (Q:VK),Inv X pins Z H s->RelV x v->r x H Q ->
  wpAny (model X.prog X.w) X.A (f v) (EP X pins Z Q) X.xe s
def JB (X:Cx) (f:Value) (r:List V->Hp->VK->Prop):Prop:=
 ∀ (pins:List (Addr × Obj)) (s:Shared) (Z:St) (H:Hp) (xs:List V) (us:List Value) (Q:VK),Inv X pins Z H s->Vals xs us->r xs H Q ->
  wpAny (model X.prog X.w) X.A (call f us) (EP X pins Z Q) X.xe s
def Zju (X:Cx) (r:V->Hp->(Bool->Hp->Prop)->Prop):Prop:=
 ∀ (pins:List (Addr × Obj)) (s:Shared) (Z:St) (H:Hp) (x:V) (v:Value) (Q:Bool->Hp->Prop),Inv X pins Z H s->RelV x v->r x H Q ->
  wpAny (model X.prog X.w) X.A (truthy v) (TP X pins Z Q) X.xe s
def tOp (r:R2) (ta tb:TE):TE:=λ Z H Q=>ta Z H λ x H1=>tb Z H1 λ y H2=>r x y H2 Q
def tUn (r:V->Hp->VK->Prop) (ta:TE):TE:=λ Z H Q=>ta Z H λ x H1=>r x H1 Q
def rI (C:Int->Int->Prop) (g:Int->Int->V):R2:=λ x y H Q=>∃ i j,x = .int i /\ y = .int j /\ C i j /\ Q (g i j) H
def rI0 (g:Int->Int->V):R2:=λ x y H Q=>∃ i j,x = .int i /\ y = .int j /\ Q (g i j) H
def rU (g:Int->V):V->Hp->VK->Prop:=λ x H Q=>∃ i,x = .int i /\ Q (g i) H
section
variable {a b c:Expr} {ta tb tc:TE}
theorem ZhJ (ha:PE X a ta) (hb:PE X b tb) {R:V->V->Hp->Prop} (I:Inv X pins Z H s)
  (h:ta Z H λ x H1=>tb Z H1 λ y H2=>R x y H2) {Q:Value->Shared->Prop} {f:Value->Value->Sem Value}
  (hf:∀ v u s2 x y H2,Inv X pins Z H2 s2->RelV x v->RelV y u->R x y H2->wpAny (model X.prog X.w) X.A (f v u) Q X.xe s2) :
  wpAny (model X.prog X.w) X.A (eval a X.env) (λ v s₁=>wpAny (model X.prog X.w) X.A (eval b X.env) (λ u s₂=>wpAny (model X.prog X.w) X.A (f v u) Q X.xe s₂) X.xe s₁) X.xe s:=by
 refine thn (ha pins s Z H _ I h) λ v s1 ⟨x,H1,I1,r1,q1⟩=>?_;refine thn (hb pins s1 Z H1 _ I1 q1) λ u s2 ⟨y,H2,I2,r2,q2⟩=>?_;exact hf v u s2 x y H2 I2 r1 r2 q2
theorem Zhf {op:Operator} {r:R2} (ho:OpR X (binaryOp op) r) (ha:PE X a ta) (hb:PE X b tb):PE X (.BinOp a op b pos) (tOp r ta tb):=by
 intro pins s Z H Q I h;exact wpAny_BinOp (ZhJ ha hb I h λ v u s2 x y H2 I2 rx ry q=>ho pins s2 Z H2 x y v u Q I2 rx ry q)
theorem Zh2 {op:UnaryOp} {r:V->Hp->VK->Prop} (ho:UnR X (unaryOp op) r) (ha:PE X a ta):PE X (.UnaryOp op a pos) (tUn r ta):=by
 intro pins s Z H Q I h;exact UnaryOp_ (thn (ha pins s Z H _ I h) λ v s1 ⟨x,H1,I1,r1,q1⟩=>ho pins s1 Z H1 x v Q I1 r1 q1)
theorem opI {f:Value->Value->Sem Value} {C:Int->Int->Prop} {g:Int->Int->Int}
  (rule:∀ (i j:Int) (t u:Tok) (s:Shared) (Q:Value->Shared->Prop) (E:Value->Shared->Prop),C i j->Q (.int (g i j) s.toks) { s with toks:=s.toks + 1 }->wpAny (model X.prog X.w) X.A (f (.int i t) (.int j u)) Q E s) :
  OpR X f (rI C λ i j=>.int (g i j)):=by
 intro pins s Z H x y v u Q I rx ry h;obtain ⟨i,j,rfl,rfl,hc,q⟩:=h;obtain ⟨t,rfl⟩:=rx;obtain ⟨t',rfl⟩:=ry;exact rule i j t t' s _ _ hc ⟨.int (g i j),H,I.tok _,⟨_,rfl⟩,q⟩
theorem ZhA {f:Value->Value->Sem Value} {g:Int->Int->Int}
  (rule:∀ (i j:Int) (t u:Tok) (s:Shared) (Q:Value->Shared->Prop) (E:Value->Shared->Prop),Q (.int (g i j) s.toks) { s with toks:=s.toks + 1 }->wpAny (model X.prog X.w) X.A (f (.int i t) (.int j u)) Q E s) :
  OpR X f (rI0 λ i j=>.int (g i j)):=by
 intro pins s Z H x y v u Q I rx ry h;obtain ⟨i,j,rfl,rfl,q⟩:=h;obtain ⟨t,rfl⟩:=rx;obtain ⟨t',rfl⟩:=ry;exact rule i j t t' s _ _ ⟨.int (g i j),H,I.tok _,⟨_,rfl⟩,q⟩
theorem ZgB {f:Value->Value->Sem Value} {g:Int->Int->Bool}
  (rule:∀ (i j:Int) (t u:Tok) (s:Shared) (Q:Value->Shared->Prop) (E:Value->Shared->Prop),Q (.bool (g i j)) s->wpAny (model X.prog X.w) X.A (f (.int i t) (.int j u)) Q E s) :
  OpR X f (rI0 λ i j=>.bl (g i j)):=by
 intro pins s Z H x y v u Q I rx ry h;obtain ⟨i,j,rfl,rfl,q⟩:=h;obtain ⟨t,rfl⟩:=rx;obtain ⟨t',rfl⟩:=ry;exact rule i j t t' s _ _ ⟨.bl (g i j),H,I,rfl,q⟩
def ZiT (i j:Int):Prop:=0 < j /\ j < 1073741824
def Zhn (i j:Int):Prop:=0 <= j /\ j <= 1000000 /\ i.natAbs < 2 ^ 64
def Zb3 (i j:Int):Prop:=(-(2 ^ 64) < i /\ i < 2 ^ 64) \/ (-(2 ^ 64) < j /\ j < 2 ^ 64)
theorem Zb3.ok {i j:Int} (h:Zb3 i j):IntMulOk i j:=by
 rcases h with ⟨h1,h2⟩ | ⟨h1,h2⟩
 ·exact .of_left (intBits_le_64 h1 h2)
 ·exact .of_right (intBits_le_64 h1 h2)
theorem Zcg:OpR X (binaryOp .Add) (rI0 λ i j=>.int (i + j)):=ZhA λ _ _ _ _ _ _ _ q=>add_int q
theorem ZcC:OpR X (binaryOp .Sub) (rI0 λ i j=>.int (i - j)):=ZhA λ _ _ _ _ _ _ _ q=>sub_int q
theorem Zdw:OpR X (binaryOp .Mult) (rI Zb3 λ i j=>.int (i * j)):=opI λ _ _ _ _ _ _ _ hc q=>mul_int q hc.ok
theorem Zaa:OpR X (binaryOp .FloorDiv) (rI ZiT λ i j=>.int (i / j)):=opI λ i j _ _ _ _ _ hc q=>by
 have h1:(0:Int) < j:=hc.1;have h2:j < 1073741824:=hc.2;exact floordiv_int (by lia) (by rw [Int.fdiv_eq_ediv_of_nonneg i (by lia)]; exact q) (.inl (PyProof.noPylong_small (by lia)))
theorem Ze9:OpR X (binaryOp .Mod) (rI (λ _ j=>0 < j) λ i j=>.int (i % j)):=opI λ i j _ _ _ _ _ hc q=>by
 have h1:(0:Int) < j:=hc;exact mod_int' (by lia) (by rw [Int.fmod_eq_emod_of_nonneg i (by lia)]; exact q)
theorem Ze0:OpR X (binaryOp .Pow) (rI Zhn λ i j=>.int (i ^ j.toNat)):=opI λ _ _ _ _ _ _ _ hc q=>pow_int_small hc.1 hc.2.1 hc.2.2 q
theorem ZfW:OpR X (binaryOp .BitAnd) (rI0 λ i j=>.int (Builtin.bitAnd i j)):=ZhA λ _ _ _ _ _ _ _ q=>and_int q
theorem unI {f:Value->Sem Value} {g:Int->Int}
  (rule:∀ (i:Int) (t:Tok) (s:Shared) (Q:Value->Shared->Prop) (E:Value->Shared->Prop),Q (.int (g i) s.toks) { s with toks:=s.toks + 1 }->wpAny (model X.prog X.w) X.A (f (.int i t)) Q E s) :
  UnR X f (rU λ i=>.int (g i)):=by
 intro pins s Z H x v Q I rx h;obtain ⟨i,rfl,q⟩:=h;obtain ⟨t,rfl⟩:=rx;exact rule i t s _ _ ⟨.int (g i),H,I.tok _,⟨_,rfl⟩,q⟩
theorem Zfn:UnR X (unaryOp .USub) (rU λ i=>.int (-i)):=unI λ _ _ _ _ _ q=>neg_int q
end
noncomputable def ZiN:V->V->Bool
 | .non,.non=>true | .non,.int _=>true | .int _,.non=>true | .non,.bl _=>true | .bl _,.non=>true | .non,.str _=>true | .str _,.non=>true
 | .int _,.int _=>true | .bl _,.bl _=>true | .str _,.str _=>true | .byt _,.byt _=>true
 | .int _,.str _=>true | .str _,.int _=>true | .bl _,.str _=>true | .str _,.bl _=>true
 | _,_=>false
def rEq:R2:=λ x y H Q=>ZiN x y = true /\ Q (.bl (decide (x = y))) H
def rNe:R2:=λ x y H Q=>ZiN x y = true /\ Q (.bl (!decide (x = y))) H
theorem LQ {i j:Int}:decide (V.int i = V.int j) = (i == j):=by
 rw [Bool.eq_iff_iff];simp
theorem RV {i j:Bool}:decide (V.bl i = V.bl j) = (i == j):=by
 rw [Bool.eq_iff_iff];simp
theorem WX {i j:Str}:decide (V.str i = V.str j) = (i == j):=by
 rw [Bool.eq_iff_iff];simp
theorem HU {i j:Array UInt8}:decide (V.byt i = V.byt j) = (i.toList == j.toList):=by
 rw [Bool.eq_iff_iff];cases i;cases j;simp
section
variable {a b c:Expr} {ta tb tc:TE}
theorem ZO {k k':Bool} (I:Inv X pins Z H s) (q:Q (.bl k) H) (e:k = k'):EP X pins Z Q (.bool k') s:=by
 subst e;exact ⟨.bl k,H,I,rfl,q⟩
theorem ZhL:OpR X (compareOp .Eq) rEq:=by
 intro pins s Z H x y v u Q I rx ry h;obtain ⟨hs,q⟩:=h;cases x with
 | non=>
  cases rx;cases y with
  | non=>cases ry; exact PySem.EqNone.eq_none_none (ZO I q (by simp))
  | bl j=>cases ry; exact PySem.EqNone.eq_none_bool (ZO I q (by simp))
  | int j=>obtain ⟨t',rfl⟩:=ry; exact PySem.EqNone.eq_none_int (ZO I q (by simp))
  | str j=>obtain ⟨t',rfl⟩:=ry; exact PySem.EqNone.eq_none_str (ZO I q (by simp))
  | _=>exact absurd (show false = true from hs) Bool.false_ne_true
 | bl i=>
  cases rx;cases y with
  | non=>cases ry; exact PySem.EqNone.eq_bool_none (ZO I q (by simp))
  | bl j=>cases ry; exact eq_bool (ZO I q RV)
  | str j=>obtain ⟨t',rfl⟩:=ry; exact PySem.EqMixed.eq_bool_str (ZO I q (by simp))
  | _=>exact absurd (show false = true from hs) Bool.false_ne_true
 | int i=>
  obtain ⟨t,rfl⟩:=rx;cases y with
  | non=>cases ry; exact PySem.EqNone.eq_int_none (ZO I q (by simp))
  | int j=>obtain ⟨t',rfl⟩:=ry; exact eq_int (ZO I q LQ)
  | str j=>obtain ⟨t',rfl⟩:=ry; exact PySem.EqMixed.eq_int_str (ZO I q (by simp))
  | _=>exact absurd (show false = true from hs) Bool.false_ne_true
 | str i=>
  obtain ⟨t,rfl⟩:=rx;cases y with
  | non=>cases ry; exact PySem.EqNone.eq_str_none (ZO I q (by simp))
  | bl j=>cases ry; exact PySem.EqMixed.eq_str_bool (ZO I q (by simp))
  | int j=>obtain ⟨t',rfl⟩:=ry; exact PySem.EqMixed.eq_str_int (ZO I q (by simp))
  | str j=>obtain ⟨t',rfl⟩:=ry; exact eq_str (ZO I q WX)
  | _=>exact absurd (show false = true from hs) Bool.false_ne_true
 | byt i=>
  obtain ⟨t,rfl⟩:=rx;cases y with
  | byt j=>obtain ⟨t',rfl⟩:=ry; exact PySem.W.eq_bytes (ZO I q HU)
  | _=>exact absurd (show false = true from hs) Bool.false_ne_true
 | _=>cases y <;> exact absurd (show false = true from hs) Bool.false_ne_true
theorem ZhX:OpR X (compareOp .NotEq) rNe:=by
 intro pins s Z H x y v u Q I rx ry h;obtain ⟨hs,q⟩:=h;cases x with
 | non=>
  cases rx;cases y with
  | non=>cases ry; exact PySem.EqNone.ne_none_none (ZO I q (by simp))
  | bl j=>cases ry; exact PySem.EqNone.ne_none_bool (ZO I q (by simp))
  | int j=>obtain ⟨t',rfl⟩:=ry; exact PySem.EqNone.ne_none_int (ZO I q (by simp))
  | str j=>obtain ⟨t',rfl⟩:=ry; exact PySem.EqNone.ne_none_str (ZO I q (by simp))
  | _=>exact absurd (show false = true from hs) Bool.false_ne_true
 | bl i=>
  cases rx;cases y with
  | non=>cases ry; exact PySem.EqNone.ne_bool_none (ZO I q (by simp))
  | bl j=>cases ry; exact ne_bool (ZO I q (congrArg not RV))
  | str j=>obtain ⟨t',rfl⟩:=ry; exact PySem.EqMixed.ne_bool_str (ZO I q (by simp))
  | _=>exact absurd (show false = true from hs) Bool.false_ne_true
 | int i=>
  obtain ⟨t,rfl⟩:=rx;cases y with
  | non=>cases ry; exact PySem.EqNone.ne_int_none (ZO I q (by simp))
  | int j=>obtain ⟨t',rfl⟩:=ry; exact ne_int (ZO I q (congrArg not LQ))
  | str j=>obtain ⟨t',rfl⟩:=ry; exact PySem.EqMixed.ne_int_str (ZO I q (by simp))
  | _=>exact absurd (show false = true from hs) Bool.false_ne_true
 | str i=>
  obtain ⟨t,rfl⟩:=rx;cases y with
  | non=>cases ry; exact PySem.EqNone.ne_str_none (ZO I q (by simp))
  | bl j=>cases ry; exact PySem.EqMixed.ne_str_bool (ZO I q (by simp))
  | int j=>obtain ⟨t',rfl⟩:=ry; exact PySem.EqMixed.ne_str_int (ZO I q (by simp))
  | str j=>obtain ⟨t',rfl⟩:=ry; exact ne_str (ZO I q (congrArg not WX))
  | _=>exact absurd (show false = true from hs) Bool.false_ne_true
 | byt i=>
  obtain ⟨t,rfl⟩:=rx;cases y with
  | byt j=>obtain ⟨t',rfl⟩:=ry; exact PySem.W.ne_bytes (ZO I q (congrArg not HU))
  | _=>exact absurd (show false = true from hs) Bool.false_ne_true
 | _=>cases y <;> exact absurd (show false = true from hs) Bool.false_ne_true
theorem ZgI:OpR X (compareOp .Lt) (rI0 λ i j=>.bl (decide (i < j))):=ZgB λ _ _ _ _ _ _ _ q=>lt_int q
theorem Zg7:OpR X (compareOp .LtE) (rI0 λ i j=>.bl (decide (i <= j))):=ZgB λ _ _ _ _ _ _ _ q=>le_int q
theorem ZgR:OpR X (compareOp .Gt) (rI0 λ i j=>.bl (decide (j < i))):=ZgB λ _ _ _ _ _ _ _ q=>gt_int q
theorem Zh3:OpR X (compareOp .GtE) (rI0 λ i j=>.bl (decide (j <= i))):=ZgB λ _ _ _ _ _ _ _ q=>ge_int q
theorem OpR.or {f:Value->Value->Sem Value} {r r':R2} (h:OpR X f r) (h':OpR X f r'):OpR X f (λ x y H Q=>r x y H Q \/ r' x y H Q):=by
 intro pins s Z H x y v u Q I rx ry q
 rcases q with q | q
 ·exact h pins s Z H x y v u Q I rx ry q
 ·exact h' pins s Z H x y v u Q I rx ry q
theorem Rx (b:Expr) {op:CmpOp} (h:autoParam (op ≠ .In) zz1._auto_1) (h2:autoParam (op ≠ .NotIn) zz1._auto_1):behindInMarks op b = false:=by
 have e1:(op == CmpOp.In) = false:=by cases op <;> first | rfl | exact absurd rfl h
 have e2:(op == CmpOp.NotIn) = false:=by cases op <;> first | rfl | exact absurd rfl h2
 cases b <;> simp [behindInMarks,e1,e2]
theorem ZaX {op:CmpOp} {r:R2} (ho:OpR X (compareOp op) r) (ha:PE X a ta) (hb:PE X b tb) (hm:behindInMarks op b = false):PE X (.Compare a [op] [b] pos) (tOp r ta tb):=by
 intro pins s Z H Q I h;exact wpAny_Compare1 (ZhJ ha hb I h λ v u s2 x y H2 I2 rx ry q=>ho pins s2 Z H2 x y v u Q I2 rx ry q) hm
def Zd3 (t:TE):TT:=λ Z H Q=>t Z H λ x H'=>∃ k,x = .bl k /\ Q k H'
theorem Za3 {op:CmpOp} {r:R2} (ho:OpR X (compareOp op) r) (ha:PE X a ta) (hb:PE X b tb) (hm:behindInMarks op b = false):PT X (.Compare a [op] [b] pos) (Zd3 (tOp r ta tb)):=by
 intro pins s Z H Q I h
 refine wpAny_isTrue_Compare1 (thn (ha pins s Z H _ I h) λ v s1 ⟨x,H1,I1,r1,q1⟩=>thn (hb pins s1 Z H1 _ I1 q1) λ u s2 ⟨y,H2,I2,r2,q2⟩=>
  thn (ho pins s2 Z H2 x y v u _ I2 r1 r2 q2) λ c s3 ⟨z,H3,I3,r3,k,e,q3⟩=>?_) hm
 subst e;cases r3;exact wpAny_truthy_bool ⟨H3,I3,q3⟩
def Hb (r r':R2) (ta tb tc:TE):TE:=λ Z H Q=>ta Z H λ x H1=>tb Z H1 λ y H2=>r x y H2 λ z H3=>∃ k,z = .bl k /\
 (if k = true then tc Z H3 λ w' H4=>r' y w' H4 Q else Q (.bl false) H3)
theorem Ol {op op':CmpOp} {r r':R2} (ho:OpR X (compareOp op) r) (ho':OpR X (compareOp op') r') (ha:PE X a ta) (hb:PE X b tb) (hc:PE X c tc)
  (hm:autoParam (lastMarks [op,op'] [b,c] = false) zz4._auto_1):PE X (.Compare a [op,op'] [b,c] pos) (Hb r r' ta tb tc):=by
 intro pins s Z H Q I h
 refine Compare_chain (thn (ha pins s Z H _ I h) λ v s1 ⟨x,H1,I1,r1,q1⟩=>chain_link (thn (hb pins s1 Z H1 _ I1 q1) λ u s2 ⟨y,H2,I2,r2,q2⟩=>
  thn (ho pins s2 Z H2 x y v u _ I2 r1 r2 q2) λ d s3 ⟨z,H3,I3,r3,k,e,q3⟩=>?_)) hm
 subst e;cases r3;refine wpAny_truthy_bool ?_;cases k with
 | false=>exact ite_ff ⟨.bl false,H3,I3,rfl,q3⟩
 | true=>exact ite_tt (chain_last (thn (hc pins s3 Z H3 _ I3 q3) λ w' s4 ⟨z',H4,I4,r4,q4⟩=>ho' pins s4 Z H4 y z' u w' Q I4 r2 r4 q4))
theorem ND {op op':CmpOp} {r r':R2} (ho:OpR X (compareOp op) r) (ho':OpR X (compareOp op') r') (ha:PE X a ta) (hb:PE X b tb) (hc:PE X c tc)
  (hm:autoParam (lastMarks [op,op'] [b,c] = false) zz4._auto_1):PT X (.Compare a [op,op'] [b,c] pos) (Zd3 (Hb r r' ta tb tc)):=by
 intro pins s Z H Q I h
 refine isTrue_chain (thn (ha pins s Z H _ I h) λ v s1 ⟨x,H1,I1,r1,q1⟩=>test_link (thn (hb pins s1 Z H1 _ I1 q1) λ u s2 ⟨y,H2,I2,r2,q2⟩=>
  thn (ho pins s2 Z H2 x y v u _ I2 r1 r2 q2) λ d s3 ⟨z,H3,I3,r3,k,e,q3⟩=>?_)) hm
 subst e;cases r3;refine wpAny_truthy_bool ?_;cases k with
 | false=>
  obtain ⟨k',e',q'⟩:=q3;cases e';exact ite_ff ⟨H3,I3,q'⟩
 | true=>
  refine ite_tt (test_last (thn (hc pins s3 Z H3 _ I3 q3) λ w' s4 ⟨z',H4,I4,r4,q4⟩=>thn (ho' pins s4 Z H4 y z' u w' _ I4 r2 r4 q4) λ d' s5 ⟨z2,H5,I5,r5,k2,e2,q5⟩=>?_));subst e2;cases r5;exact wpAny_truthy_bool ⟨H5,I5,q5⟩
def ZiW (K:Fk) (x:V) (H:Hp) (k:Bool):Prop:=
 match x with
 | .non=>k = false
 | .bl b=>k = b
 | .int i=>k = (i != 0)
 | .str y=>y.length <= sizeLine /\ k = ((y.length:Int) != 0)
 | .byt y=>y.size <= sizeLine /\ k = ((y.size:Int) != 0)
 | .ref p=>(∃ xs,SqL K H p xs /\ k = !xs.isEmpty) \/ (∃ xs,SqT K H p xs /\ k = !xs.isEmpty) \/ ∃ kvs,H p = some (.dK kvs) /\ k = !kvs.isEmpty
 | _=>False
theorem EM {κ:Type} {kvs:List (κ × V)} {vs:List (κ × Value)} (r:KV kvs vs):(!vs.isEmpty) = !kvs.isEmpty:=by
 cases r <;> rfl
theorem K9 {its:List Value} (r:Vals xs its):(!its.toArray.isEmpty) = !xs.isEmpty:=by
 cases r <;> simp
theorem Kj:(sizeLine:Nat) < 2 ^ 63:=by rw [sizeLine_eq]; decide
theorem Zfp:Zju X (λ x H Q=>∃ k,ZiW X.K x H k /\ Q k H):=by
 intro pins s Z H x v Q I rx h;obtain ⟨k,e,q⟩:=h;have hl:=Kj;have hs:sizeLine = 16777216:=sizeLine_eq;cases x with
 | non=>
  cases rx;have e':k = false:=e;subst e';exact truthy_none ⟨H,I,q⟩
 | bl b=>
  cases rx;have e':k = b:=e;subst e';exact wpAny_truthy_bool ⟨H,I,q⟩
 | int i=>
  obtain ⟨t,rfl⟩:=rx;have e':k = (i != 0):=e;subst e';exact PySem.P.truthy_int ⟨H,I,q⟩
 | str y=>
  obtain ⟨t,rfl⟩:=rx;obtain ⟨hy,e'⟩:y.length <= sizeLine /\ k = ((y.length:Int) != 0):=e;subst e';exact PySem.P.truthy_str (by lia) ⟨H,I.tok _,q⟩
 | byt y=>
  obtain ⟨t,rfl⟩:=rx;obtain ⟨hy,e'⟩:y.size <= sizeLine /\ k = ((y.size:Int) != 0):=e;subst e';exact PySem.W.truthy_bytes (by lia) ⟨H,I.tok _,q⟩
 | ref p=>
  cases rx;have e':(∃ xs,SqL X.K H p xs /\ k = !xs.isEmpty) \/ (∃ xs,SqT X.K H p xs /\ k = !xs.isEmpty) \/ ∃ kvs,H p = some (.dK kvs) /\ k = !kvs.isEmpty:=e
  rcases e' with ⟨xs,hx,e'⟩ | ⟨xs,hx,e'⟩ | ⟨kvs,hx,e'⟩
  ·subst e';obtain ⟨its,r,pl,hz⟩:=I.list hx;have hlen:=r.length;exact wpAny_truthy_list pl.isList (by simp only [List.size_toArray]; lia) ⟨H,I.tok _,by rw [K9 r]; exact q⟩
  ·subst e';obtain ⟨its,r,pl,hz⟩:=I.tuple hx;have hlen:=r.length;exact truthy_tuple pl (by simp only [List.size_toArray]; lia) ⟨H,I.tok _,by rw [K9 r]; exact q⟩
  ·subst e';obtain ⟨hz,hS,vs,r,m⟩:kvs.length <= sizeLine /\ (p == sysModules) = false /\ ∃ vs,KV kvs vs /\ s.heap.DictOf (Qe X.prog X.w) p vs:=I.hok p _ hx;have hlen:kvs.length = vs.length:=Paired.length r;exact wpAny_truthy_dict hS m (by lia) ⟨H,I.tok _,by rw [EM r]; exact q⟩
 | _=>exact (show False from e).elim
theorem OG (ha:PE X a ta) (he:∀ whole,isTrue a X.env whole = (do let v <- whole; standAt a.pos; holding [v] (truthy v))) :
  PT X a (λ Z H Q=>ta Z H λ x H'=>∃ k,ZiW X.K x H' k /\ Q k H'):=by
 intro pins s Z H Q I h;exact isTrue_plain (thn (ha pins s Z H _ I h) λ v s1 ⟨x,H1,I1,r1,q1⟩=>Zfp pins s1 Z H1 x v Q I1 r1 q1) (he _)
theorem Es:OpR X (binaryOp .Add) (λ x y H Q=>∃ i j,x = .str i /\ y = .str j /\ i.length + j.length <= sizeLine /\ Q (.str (i ++ j)) H):=by
 intro pins s Z H x y v u Q I rx ry h;obtain ⟨i,j,rfl,rfl,hz,q⟩:=h;obtain ⟨t,rfl⟩:=rx;obtain ⟨t',rfl⟩:=ry;exact add_str (λ t' tk=>⟨.str (i ++ j),H,I.tok _,⟨_,rfl⟩,q⟩) hz
theorem vals1 {x:V} (r:Vals [x] us):∃ u,us = [u] /\ RelV x u:=by
 cases r with
 | cons r1 r2=>cases r2; exact ⟨_,rfl,r1⟩
theorem vals2 {x:V} (r:Vals [x,y] us):∃ u w',us = [u,w'] /\ RelV x u /\ RelV y w':=by
 cases r with
 | cons r1 r2=>
  cases r2 with
  | cons r3 r4=>cases r4; exact ⟨_,_,rfl,r1,r3⟩
theorem PH:JB X (.builtin "abs") (λ xs H Q=>∃ i,xs = [.int i] /\ Q (.int (if i < 0 then -i else i)) H):=by
 intro pins s Z H xs us Q I r h;obtain ⟨i,rfl,q⟩:=h;obtain ⟨u,rfl,t,rfl⟩:=vals1 r;exact call_abs_int λ u tk=>⟨.int (if i < 0 then -i else i),H,I.tok _,⟨_,rfl⟩,q⟩
theorem L0 (hc:X.calm = true):JB X (.builtin "max") (λ xs H Q=>∃ i j,xs = [.int i,.int j] /\ Q (.int (if j > i then j else i)) H):=by
 intro pins s Z H xs us Q I r h;obtain ⟨i,j,rfl,q⟩:=h;obtain ⟨u,w',rfl,⟨t,rfl⟩,⟨t',rfl⟩⟩:=vals2 r;refine max_two_ints (I.ok.hd hc) λ h' tk k=>⟨_,H,I.kept k,?_,q⟩
 by_cases hj:j > i
 ·rw [if_pos hj,if_pos hj]; exact ⟨_,rfl⟩
 ·rw [if_neg hj,if_neg hj]; exact ⟨_,rfl⟩
theorem Hh (hc:X.calm = true):JB X (.builtin "min") (λ xs H Q=>∃ i j,xs = [.int i,.int j] /\ Q (.int (if j < i then j else i)) H):=by
 intro pins s Z H xs us Q I r h;obtain ⟨i,j,rfl,q⟩:=h;obtain ⟨u,w',rfl,⟨t,rfl⟩,⟨t',rfl⟩⟩:=vals2 r;refine min_two_ints (I.ok.hd hc) λ h' tk k=>⟨_,H,I.kept k,?_,q⟩
 by_cases hj:j < i
 ·rw [if_pos hj,if_pos hj]; exact ⟨_,rfl⟩
 ·rw [if_neg hj,if_neg hj]; exact ⟨_,rfl⟩
theorem Lf:JB X (.type "int") (λ xs H Q=>(∃ i,xs = [.int i] /\ Q (.int i) H) \/ ∃ k,xs = [.bl k] /\ Q (.int (if k then 1 else 0)) H):=by
 intro pins s Z H xs us Q I r h
 rcases h with ⟨i,rfl,q⟩ | ⟨k,rfl,q⟩
 ·obtain ⟨u,rfl,t,rfl⟩:=vals1 r;exact call_int_int ⟨.int i,H,I,⟨_,rfl⟩,q⟩
 ·obtain ⟨u,rfl,r1⟩:=vals1 r;cases r1;exact call_int_bool ⟨.int (if k then 1 else 0),H,I.tok _,⟨_,rfl⟩,q⟩
theorem Gp:JB X (.type "str") (λ xs H Q=>∃ i,xs = [.int i] /\ i.natAbs.log2 < 1920 /\ Q (.str (toString i)) H):=by
 intro pins s Z H xs us Q I r h;obtain ⟨i,rfl,hz,q⟩:=h;obtain ⟨u,rfl,t,rfl⟩:=vals1 r;exact PySem.P.str_of_int hz ⟨.str _,H,I.tok _,⟨_,rfl⟩,q⟩
end
structure ZjU (h:Heap) (x dx C:Addr) (mA:Str->Option Value):Prop where
 obj:h.get? x = some (PySem.W.instObj C dx)
 ns:h.Ns1 dx mA
 ne:dx ≠ x
section
variable {prog:Program} {E:Value->Shared->Prop} {x dx C:Addr} {mA:Str->Option Value} {name:Str} {v:Value}
end
theorem MU.some_of {o:Option Value} (r:MU (some v) o):∃ u,o = some u /\ RelV v u:=by
 cases o with
 | none=>exact (show False from r).elim
 | some u=>exact ⟨u,rfl,r⟩
section
variable {C dx:Addr} {fs fs':List (Str × V)}
end
structure Cls (K:Fk) (C:Addr):Prop where
 pg:PySem.W.plainGet K C Str.empty = true
 hd:PySem.W.hasDictIn K C = true
 po:PySem.W.plainOver K C = true
 sa:PySem.W.findIn K (.ref C) "__setattr__" = some (some (.builtin "object.__setattr__"))
theorem Cls.get {C:Addr} (c:Cls K C) (f:Str):PySem.W.plainGet K C f = true:=c.pg
structure Con (K:Fk) (C:Addr) (f:Str) (v:V) (u:Value):Prop where
 at_:PySem.W.findIn K (.ref C) f = some (some u)
 rel:RelV v u
 get:PySem.W.specialIn K u "__get__" = some none
 cp:PySem.W.copiedNames.contains f = false
structure Meth (K:Fk) (C:Addr) (m:Str) (f:Addr):Prop where
 at_:PySem.W.findIn K (.ref C) m = some (some (.ref f))
 fn:PySem.W.isFn K (.ref f) = true
 kp:PySem.W.keepIn K (.ref f) = true
section
variable {C dx:Addr} {fs:List (Str × V)} {f:Str} {E:Value->Shared->Prop}
end
section
variable {o value:Expr} {f:Str} {pos' tpos:Pos} {ta tv:TE}
end
section
variable {E:Value->Shared->Prop} {Q:Value->Shared->Prop} {c:Value} {b:Bool}
inductive LI (K:Fk) (H:Hp):V->Value->Prop where
 | non:LI K H .non (.type "NoneType")
 | bl (x:Bool):LI K H (.bl x) (.type "bool")
 | int (i:Int):LI K H (.int i) (.type "int")
 | str (x:Str):LI K H (.str x) (.type "str")
 | flt (x:UInt64):LI K H (.flt x) (.type "float")
 | lst {a:Addr} {xs:List V} (e:H a = some (.lst xs)):LI K H (.ref a) (.type "list")
 | frz {a:Addr} {o:Obj} {xs:List V} (e:H a = some (.frz o (.lst xs))):LI K H (.ref a) (.type "list")
 | tup {a:Addr} {xs:List V} (e:H a = some (.tup xs)):LI K H (.ref a) (.type "tuple")
 | dK {a:Addr} {kvs:List (Key × V)} (e:H a = some (.dK kvs)):LI K H (.ref a) (.type "dict")
 | dT {a:Addr} {kvs:List (List Key × V)} (e:H a = some (.dT kvs)):LI K H (.ref a) (.type "dict")
 | ins {a C dx:Addr} {fs:List (Str × V)} (e:H a = some (.ins C dx fs)) (cl:Cls K C) (ha:PySem.W.findIn K (.ref C) "__class__" = some (some (.builtin "object.__class__")))
   (hn:PySem.W.specialIn K (.builtin "object.__class__") "__get__" = some (some (.builtin "getset_descriptor.__get__"))) (htk:PySem.W.takesIn K (.builtin "object.__class__") = some true)
   (hm:PySem.W.mroIn K C (.type "object") = some true):LI K H (.ref a) (.ref C)
end
structure Jq (k:Nat) (A:Around):Prop where
 hd:A.handled = none
 dp:A.depth + 3 * k + 5 < recursionLimit
 un:A.units + 16 * k + 200 < cLine
 gd:A.guards = some []
theorem Jq.mono {k:Nat} (r:Jq k A) (h:j <= k):Jq j A:=⟨r.hd,by have:=r.dp; lia,by have:=r.un; lia,r.gd⟩
theorem Jq.deeper {k:Nat} (r:Jq (k + 1) A) (env:Env):Jq k (A.deeper env):=
 ⟨r.hd,by have:=r.dp; show A.depth + 1 + 3 * k + 5 < _; lia,by have:=r.un; show A.units + 3 + 16 * k + 200 < _; lia,r.gd⟩
theorem Jq.depth {k:Nat} (r:Jq k A):A.depth < recursionLimit:=by have:=r.dp; lia
theorem Jq.units {k:Nat} (r:Jq k A):A.units + 64 < cLine:=by have:=r.un; lia
def ZjT:TA:=λ _ H Q=>Q [] H
def ZgH (ta:TE) (tr:TA):TA:=λ Z H Q=>ta Z H λ x H1=>tr Z H1 λ xs H2=>Q (x :: xs) H2
section
variable {te:TE} {t:TA}
theorem Dl:PA X [] ZjT:=λ _ _ _ _ H Q I h=>Calls.spliced_nil ⟨[],H,I,.nil,h⟩
theorem W8 (ha:PE X e te) (hr:PA X es t) (hs:autoParam (starEach (e :: es) X.env = (false,eval e X.env) :: starEach es X.env) zz3._auto_1):PA X (e :: es) (ZgH te t):=by
 intro pos pins s Z H Q I h;rw [hs];show wpAny _ _ (spliced ((false,eval e X.env) :: backTo pos (starEach es X.env))) _ _ s;refine Calls.spliced_cons (thn (ha pins s Z H _ I h) λ u s1 ⟨x,H1,I1,r1,q1⟩=>?_);exact thn (hr pos pins s1 Z H1 _ I1 q1) λ us s2 ⟨xs,H2,I2,r2,q2⟩=>⟨x :: xs,H2,I2,.cons r1 r2,q2⟩
def Zjf (t:TA):TE:=λ Z H Q=>t Z H λ xs H1=>xs.length <= sizeLine /\ ∀ p,H1 p = none->Q (.ref p) (upd H1 p (.tup xs))
def ZjK (t:TA):TE:=λ Z H Q=>t Z H λ xs H1=>xs.length <= sizeLine /\ ∀ p,H1 p = none->Q (.ref p) (upd H1 p (.lst xs))
theorem ZeA {x1} (h:PA X es t):PE X (.Tuple es x1 pos) (Zjf t):=by
 intro pins s Z H Q I hq;refine wpAny_Tuple_spliced (thn (h pos pins s Z H _ I hq) λ us s1 ⟨xs,H1,I1,r,z,q⟩=>⟨by rw [<- r.length]; exact z,?_⟩);have hf:H1 s1.heap.objs.size = none:=I1.hok.fresh (Nat.le_refl _);refine ⟨.ref s1.heap.objs.size,upd H1 s1.heap.objs.size (.tup xs),I1.laid (t':=s1.toks) (λ b u e=>Heap.get?_push_of_some _ e) (Nat.le_refl _) ?_,rfl,q _ hf⟩;exact ⟨z,us,r,⟨_,Heap.get?_push_size _ rfl,rfl,_,rfl⟩⟩
theorem Sb (h:PA X es t):PE X (.List es pos) (ZjK t):=by
 intro pins s Z H Q I hq;refine wpAny_List_spliced (thn (h pos pins s Z H _ I hq) λ us s1 ⟨xs,H1,I1,r,z,q⟩=>⟨by rw [<- r.length]; exact z,?_⟩);have hf:H1 s1.heap.objs.size = none:=I1.hok.fresh (Nat.le_refl _);refine ⟨.ref s1.heap.objs.size,upd H1 s1.heap.objs.size (.lst xs),I1.laid (t':=s1.toks) (λ b u e=>Heap.get?_push_of_some _ e) (Nat.le_refl _) ?_,rfl,q _ hf⟩;exact ⟨z,us,0,r,Heap.get?_push_size _ rfl⟩
end
abbrev Sp:=List V->Hp->VK->XK->Prop
abbrev CXT:=List Env->Hp->Shared->XK->Value->Shared->Prop
structure Nn (P:Program) (w:World) (K:Fk) (mg:Str->Option Value) (base:Heap) (A:Around) (outer:List Env) (s:Shared) (H:Hp):Prop where
 frames:A.frames = some outer
 mod:Mod K mg base
 bs:∀ b o,base.get? b = some o->s.heap.get? b = some o /\ H b = none
 bsz:base.objs.size <= s.heap.objs.size
 Cs:s.heap.FunFrames base outer
 frf:∀ b ∈ frs outer,H b = none
 hok:HOk P w H s.heap
 bare:AllBare s.gens
def CE (outer:List Env) (P:Program) (w:World) (H:Hp) (s:Shared) (Q:VK) (u:Value) (s':Shared):Prop:=
 ∃ v H',s'.os = s.os /\ AllBare s'.gens /\ Un (frs outer) [] H H' s.heap s'.heap /\ HOk P w H' s'.heap /\ RelV v u /\ Q v H'
def CR (CX:CXT) (outer:List Env) (P:Program) (w:World) (H:Hp) (s:Shared) (Q:VK) (E:XK) (r:Result) (s':Shared):Prop:=
 match r with
 | .ok (.ret u)=>CE outer P w H s Q u s'
 | .ok _=>False
 | .error e=>CX outer H s E e s'
structure Qa (P:Program) (w:World) (K:Fk) (mg:Str->Option Value) (base:Heap) (CX:CXT) (k:Nat) (f:Addr) (fd:FuncData) (ps:List Str) (sp:Sp):Prop where
 len:∀ vs H Q E,sp vs H Q E->vs.length = ps.length
 run:∀ (A:Around) (outer:List Env) (s:Shared) (H:Hp) (args:Args) (us:List Value) (vs:List V) (Q:VK) (E:XK),Jq k A->Nn P w K mg base A outer s H->BindsTo s fd args (ps.zip us)->Vals vs us->sp vs H Q E ->
  codeAny (model P w) A (.call (.ref f) args) (CR CX outer P w H s Q E) s
theorem Qa.imp {base:Heap} {CX:CXT} {k:Nat} {ps:List Str} {sp sp':Sp} (F:Qa P w K mg base CX k f fd ps sp)
  (h:∀ vs H Q E,sp' vs H Q E->sp vs H Q E):Qa P w K mg base CX k f fd ps sp':=
 ⟨λ vs H Q E q=>F.len vs H Q E (h _ _ _ _ q),λ A outer s H args us vs Q E hr he hb hv hs=>F.run A outer s H args us vs Q E hr he hb hv (h _ _ _ _ hs)⟩
section
variable {s':Shared}
theorem Inv.Zg5 (I:Inv X pins Z H s):Nn X.prog X.w X.K X.mg X.base X.A X.stack s H:=
 ⟨I.ok.frames,I.ok.mod,I.bs,Nat.le_trans I.ok.bsz I.sz,I.stack,I.Hw,I.hok,I.bare⟩
theorem Inv.after (I:Inv X pins Z H s) (h:CE X.stack X.prog X.w H s Q u s'):EP X pins Z Q u s':=by
 obtain ⟨v,H',os,bare,un,hok,r,q⟩:=h;obtain ⟨hh,g,d,t,os'⟩:=s';obtain rfl:os' = s.os:=os;exact ⟨v,H',I.call (h':=hh) (g':=g) (d':=d) (t':=t) (ch:=[]) un hok bare (λ b z=>absurd z (by simp)),r,q⟩
end
def Zhl (sp:Sp) (dvs:List V) (E:XK) (t:TA):TE:=λ Z H Q=>t Z H λ vs H1=>sp (vs ++ dvs) H1 Q E
def Binds (K:Fk) (fd:FuncData) (ps:List Str) (ds:List Value):Prop:=
 ∀ (s:Shared) (us:List Value),K.In s.heap->(us ++ ds).length = ps.length->BindsTo s fd ⟨us,[]⟩ (ps.zip (us ++ ds))
theorem Binds.all {ps:List Str} (h:∀ us:List Value,us.length = ps.length->bindArgs fd ⟨us,[]⟩ = pure (ps.zip us)):Binds K fd ps []:=λ s us _ hl=>by
 rw [List.append_nil] at hl ⊢;exact .of_eq (h us hl)
def Passes (CX:CXT) (X:Cx) (E:XK):Prop:=∀ (pins:List (Addr × Obj)) (Z:St) (H:Hp) (s:Shared) (e:Value) (s':Shared),Inv X pins Z H s->CX X.stack H s E e s'->X.xe e s'
section
variable {CX:CXT} {k:Nat} {C:Addr} {ps:List Str} {sp:Sp} {dvs:List V} {ds:List Value} {E:XK} {m:Str} {p apos:Pos} {o:Expr} {ta:TE} {t:TA}
theorem Ze5 {pins:List (Addr × Obj)} {Z:St} {H:Hp} {s:Shared} {Q:VK} {us:List Value} {vs:List V} (F:Qa X.prog X.w X.K X.mg X.base CX k f fd ps sp) (hr:Jq k X.A) (hb:Binds X.K fd ps ds) (hd:Vals dvs ds) (hx:Passes CX X E)
  (I:Inv X pins Z H s) (r:Vals vs us) (h:sp (vs ++ dvs) H Q E):wpAny (model X.prog X.w) X.A (call (.ref f) us) (EP X pins Z Q) X.xe s:=by
 have r2:Vals (vs ++ dvs) (us ++ ds):=r.append hd;have hl:(us ++ ds).length = ps.length:=by rw [<- r2.length]; exact F.len _ _ _ _ h
 refine wpAny_call (codeAny_mono (F.run X.A X.stack s H ⟨us,[]⟩ (us ++ ds) (vs ++ dvs) Q E hr I.Zg5 (hb s us I.kIn hl) r2 h) λ r s' hq=>?_);cases r with
 | error e=>exact hx pins Z H s e s' I hq
 | ok fl=>
  cases fl with
  | ret u=>exact I.after hq
  | next=>exact False.elim hq
  | brk=>exact False.elim hq
  | cont=>exact False.elim hq
theorem Zad (F:Qa X.prog X.w X.K X.mg X.base CX k f fd ps sp) (hr:Jq k X.A) (hg:Gl X x) (hm:X.mg x = some (.ref f)) (hk:PySem.W.keepIn X.K (.ref f) = true) (hb:Binds X.K fd ps ds) (hd:Vals dvs ds) (hx:Passes CX X E)
  (ha:PA X (e :: es) t) (hdb:autoParam ((x == ("__debug__" : Str)) = false) zz1._auto_1) (he:autoParam (starEach (e :: es) X.env = (false,eval e X.env) :: starEach es X.env) zz3._auto_1) (hpl:autoParam ((backTo pos (starEach es X.env)).any (·.1) = false) zz3._auto_1) :
  PE X (.Call (.Name x p) (e :: es) [] pos) (Zhl sp dvs E t):=by
 intro pins s Z H Q I h;refine wpAny_Call_Name_kw (CH I hg hm ?_ hdb);refine PySem.W.callWith_K (h₀:=X.base) I.ok.mod.kin hk (thn (ha pos pins s Z H _ I h) λ us s1 ⟨vs,H1,I1,r,q⟩=>⟨I1.kIn,?_⟩) he hpl;exact Ze5 F hr hb hd hx I1 r q
structure Mk (K:Fk) (C f:Addr):Prop where
 makes:PySem.W.makesIn K C = true
 init:PySem.W.findIn K (.ref C) "__init__" = some (some (.ref f))
 fn:PySem.W.isFn K (.ref f) = true
 kp:PySem.W.keepIn K (.ref C) = true
end
section
variable {CX:CXT} {k:Nat} {C:Addr} {ps ks:List Str} {sp:Sp} {E:XK} {m:Str} {p apos kpos:Pos} {o:Expr} {kws:List Keyword} {te ta:TE} {t tk:TA} {nm:Option Str}
structure Zi1 (K:Fk) (fd:FuncData) (ps ks:List Str) (g:List Value->List Value->List Value) (gV:List V->List V->List V):Prop where
 to:∀ (s:Shared) (us ws:List Value),K.In s.heap->(g us ws).length = ps.length->BindsTo s fd ⟨us,ks.zip ws⟩ (ps.zip (g us ws))
 rel:∀ {vs:List V} {us:List Value} {zs:List V} {ws:List Value},Vals vs us->Vals zs ws->Vals (gV vs zs) (g us ws)
variable {g:List Value->List Value->List Value} {gV:List V->List V->List V}
end
structure Zm (N P:List Str) (sc:Scope):Prop where
 kind:sc.kind = .function
 co:sc.isCoroutine = false
 gen:sc.isGenerator = false
 nd:N.Nodup
 pre:N.take P.length = P
 par:∀ x ∈ P,sc.names.lookup x = some .local \/ sc.names.lookup x = some .cell
 nofree:∀ y ∈ sc.names,y.2 ≠ .free
theorem GF {kindOf:Str->Option NameKind}:∀ {binds:List (Str × Value)} {m:Str->Option Value},(∀ v,(x,v) ∉ binds)->bindL kindOf binds m x = m x
 | [],_,_=>rfl
 | (n,v) :: r,m,h=>by
  unfold bindL;rw [GF λ w hw=>h w (List.mem_cons_of_mem _ hw)]
  split
  ·have:x ≠ n:=by rintro rfl; exact h v List.mem_cons_self
   simp [this]
  ·rfl
theorem Ba {kindOf:Str->Option NameKind}:∀ {binds:List (Str × Value)} {m:Str->Option Value},(∀ v,(x,v) ∉ binds)->bindC kindOf binds m x = m x
 | [],_,_=>rfl
 | (n,v) :: r,m,h=>by
  unfold bindC;rw [Ba λ w hw=>h w (List.mem_cons_of_mem _ hw)]
  split
  ·rfl
  ·have:x ≠ n:=by rintro rfl; exact h v List.mem_cons_self
   simp [this]
theorem Gk {kindOf:Str->Option NameKind} {v:Value}:∀ {P:List Str} {vs:List Value} {i:Nat} {m:Str->Option Value},P.Nodup->P[i]? = some x->vs[i]? = some v->kindOf x = some .local ->
  bindL kindOf (P.zip vs) m x = some v
 | [],_,_,_,_,h,_,_=>by simp at h
 | _ :: _,[],_,_,_,_,h,_=>by simp at h
 | p :: P,w :: vs,0,m,nd,h1,h2,hk=>by
  simp at h1 h2; subst h1; subst h2;show bindL kindOf ((p,w) :: P.zip vs) m p = _;unfold bindL;rw [GF λ v hv=>(List.nodup_cons.mp nd).1 (List.of_mem_zip hv).1,if_pos hk];simp
 | p :: P,w :: vs,i + 1,m,nd,h1,h2,hk=>by
  show bindL kindOf ((p,w) :: P.zip vs) m x = _;unfold bindL;exact Gk (i:=i) (List.nodup_cons.mp nd).2 (by simpa using h1) (by simpa using h2) hk
theorem U1 {kindOf:Str->Option NameKind} {v:Value}:∀ {P:List Str} {vs:List Value} {i:Nat} {m:Str->Option Value},P.Nodup->P[i]? = some x->vs[i]? = some v->kindOf x ≠ some .local ->
  bindC kindOf (P.zip vs) m x = some v
 | [],_,_,_,_,h,_,_=>by simp at h
 | _ :: _,[],_,_,_,_,h,_=>by simp at h
 | p :: P,w :: vs,0,m,nd,h1,h2,hk=>by
  simp at h1 h2; subst h1; subst h2;show bindC kindOf ((p,w) :: P.zip vs) m p = _;unfold bindC;rw [Ba λ v hv=>(List.nodup_cons.mp nd).1 (List.of_mem_zip hv).1,if_neg hk];simp
 | p :: P,w :: vs,i + 1,m,nd,h1,h2,hk=>by
  show bindC kindOf ((p,w) :: P.zip vs) m x = _;unfold bindC;exact U1 (i:=i) (List.nodup_cons.mp nd).2 (by simpa using h1) (by simpa using h2) hk
noncomputable def start (N:List Str) (vs:List V):St:=vs.map some ++ List.replicate (N.length - vs.length) none
noncomputable def Fc (CX:CXT) (P:Program) (w:World) (K:Fk) (mg:Str->Option Value) (base:Heap) (N:List Str) (qual:Str) (scope:Scope) (f:Addr) (cd:Value) (A:Around) (outer:List Env) (s:Shared) (H:Hp) (E:XK):Cx where
 prog:=P
 w:=w
 K:=K
 mg:=mg
 base:=base
 A:=A.deeper (envOfC qual scope s.heap.objs.size f cd)
 N:=N
 s₀:=s
 H₀:=H
 env:=envOfC qual scope s.heap.objs.size f cd
 outer:=outer
 stack:=envOfC qual scope s.heap.objs.size f cd :: outer
 ex:=[]
 calm:=true
 fn:=λ _=>true
 pn:=[]
 xe:=λ e s'=>wpAny (model P w) (A.deeper (envOfC qual scope s.heap.objs.size f cd)) (leaving (envOfC qual scope s.heap.objs.size f cd) e) (λ _ s''=>CX outer H s E e s'') (λ e' s''=>CX outer H s E e' s'') s'
theorem CV {sc:Scope} (h:sc.names.lookup x = some .cell):∃ c,(cellsFrom n sc.names []).lookup x = some c:=by
 have q:=PySem.W.cellsFrom_some sc.names n [] (.inl h);exact Option.isSome_iff_exists.mp q
theorem Gr {CX:CXT} {P:Program} {w:World} {K:Fk} {mg:Str->Option Value} {base:Heap} {N ps:List Str} {qual:Str} {scope:Scope} {f:Addr} {cd:Value} {A:Around} {outer:List Env} {s s1:Shared} {H:Hp} {E:XK} {us:List Value} {vs:List V}
  (S:Zm N ps scope) (hd:A.handled = none) (e0:Nn P w K mg base A outer s H) (hl:vs.length = ps.length) (r:Vals vs us)
  (x:InCallC s s.heap.objs.size (bindL (envOfC qual scope s.heap.objs.size f cd).kindOf (ps.zip us) λ _=>none) (cellsFrom (s.heap.objs.size + 1) scope.names []) (bindC (envOfC qual scope s.heap.objs.size f cd).kindOf (ps.zip us) λ _=>none) s1) :
  Inv (Fc CX P w K mg base N qual scope f cd A outer s H E) [] (start N vs) H s1:=by
 have hpl:ps.length <= N.length:=by have:=congrArg List.length S.pre; rw [List.length_take] at this; lia
 obtain ⟨h1,tk,rfl,hk⟩:=x.done;have noA:∀ b:Addr,b ∉ (Fc CX P w K mg base N qual scope f cd A outer s H E).ex:=λ b z=>absurd (show b ∈ ([]:List Addr) from z) (by simp)
 refine ⟨⟨e0.mod,S.kind,rfl,rfl,Nat.le_refl _,λ y z c h1 h2=>?_,λ y hy=>?_,λ y c _ h=>?_,λ _=>hd,Around.frames_deeper e0.frames,.inr ⟨rfl,rfl⟩,λ b z=>absurd z (noA b),e0.bs,e0.bsz,λ b _ _=>noA b,λ b z=>absurd z (noA b),e0.Cs,e0.frf⟩,
  rfl,e0.bare,Un.kept hk,⟨_,x.toInCall.ns,λ i y v h1 h2 h3=>?_⟩,λ y c h=>⟨_,x.cell y c h⟩,e0.hok.fresh (Nat.le_refl _),λ y c h=>?_,λ p hp=>absurd (show p ∈ ([]:List (Addr × Obj)) from hp) (by simp),e0.hok.kept hk,?_⟩
 ·exact name_of_addr x.apart (PySem.mem_of_lookup h1) (PySem.mem_of_lookup h2)
 ·have hy:scope.names.lookup y = some .cell \/ scope.names.lookup y = some .free:=hy
  rcases hy with hy | hy
  ·exact CV hy
  ·exact absurd rfl (S.nofree _ (PySem.mem_of_lookup hy))
 ·exact Nat.le_of_lt (x.above y c (PySem.mem_of_lookup h))
 ·have hi:i < vs.length:=by
   unfold start at h2
   by_cases hi:i < vs.length
   ·exact hi
   ·rw [List.getElem?_append_right (by simpa using hi)] at h2;rw [List.getElem?_replicate] at h2
    split at h2 <;> cases h2
  have ha:vs[i]? = some v:=by
   unfold start at h2;rw [List.getElem?_append_left (by simpa using hi),List.getElem?_map] at h2;cases e:vs[i]? with
   | none=>rw [e] at h2; cases h2
   | some a=>rw [e] at h2; cases h2; rfl
  obtain ⟨u,hu,rv⟩:=r.get ha;have hp:ps[i]? = some y:=by
   rw [<- S.pre,List.getElem?_take_of_lt (by lia)]; exact h1
  have ndP:ps.Nodup:=by rw [<- S.pre]; exact S.nd.sublist (List.take_sublist _ _)
  refine ⟨u,rv,?_⟩
  rcases S.par y (List.mem_of_getElem? hp) with k | k
  ·exact .inl ⟨k,Gk ndP hp hu k⟩
  ·obtain ⟨c,e⟩:=CV (n:=s.heap.objs.size + 1) k;refine .inr ⟨.inl k,c,e,?_⟩;have q:=x.cell y c e;rw [U1 ndP hp hu (by show scope.names.lookup y ≠ _; rw [k]; decide)] at q;exact q
 ·exact e0.hok.fresh (Nat.le_of_lt (x.above y c (PySem.mem_of_lookup h)))
 ·unfold start;show _ = N.length;rw [List.length_append,List.length_map,List.length_replicate];lia
theorem ZhN {CX:CXT} {P:Program} {w:World} {K:Fk} {mg:Str->Option Value} {base:Heap} {k:Nat} {f:Addr} {name qual:Str} {params:Arguments} {body:List Stmt} {scope:Scope} {dV kV doc pm cdv ct oc:Value} {an od:Option Addr}
  {osl:Array (Option Value)} {N ps:List Str} {sp:Sp} (lk:K.lookup f = some ⟨oc,od,.func (PySem.W.fnOf name qual params body scope dV kV doc pm an cdv ct),osl⟩) (hcd:PySem.W.codeIn K cdv qual = true) (S:Zm N ps scope)
  (len:∀ vs H Q E,sp vs H Q E->vs.length = ps.length)
  (hbody:∀ (A:Around) (outer:List Env) (s:Shared) (H:Hp) (vs:List V) (Q:VK) (E:XK),Jq k (A.deeper (envOfC qual scope s.heap.objs.size f cdv))->sp vs H Q E ->
   ∃ t,PSs (Fc CX P w K mg base N qual scope f cdv A outer s H E) body t /\ t { nx:=λ _ H'=>Q .non H',rt:=Q } (start N vs) H) :
  Qa P w K mg base CX (k + 1) f (PySem.W.fnOf name qual params body scope dV kV doc pm an cdv ct) ps sp:=by
 refine ⟨len,λ A outer s H args us vs Q E hr e0 hb r hsp=>?_⟩;have hl:=len _ _ _ _ hsp;have KX:K.In s.heap:=e0.mod.kin.keeps λ b o e=>(e0.bs b o e).1;have lim:s.heap.NoLimit:=e0.mod.nolimit.keeps λ b o e=>(e0.bs b o e).1;have hkind:∀ y ∈ ps.zip us,scope.names.lookup y.1 = some .local \/ (scope.names.lookup y.1 = some .cell /\ ((cellsFrom (s.heap.objs.size + 1) scope.names []).lookup y.1).isSome = true):=λ ⟨n,v⟩ hy=>by
  rcases S.par n (List.of_mem_zip hy).1 with q | q
  ·exact .inl q
  ·exact .inr ⟨q,PySem.W.cellsFrom_some _ _ _ (.inl q)⟩
 refine codeAny_call_function hr.depth (KX _ _ lk) rfl S.co S.gen rfl (PySem.W.codeRec_of KX hcd) (hb _ _ _ _ ?_);refine wpAny_newFunctionEnv_cells S.kind hkind λ env he s1 x=>?_;subst he;refine ⟨lim.keeps x.toInCall.keep,codeAny_func ?_⟩;obtain ⟨t,ht,hq⟩:=hbody A outer s H vs Q E (hr.deeper _) hsp;have I:Inv (Fc CX P w K mg base N qual scope f cdv A outer s H E) [] (start N vs) H s1:=Gr S hr.hd e0 hl r x;refine wpAny_mono (ht [] s1 (start N vs) H _ I hq) (λ fl s' hs=>?_) λ e s' hs=>hs;have fin:∀ {σ':St} {H':Hp} {v:V} {u:Value},Inv (Fc CX P w K mg base N qual scope f cdv A outer s H E) [] σ' H' s'->RelV v u->Q v H'->CE outer P w H s Q u s':=
  λ {σ' H' v u} J rv q=>⟨v,H',J.os,J.bare,J.base,J.hok,rv,q⟩
 cases fl with
 | ret u=>
  obtain ⟨v,σ',H',J,rv,q⟩:=hs;exact fin J rv q
 | next=>
  obtain ⟨σ',H',J,q⟩:=hs;exact fin (v:=V.non) (u:=Value.none) J rfl q
 | brk=>
  obtain ⟨_,_,_,q⟩:=hs;exact False.elim q
 | cont=>
  obtain ⟨_,_,_,q⟩:=hs;exact False.elim q
section
variable {p:Pos} {t:TA} {id T:String} {r:List V->Hp->VK->Prop}
def tCB (r:List V->Hp->VK->Prop) (t:TA):TE:=λ Z H Q=>t Z H λ vs H1=>r vs H1 Q
theorem Rg (hc:JB X (.builtin id) r) (hg:Gl X x) (hm:X.mg x = none) (hv:bootBuiltins x = some (.builtin id)) (ha:PA X (e :: es) t) (hn:autoParam (x ≠ "__name__") zz1._auto_1) (hdb:autoParam ((x == ("__debug__" : Str)) = false) zz1._auto_1)
  (he:autoParam (starEach (e :: es) X.env = (false,eval e X.env) :: starEach es X.env) zz3._auto_1) (hpl:autoParam ((backTo pos (starEach es X.env)).any (·.1) = false) zz3._auto_1):PE X (.Call (.Name x p) (e :: es) [] pos) (tCB r t):=by
 intro pins s Z H Q I h;refine wpAny_Call_Name_kw (X9 I hg hm hv ?_ hn hdb);exact PyProof.Rows.callWith_builtin1 (thn (ha pos pins s Z H _ I h) λ us s1 ⟨vs,H1,I1,r1,q1⟩=>hc pins s1 Z H1 vs us Q I1 r1 q1) he hpl
theorem FD (hc:JB X (.type T) r) (hg:Gl X x) (hm:X.mg x = none) (hv:bootBuiltins x = some (.type T)) (ha:PA X (e :: es) t) (hn:autoParam (x ≠ "__name__") zz1._auto_1) (hdb:autoParam ((x == ("__debug__" : Str)) = false) zz1._auto_1)
  (he:autoParam (starEach (e :: es) X.env = (false,eval e X.env) :: starEach es X.env) zz3._auto_1) (hpl:autoParam ((backTo pos (starEach es X.env)).any (·.1) = false) zz3._auto_1):PE X (.Call (.Name x p) (e :: es) [] pos) (tCB r t):=by
 intro pins s Z H Q I h;refine wpAny_Call_Name_kw (X9 I hg hm hv ?_ hn hdb);exact PyProof.Rows.callWith_type1 (thn (ha pos pins s Z H _ I h) λ us s1 ⟨vs,H1,I1,r1,q1⟩=>hc pins s1 Z H1 vs us Q I1 r1 q1) he hpl
end
end L2
namespace HT
section
open PySem.SeqAt
open PySem.AutoSeq1 (wpAny_loadPart')
open PySem.MeetsSeq PySem.MeetsSeq2 PySem.MeetsSeq3
end
section
variable {prog:Program} {E:Value->Shared->Prop}
theorem Zab {t:Addr} {vs ws:List Value} {Q:Value->Shared->Prop} (ht:IsTup s.heap t vs.toArray) (hb:IsTup s.heap b ws.toArray) (hv:vs ≠ [])
  (h1:ws = []->Q (.ref t) s) (h2:ws ≠ []->Q (.ref s.heap.objs.size) { s with heap:=s.heap.push { cls:=.type "tuple",data:=.seq (vs ++ ws).toArray } })
  (hsz:vs.length + ws.length <= sizeLine):wpAny (model prog w) A (binaryOp .Add (.ref t) (.ref b)) Q E s:=by
 obtain ⟨⟨cls,dd,data,sl⟩,ho,hc,n,hd⟩:=id ht;obtain ⟨⟨cls2,dd2,data2,sl2⟩,ho2,hc2,n2,hd2⟩:=id hb;simp only at hc hd hc2 hd2;subst hc hd hc2 hd2;have e:vs.toArray ++ ws.toArray = (vs ++ ws).toArray:=by simp
 by_cases hw:ws = []
 ·exact concat_meets ⟨_,ho,rfl⟩ ⟨_,ho2,rfl⟩ noFill_tuple_add seq_tuple_add PySem.F.slot_tuple_add PySem.F.entry_tuple_add (PySem.F.args_tuple_add_2 _ _)
   (tuple_addW1 t b vs.toArray ws.toArray n n2 dd dd2 sl sl2 (by simpa using hv) (by simp [hw])) ⟨ho,ho2,h1 hw⟩
 ·refine concat_meets ⟨_,ho,rfl⟩ ⟨_,ho2,rfl⟩ noFill_tuple_add seq_tuple_add PySem.F.slot_tuple_add PySem.F.entry_tuple_add (PySem.F.args_tuple_add_2 _ _)
   (tuple_addW2 t b vs.toArray ws.toArray n n2 dd dd2 sl sl2 (by simpa using hv) (by simpa using hw) (by rw [List.size_toArray,List.size_toArray]; exact hsz)) ⟨ho,ho2,?_⟩
  rw [e];exact h2 hw
noncomputable def sIx (n d:Nat):Option Int->Nat
 | none=>d
 | some v=>if v < 0 then (v + (n:Int)).toNat else min v.toNat n
theorem ZaR (n d k:Nat):sIx n d (some (k:Int)) = min k n:=by
 show (if (k:Int) < 0 then ((k:Int) + (n:Int)).toNat else min (k:Int).toNat n) = min k n;rw [if_neg (by lia),Int.toNat_natCast]
theorem K4 (n d:Nat) (hd:d <= n) (o:Option Int):sIx n d o <= n:=by
 cases o with
 | none=>exact hd
 | some v=>
  show (if v < 0 then (v + (n:Int)).toNat else min v.toNat n) <= n
  by_cases hv:v < 0
  ·rw [if_pos hv]; lia
  ·rw [if_neg hv]; exact Nat.min_le_right _ _
theorem BC (v:Int) (n d:Nat):(if v < 0 then max (v + (n:Int)) 0 else min v (n:Int)) = ((sIx n d (some v):Nat):Int):=by
 show (if v < 0 then max (v + (n:Int)) 0 else min v (n:Int)) = (((if v < 0 then (v + (n:Int)).toNat else min v.toNat n):Nat):Int)
 by_cases hv:v < 0
 ·simp only [if_pos hv]; lia
 ·simp only [if_neg hv]; lia
theorem Et (lo hi:Option Int) (n:Nat):Builtin.Slice.sliceAdjust lo hi 1 (n:Int) = (((sIx n 0 lo:Nat):Int),((sIx n n hi:Nat):Int)):=by
 have h1:¬ ((1:Int) < 0):=by lia
 unfold Builtin.Slice.sliceAdjust;simp only [h1,if_false];refine Prod.ext ?_ ?_
 ·cases lo with
  | none=>rfl
  | some v=>exact BC v n 0
 ·cases hi with
  | none=>rfl
  | some v=>exact BC v n n
theorem E1 (i j:Nat):Builtin.Slice.slicePlaces (i:Int) (j:Int) 1 = j - i:=by
 unfold Builtin.Slice.slicePlaces;have h1:(1:Int) > 0:=by lia
 simp only [h1,if_true,Int.ediv_one]
 split <;> lia
theorem Wm {v:Value} {o:Option Int} {Q:Option Int->Shared->Prop} (p:IsPart v o) (h:Q o s):wpAny (model prog w) A (Builtin.Slice.slicePartIndex v) Q E s:=by
 cases p with
 | none=>exact slicePart_none h
 | int i t=>exact slicePart_int h
theorem Xa {sl:Addr} {vl vu:Value} {lo hi:Option Int} {n:Nat} {Q:Int × Int × Nat->Shared->Prop} (hs:s.heap.IsSliceOf sl vl vu .none) (pl:IsPart vl lo) (pu:IsPart vu hi)
  (h:Q (((sIx n 0 lo:Nat):Int),1,sIx n n hi - sIx n 0 lo) s):wpAny (model prog w) A (Builtin.Slice.sliceApplied (.ref sl) (pure (n:Int))) Q E s:=by
 obtain ⟨os,hos,hcs,hds⟩:=id hs;unfold Builtin.Slice.sliceApplied Builtin.Slice.sliceFields;refine wpAny_bind (wpAny_bind (wpAny_field hos hds (x:=vl) rfl (wpAny_bind (wpAny_field hos hds (x:=vu) rfl (wpAny_bind (wpAny_field hos hds (x:=.none) rfl (wpAny_pure ?_)))))));refine wpAny_bind (slicePart_none ?_);show wpAny _ _ (if ((1:Int) == 0) = true then _ else _) _ _ s;rw [if_neg (by decide)];refine wpAny_bind (Wm pl (wpAny_bind (Wm pu (wpAny_bind (wpAny_pure ?_)))));show wpAny _ _ (match Builtin.Slice.sliceAdjust lo hi 1 (n:Int) with | (lo,hi)=>pure (lo,(1:Int),Builtin.Slice.slicePlaces lo hi 1)) _ _ s;rw [Et lo hi n];show wpAny _ _ (pure (((sIx n 0 lo:Nat):Int),(1:Int),Builtin.Slice.slicePlaces ((sIx n 0 lo:Nat):Int) ((sIx n n hi:Nat):Int) 1)) _ _ s;rw [E1];exact wpAny_pure h
theorem OF (xs:Array Value) (i k:Nat):((List.range k).filterMap λ (m:Nat)=>xs[((i:Int) + (m:Int) * 1).toNat]?).toArray = ((xs.toList.drop i).take k).toArray:=by
 have e:(λ (m:Nat)=>xs[((i:Int) + (m:Int) * 1).toNat]?) = λ m=>xs[i + m]?:=by
  funext m
  have:((i:Int) + (m:Int) * 1).toNat = i + m:=by lia
  rw [this]
 rw [e];have:=pick_run xs i k;rw [List.filterMap_map] at this;have e2:((λ x=>xs[x]?) ∘ λ x=>i + x) = λ m=>xs[i + m]?:=rfl;rw [e2] at this;rw [this]
theorem YJ {t sl:Addr} {items:Array Value} {vl vu:Value} {lo hi:Option Int} {Q:Value->Shared->Prop} (ht:IsTup s.heap t items) (hs:s.heap.IsSliceOf sl vl vu .none) (pl:IsPart vl lo) (pu:IsPart vu hi)
  (hw:¬ (sIx items.size 0 lo = 0 /\ sIx items.size items.size hi = items.size))
  (h:Q (.ref s.heap.objs.size) { s with heap:=s.heap.push { cls:=.type "tuple",data:=.seq ((items.toList.drop (sIx items.size 0 lo)).take (sIx items.size items.size hi - sIx items.size 0 lo)).toArray } })
  (hsz:items.size <= sizeLine):wpAny (model prog w) A (getItem (.ref t) (.ref sl)) Q E s:=by
 have htake:sizeOk (.seq ((items.toList.drop (sIx items.size 0 lo)).take (sIx items.size items.size hi - sIx items.size 0 lo)).toArray):=by
  show ((items.toList.drop (sIx items.size 0 lo)).take (sIx items.size items.size hi - sIx items.size 0 lo)).toArray.size <= sizeLine;rw [List.size_toArray,List.length_take,List.length_drop,Array.length_toList];lia
 have hj:sIx items.size items.size hi <= items.size:=K4 _ _ (Nat.le_refl _) hi;obtain ⟨os,hos,hcs,hds⟩:=id hs;have hTs:s.TypeIs (.ref sl) "slice" := ⟨os,hos,hcs⟩
 unfold getItem
 try with_reducible refine wpAny_holding ?_
 first | refine wpAny_bind (wpAny_pure ?_) | skip
 refine wpAny_bind (wpAny_sequenceKey ht.typeIs (by decide) ?_)
 refine wpAny_bind (wpAny_callSpecial?_slot (name:=Str.ofString "__getitem__") ht.typeIs PyProof.Rows.slot_tuple_getitem
  (wpAny_call_entry PyProof.Rows.slot_tuple_getitem ht.typeIs entry_tuple_getitem ?_ (args_tuple_getitem _ _)))
 show wpAny _ _ (Builtin.Tuple.tupleItemsOf (.ref t) >>= _) _ _ s;refine wpAny_bind (tupleItemsOf_ ht ?_);refine wpAny_bind (wpAny_typeOf hTs ?_);rw [if_pos (by decide)];refine wpAny_bind (Xa hs pl pu ?_);have hno:¬ ((((sIx items.size 0 lo:Nat):Int) == 0 && (1:Int) == 1 && (sIx items.size items.size hi - sIx items.size 0 lo) == items.size) = true):=by
  intro q;rw [Bool.and_eq_true,Bool.and_eq_true] at q;have q1:((sIx items.size 0 lo:Nat):Int) = 0:=eq_of_beq q.1.1;have q2:sIx items.size items.size hi - sIx items.size 0 lo = items.size:=eq_of_beq q.2;exact hw ⟨by lia,by lia⟩
 show wpAny _ _ (if (((sIx items.size 0 lo:Nat):Int) == 0 && (1:Int) == 1 && (sIx items.size items.size hi - sIx items.size 0 lo) == items.size) = true then _ else _) _ _ s;rw [if_neg hno,OF]
 first
  | exact wpAny_bind (m:=Builtin.Tuple.tupleExact _) (wpAny_newObj_type (wpAny_pure ⟨_,rfl,wpAny_pure h⟩) htake)
  | exact wpAny_bind (m:=Builtin.Tuple.tupleExact _) (wpAny_newObj_type (wpAny_bind (wpAny_pure (wpAny_pure ⟨_,rfl,wpAny_pure h⟩))) htake)
  | exact wpAny_bind (wpAny_bind (m:=Builtin.Tuple.tupleExact _) (wpAny_newObj_type (wpAny_pure (wpAny_pure ⟨_,rfl,wpAny_pure h⟩)) htake))
  | exact wpAny_bind (wpAny_bind (m:=Builtin.Tuple.tupleExact _) (wpAny_newObj_type (wpAny_pure ⟨_,rfl,wpAny_pure h⟩) htake))
end
end HT
namespace L2
abbrev TO:=St->Hp->(Option Int->Hp->Prop)->Prop
def PO (X:Cx) (e:Option Expr) (t:TO):Prop:=
 ∀ (pins:List (Addr × Obj)) (s:Shared) (Z:St) (H:Hp) (Q:Option Int->Hp->Prop),Inv X pins Z H s->t Z H Q ->
  wpAny (model X.prog X.w) X.A (evalPart e X.env) (λ u s'=>∃ o H',Inv X pins Z H' s' /\ IsPart u o /\ Q o H') X.xe s
def Zbd:TO:=λ _ H Q=>Q none H
def ZgY (t:TE):TO:=λ Z H Q=>t Z H λ x H1=>∃ i,x = .int i /\ Q (some i) H1
theorem intsAre_of:∀ {us:List Value},Vals (ns.map V.int) us->IntsAre us ns:=by
 induction ns with
 | nil=>intro us r; rw [List.map_nil] at r; cases r; exact .nil
 | cons n ns ih=>
  intro us r;rw [List.map_cons] at r;cases r with
  | cons r1 r2=>
   obtain ⟨t,e⟩:=r1;subst e;exact .cons n t (ih r2)
section
variable {te:TE} {lo hi:Option Expr} {tl th:TO}
theorem ZbN:PO X none Zbd:=by
 intro pins s Z H Q I h;rw [evalPart_none];exact wpAny_pure ⟨none,H,I,.none,h⟩
theorem S7 (h:PE X e te):PO X (some e) (ZgY te):=by
 intro pins s Z H Q I hw;rw [evalPart_some];refine thn (h pins s Z H _ I hw) λ u s1 ⟨x,H1,I1,r1,q1⟩=>?_;obtain ⟨i,rfl,q⟩:=q1;obtain ⟨t,rfl⟩:=r1;exact ⟨some i,H1,I1,.int i t,q⟩
def SlR (X:Cx) (r:V->Option Int->Option Int->Hp->VK->Prop):Prop:=
 ∀ (pins:List (Addr × Obj)) (s:Shared) (Z:St) (H:Hp) (x:V) (v vl vu:Value) (lo hi:Option Int) (sl:Addr) (Q:VK),Inv X pins Z H s->RelV x v->s.heap.IsSliceOf sl vl vu .none->IsPart vl lo->IsPart vu hi->r x lo hi H Q ->
  ∃ T id,typeLookup (.type T) "__getitem__" = pure (some (.builtin id)) /\ s.TypeIs v T /\ wpAny (model X.prog X.w) X.A (getItem v (.ref sl)) (EP X pins Z Q) X.xe s
theorem SlR.or {r r':V->Option Int->Option Int->Hp->VK->Prop} (h:SlR X r) (h':SlR X r'):SlR X (λ x lo hi H Q=>r x lo hi H Q \/ r' x lo hi H Q):=by
 intro pins s Z H x v vl vu lo hi sl Q I rx hs pl pu q
 rcases q with q | q
 ·exact h pins s Z H x v vl vu lo hi sl Q I rx hs pl pu q
 ·exact h' pins s Z H x v vl vu lo hi sl Q I rx hs pl pu q
def tSl (r:V->Option Int->Option Int->Hp->VK->Prop) (te:TE) (tl th:TO):TE:=λ Z H Q=>te Z H λ x H1=>tl Z H1 λ l H2=>th Z H2 λ u H3=>r x l u H3 Q
theorem DC {r:V->Option Int->Option Int->Hp->VK->Prop} (hr:SlR X r) (he:PE X e te) (hl:PO X lo tl) (hu:PO X hi th):PE X (.Subscript e (.Slice lo hi none p2) pos) (tSl r te tl th):=by
 intro pins s Z H Q I h;refine Subscript_ (thn (he pins s Z H _ I h) λ v s1 ⟨x,H1,I1,r1,q1⟩=>?_);refine wpAny_Slice (thn (hl pins s1 Z H1 _ I1 q1) λ vl s2 ⟨l,H2,I2,pl,q2⟩=>thn (hu pins s2 Z H2 _ I2 q2) λ vu s3 ⟨u,H3,I3,pu,q3⟩=>?_);rw [evalPart_none];refine wpAny_pure ?_;have I4:Inv X pins Z H3 { s3 with heap:=s3.heap.push { cls:=.type "slice",data:=.fields #[vl,vu,.none] } }:=I3.kept (t':=s3.toks) λ b ob q=>Heap.get?_push_of_some _ q;obtain ⟨T,id,hT,ht,hg⟩:=hr pins { s3 with heap:=s3.heap.push { cls:=.type "slice",data:=.fields #[vl,vu,.none] } } Z H3 x v vl vu l u s3.heap.objs.size Q I4 r1 (Heap.IsSliceOf.new ..) pl pu q3;show wpAny (model X.prog X.w) X.A (subscriptTail e (.Slice lo hi none p2) v (.ref s3.heap.objs.size)) (EP X pins Z Q) X.xe { s3 with heap:=s3.heap.push { cls:=.type "slice",data:=.fields #[vl,vu,.none] } };exact tail_any (ops:=[.ref s3.heap.objs.size,v]) ht hT hg (by with_unfolding_all rfl)
noncomputable def Zb1 (xs:List V) (lo hi:Option Int):List V:=(xs.drop (HT.sIx xs.length 0 lo)).take (HT.sIx xs.length xs.length hi - HT.sIx xs.length 0 lo)
theorem BH (xs:List V) (lo hi:Option Int):(Zb1 xs lo hi).length <= xs.length:=by
 unfold Zb1;rw [List.length_take,List.length_drop];lia
def ZjD (K:Fk):V->Option Int->Option Int->Hp->VK->Prop:=λ x lo hi H Q=>∃ a xs,x = .ref a /\ SqT K H a xs /\
 ¬ (HT.sIx xs.length 0 lo = 0 /\ HT.sIx xs.length xs.length hi = xs.length) /\ ∀ p,H p = none->Q (.ref p) (upd H p (.tup (Zb1 xs lo hi)))
theorem ZfV:SlR X (ZjD X.K):=by
 intro pins s Z H x v vl vu lo hi sl Q I rx hs pl pu h;obtain ⟨a,xs,rfl,hx,hw,q⟩:=h;cases rx;obtain ⟨its,r,ht,hz⟩:=I.tuple hx;have hlen:its.toArray.size = xs.length:=by rw [List.size_toArray]; exact r.length.symm
 refine ⟨"tuple",_,PyProof.Rows.slot_tuple_getitem.lookup,ht.typeIs,?_⟩;refine HT.YJ ht hs pl pu (by rw [hlen]; exact hw) ?_ (by rw [hlen]; exact hz);rw [hlen];refine ⟨.ref s.heap.objs.size,_,I.laid (t':=s.toks) (o:=.tup (Zb1 xs lo hi)) (λ b ob q=>Heap.get?_push_of_some _ q) (Nat.le_refl _) ?_,rfl,q _ (I.hok.fresh (Nat.le_refl _))⟩;exact ⟨Nat.le_trans (BH xs lo hi) hz,_,(r.drop (HT.sIx xs.length 0 lo)).take (HT.sIx xs.length xs.length hi - HT.sIx xs.length 0 lo),IsTup.new _ _⟩
def ZgE (K:Fk):R2:=λ x y H Q=>∃ a b xs ys,x = .ref a /\ y = .ref b /\ SqT K H a xs /\ SqT K H b ys /\ xs ≠ [] /\ xs.length + ys.length <= sizeLine /\
 (ys = []->Q (.ref a) H) /\ (ys ≠ []->∀ p,H p = none->Q (.ref p) (upd H p (.tup (xs ++ ys))))
theorem Vals.WZ (r:Vals xs us):us = [] ↔ xs = []:=by
 cases r with
 | nil=>simp
 | cons _ _=>simp
theorem ZaK:OpR X (binaryOp .Add) (ZgE X.K):=by
 intro pins s Z H x y v u Q I rx ry h;obtain ⟨a,b,xs,ys,rfl,rfl,ha,hb,hx,hz,q1,q2⟩:=h;cases rx;cases ry;obtain ⟨its,r1,p1,_⟩:=I.tuple ha;obtain ⟨its2,r2,p2,_⟩:=I.tuple hb;refine HT.Zab p1 p2 (λ z=>hx (r1.WZ.mp z)) (λ z=>⟨.ref a,H,I,rfl,q1 (r2.WZ.mp z)⟩) (λ z=>?_) (by rw [<- r1.length,<- r2.length]; exact hz);refine ⟨.ref s.heap.objs.size,_,I.laid (t':=s.toks) (o:=.tup (xs ++ ys)) (λ b ob q=>Heap.get?_push_of_some _ q) (Nat.le_refl _) ?_,rfl,q2 (λ w=>z (r2.WZ.mpr w)) _ (I.hok.fresh (Nat.le_refl _))⟩;exact ⟨by rw [List.length_append]; exact hz,_,r1.append r2,IsTup.new _ _⟩
end
noncomputable def ixN (n:Nat) (i:Int):Option Nat:=if 0 <= i then (if i < n then some i.toNat else none) else if -(n:Int) <= i then some (i + n).toNat else none
noncomputable def atI {α:Type} (xs:List α) (i:Int):Option α:=(ixN xs.length i).bind λ j=>xs[j]?
theorem HA {i:Int} (h:ixN n i = some j):seqIndex? i n = some j /\ j < n /\ -(n:Int) <= i /\ i < n:=by
 unfold ixN at h
 by_cases h0:0 <= i
 ·rw [if_pos h0] at h
  by_cases h1:i < n
  ·rw [if_pos h1] at h;have e:i.toNat = j:=Option.some.inj h;exact ⟨by rw [seqIndex_of h0 h1,e],by lia,by lia,h1⟩
  ·rw [if_neg h1] at h; cases h
 ·rw [if_neg h0] at h
  by_cases h1:-(n:Int) <= i
  ·rw [if_pos h1] at h;have e:(i + n).toNat = j:=Option.some.inj h;exact ⟨by rw [seqIndex_neg (by lia) h1,e],by lia,h1,by lia⟩
  ·rw [if_neg h1] at h; cases h
theorem Br {α:Type} {xs:List α} {i:Int} {v:α} (h:atI xs i = some v):∃ j,seqIndex? i xs.length = some j /\ xs[j]? = some v /\ j < xs.length /\ -(xs.length:Int) <= i /\ i < xs.length:=by
 unfold atI at h;cases e:ixN xs.length i with
 | none=>rw [e] at h; cases h
 | some j=>
  rw [e] at h;obtain ⟨h1,h2,h3,h4⟩:=HA e;exact ⟨j,h1,h,h2,h3,h4⟩
theorem VX {α:Type} {xs:List α} {j:Nat} {v:α} (h:xs[j]? = some v):atI xs (j:Int) = some v:=by
 have hj:j < xs.length:=(List.getElem?_eq_some_iff.mp h).1;have e:ixN xs.length (j:Int) = some j:=by
  unfold ixN;rw [if_pos (by lia),if_pos (by lia)]; simp
 unfold atI; rw [e]; exact h
def Bv (b:Expr):Prop:=∀ o i,subscripted b false o i = operate [o,i] (getItem o i)
def IxR (X:Cx) (r:R2):Prop:=
 ∀ (value slice:Expr) (pins:List (Addr × Obj)) (s:Shared) (Z:St) (H:Hp) (x y:V) (v u:Value) (Q:VK),Inv X pins Z H s->RelV x v->RelV y u->r x y H Q ->
  subscripted slice false v u = operate [v,u] (getItem v u)->wpAny (model X.prog X.w) X.A (subscriptTail value slice v u) (EP X pins Z Q) X.xe s
def MtR (X:Cx) (id:String) (r:V->List V->Hp->VK->Prop):Prop:=
 ∀ (pins:List (Addr × Obj)) (s:Shared) (Z:St) (H:Hp) (x:V) (xs:List V) (v:Value) (us:List Value) (Q:VK),Inv X pins Z H s->RelV x v->Vals xs us->r x xs H Q ->
  wpAny (model X.prog X.w) X.A (call (.builtin id) (v :: us)) (EP X pins Z Q) X.xe s
section
variable {a b:Expr} {ta tb:TE}
theorem IxR.or {r r':R2} (h:IxR X r) (h':IxR X r'):IxR X (λ x y H Q=>r x y H Q \/ r' x y H Q):=by
 intro value slice pins s Z H x y v u Q I rx ry q hs
 rcases q with q | q
 ·exact h value slice pins s Z H x y v u Q I rx ry q hs
 ·exact h' value slice pins s Z H x y v u Q I rx ry q hs
theorem MtR.or {id:String} {r r':V->List V->Hp->VK->Prop} (h:MtR X id r) (h':MtR X id r'):MtR X id (λ x xs H Q=>r x xs H Q \/ r' x xs H Q):=by
 intro pins s Z H x xs v us Q I rx rs q
 rcases q with q | q
 ·exact h pins s Z H x xs v us Q I rx rs q
 ·exact h' pins s Z H x xs v us Q I rx rs q
theorem Zfa {r:R2} (hr:IxR X r) (ha:PE X a ta) (hb:PE X b tb) (hs:Bv b):PE X (.Subscript a b pos) (tOp r ta tb):=by
 intro pins s Z H Q I h;exact Subscript_ (ZhJ ha hb I h λ v u s2 x y H2 I2 rx ry q=>hr a b pins s2 Z H2 x y v u Q I2 rx ry q (hs _ _))
def Zio (K:Fk):R2:=λ x y H Q=>∃ p xs i v,x = .ref p /\ y = .int i /\ SqL K H p xs /\ atI xs i = some v /\ Q v H
def Zil (K:Fk):R2:=λ x y H Q=>∃ p xs i v,x = .ref p /\ y = .int i /\ SqT K H p xs /\ atI xs i = some v /\ Q v H
def ZiB:R2:=λ x y H Q=>∃ z i c,x = .str z /\ y = .int i /\ z.length <= sizeLine /\ atI z.cps.toList i = some c /\ Q (.str ⟨#[c]⟩) H
theorem ZaG:IxR X (Zio X.K):=by
 intro value slice pins s Z H x y v u Q I rx ry h hs;obtain ⟨p,xs,i,z,rfl,rfl,hq,he,q⟩:=h;cases rx;obtain ⟨t,rfl⟩:=ry;obtain ⟨its,r,pl,hz⟩:=I.list hq;obtain ⟨j,h1,h2,h3,h4,h5⟩:=Br he;obtain ⟨w,ew,rw'⟩:=r.get h2;have hl:=r.length;have hn:=Kj;have fin:EP X pins Z Q w s:=⟨z,H,I,rw',q⟩
 by_cases h0:0 <= i
 ·have hj:i.toNat = j:=by
   rw [seqIndex_of h0 h5] at h1;exact Option.some.inj h1
  exact item_listR pl.isList h0 (by lia) (by rw [hj]; simpa using ew) fin hs
 ·have hj:(i + (its.toArray.size:Int)).toNat = j:=by
   rw [seqIndex_neg (by lia) h4] at h1;rw [List.size_toArray,<- hl];exact Option.some.inj h1
  exact subscriptTail_builtinR (x:=w) pl.isList.typeIs slot_list_getitem.lookup
   (wpAny_getItem_list_neg (Q:=λ r s'=>r = w /\ EP X pins Z Q r s') pl.isList (by lia) (by rw [List.size_toArray] <;> lia) (by lia) (by rw [hj]; simpa using ew) ⟨rfl,fin⟩) hs
theorem ZcM:IxR X (Zil X.K):=by
 intro value slice pins s Z H x y v u Q I rx ry h hs;obtain ⟨p,xs,i,z,rfl,rfl,hq,he,q⟩:=h;cases rx;obtain ⟨t,rfl⟩:=ry;obtain ⟨its,r,pl,hz⟩:=I.tuple hq;obtain ⟨j,h1,h2,h3,h4,h5⟩:=Br he;obtain ⟨w,ew,rw'⟩:=r.get h2;have hl:=r.length;have hn:=Kj;have fin:EP X pins Z Q w s:=⟨z,H,I,rw',q⟩
 exact subscriptTail_builtinR (x:=w) pl.typeIs slot_tuple_getitem.lookup
  (getItem_tuple (j:=j) (Q:=λ r s'=>r = w /\ EP X pins Z Q r s') pl (by lia) (by lia) (by rw [List.size_toArray,<- hl]; exact h1) (by simpa using ew) ⟨rfl,fin⟩) hs
theorem SX:IxR X ZiB:=by
 intro value slice pins s Z H x y v u Q I rx ry h hs;obtain ⟨z,i,c,rfl,rfl,hz,he,q⟩:=h;obtain ⟨t,rfl⟩:=rx;obtain ⟨t',rfl⟩:=ry;obtain ⟨j,h1,h2,h3,h4,h5⟩:=Br he;have hl:z.cps.toList.length = z.length:=by simp [Str.length]
 rw [hl] at h1 h4 h5;have hn:=Kj
 exact tail_any (typeIs_str s z t) slot_str_getitem.lookup (getItem_str (c:=c) (by
  have e1:decide (i < -(2 ^ 63:Int)) = false:=decide_eq_false (by lia);have e2:decide (i ≥ 2 ^ 63) = false:=decide_eq_false (by lia)
  rw [e1,e2,Bool.or_false]) (by rw [h1]; simpa using h2) ⟨.str ⟨#[c]⟩,H,I.tok _,⟨_,rfl⟩,q⟩) hs
def rIx (K:Fk):R2:=λ x y H Q=>Zio K x y H Q \/ Zil K x y H Q \/ ZiB x y H Q
theorem Zei:IxR X (rIx X.K):=ZaG.or (ZcM.or SX)
theorem E7 (its:List Value) (n j:Nat) (u:Value):Obj.mapSeq (·.setIfInBounds j u) { cls:=.type "list",data:=.seq its.toArray n } = { cls:=.type "list",data:=.seq (its.set j u).toArray n }:=by
 simp [Obj.mapSeq]
theorem Inv.lst (I:Inv X pins Z H s) (h:H p = some (.lst xs)) :
  ∃ (its:List Value) (n:Nat),Vals xs its /\ s.heap.get? p = some { cls:=.type "list",data:=.seq its.toArray n } /\ xs.length <= sizeLine:=by
 obtain ⟨z,its,n,r,e⟩:=I.hok p _ h;exact ⟨its,n,r,e,z⟩
theorem Inv.Zf4 {ys:List V} {its its':List Value} {n n':Nat} {f:Obj->Obj} (I:Inv X pins Z H s) (h:H p = some (.lst xs))
  (ho:s.heap.get? p = some { cls:=.type "list",data:=.seq its.toArray n }) (hf:f { cls:=.type "list",data:=.seq its.toArray n } = { cls:=.type "list",data:=.seq its'.toArray n' }) (r:Vals ys its') (hz:ys.length <= sizeLine) (t:Nat) :
  Inv X pins Z (upd H p (.lst ys)) { s with heap:=s.heap.update p f,toks:=t }:=by
 have e:(s.heap.update p f).get? p = some { cls:=.type "list",data:=.seq its'.toArray n' }:=by
  rw [Heap.get?_update_self f ho (by rw [hf] <;> rfl),hf]
 refine I.write (x:=p) (e:=p) (by rw [h]; trivial) (.inl rfl) (λ b u hb q=>(Heap.get?_update_other _ _ (Ne.symm hb)).trans q) ⟨_,e⟩ ?_;exact ⟨hz,its',n',r,e⟩
def Zha:V->V->V->Hp->(Hp->Prop)->Prop:=λ o i v H Q=>∃ p xs k j,o = .ref p /\ i = .int k /\ H p = some (.lst xs) /\ ixN xs.length k = some j /\ Q (upd H p (.lst (xs.set j v)))
theorem set_list:Ziu X Zha:=by
 intro pins s Z H o i v ov iv u Q I ro ri rv h;obtain ⟨p,xs,k,j,rfl,rfl,hp,hj,q⟩:=h;cases ro;obtain ⟨t,rfl⟩:=ri;obtain ⟨its,n,r,ho,hz⟩:=I.lst hp;obtain ⟨h1,h2,h3,h4⟩:=HA hj;have hl:=r.length;have hn:=Kj;have I':Inv X pins Z (upd H p (.lst (xs.set j v))) { s with heap:=s.heap.update p (Obj.mapSeq (·.setIfInBounds j u)) }:=
  I.Zf4 hp ho (E7 its n j u) (r.set rv j) (by rw [List.length_set]; exact hz) s.toks
 by_cases h0:0 <= k
 ·have hk:k.toNat = j:=by
   rw [seqIndex_of h0 h4] at h1;exact Option.some.inj h1
  exact PySem.W.ki_setAt ho h0 (by lia) (by rw [List.size_toArray,<- hl]; exact h4) (by rw [hk]; exact ⟨_,I',q⟩)
 ·have hk:(k + (its.toArray.size:Int)).toNat = j:=by
   rw [seqIndex_neg (by lia) h3] at h1;rw [List.size_toArray,<- hl];exact Option.some.inj h1
  exact PySem.W.ki_setBack ho (by lia) (by rw [List.size_toArray,<- hl]; exact h3) (by lia) (by rw [hk]; exact ⟨_,I',q⟩)
theorem Gg:JB X (.builtin "len") (λ xs H Q=>∃ p ys,xs = [.ref p] /\ (SqL X.K H p ys \/ SqT X.K H p ys) /\ Q (.int ys.length) H):=by
 intro pins s Z H xs us Q I r h;obtain ⟨p,ys,rfl,hq,q⟩:=h;obtain ⟨u,rfl,rx⟩:=vals1 r;cases rx;have hn:=Kj
 rcases hq with hq | hq
 ·obtain ⟨its,r',pl,hz⟩:=I.list hq;have hlen:=r'.length;exact Calls.call_len_list pl.isList (by simp only [List.size_toArray] <;> lia) ⟨.int ys.length,H,I.tok _,⟨s.toks + 1,by rw [List.size_toArray,hlen]⟩,q⟩
 ·obtain ⟨its,r',pl,hz⟩:=I.tuple hq;have hlen:=r'.length;exact len_tuple pl (by simp only [List.size_toArray] <;> lia) ⟨.int ys.length,H,I.tok _,⟨s.toks + 1,by rw [List.size_toArray,hlen]⟩,q⟩
theorem GH:JB X (.builtin "len") (λ xs H Q=>∃ z,xs = [.str z] /\ z.length <= sizeLine /\ Q (.int z.length) H):=by
 intro pins s Z H xs us Q I r h;obtain ⟨z,rfl,hz,q⟩:=h;obtain ⟨u,rfl,t,rfl⟩:=vals1 r;have hn:=Kj;exact len_str (by lia) ⟨.int z.length,H,I.tok _,⟨_,rfl⟩,q⟩
theorem JB.or {f:Value} {r r':List V->Hp->VK->Prop} (h:JB X f r) (h':JB X f r'):JB X f (λ xs H Q=>r xs H Q \/ r' xs H Q):=by
 intro pins s Z H xs us Q I rs q
 rcases q with q | q
 ·exact h pins s Z H xs us Q I rs q
 ·exact h' pins s Z H xs us Q I rs q
theorem Uh:JB X (.type "tuple") (λ xs H Q=>∃ p ys,xs = [.ref p] /\ ((SqL X.K H p ys /\ ∀ l,H l = none->Q (.ref l) (upd H l (.tup ys))) \/ (SqT X.K H p ys /\ Q (.ref p) H))):=by
 intro pins s Z H xs us Q I r h;obtain ⟨p,ys,rfl,h⟩:=h;obtain ⟨u,rfl,rx⟩:=vals1 r;cases rx
 rcases h with ⟨hq,q⟩ | ⟨hq,q⟩
 ·obtain ⟨its,r',pl,hz⟩:=I.list hq;have hlen:=r'.length;refine call_tuple_list pl.isList (λ h' kp=>?_) (by simp only [List.size_toArray] <;> lia);have I1:Inv X pins Z H { s with heap:=h' }:=I.kept (t':=s.toks) kp;have I2:Inv X pins Z (upd H h'.objs.size (.tup ys)) { s with heap:=h'.push { cls:=.type "tuple",data:=.seq its.toArray } }:=
   I1.laid (t':=s.toks) (λ b o e=>Heap.get?_push_of_some _ e) (Nat.le_refl _) (show Z3 X.prog X.w _ _ _ (.tup ys) from ⟨hz,its,r',IsTup.new _ _⟩)
  exact ⟨.ref h'.objs.size,_,I2,rfl,q _ (I1.hok.fresh (Nat.le_refl _))⟩
 ·obtain ⟨its,r',pl,hz⟩:=I.tuple hq;exact call_tuple_same pl ⟨.ref p,H,I,rfl,q⟩
def tyV (K:Fk) (T:String) (x:V) (H:Hp):Prop:=match x with
 | .str _=>T = "str"
 | .int _=>T = "int"
 | .ref p=>(T = "list" /\ ∃ xs,SqL K H p xs) \/ (T = "tuple" /\ ∃ o,K.lookup p = some o /\ o.cls = .type "tuple" /\ o.dict = none) \/
   (T = "dict" /\ ((∃ kvs,H p = some (.dK kvs)) \/ ∃ kvs,H p = some (.dT kvs))) \/ (T = "set" /\ ∃ S n,H p = some (.set S n))
 | _=>False
theorem RC {T:String} {x:V} {v:Value} (I:Inv X pins Z H s) (r:RelV x v) (ty:tyV X.K T x H) :
  s.TypeIs v T /\ ∀ a,v = .ref a->∃ ob,s.heap.get? a = some ob /\ ob.dict = none:=by
 cases x with
 | str z=>
  obtain ⟨t,rfl⟩:=r;cases (show T = "str" from ty);exact ⟨typeIs_str s z t,λ _ e=>nomatch e⟩
 | int i=>
  obtain ⟨t,rfl⟩:=r;cases (show T = "int" from ty);exact ⟨typeIs_int s i t,λ _ e=>nomatch e⟩
 | ref p=>
  cases r
  rcases ty with ⟨rfl,xs,hq⟩ | ⟨rfl,o,hk,hc,hd⟩ | ⟨rfl,hk⟩ | ⟨rfl,S,n,hk⟩
  ·obtain ⟨its,_,pl,_⟩:=I.list hq;refine ⟨pl.isList.typeIs,λ a e=>?_⟩;cases e;obtain ⟨o,n,e,c,hd,_⟩:=pl;exact ⟨o,e,hd⟩
  ·refine ⟨⟨o,I.kIn p o hk,hc⟩,λ a e=>?_⟩;cases e;exact ⟨o,I.kIn _ o hk,hd⟩
  ·have z:∃ o,s.heap.get? p = some o /\ o.ExactDict:=by
    rcases hk with ⟨kvs,hk⟩ | ⟨kvs,hk⟩
    ·obtain ⟨_,_,_,_,o,_,_,e,ex,_⟩:=I.hok p _ hk;exact ⟨o,e,ex⟩
    ·obtain ⟨_,_,_,_,o,_,_,e,ex,_⟩:=I.hok p _ hk;exact ⟨o,e,ex⟩
   obtain ⟨o,e,ex⟩:=z;refine ⟨⟨o,e,ex.1⟩,λ a e2=>?_⟩;cases e2;exact ⟨o,e,ex.2.1⟩
  ·obtain ⟨o,_,_,_,e,ex,_⟩:=I.hok p _ hk;refine ⟨⟨o,e,ex.1⟩,λ a e2=>?_⟩;cases e2;exact ⟨o,e,ex.2.1⟩
 | _=>exact False.elim ty
def Zjy (K:Fk) (T:String) (r:V->List V->Hp->VK->Prop) (to:TE):TE:=λ Z H Q=>to Z H λ x H1=>tyV K T x H1 /\ r x [] H1 Q
def tBM (K:Fk) (T:String) (r:V->List V->Hp->VK->Prop) (to:TE) (t:TA):TE:=λ Z H Q=>to Z H λ x H1=>tyV K T x H1 /\ t Z H1 λ xs H2=>r x xs H2 Q
variable {o:Expr} {to:TE} {t:TA} {name:Str} {apos cpos:Pos} {T id:String} {r:V->List V->Hp->VK->Prop}
theorem ZdB (pa:PlainAttrs T) (slot:Slot T name id) (hty:typeOf (.builtin id) = pure (.type "method_descriptor")) (hm:MtR X id r) (ho:PE X o to)
  (hbase:autoParam (attributeBase o name X.env (eval o X.env) = eval o X.env) zz3._auto_1) (hline:autoParam ((apos.endLine == cpos.line) = true) zz3._auto_1):PE X (.Call (.Attribute o name apos) [] [] cpos) (Zjy X.K T r to):=by
 intro pins s Z H Q I h;refine wpAny_Call_method0_late hbase hline (thn (ho pins s Z H _ I h) λ v s1 ⟨x,H1,I1,r1,ty,q1⟩=>?_);obtain ⟨h1,h2⟩:=RC I1 r1 ty;exact ⟨T,id,pa,slot,hty,h1,h2,Calls.callWith_builtin rfl (PySem.evalArgs_none (hm pins s1 Z H1 x [] v [] Q I1 r1 .nil q1))⟩
theorem TR (pa:PlainAttrs T) (slot:Slot T name id) (hty:typeOf (.builtin id) = pure (.type "method_descriptor")) (hm:MtR X id r) (ho:PE X o to) (ha:PA X (e :: es) t)
  (hbase:autoParam (attributeBase o name X.env (eval o X.env) = eval o X.env) zz3._auto_1)
  (hfew:((backTo cpos (starEach (e :: es) X.env)).all (λ x=>!x.1) && (backToKw cpos (keywordEach [] X.env)).all (λ x=>x.1.isSome)
   && decide ((e :: es).length + ([]:List Keyword).length + (if ([]:List Keyword).isEmpty then 0 else 1) < 30)) = true:=by rfl)
  (hline:autoParam ((apos.endLine == cpos.line) = true) zz3._auto_1) (hs:autoParam (starEach (e :: es) X.env = (false,eval e X.env) :: starEach es X.env) zz3._auto_1) (hplain:autoParam ((backTo cpos (starEach es X.env)).any (·.1) = false) zz3._auto_1) :
  PE X (.Call (.Attribute o name apos) (e :: es) [] cpos) (tBM X.K T r to t):=by
 intro pins s Z H Q I h;refine wpAny_Call_method_late hbase hfew hline rfl (thn (ho pins s Z H _ I h) λ v s1 ⟨x,H1,I1,r1,ty,q1⟩=>?_);obtain ⟨h1,h2⟩:=RC I1 r1 ty;refine ⟨T,id,pa,slot,hty,h1,h2,?_⟩;have hA:=ha cpos pins s1 Z H1 _ I1 q1;rw [hs] at hA ⊢;refine Calls.callWith_builtin (by show (false || (backTo cpos (starEach es X.env)).any (·.1)) = false; rw [hplain] <;> rfl) (Calls.evalArgs_plain ?_);exact thn hA λ us s2 ⟨vs,H2,I2,r2,q2⟩=>hm pins s2 Z H2 x vs v us Q I2 r1 r2 q2
end
def MtM (X:Cx) (id:String) (r:V->List V->Hp->VK->Prop):Prop:=
 ∀ (pins:List (Addr × Obj)) (s:Shared) (Z:St) (H:Hp) (x:V) (xs:List V) (v:Value) (us:List Value) (Q:VK),Inv X pins Z H s->RelV x v->Vals xs us->r x xs H Q ->
  wpAny (model X.prog X.w) X.A (call (.builtin id) (v :: us)) (EP X pins Z Q) X.xe s
theorem Vals.one {x:V} (h:Vals [x] us):∃ u,us = [u] /\ RelV x u:=by
 cases h with | cons r t=>cases t; exact ⟨_,rfl,r⟩
theorem Vals.two {x:V} (h:Vals [x,y] us):∃ u v,us = [u,v] /\ RelV x u /\ RelV y v:=by
 cases h with | cons r t=>cases t with | cons q t=>cases t; exact ⟨_,_,rfl,r,q⟩
theorem Vals.zero:∀ {us:List Value},Vals [] us->us = []
 | _,.nil=>rfl
theorem Vals.reverse (h:Vals xs us):Vals xs.reverse us.reverse:=by
 induction h with
 | nil=>exact .nil
 | cons r t ih=>rw [List.reverse_cons,List.reverse_cons]; exact Vals.append ih (.cons r .nil)
theorem Vals.rep (h:Vals xs us):∀ k:Nat,Vals (List.replicate k xs).flatten (List.replicate k us).flatten
 | 0=>.nil
 | k + 1=>by
  rw [List.replicate_succ,List.replicate_succ,List.flatten_cons,List.flatten_cons];exact Vals.append h (Vals.rep h k)
theorem foldl_rep (its:List Value):∀ (k:Nat) (acc:List Value),
  List.foldl (λ x1 x2=>x1 ++ x2) acc.toArray (List.replicate k its.toArray) = (acc ++ (List.replicate k its).flatten).toArray
 | 0,acc=>by simp
 | k + 1,acc=>by
  have e:acc.toArray ++ its.toArray = (acc ++ its).toArray:=by simp
  have e2:(acc ++ its) ++ (List.replicate k its).flatten = acc ++ (List.replicate (k + 1) its).flatten:=by
   rw [List.replicate_succ,List.flatten_cons,List.append_assoc]
  rw [<- e2,<- foldl_rep its k (acc ++ its),<- e,List.replicate_succ,List.foldl_cons]
section
variable {l:Addr} {ys zs:List V}
theorem Inv.Zhd {its its':List Value} {n:Nat} {f:Array Value->Array Value} {t':Nat} (I:Inv X pins Z H s) (hH:H l = some (.lst xs))
  (e:s.heap.get? l = some { cls:=.type "list",data:=.seq its.toArray n }) (hf:f its.toArray = its'.toArray) (hv:Vals ys its') (hz:ys.length <= sizeLine) :
  Inv X pins Z (upd H l (.lst ys)) { s with heap:=s.heap.update l (Obj.mapSeq f),toks:=t' }:=by
 have q:=PySem.IsL.update e f;rw [hf] at q;refine I.write (x:=l) (e:=l) (by rw [hH]; exact trivial) (.inl rfl) (λ b' u hb hu=>(Heap.get?_update_other s.heap (Obj.mapSeq f) (Ne.symm hb)).trans hu) ⟨_,q⟩ ?_;exact ⟨hz,its',_,hv,q⟩
theorem Inv.Zi5 {its:List Value} {t':Nat} (I:Inv X pins Z H s) (hv:Vals ys its) (hz:ys.length <= sizeLine) :
  Inv X pins Z (upd H s.heap.objs.size (.lst ys)) { s with heap:=s.heap.push { cls:=.type "list",data:=.seq its.toArray },toks:=t' }:=
 I.laid (λ _ _ q=>Heap.get?_push_of_some _ q) (Nat.le_refl _) ⟨hz,its,0,hv,Heap.get?_push_size _ rfl⟩
theorem Inv.fresh (I:Inv X pins Z H s):H s.heap.objs.size = none:=I.hok.fresh (Nat.le_refl _)
theorem Inv.Zdi (I:Inv X pins Z H s) (hH:H l = some (.lst xs)):xs.length <= sizeLine /\ ∃ (its:List Value) (n:Nat),Vals xs its /\ xs.length = its.length /\ s.heap.get? l = some { cls:=.type "list",data:=.seq its.toArray n }:=by
 obtain ⟨z,its,n,r,e⟩:=I.hok l _ hH;exact ⟨z,its,n,r,r.length,e⟩
theorem Dr (h:n <= sizeLine):Builtin.List.listTooLong n = false:=by
 unfold Builtin.List.listTooLong;exact decide_eq_false (by lia)
end
def ZbA:V->List V->Hp->VK->Prop:=λ x vs H Q=>∃ l xs y,x = .ref l /\ vs = [y] /\ H l = some (.lst xs) /\ xs.length < sizeLine /\ Q .non (upd H l (.lst (xs ++ [y])))
theorem HQ:MtM X "list.append" ZbA:=by
 intro pins s Z H x vs v us Q I rx rv h;obtain ⟨l,xs,y,rfl,rfl,hH,hz,q⟩:=h;cases rx;obtain ⟨u,rfl,ru⟩:=rv.one;obtain ⟨z,its,n,r,hl,e⟩:=I.Zdi hH;refine call_meets F.slot_list_append ⟨_,e,rfl⟩ F.entry_list_append (F.args_list_append_2 _ _) (PySem.list_append l its.toArray n u (by rw [List.size_toArray]; lia)) ⟨e,?_⟩;refine ⟨.non,_,I.Zhd (its':=its ++ [u]) hH e (by simp) (r.append (.cons ru .nil)) ?_,rfl,q⟩;rw [List.length_append,List.length_singleton];lia
def ZaV:V->List V->Hp->VK->Prop:=λ x vs H Q=>∃ l b xs zs,x = .ref l /\ vs = [.ref b] /\ H l = some (.lst xs) /\ H b = some (.lst zs) /\ xs.length + zs.length <= sizeLine /\ Q .non (upd H l (.lst (xs ++ zs)))
theorem Fm:MtM X "list.extend" ZaV:=by
 intro pins s Z H x vs v us Q I rx rv h;obtain ⟨l,b,xs,zs,rfl,rfl,hH,hB,hz,q⟩:=h;cases rx;obtain ⟨u,rfl,ru⟩:=rv.one;cases ru;obtain ⟨z,its,n,r,hl,e⟩:=I.Zdi hH;obtain ⟨z2,its2,n2,r2,hl2,e2⟩:=I.Zdi hB;have hsz:its.toArray.size + its2.toArray.size <= sizeLine:=by rw [List.size_toArray,List.size_toArray]; lia
 have hlong:¬ (!its.toArray.isEmpty && Builtin.List.listTooLong (its.toArray.size + its2.toArray.size)) = true:=by
  rw [Dr hsz,Bool.and_false];exact Bool.false_ne_true
 refine call_meets F.slot_list_extend ⟨_,e,rfl⟩ F.entry_list_extend (F.args_list_extend_2 _ _)
  (AutoSeq1.list_extend_list_list_0 l its.toArray n b its2.toArray n2 hlong (by rw [List.size_toArray]; lia) (by lia)) ⟨e,e2,?_⟩
 refine ⟨.non,_,I.Zhd (its':=its ++ its2) hH e (by simp) (r.append r2) ?_,rfl,q⟩;rw [List.length_append];lia
def N3:V->List V->Hp->VK->Prop:=λ x vs H Q=>∃ l xs,x = .ref l /\ vs = [] /\ H l = some (.lst xs) /\ Q .non (upd H l (.lst xs.reverse))
theorem EL:MtM X "list.reverse" N3:=by
 intro pins s Z H x vs v us Q I rx rv h;obtain ⟨l,xs,rfl,rfl,hH,q⟩:=h;cases rx;have hus:=rv.zero;subst hus;obtain ⟨z,its,n,r,hl,e⟩:=I.Zdi hH;refine call_meets F.slot_list_reverse ⟨_,e,rfl⟩ F.entry_list_reverse (F.args_list_reverse_1 _) (AutoSeq1.list_reverse_list_0 l its.toArray n (by rw [List.size_toArray]; lia)) ⟨e,?_⟩;refine ⟨.non,_,I.Zhd (its':=its.reverse) hH e (by simp) r.reverse ?_,rfl,q⟩;rw [List.length_reverse];lia
def ZjL:R2:=λ x y H Q=>∃ l k xs,x = .ref l /\ y = .int k /\ H l = some (.lst xs) /\ -(2 ^ 63) <= k /\ k < 2 ^ 63 /\ xs.length * k.toNat <= sizeLine /\
 ∀ p,H p = none->Q (.ref p) (upd H p (.lst (List.replicate k.toNat xs).flatten))
theorem len_rep {α:Type} (xs:List α) (k:Nat):(List.replicate k xs).flatten.length = k * xs.length:=by
 induction k with
 | zero=>simp
 | succ k ih=>rw [List.replicate_succ,List.flatten_cons,List.length_append,ih,Nat.succ_mul,Nat.add_comm]
theorem Zd0:OpR X (binaryOp .Mult) ZjL:=by
 intro pins s Z H x y v u Q I rx ry h;obtain ⟨l,k,xs,rfl,rfl,hH,h1,h2,hz,q⟩:=h;cases rx;obtain ⟨t,rfl⟩:=ry;obtain ⟨z,its,n,r,hl,e⟩:=I.Zdi hH;have hlen:its.toArray.size * k.toNat <= sizeLine:=by rw [List.size_toArray,<- hl]; exact hz
 have hcap:¬ its.toArray.size * k.toNat > (2 ^ 63 - 1) / 8:=by
  have:(sizeLine:Nat) <= (2 ^ 63 - 1) / 8:=by decide
  lia
 have hfit:¬ (!Builtin.List.listFitsIndex k) = true:=by
  rw [fitsIndex_both h1 h2];exact Bool.false_ne_true
 have hlong:¬ Builtin.List.listTooLong (its.toArray.size * k.toNat) = true:=by
  rw [Dr hlen];exact Bool.false_ne_true
 have hnew:List.foldl (λ x1 x2=>x1 ++ x2) #[] (List.replicate (if its.toArray.isEmpty = true then 0 else k.toNat) its.toArray) = (List.replicate k.toNat its).flatten.toArray:=by
  have f0:∀ m:Nat,List.foldl (λ x1 x2=>x1 ++ x2) #[] (List.replicate m its.toArray) = (List.replicate m its).flatten.toArray:=λ m=>by
   have:=foldl_rep its m [];rw [List.nil_append] at this;exact this
  rw [f0];cases its with
  | nil=>simp
  | cons a r'=>rw [if_neg (by simp)]
 refine wpAny_binaryOp_repeat_ref (T := "list") (U := "int") (by decide) ⟨_,e,rfl⟩ (λ s'=>typeIs_int s' k t) noFill_list_mul F.fills_int_mul F.slot_int_rmul repeat_list F.slot_int_index.lookup
  (call_meets F.slot_int_rmul (typeIs_int s k t) F.entry_int_rmul (F.args_int_rmul_2 _ _) (int___rmul___int_list k t l its.toArray n)
   ⟨e,rfl,⟨_,e,rfl⟩,call_meets F.slot_list_mul ⟨_,e,rfl⟩ F.entry_list_mul (F.args_list_mul_2 _ _) (AutoListH.list___mul___list_int_3 l its.toArray n k t hfit hcap hlong) ⟨e,?_⟩⟩)
 rw [hnew];exact ⟨.ref _,_,I.Zi5 (t':=s.toks) (r.rep k.toNat) (by rw [len_rep,Nat.mul_comm]; exact hz),rfl,q _ I.fresh⟩
section
variable {prog:Program} {E:Value->Shared->Prop}
end
section
variable {κ:Type} [DecidableEq κ]
noncomputable def Bo (kvs:List (κ × V)) (k:κ):Option V:=(kvs.find? λ kv=>decide (kv.1 = k)).map (·.2)
noncomputable def putK (kvs:List (κ × V)) (k:κ) (v:V):List (κ × V):=
 if (kvs.any λ kv=>decide (kv.1 = k)) = true then kvs.map (λ kv=>if kv.1 = k then (kv.1,v) else kv) else kvs ++ [(k,v)]
noncomputable def Zgf (kvs:List (κ × V)) (k:κ):List (κ × V):=kvs.filter λ kv=>decide (kv.1 ≠ k)
theorem Ui {p:κ × V} {r:List (κ × V)} {k:κ} (e:p.1 = k):Bo (p :: r) k = some p.2:=by simp [Bo,List.find?_cons,e]
theorem Ue {p:κ × V} {r:List (κ × V)} {k:κ} (e:¬ p.1 = k):Bo (p :: r) k = Bo r k:=by simp [Bo,List.find?_cons,e]
theorem DR (k:κ):∀ kvs:List (κ × V),(kvs.any λ kv=>decide (kv.1 = k)) = (Bo kvs k).isSome
 | []=>rfl
 | p :: r=>by
  rw [List.any_cons]
  by_cases e:p.1 = k
  ·simp only [Ui e,decide_eq_true e,Bool.true_or,Option.isSome_some]
  ·rw [Ue e,decide_eq_false e,Bool.false_or]; exact DR k r
theorem Cg (kvs:List (κ × V)) (k:κ) (v:V):(putK kvs k v).length <= kvs.length + 1:=by
 unfold putK
 split
 ·rw [List.length_map]; lia
 ·rw [List.length_append,List.length_cons,List.length_nil]; lia
theorem MU.Fy {o:Option V} {u:Option Value} (r:MU o u):o.isSome = u.isSome:=by
 cases o with
 | none=>cases u with
  | none=>rfl
  | some _=>exact (show False from r).elim
 | some _=>cases u with
  | none=>exact (show False from r).elim
  | some _=>rfl
theorem KV.val {kvs:List (κ × V)} {vs:List (κ × Value)} (r:KV kvs vs) (k:κ):MU (Bo kvs k) (valueAt vs k):=by
 unfold KV at r
 induction r with
 | nil=>exact True.intro
 | @cons p q ps qs h t ih=>
  obtain ⟨h1,h2⟩:=h
  by_cases e:p.1 = k
  ·have e':q.1 = k:=h1.symm.trans e;have b:valueAt (q :: qs) k = some q.2:=by simp [valueAt,List.find?_cons,e']
   rw [Ui e,b]; exact h2
  ·have e':¬ q.1 = k:=λ z=>e (h1.trans z);have b:valueAt (q :: qs) k = valueAt qs k:=by simp [valueAt,List.find?_cons,e']
   rw [Ue e,b]; exact ih
theorem KV.any {kvs:List (κ × V)} {vs:List (κ × Value)} (r:KV kvs vs) (k:κ):(kvs.any λ kv=>decide (kv.1 = k)) = vs.any λ kv=>decide (kv.1 = k):=by
 unfold KV at r
 induction r with
 | nil=>rfl
 | cons h t ih=>rw [List.any_cons,List.any_cons,ih,h.1]
theorem KV.ZbO {kvs:List (κ × V)} {vs:List (κ × Value)} (r:KV kvs vs) (k:κ) (ry:RelV y u) :
  KV (kvs.map λ kv=>if kv.1 = k then (kv.1,y) else kv) (vs.map λ kv=>if kv.1 = k then (kv.1,u) else kv):=by
 unfold KV at r ⊢
 induction r with
 | nil=>exact .nil
 | @cons p q ps qs h t ih=>
  rw [List.map_cons,List.map_cons];refine .cons ?_ ih;obtain ⟨h1,h2⟩:=h
  by_cases e:p.1 = k
  ·rw [if_pos e,if_pos (h1.symm.trans e)]; exact ⟨h1,ry⟩
  ·rw [if_neg e,if_neg (λ z=>e (h1.trans z))]; exact ⟨h1,h2⟩
theorem KV.put {kvs:List (κ × V)} {vs:List (κ × Value)} (r:KV kvs vs) (k:κ) (ry:RelV y u):KV (putK kvs k y) (stored vs k u):=by
 unfold putK stored;rw [r.any k]
 by_cases e:(vs.any λ kv=>decide (kv.1 = k)) = true
 ·rw [if_pos e,if_pos e]; exact r.ZbO k ry
 ·rw [if_neg e,if_neg e]; exact Paired.snoc r ⟨rfl,ry⟩
theorem KV.drop {kvs:List (κ × V)} {vs:List (κ × Value)} (r:KV kvs vs) (k:κ):KV (Zgf kvs k) (without vs k):=by
 unfold KV at r ⊢;unfold Zgf without
 induction r with
 | nil=>exact .nil
 | @cons p q ps qs h t ih=>
  obtain ⟨h1,h2⟩:=h;rw [List.filter_cons,List.filter_cons]
  by_cases e:p.1 = k
  ·have a:¬ decide (p.1 ≠ k) = true:=by simp [e]
   have b:¬ decide (q.1 ≠ k) = true:=by simp [h1.symm.trans e]
   rw [if_neg a,if_neg b]; exact ih
  ·have e':¬ q.1 = k:=λ z=>e (h1.trans z);have a:decide (p.1 ≠ k) = true:=by simp [e]
   have b:decide (q.1 ≠ k) = true:=by simp [e']
   rw [if_pos a,if_pos b]; exact .cons ⟨h1,h2⟩ ih
theorem KV.length {kvs:List (κ × V)} {vs:List (κ × Value)} (r:KV kvs vs):kvs.length = vs.length:=Paired.length r
end
theorem Za1 {k:Key} (r:RelV (kV k) u):(Qe P w).is k u = true:=by
 cases k with
 | inl i=>obtain ⟨t,e⟩:=(show ∃ t,u = Value.int i t from r); subst e; exact BQ P w i t
 | inr x=>obtain ⟨t,e⟩:=(show ∃ t,u = Value.str x t from r); subst e; exact Co P w x t
theorem UA:∀ {ks:List Key} {us:List Value},Vals (ks.map kV) us->ItemsAre (Qe P w) ks us
 | [],_,r=>by rw [List.map_nil] at r; cases r; exact .nil
 | k :: ks,_,r=>by
  rw [List.map_cons] at r;cases r with
  | cons h t=>exact .cons (Za1 h) (UA t)
abbrev KT (H:Hp):List (List Key × V)->List (List Key × Addr × Value)->Prop:=Paired λ p q=>p.1 = q.1 /\ H q.2.1 = some (.tup (p.1.map kV)) /\ RelV p.2 q.2.2
theorem KT.val {kvs:List (List Key × V)} {xs:List (List Key × Addr × Value)} (r:KT H kvs xs) (k:List Key):MU (Bo kvs k) ((atKey xs k).map (·.2)):=by
 induction r with
 | nil=>exact True.intro
 | @cons p q ps qs h t ih=>
  obtain ⟨h1,_,h2⟩:=h
  by_cases e:p.1 = k
  ·have e':q.1 = k:=h1.symm.trans e;have b:atKey (q :: qs) k = some q.2:=by simp [atKey,List.find?_cons,e']
   rw [Ui e,b]; exact h2
  ·have e':¬ q.1 = k:=λ z=>e (h1.trans z);have b:atKey (q :: qs) k = atKey qs k:=by simp [atKey,List.find?_cons,e']
   rw [Ue e,b]; exact ih
theorem KT.ZbO {kvs:List (List Key × V)} {xs:List (List Key × Addr × Value)} (r:KT H kvs xs) (k:List Key) (ry:RelV y u) :
  KT H (kvs.map λ kv=>if kv.1 = k then (kv.1,y) else kv) (xs.map (putAt k u)):=by
 induction r with
 | nil=>exact .nil
 | @cons p q ps qs h t ih=>
  rw [List.map_cons,List.map_cons];refine .cons ?_ ih;obtain ⟨h1,h2,h3⟩:=h;unfold putAt
  by_cases e:p.1 = k
  ·rw [if_pos e,if_pos (h1.symm.trans e)]; exact ⟨h1,h2,ry⟩
  ·rw [if_neg e,if_neg (λ z=>e (h1.trans z))]; exact ⟨h1,h2,h3⟩
theorem KT.put {kvs:List (List Key × V)} {xs:List (List Key × Addr × Value)} (r:KT H kvs xs) (k:List Key) (hb:H b = some (.tup (k.map kV))) (ry:RelV y u) :
  KT H (putK kvs k y) (storedH xs k b u):=by
 have e:(kvs.any λ kv=>decide (kv.1 = k)) = (atKey xs k).isSome:=by
  rw [DR,(r.val k).Fy,Option.isSome_map]
 unfold putK storedH;rw [e]
 by_cases q:(atKey xs k).isSome = true
 ·rw [if_pos q,if_pos q]; exact r.ZbO k ry
 ·rw [if_neg q,if_neg q]; exact Paired.snoc r ⟨rfl,hb,ry⟩
theorem KT.keeps {kvs:List (List Key × V)} {xs:List (List Key × Addr × Value)} (r:KT H kvs xs) (ht:∀ b ys,H b = some (.tup ys)->H' b = some (.tup ys)):KT H' kvs xs:=
 Paired.Zb4 r λ _ _ z=>⟨z.1,ht _ _ z.2.1,z.2.2⟩
theorem Zem {u:HO} (ok:HOk P w H h) (e:Rd H a u):Z3 P w H h a u:=e.ok ok
theorem Zae (ok:HOk P w H h) (e:Rd H a (.dK kvs)):kvs.length <= sizeLine /\ (a == sysModules) = false /\ ∃ vs,KV kvs vs /\ h.DictOf (Qe P w) a vs:=
 show Z3 P w H h a (.dK kvs) from Zem ok e
theorem Zht (ok:HOk P w H h) (e:H a = some (.dK kvs)):kvs.length <= sizeLine /\ (a == sysModules) = false /\ ∃ vs,KV kvs vs /\ h.DictOf (Qe P w) a vs:=Zae ok (.inl e)
theorem Si {ks:List Key} (ok:HOk P w H h) (e:H a = some (.tup (ks.map kV))):(tupleKind (Qe P w)).is h ks a:=by
 obtain ⟨_,its,r,o,h1,h2,n,h3⟩:=(show Z3 P w H h a (.tup (ks.map kV)) from ok a _ e)
 exact ⟨o,its.toArray,n,h1,h2,h3,by simpa using UA r⟩
theorem Zcz {kvs:List (List Key × V)} (ok:HOk P w H h) (e:Rd H a (.dT kvs)):kvs.length <= sizeLine /\ (a == sysModules) = false /\
  ∃ xs,KT H kvs xs /\ h.DictOfH (tupleKind (Qe P w)) a xs:=by
 obtain ⟨z,y,xs,r,o,es,ep,h1,h2,h3,h4,h5⟩:=(show Z3 P w H h a (.dT kvs) from Zem ok e)
 refine ⟨z,y,xs,r,o,es,ep,h1,h2,h3,h4,λ x hx=>?_,h5⟩;have all:∀ {l:List (List Key × V)} {m:List (List Key × Addr × Value)},KT H l m->∀ x ∈ m,(tupleKind (Qe P w)).is h x.1 x.2.1:=by
  intro l m q
  induction q with
  | nil=>intro x hx; exact nomatch hx
  | @cons p q ps qs hq t ih=>
   intro x hx
   rcases List.mem_cons.mp hx with e | hx
   ·subst e;exact Si ok (by rw [<- hq.1]; exact hq.2.1)
   ·exact ih x hx
 exact all r x hx
def SN (H:Hp) (a:Addr) (y:V) (r:Option V):Prop:=
 (∃ kvs k,Rd H a (.dK kvs) /\ y = kV k /\ r = Bo kvs k) \/ ∃ kvs k b,Rd H a (.dT kvs) /\ y = .ref b /\ H b = some (.tup (k.map kV)) /\ r = Bo kvs k
def Zgv (H:Hp) (a:Addr) (y v:V) (H':Hp):Prop:=
 (∃ kvs k,H a = some (.dK kvs) /\ y = kV k /\ kvs.length < sizeLine /\ H' = upd H a (.dK (putK kvs k v))) \/
 ∃ kvs k b,H a = some (.dT kvs) /\ y = .ref b /\ H b = some (.tup (k.map kV)) /\ kvs.length < sizeLine /\ H' = upd H a (.dT (putK kvs k v))
theorem SN.k {k:Key} (e:H a = some (.dK kvs)):SN H a (kV k) (Bo kvs k):=.inl ⟨kvs,k,.inl e,rfl,rfl⟩
theorem SN.t {kvs:List (List Key × V)} {k:List Key} (e:H a = some (.dT kvs)) (eb:H b = some (.tup (k.map kV))):SN H a (.ref b) (Bo kvs k):=.inr ⟨kvs,k,b,.inl e,rfl,eb,rfl⟩
theorem Zgv.k {k:Key} (e:H a = some (.dK kvs)) (hl:kvs.length < sizeLine):Zgv H a (kV k) v (upd H a (.dK (putK kvs k v))):=.inl ⟨kvs,k,e,rfl,hl,rfl⟩
theorem Zgv.t {kvs:List (List Key × V)} {k:List Key} {v:V} (e:H a = some (.dT kvs)) (eb:H b = some (.tup (k.map kV))) (hl:kvs.length < sizeLine) :
  Zgv H a (.ref b) v (upd H a (.dT (putK kvs k v))):=.inr ⟨kvs,k,b,e,rfl,eb,hl,rfl⟩
section
variable {r:Value} {o:Option V} {E:Value->Shared->Prop}
theorem Inv.big (I:Inv X pins Z H s):sysModules < s.heap.objs.size:=by
 have h:mainGlobals < s.heap.objs.size:=(I.mod.glob.keeps I.bk).lt;exact Nat.lt_trans (by decide) h
theorem HZ {Q:Value->Shared->Prop} (hu:A.units + 1 < cLine) (I:Inv X pins Z H s) (g:SN H a y (some v)) (ry:RelV y u) (h:∀ w' s',Inv X pins Z H s'->RelV v w'->Q w' s') :
  wpAny (model X.prog X.w) A (getItem (.ref a) u) Q E s:=by
 rcases g with ⟨kvs,k,e,ey,l⟩ | ⟨kvs,k,b,e,ey,eb,l⟩
 ·subst ey;obtain ⟨z,hd,vs,rel,dd⟩:=Zae I.hok e;obtain ⟨w',hw,rw'⟩:=MU.some_of (v:=v) (o:=valueAt vs k) (by rw [l]; exact rel.val k);exact wpAny_getItem_of (Za1 ry) dd.mapOf hw (h w' _ (I.tok _) rw')
 ·subst ey;cases (show u = Value.ref b from ry);obtain ⟨z,hd,xs,rel,dd⟩:=Zcz I.hok e;obtain ⟨w',hw,rw'⟩:=MU.some_of (v:=v) (o:=(atKey xs k).map (·.2)) (by rw [l]; exact rel.val k);obtain ⟨p,hp,hp2⟩:=Option.map_eq_some_iff.mp hw;refine wpAny_getItem_heap (tupleKind_room_in1 hu) (Si I.hok eb) dd hp ?_;rw [hp2];exact h w' _ (I.tok _) rw'
theorem ZbL {t':Nat} {ob:HO} (I:Inv X pins Z H s) (mu:Mut (H a)) (hs:Heap.SameBut a s.heap h') (he:∃ q,h'.get? a = some q) (new:Z3 X.prog X.w (upd H a ob) h' a ob) :
  Inv X pins Z (upd H a ob) { s with heap:=h',toks:=t' }:=
 I.write (x:=a) (e:=a) mu (.inl rfl) (λ b q hb z=>(hs.2 b hb).trans z) he new
theorem Zfx {H':Hp} {vs:List (Key × Value)} (z:kvs.length <= sizeLine) (hd:(a == sysModules) = false) (rel:KV kvs vs) (dd:h'.DictOf (Qe P w) a vs) :
  Z3 P w H' h' a (.dK kvs):=⟨z,hd,vs,rel,dd⟩
end
section
variable {k:Key} {E:Value->Shared->Prop}
end
def ZgP (i:Expr):Prop:=∀ ov iv,subscripted i false ov iv = operate [ov,iv] (getItem ov iv)
theorem ZaA {prog:Program} {w:World} {A:Around} {E:Value->Shared->Prop} {s:Shared} {env:Env} {value slice:Expr} {pos:Pos} {T id:String} {Q:Value->Shared->Prop}
  (hl:typeLookup (.type T) "__getitem__" = pure (some (.builtin id))) (hs:ZgP slice)
  (h:wpAny (model prog w) A (eval value env) (λ o s₁=>wpAny (model prog w) A (eval slice env) (λ i s₂=>s₂.TypeIs o T /\ wpAny (model prog w) A (getItem o i) Q E s₂) E s₁) E s) :
  wpAny (model prog w) A (eval (.Subscript value slice pos) env) Q E s:=by
 refine Subscript_ (wpAny_mono h (λ o s₁ h₁=>wpAny_mono h₁ (λ i s₂ h₂=>?_) λ _ _ x=>x) λ _ _ x=>x);obtain ⟨hT,h₂⟩:=h₂;unfold subscriptTail;refine wpAny_bind ?_;rw [getitemInPython_of_ne hT.not_modules];refine wpAny_bind (wpAny_specialOf hT hl ?_);have fin:wpAny (model prog w) A (subscripted slice false o i) (λ r s₃=>wpAny (model prog w) A (letTemporaryGo value o r >>= λ _=>pure r) Q E s₃) E s₂:=by
  rw [hs o i];exact wpAny_operating (wpAny_mono h₂ (λ r s₃ h₃=>wpAny_bind (wpAny_letTemporaryGo (wpAny_pure h₃))) λ _ _ x=>x)
 first
  | exact wpAny_pure (wpAny_bind fin)
  | exact wpAny_bind (wpAny_pure (wpAny_bind fin))
  | exact wpAny_bind fin
theorem BR {o:Option V} (I:Inv X pins Z H s) (g:SN H a y o):s.TypeIs (.ref a) "dict" := by
 rcases g with ⟨kvs,k,e,_,_⟩ | ⟨kvs,k,b,e,_,_,_⟩
 ·obtain ⟨_,_,vs,_,dd⟩:=Zae I.hok e;exact dd.typeIs
 ·obtain ⟨_,_,xs,_,dd⟩:=Zcz I.hok e;exact dd.typeIs
def Zh8 (td ty:TE):TE:=λ Z H Q=>td Z H λ x H1=>ty Z H1 λ y H2=>∃ a v,x = .ref a /\ SN H2 a y (some v) /\ Q v H2
section
variable {o i value:Expr} {pos' tpos:Pos} {td ty tv:TE}
theorem ZbY (hu:X.A.units + 1 < cLine) (ho:PE X o td) (hi:PE X i ty) (hs:ZgP i):PE X (.Subscript o i pos) (Zh8 td ty):=by
 intro pins s Z H Q I h;refine ZaA PySem.F.slot_dict_getitem.lookup hs (thn (ho pins s Z H _ I h) λ u s1 ⟨x,H1,I1,rx,q1⟩=>thn (hi pins s1 Z H1 _ I1 q1) λ iv s2 ⟨y,H2,I2,ry,a,v,ex,g,q2⟩=>?_);subst ex;obtain rfl:u = Value.ref a:=rx;exact ⟨BR I2 g,HZ hu I2 g ry λ w' s3 I3 rw'=>⟨v,H2,I3,rw',q2⟩⟩
end
theorem Pf (h:Heap) (hb:sysModules < h.objs.size):Z3 P w H (h.push { cls:=.type "dict",data:=.dict #[] }) h.objs.size (.dK []):=
 ⟨Nat.zero_le _,beq_eq_false_iff_ne.mpr (Ne.symm (Nat.ne_of_lt hb)),[],.nil,Heap.DictOf.new h⟩
def HG:List (TE × TE)->St->Hp->(List (V × V)->Hp->Prop)->Prop
 | [],_,H,Q=>Q [] H
 | (tk,tv) :: r,Z,H,Q=>tk Z H λ x H1=>tv Z H1 λ y H2=>HG r Z H2 λ ps H3=>Q ((x,y) :: ps) H3
abbrev VV:List (V × V)->List (Value × Value)->Prop:=Paired λ p q=>RelV p.1 q.1 /\ RelV p.2 q.2
def PPs (X:Cx) (pos:Pos) (keys:List (Option Expr)) (values:List Expr) (trs:List (TE × TE)):Prop:=
 ∀ (pins:List (Addr × Obj)) (s:Shared) (Z:St) (H:Hp) (Q:List (V × V)->Hp->Prop),Inv X pins Z H s->HG trs Z H Q ->
  wpAny (model X.prog X.w) X.A (evalPairs (pairTrees keys values X.env pos)) (λ vs s'=>∃ ps H',Inv X pins Z H' s' /\ VV ps vs /\ Q ps H') X.xe s
theorem ZaD:PPs X pos [] [] []:=λ pins s Z H Q I h=>pairTrees_nil_walk ⟨[],H,I,.nil,h⟩
theorem Vt {k v:Expr} {ks:List (Option Expr)} {vs:List Expr} {tk tv:TE} {trs:List (TE × TE)} (hk:PE X k tk) (hv:PE X v tv) (hr:PPs X pos ks vs trs) :
  PPs X pos (some k :: ks) (v :: vs) ((tk,tv) :: trs):=λ pins s Z H Q I h=>
 pairTrees_cons_walk (thn (hk pins s Z H _ I h) λ u s1 ⟨x,H1,I1,rx,q1⟩=>thn (hv pins s1 Z H1 _ I1 q1) λ w2 s2 ⟨y,H2,I2,ry,q2⟩=>
  thn (hr pins s2 Z H2 _ I2 q2) λ ws s3 ⟨ps,H3,I3,rel,q3⟩=>⟨(x,y) :: ps,H3,I3,.cons ⟨rx,ry⟩ rel,q3⟩)
noncomputable def YW (kvs more:List (Key × V)):List (Key × V):=more.foldl (λ acc kv=>putK acc kv.1 kv.2) kvs
theorem KV.merge:∀ {more:List (Key × V)} {rs:List (Key × Value)} {kvs:List (Key × V)} {vs:List (Key × Value)},KV more rs->KV kvs vs->KV (YW kvs more) (merged vs rs):=by
 intro more rs kvs vs r;unfold KV at r
 induction r generalizing kvs vs with
 | nil=>intro q; exact q
 | @cons p q ps qs h t ih=>
  intro r0;have e:KV (putK kvs p.1 p.2) (stored vs q.1 q.2):=by
   have:=r0.put p.1 h.2;rw [<- h.1]; exact this
  exact ih e
theorem Yu:∀ (more kvs:List (Key × V)),(YW kvs more).length <= kvs.length + more.length
 | [],kvs=>by show kvs.length <= kvs.length + 0; lia
 | p :: r,kvs=>by
  have h1:=Yu r (putK kvs p.1 p.2);have h2:=Cg kvs p.1 p.2;show (YW (putK kvs p.1 p.2) r).length <= _;rw [List.length_cons]; lia
theorem Wc {P:Program} {w:World}:∀ {kvs:List (Key × V)} {ws:List (Value × Value)},VV (kvs.map λ kv=>(kV kv.1,kv.2)) ws->∃ rs,Carries (Qe P w) ws rs /\ KV kvs rs
 | [],_,r=>by rw [List.map_nil] at r; cases r; exact ⟨[],True.intro,.nil⟩
 | p :: kvs,_,r=>by
  rw [List.map_cons] at r;cases r with
  | @cons a b as bs h t=>
   obtain ⟨rs,c,q⟩:=Wc (P:=P) (w:=w) t;obtain ⟨b1,b2⟩:=b;exact ⟨(p.1,b2) :: rs,⟨Za1 h.1,rfl,c⟩,.cons ⟨rfl,h.2⟩ q⟩
def Zg9 (trs:List (TE × TE)):TE:=λ Z H Q=>∀ p,H p = none->HG trs Z (upd H p (.dK [])) λ ps H2=>H2 p = some (.dK []) /\ ∃ kvs:List (Key × V),ps = kvs.map (λ kv=>(kV kv.1,kv.2)) /\ kvs.length <= 15 /\ Q (.ref p) (upd H2 p (.dK (YW [] kvs)))
theorem ZaW {keys:List (Option Expr)} {values:List Expr} {trs:List (TE × TE)} (h:PPs X pos keys values trs) (hall:keys.all (·.isSome) = true) (hl:keys.length = values.length) (h0:keys ≠ [])
  (h15:keys.length <= 15):PE X (.Dict keys values pos) (Zg9 trs):=by
 intro pins s Z H Q I q;have hn:=I.hok.fresh (Nat.le_refl s.heap.objs.size);have I1:=I.laid (a:=s.heap.objs.size) (o:=.dK []) (h':=s.heap.push { cls:=.type "dict",data:=.dict #[] }) (t':=s.toks) (λ _ _ q=>Heap.get?_push_of_some _ q) (Nat.le_refl _) (Pf s.heap I.big);refine wpAny_Dict_walk (knd:=Qe X.prog X.w) hall hl h0 h15 (thn (h pins _ Z _ _ I1 (q _ hn)) λ ws s2 ⟨ps,H2,I2,rel,e,kvs,ep,lk,q2⟩=>?_);subst ep;obtain ⟨rs,c,rk⟩:=Wc (P:=X.prog) (w:=X.w) rel;obtain ⟨z,hd,vs0,r0,dd⟩:=Zht I2.hok e;cases r0;refine ⟨rs,c,dd,λ h' dd' hs=>⟨.ref s.heap.objs.size,_,?_,rfl,q2⟩⟩;have hz:(YW [] kvs).length <= sizeLine:=by
  have h1:=Yu kvs [];rw [List.length_nil] at h1;rw [sizeLine_eq]; lia
 have he:∃ q,h'.get? s.heap.objs.size = some q:=let ⟨q,_,_,hq,_⟩:=dd'; ⟨q,hq⟩;exact ZbL I2 (by rw [e]; exact True.intro) hs he (Zfx hz hd (rk.merge .nil) dd')
structure M1 (X:Cx) (o:Expr) (m:Str) (apos:Pos) (e:Expr) (cpos:Pos):Prop where
 base:attributeBase o m X.env (eval o X.env) = eval o X.env
 few:((backTo cpos (starEach [e] X.env)).all (λ x=>!x.1) && (backToKw cpos (keywordEach [] X.env)).all (λ x=>x.1.isSome)
  && decide (([e]:List Expr).length + ([]:List Keyword).length + (if ([]:List Keyword).isEmpty then 0 else 1) < 30)) = true
 line:(apos.endLine == cpos.line) = true
 trees:backTo cpos (starEach [e] X.env) = [(false,eval e X.env)]
structure M2 (X:Cx) (o:Expr) (m:Str) (apos:Pos) (e f:Expr) (cpos:Pos):Prop where
 base:attributeBase o m X.env (eval o X.env) = eval o X.env
 few:((backTo cpos (starEach [e,f] X.env)).all (λ x=>!x.1) && (backToKw cpos (keywordEach [] X.env)).all (λ x=>x.1.isSome)
  && decide (([e,f]:List Expr).length + ([]:List Keyword).length + (if ([]:List Keyword).isEmpty then 0 else 1) < 30)) = true
 line:(apos.endLine == cpos.line) = true
 trees:backTo cpos (starEach [e,f] X.env) = [(false,eval e X.env),(false,eval f X.env)]
section
variable {d:V} {r:Value} {o:Option V} {E:Value->Shared->Prop}
end
section
variable {o f:Expr} {apos cpos:Pos} {td ty tx:TE}
end
section
variable {E:Value->Shared->Prop}
end
section
variable {E:Value->Shared->Prop}
end
end L2
namespace Att
open PySem.W PySem.Calls
theorem XY {P:Params}:∀ (ns:List Int) (vs:List Value),WellAll P h vs (ns.map WData.int)->IntsAre vs ns:=by
 intro ns
 induction ns with
 | nil=>
  intro vs w;rw [List.map_nil] at w;cases w;exact .nil
 | cons n ns ih=>
  intro vs w;rw [List.map_cons] at w;cases w with
  | cons a b=>
   cases a;exact .cons _ _ (ih _ b)
theorem HD {l:OpenLaw} (hn:l.most = some n) {P:Params} {h:Heap} {args:List WData} {vals:List Value}
  (hpre:l.row.toRowW.claim.pre args = true) (hwl:WellAll P h vals args) :
  ∃ a vs ns,vals = [Value.ref a] /\ args = [WData.list (ns.map WData.int)] /\ h.get? a = some { cls:=.type "list",data:=.seq vs.toArray } /\ IntsAre vs ns /\ ns.length <= n:=by
 have hsh:WShape.hasAll [] args [.list .int] = true:=(pre_splitW hpre).1;have hc:l.pre.holds [] { args:=args } = true:=(pre_splitW hpre).2;obtain ⟨d,r,rfl,h1,h2⟩:=hasAllW_cons hsh;obtain rfl:=hasAllW_nil h2;obtain ⟨xs,rfl,h3⟩:=hasW_list h1;obtain ⟨ns,rfl⟩:=items_int h3;have hlen:ns.length <= n:=by
  unfold OpenLaw.pre at hc;have h4:(WTm.not (.lt (.lit (.int (n:Int))) (.len (.arg 0)))).holds [] { args:=[.list (ns.map .int)] } = true:=by
   have h4:=(holds_andW hc).1;rw [hn] at h4;exact h4
  have h5:=condW_of h4 (w_not (w_lt w_lit (w_len_list (w_arg rfl))));rw [List.length_map] at h5;refine Nat.le_of_not_lt λ q=>?_;have q':(n:Int) < ((ns.length:Nat):Int):=by lia
  first
   | (rw [decide_eq_true q'] at h5; exact absurd h5 (by decide))
   | (simp at h5; lia)
 cases hwl with
 | cons w1 w2=>
  cases w2;cases w1 with
  | list ho hall=>exact ⟨_,_,ns,rfl,rfl,ho,XY ns _ hall,hlen⟩
theorem Fv (l:OpenLaw) (args:List WData):l.row.toRowW.claim.post args (.bool true) args = true:=
 postW_of (r:=l.row.toRowW) (X:=(true == true))
  (show WShape.has [] (.bool true) .bool = true by first | rfl | decide | simp [WShape.has,WShape.arms,WShape.armsAll])
  (show (WTm.eq .res (.lit (.bool true))).value [] { args:=args,res:=some (.bool true),after:=args } = some (.bool (true == true)) from w_eq_bool (w_res rfl) w_lit) rfl
theorem B6 {l:OpenLaw} {n:Nat} {q:Program} {loose:List Str} {XP:(Str->Option Value)->Heap->Prop} {YP:World->Heap->Prop} {d:DefRec}
  (hn:l.most = some n) (hdf:d.params.defaults = [])
  (call:∀ (w:World) (s₀ s₁:Shared) (mg mb:Str->Option Value) (fa:Addr) (o:Obj) (pm cd doc:Value) (a:Addr) (vs:List Value) (ns:List Int),
   Ground q loose [] XP w s₀ mg mb s₁.heap->YP w s₁.heap ->
   s₁.heap.get? fa = some o->o.data = .func (docDef d.name d.params d.body d.scope pm cd doc)->s₁.heap.CodeRec cd d.name->mg d.name = some (.ref fa) ->
   s₁.heap.get? a = some { cls:=.type "list",data:=.seq vs.toArray }->IntsAre vs ns->ns.length <= n->s₁.gens = #[] ->
   codeAny (model l.prog w) callerA (.call (.ref fa) ⟨[.ref a],[]⟩) (λ r s'=>r = .ok (.ret (.bool true)) /\ OldK s₁.heap s'.heap /\ s'.os = s₁.os /\ AllBare s'.gens) s₁) :
  WalkO q loose XP YP l.row.toRowW d [] (λ f vs=>PySem.call f vs):=by
 intro w s₀ s₁ mg mb G Y fa o pm cd doc dV kV ho hd hcd hD hmg hg args vals as hpre hlay hrd hwl hlo;obtain rfl:dV = .none:=Dflts.none hD hdf;obtain rfl:kV = .none:=Dflts.noKw hD;obtain ⟨a,vs,ns,rfl,rfl,hobj,hints,hlen⟩:=HD hn hpre hwl;refine enter_call (codeAny_mono (call w s₀ s₁ mg mb fa o pm cd doc a vs ns G Y ho (fd_plain hd) hcd hmg hobj hints hlen hg) λ r s' hq=>?_);obtain ⟨rfl,h2,h3,h4⟩:=hq;exact ⟨.inl ⟨.bool true,.bool true,[],rfl,λ _=>rfl,.bool true,Fv l _,λ _=>⟨List.Pairwise.nil,λ _ hm=>(nomatch hm)⟩⟩,h2,h3,h4⟩
section
variable {prog:Program} {E:Value->Shared->Prop} {K:Frag}
end
end Att
namespace L2
theorem Ks:∀ {vs:List Value} {ns:List Int},IntsAre vs ns->Vals (ns.map V.int) vs
 | _,_,.nil=>.nil
 | _,_,.cons n t h=>.cons ⟨t,rfl⟩ (Ks h)
noncomputable def VP (s:Stmt):Arguments:=match s with
 | .FunctionDef _ a _ _ _ _ _ _ _ _=>a
 | _=>{ posonlyargs:=[],args:=[],vararg:=none,kwonlyargs:=[],kw_defaults:=[],kwarg:=none,defaults:=[] }
noncomputable def Qr (s:Stmt):List Stmt:=match s with
 | .FunctionDef _ _ b _ _ _ _ _ _ _=>b
 | _=>[]
noncomputable def Zf (s:Stmt):Scope:=match s with
 | .FunctionDef _ _ _ _ _ _ sc _ _ _=>sc
 | _=>{ kind:=.function,names:=[],isGenerator:=false,isCoroutine:=false }
abbrev CX0:CXT:=λ _ _ _ _ _ _=>False
abbrev E0:XK:=λ _ _ _=>False
theorem Zhg:Passes CX0 X E0:=λ _ _ _ _ _ _ _ h=>h.elim
structure Fun (K:Fk) (x qual:Str) (st:Stmt) (f:Addr) (fd:FuncData):Prop where
 ex:∃ (oc:Value) (od:Option Addr) (kV doc pm:Value) (an:Option Addr) (cdv ct:Value) (osl:Array (Option Value)),
  fd = PySem.W.fnOf x qual (VP st) (Qr st) (Zf st) .none kV doc pm an cdv ct /\ K.lookup f = some ⟨oc,od,.func fd,osl⟩ /\ PySem.W.codeIn K cdv qual = true
 kp:PySem.W.keepIn K (.ref f) = true
section
variable {base:Heap}
theorem Fun.ok {ps:List Str} {k:Nat} {sp:Sp} (F:Fun K x qual st f fd) (S:Zm N ps (Zf st)) (len:∀ vs H Q E,sp vs H Q E->vs.length = ps.length)
  (hbody:∀ (cdv:Value) (A:Around) (outer:List Env) (s:Shared) (H:Hp) (vs:List V) (Q:VK) (E:XK),Jq k (A.deeper (envOfC qual (Zf st) s.heap.objs.size f cdv))->sp vs H Q E ->
   ∃ t,PSs (Fc CX0 P w K mg base N qual (Zf st) f cdv A outer s H E).nox (Qr st) t /\ t { nx:=λ _ H'=>Q .non H',rt:=Q } (start N vs) H):Qa P w K mg base CX0 (k + 1) f fd ps sp:=by
 obtain ⟨oc,od,kV,doc,pm,an,cdv,ct,osl,rfl,lk,hcd⟩:=F.ex;refine ZhN lk hcd S len λ A outer s H vs Q E hr hsp=>?_;obtain ⟨t,h,q⟩:=hbody cdv A outer s H vs Q E hr hsp;exact ⟨t,h.nox,q⟩
theorem Fun.binds {ps:List Str} (F:Fun K x qual st f fd)
  (h:∀ (kV doc pm:Value) (an:Option Addr) (cdv ct:Value) (us:List Value),us.length = ps.length->bindArgs (PySem.W.fnOf x qual (VP st) (Qr st) (Zf st) .none kV doc pm an cdv ct) ⟨us,[]⟩ = pure (ps.zip us)):Binds K fd ps []:=by
 obtain ⟨oc,od,kV,doc,pm,an,cdv,ct,osl,rfl,lk,hcd⟩:=F.ex;exact .all (h kV doc pm an cdv ct)
theorem ZdH {oc:Value} {od an:Option Addr} {osl:Array (Option Value)} {kV doc cdv:Value} (l:K.lookup f = some ⟨oc,od,.func (PySem.W.fnOf x qual (VP st) (Qr st) (Zf st) .none kV doc pm an cdv ct),osl⟩)
  (c:PySem.W.codeIn K cdv qual = true) (k:PySem.W.keepIn K (.ref f) = true):Fun K x qual st f (PySem.W.fnOf x qual (VP st) (Qr st) (Zf st) .none kV doc pm an cdv ct):=⟨⟨oc,od,kV,doc,pm,an,cdv,ct,osl,rfl,l,c⟩,k⟩
end
def R0 (H H':Hp):Prop:=∀ b o,H b = some o->H' b = some o
theorem R0.refl (H:Hp):R0 H H:=λ _ _ h=>h
theorem R0.trans {H1 H2:Hp} (a:R0 H H1) (b:R0 H1 H2):R0 H H2:=λ c o h=>b c o (a c o h)
theorem R0.free (e:R0 H H') {l:Addr} (h:H' l = Option.none):H l = Option.none:=by
 cases q:H l with
 | none=>rfl
 | some o=>
  rw [e l o q] at h;cases h
end L2
namespace DL
inductive DV where
 | dat (d:PyData)
 | own (a:Addr)
 | ty (n:String)
  | mix (xs:List DV)
inductive OO where
 | lst (ds:List PyData)
  | dct (ks:List (List Key))
  | dtv (kvs:List (List Key × PyData))
  | dkv (kvs:List (Key × PyData))
  | dko (kvs:List (Key × DV))
  | fdk (o:Obj) (kvs:List (Key × PyData))
  | lsv (n:Nat) (xs:List DV)
  | ext (φ:Heap->Prop)
  | gst (N₀:Addr->Prop) (H₀:Hp)
  | fdc (o:Obj) (ks:List (List Key))
 | fdt (o:Obj) (ps:List (List Key × PyData))
  | tab (φ:Fk->Addr->Array Value->(Addr->Prop)->Hp->Prop)
abbrev Mp:=Addr->Option OO
noncomputable def Z0 (M:Mp) (a:Addr) (o:OO):Mp:=λ b=>if b = a then some o else M b
noncomputable def V1 (M:Mp) (a:Addr):Mp:=λ b=>if b = a then none else M b
theorem Zq {M:Mp} {o:OO}:Z0 M a o a = some o:=by unfold Z0; rw [if_pos rfl]
theorem Zs {M:Mp} {o:OO} (h:b ≠ a):Z0 M a o b = M b:=by unfold Z0; rw [if_neg h]
theorem Gq {M:Mp} {o u:OO}:Z0 (Z0 M a o) a u = Z0 M a u:=by
 funext b; unfold Z0; split <;> rfl
theorem Yq {M:Mp}:V1 M a a = none:=by unfold V1; rw [if_pos rfl]
theorem Jj {M:Mp} (h:b ≠ a):V1 M a b = M b:=by unfold V1; rw [if_neg h]
noncomputable def kD:Key->PyData
 | .inl i=>.int i
 | .inr x=>.str x
def KTu (K:Fk) (a:Addr) (xs:List V):Prop:=
 ∃ (o:Obj) (its:Array Value) (n:Nat),K.lookup a = some o /\ o.cls = .type "tuple" /\ o.data = .seq its n /\ its.size <= sizeLine /\ Vals xs its.toList
def KLs (K:Fk) (a:Addr) (xs:List V):Prop:=
 ∃ (o:Obj) (its:Array Value) (n:Nat),K.lookup a = some o /\ o.cls = .type "list" /\ o.dict = none /\ o.data = .seq its n /\ its.size <= sizeLine /\ Vals xs its.toList
def TupAt (K:Fk) (M:Mp) (H:Hp) (a:Addr) (xs:List V):Prop:=(M a = none /\ Rd H a (.tup xs)) \/ KTu K a xs
def LstAt (K:Fk) (M:Mp) (H:Hp) (a:Addr) (xs:List V):Prop:=(M a = none /\ Rd H a (.lst xs)) \/ KLs K a xs
theorem TupAt.sq {M:Mp} (h:TupAt K M H a xs):SqT K H a xs:=by
 rcases h with ⟨_,h⟩ | h
 ·exact .inl h
 ·exact .inr h
theorem LstAt.sq {M:Mp} (h:LstAt K M H a xs):SqL K H a xs:=by
 rcases h with ⟨_,h⟩ | h
 ·exact .inl h
 ·exact .inr h
mutual
inductive Dt (K:Fk) (M:Mp) (H:Hp):V->PyData->Prop
 | non:Dt K M H .non .none
 | bl (b:Bool):Dt K M H (.bl b) (.bool b)
 | int (i:Int):Dt K M H (.int i) (.int i)
 | str (x:Str):Dt K M H (.str x) (.str x)
 | tup {a:Addr} {xs:List V} {ds:List PyData}:TupAt K M H a xs->Dts K M H xs ds->Dt K M H (.ref a) (.tuple ds)
 | lst {a:Addr} {xs:List V} {ds:List PyData}:LstAt K M H a xs->Dts K M H xs ds->Dt K M H (.ref a) (.list ds)
 | dK {a:Addr} {kvs:List (Key × V)} {ds:List PyData}:M a = none->H a = some (.dK kvs)->Dts K M H (kvs.map (·.2)) ds->Dt K M H (.ref a) (.dict ((kvs.map λ kv=>kD kv.1).zip ds))
 | dT {a:Addr} {kvs:List (List Key × V)} {ds:List PyData}:M a = none->H a = some (.dT kvs)->Dts K M H (kvs.map (·.2)) ds->kvs ≠ []->Dt K M H (.ref a) (.dict ((kvs.map λ kv=>PyData.tuple (kv.1.map kD)).zip ds))
 | dX {a b:Addr} {φ:Heap->Prop} {v:V} {dk d:PyData}:M a = none->H a = some (.ext φ)->(a == sysModules) = false ->
   (∀ h,φ h->∃ o es n u,h.get? a = some o /\ o.cls = .type "dict" /\ o.data = .dict es n /\ es.toList.map (·.key) = [.ref b] /\ es.toList.map (·.val) = [u] /\ RelV v u)->Dt K M H (.ref b) dk->Dt K M H v d->Dt K M H (.ref a) (.dict [(dk,d)])
inductive Dts (K:Fk) (M:Mp) (H:Hp):List V->List PyData->Prop
 | nil:Dts K M H [] []
 | cons {x:V} {xs:List V} {d:PyData} {ds:List PyData}:Dt K M H x d->Dts K M H xs ds->Dts K M H (x :: xs) (d :: ds)
end
structure Step (M:Mp) (H:Hp) (M':Mp) (H':Hp):Prop where
 keep:∀ b o,M b = none->H b = some o->H' b = some o
 free:∀ b o,M b = none->H b = some o->M' b = none
theorem Step.refl {M:Mp}:Step M H M H:=⟨λ _ _ _ h=>h,λ _ _ h _=>h⟩
theorem Step.trans {M M1 M2:Mp} {H1 H2:Hp} (a:Step M H M1 H1) (b:Step M1 H1 M2 H2):Step M H M2 H2:=
 ⟨λ c o h1 h2=>b.keep c o (a.free c o h1 h2) (a.keep c o h1 h2),λ c o h1 h2=>b.free c o (a.free c o h1 h2) (a.keep c o h1 h2)⟩
section
variable {M M':Mp}
theorem F6 {u:HO} (st:Step M H M' H') (hm:M a = none) (h:Rd H a u):M' a = none /\ Rd H' a u:=by
 rcases h with h | ⟨o,h⟩
 ·exact ⟨st.free _ _ hm h,.inl (st.keep _ _ hm h)⟩
 ·exact ⟨st.free _ _ hm h,.inr ⟨o,st.keep _ _ hm h⟩⟩
theorem TupAt.step (h:TupAt K M H a xs) (st:Step M H M' H'):TupAt K M' H' a xs:=by
 rcases h with ⟨h1,h2⟩ | h
 ·exact .inl (F6 st h1 h2)
 ·exact .inr h
theorem LstAt.step (h:LstAt K M H a xs) (st:Step M H M' H'):LstAt K M' H' a xs:=by
 rcases h with ⟨h1,h2⟩ | h
 ·exact .inl (F6 st h1 h2)
 ·exact .inr h
mutual
theorem Dt.step (st:Step M H M' H'):∀ {v:V} {d:PyData},Dt K M H v d->Dt K M' H' v d
 | _,_,.non=>.non
 | _,_,.bl b=>.bl b
 | _,_,.int i=>.int i
 | _,_,.str x=>.str x
 | _,_,.tup h1 h2=>.tup (h1.step st) (Dts.step st h2)
 | _,_,.lst h1 h2=>.lst (h1.step st) (Dts.step st h2)
 | _,_,.dK h0 h1 h2=>.dK (st.free _ _ h0 h1) (st.keep _ _ h0 h1) (Dts.step st h2)
 | _,_,.dT h0 h1 h2 h3=>.dT (st.free _ _ h0 h1) (st.keep _ _ h0 h1) (Dts.step st h2) h3
 | _,_,.dX h0 h1 h2 h3 h4 h5=>.dX (st.free _ _ h0 h1) (st.keep _ _ h0 h1) h2 h3 (Dt.step st h4) (Dt.step st h5)
theorem Dts.step (st:Step M H M' H'):∀ {vs:List V} {ds:List PyData},Dts K M H vs ds->Dts K M' H' vs ds
 | _,_,.nil=>.nil
 | _,_,.cons h1 h2=>.cons (Dt.step st h1) (Dts.step st h2)
end
theorem Dts.length:∀ {vs:List V} {ds:List PyData},Dts K M H vs ds->vs.length = ds.length
 | _,_,.nil=>rfl
 | _,_,.cons _ h=>by rw [List.length_cons,List.length_cons,Dts.length h]
theorem Dts.get:∀ {vs:List V} {ds:List PyData} {i:Nat} {d:PyData},Dts K M H vs ds->ds[i]? = some d->∃ v,vs[i]? = some v /\ Dt K M H v d
 | _,_,_,_,.nil,e=>by simp at e
 | _,_,0,_,.cons h _,e=>by simp at e; subst e; exact ⟨_,rfl,h⟩
 | _,_,i + 1,d,.cons _ h,e=>by
  obtain ⟨v,h1,h2⟩:=Dts.get (i:=i) (d:=d) h (by simpa using e);exact ⟨v,by simpa using h1,h2⟩
theorem Dts.Pa:∀ {vs:List V} {ds:List PyData} {i:Nat} {v:V},Dts K M H vs ds->vs[i]? = some v->∃ d,ds[i]? = some d /\ Dt K M H v d
 | _,_,_,_,.nil,e=>by simp at e
 | _,_,0,_,.cons h _,e=>by simp at e; subst e; exact ⟨_,rfl,h⟩
 | _,_,i + 1,v,.cons _ h,e=>by
  obtain ⟨d,h1,h2⟩:=Dts.Pa (i:=i) (v:=v) h (by simpa using e);exact ⟨d,by simpa using h1,h2⟩
theorem Dts.append:∀ {vs ws:List V} {ds es:List PyData},Dts K M H vs ds->Dts K M H ws es->Dts K M H (vs ++ ws) (ds ++ es)
 | _,_,_,_,.nil,h=>h
 | _,_,_,_,.cons h1 h2,h=>.cons h1 (Dts.append h2 h)
theorem Dts.take:∀ {vs:List V} {ds:List PyData} (n:Nat),Dts K M H vs ds->Dts K M H (vs.take n) (ds.take n)
 | _,_,0,_=>.nil
 | _,_,_ + 1,.nil=>.nil
 | _,_,n + 1,.cons h1 h2=>.cons h1 (Dts.take n h2)
theorem Dts.drop:∀ {vs:List V} {ds:List PyData} (n:Nat),Dts K M H vs ds->Dts K M H (vs.drop n) (ds.drop n)
 | _,_,0,h=>h
 | _,_,_ + 1,.nil=>.nil
 | _,_,n + 1,.cons _ h2=>Dts.drop n h2
theorem Dts.set (h:Dt K M H v d):∀ {vs:List V} {ds:List PyData} (i:Nat),Dts K M H vs ds->Dts K M H (vs.set i v) (ds.set i d)
 | _,_,_,.nil=>.nil
 | _,_,0,.cons _ t=>.cons h t
 | _,_,i + 1,.cons q t=>.cons q (Dts.set h i t)
theorem Dts.ints:∀ (ns:List Int),Dts K M H (ns.map V.int) (ns.map PyData.int)
 | []=>.nil
 | n :: ns=>.cons (.int n) (Dts.ints ns)
theorem Yx:∀ {vs:List V} {ns:List Int},Dts K M H vs (ns.map PyData.int)->vs = ns.map V.int
 | vs,[],h=>by
  rw [List.map_nil] at h;cases h;rfl
 | vs,n :: ns,h=>by
  rw [List.map_cons] at h;cases h with
  | cons h1 h2=>
   cases h1;rw [Yx h2,List.map_cons]
mutual
inductive Mx (K:Fk) (M:Mp) (H:Hp):V->List DV->Prop
 | mk {a:Addr} {vs:List V} {xs:List DV}:M a = none->H a = some (.tup vs)->Mxs K M H vs xs->Mx K M H (.ref a) xs
inductive Mxs (K:Fk) (M:Mp) (H:Hp):List V->List DV->Prop
 | nil:Mxs K M H [] []
 | dat {v:V} {d:PyData} {vs:List V} {xs:List DV}:Dt K M H v d->Mxs K M H vs xs->Mxs K M H (v :: vs) (.dat d :: xs)
 | own {b:Addr} {vs:List V} {xs:List DV}:Mxs K M H vs xs->Mxs K M H (.ref b :: vs) (.own b :: xs)
 | mix {v:V} {ys:List DV} {vs:List V} {xs:List DV}:Mx K M H v ys->Mxs K M H vs xs->Mxs K M H (v :: vs) (.mix ys :: xs)
end
mutual
theorem Mx.step (st:Step M H M' H'):∀ {v:V} {xs:List DV},Mx K M H v xs->Mx K M' H' v xs
 | _,_,.mk h1 h2 h3=>.mk (st.free _ _ h1 h2) (st.keep _ _ h1 h2) (Mxs.step st h3)
theorem Mxs.step (st:Step M H M' H'):∀ {vs:List V} {xs:List DV},Mxs K M H vs xs->Mxs K M' H' vs xs
 | _,_,.nil=>.nil
 | _,_,.dat h1 h2=>.dat (Dt.step st h1) (Mxs.step st h2)
 | _,_,.own h2=>.own (Mxs.step st h2)
 | _,_,.mix h1 h2=>.mix (Mx.step st h1) (Mxs.step st h2)
end
def VR0 (K:Fk) (M:Mp) (H:Hp) (v:V):DV->Prop
 | .dat d=>Dt K M H v d
 | .own b=>v = .ref b
 | .ty _=>False
 | .mix xs=>Mx K M H v xs
theorem VR0.step {x:DV} (h:VR0 K M H v x) (st:Step M H M' H'):VR0 K M' H' v x:=by
 cases x with
 | dat d=>exact Dt.step st h
 | own b=>exact h
 | ty n=>exact h
 | mix xs=>exact Mx.step st h
def OOk (K:Fk) (M:Mp) (H:Hp) (a:Addr):OO->Prop
 | .lst ds=>∃ vs,H a = some (.lst vs) /\ Dts K M H vs ds
 | .dct ks=>∃ kvs,H a = some (.dT kvs) /\ kvs.map (·.1) = ks
 | .dtv ps=>∃ kvs,H a = some (.dT kvs) /\ kvs.map (·.1) = ps.map (·.1) /\ Dts K M H (kvs.map (·.2)) (ps.map (·.2))
 | .dkv ps=>∃ kvs,H a = some (.dK kvs) /\ kvs.map (·.1) = ps.map (·.1) /\ Dts K M H (kvs.map (·.2)) (ps.map (·.2))
 | .dko ps=>∃ kvs,H a = some (.dK kvs) /\ Paired (λ (p:Key × V) (q:Key × DV)=>p.1 = q.1 /\ VR0 K M H p.2 q.2) kvs ps
 | .fdk o ps=>∃ kvs,H a = some (.frz o (.dK kvs)) /\ kvs.map (·.1) = ps.map (·.1) /\ Dts K M H (kvs.map (·.2)) (ps.map (·.2))
 | .lsv _ xs=>∃ vs,H a = some (.lst vs) /\ Paired (VR0 K M H) vs xs
 | .ext φ=>H a = some (.ext φ)
 | .gst N₀ H₀=>(∃ vs,H a = some (.lst vs) /\ H₀ a = some (.lst vs)) /\ ∀ b o,N₀ b->H₀ b = some o->H b = some o /\ M b = none
 | .fdc o ks=>∃ kvs,H a = some (.frz o (.dT kvs)) /\ kvs.map (·.1) = ks
 | .fdt o ps=>∃ kvs,H a = some (.frz o (.dT kvs)) /\ kvs.map (·.1) = ps.map (·.1) /\ Dts K M H (kvs.map (·.2)) (ps.map (·.2))
 | .tab φ=>(∃ ps,H a = some (.tbl ps) /\ φ K a ps (λ b=>M b = none) H) /\ ∀ ps (N N':Addr->Prop) H H',φ K a ps N H->(∀ b o,N b->H b = some o->N' b /\ H' b = some o)->φ K a ps N' H'
theorem OOk.step {o:OO} (h:OOk K M H a o) (st:Step M H M' H') (e:∀ u,H a = some u->H' a = some u):OOk K M' H' a o:=by
 cases o with
 | lst ds=>obtain ⟨vs,e1,e2⟩:=h; exact ⟨vs,e _ e1,e2.step st⟩
 | dct ks=>obtain ⟨vs,e1,e2⟩:=h; exact ⟨vs,e _ e1,e2⟩
 | dtv ps=>obtain ⟨vs,e1,e2,e3⟩:=h; exact ⟨vs,e _ e1,e2,e3.step st⟩
 | dkv ps=>obtain ⟨vs,e1,e2,e3⟩:=h; exact ⟨vs,e _ e1,e2,e3.step st⟩
 | dko ps=>obtain ⟨vs,e1,e2⟩:=h; exact ⟨vs,e _ e1,Paired.Zb4 e2 λ _ _ z=>⟨z.1,z.2.step st⟩⟩
 | fdk o ps=>obtain ⟨vs,e1,e2,e3⟩:=h; exact ⟨vs,e _ e1,e2,e3.step st⟩
 | lsv n xs=>obtain ⟨vs,e1,e2⟩:=h; exact ⟨vs,e _ e1,Paired.Zb4 e2 λ _ _ z=>z.step st⟩
 | ext φ=>exact e _ h
 | gst N₀ H₀=>obtain ⟨⟨u,e1,e2⟩,k⟩:=h; exact ⟨⟨u,e _ e1,e2⟩,λ b o n q=>⟨st.keep b o (k b o n q).2 (k b o n q).1,st.free b o (k b o n q).2 (k b o n q).1⟩⟩
 | fdc o ks=>obtain ⟨vs,e1,e2⟩:=h; exact ⟨vs,e _ e1,e2⟩
 | fdt o ps=>obtain ⟨vs,e1,e2,e3⟩:=h; exact ⟨vs,e _ e1,e2,e3.step st⟩
 | tab φ=>obtain ⟨⟨ps,e1,e2⟩,e3⟩:=h; exact ⟨⟨ps,e _ e1,e3 _ _ _ _ _ e2 λ b o n q=>⟨st.free b o n q,st.keep b o n q⟩⟩,e3⟩
theorem OOk.some {o:OO} (h:OOk K M H a o):∃ u,H a = some u:=by
 cases o with
 | lst ds=>obtain ⟨vs,e1,_⟩:=h; exact ⟨_,e1⟩
 | dct ks=>obtain ⟨vs,e1,_⟩:=h; exact ⟨_,e1⟩
 | dtv ps=>obtain ⟨vs,e1,_⟩:=h; exact ⟨_,e1⟩
 | dkv ps=>obtain ⟨vs,e1,_⟩:=h; exact ⟨_,e1⟩
 | dko ps=>obtain ⟨vs,e1,_⟩:=h; exact ⟨_,e1⟩
 | fdk o ps=>obtain ⟨vs,e1,_⟩:=h; exact ⟨_,e1⟩
 | lsv n xs=>obtain ⟨vs,e1,_⟩:=h; exact ⟨_,e1⟩
 | ext φ=>exact ⟨_,h⟩
 | gst N₀ H₀=>obtain ⟨⟨u,e1,_⟩,_⟩:=h; exact ⟨_,e1⟩
 | fdc o ks=>obtain ⟨vs,e1,_⟩:=h; exact ⟨_,e1⟩
 | fdt o ps=>obtain ⟨vs,e1,_⟩:=h; exact ⟨_,e1⟩
 | tab φ=>obtain ⟨⟨ps,e1,_⟩,_⟩:=h; exact ⟨_,e1⟩
structure ZF (K:Fk) (M:Mp) (H:Hp):Prop where
 ok:∀ a o,M a = some o->OOk K M H a o
theorem ZF.ls (r:ZF K M H) (a:Addr) (ds:List PyData) (h:M a = some (.lst ds)):∃ vs,H a = some (.lst vs) /\ Dts K M H vs ds:=r.ok a _ h
theorem ZF.tracked (r:ZF K M H) (h:H a = none):M a = none:=by
 cases q:M a with
 | none=>rfl
 | some o=>
  obtain ⟨u,e⟩:=(r.ok a o q).some;rw [h] at e;cases e
theorem Step.new {o:HO} (h:H p = none):Step M H M (upd H p o):=
 ⟨λ b u _ e=>by rw [ZH (ZA e h)]; exact e,λ _ _ h _=>h⟩
theorem ZF.step_same (r:ZF K M H) (st:Step M H M H') (hk:∀ a u,M a ≠ none->H a = some u->H' a = some u):ZF K M H':=
 ⟨λ a o e=>(r.ok a o e).step st λ u hu=>hk a u (by rw [e]; simp) hu⟩
theorem ZF.new (r:ZF K M H) {o:HO} (h:H p = none):ZF K M (upd H p o):=
 r.step_same (Step.new h) λ a vs _ e=>by rw [ZH (ZA e h)]; exact e
theorem Step.Jp {o:HO} {q:OO} (h:H p = none):Step M H (Z0 M p q) (upd H p o):=
 ⟨λ b u _ e=>by rw [ZH (ZA e h)]; exact e,λ b u hm e=>by rw [Zs (ZA e h)]; exact hm⟩
theorem Step.UO {o:HO} {q q':OO} (h:M p = some q):Step M H (Z0 M p q') (upd H p o):=by
 have ne:∀ b,M b = none->b ≠ p:=λ b hb e=>by rw [e,h] at hb; cases hb
 exact ⟨λ b u hb e=>by rw [ZH (ne b hb)]; exact e,λ b u hb e=>by rw [Zs (ne b hb)]; exact hb⟩
theorem ZF.Wo (r:ZF K M H) {u:HO} {o:OO} (st:Step M H (Z0 M p o) (upd H p u)) (h:OOk K (Z0 M p o) (upd H p u) p o):ZF K (Z0 M p o) (upd H p u):=by
 refine ⟨λ a q e=>?_⟩
 by_cases ha:a = p
 ·subst ha;rw [Zq] at e;cases e;exact h
 ·rw [Zs ha] at e;exact (r.ok a q e).step st λ v hv=>by rw [ZH ha]; exact hv
theorem ZF.XO (r:ZF K M H) (st:Step M H (Z0 M p (.lst ds)) (upd H p (.lst vs))) (hv:Dts K M H vs ds) :
  ZF K (Z0 M p (.lst ds)) (upd H p (.lst vs)):=r.Wo st ⟨vs,Qk,hv.step st⟩
theorem Step.frz:Step M H (V1 M p) H:=
 ⟨λ _ _ _ h=>h,λ b o hb _=>by unfold V1; split <;> first | rfl | exact hb⟩
theorem ZF.frz (r:ZF K M H):ZF K (V1 M p) H:=by
 refine ⟨λ a o e=>?_⟩;have hne:a ≠ p:=λ z=>by rw [z,Yq] at e; cases e
 rw [Jj hne] at e;exact (r.ok a o e).step Step.frz λ _ h=>h
def Ql (K:Fk) (M:Mp) (H:Hp) (v:V):DV->Prop
 | .dat d=>Dt K M H v d
 | .own a=>v = .ref a
 | .ty n=>v = .ty n
 | .mix xs=>Mx K M H v xs
theorem Ql.step {x:DV} (h:Ql K M H v x) (st:Step M H M' H'):Ql K M' H' v x:=by
 cases x with
 | dat d=>exact Dt.step st h
 | own a=>exact h
 | ty n=>exact h
 | mix xs=>exact Mx.step st h
abbrev JF (K:Fk) (M:Mp) (H:Hp):List V->List DV->Prop:=Paired (Ql K M H)
theorem JF.step {xs:List DV} (h:JF K M H vs xs) (st:Step M H M' H'):JF K M' H' vs xs:=Paired.Zb4 h λ _ _ q=>Ql.step q st
theorem JF.Zgt:∀ {vs:List V} {ds:List PyData},JF K M H vs (ds.map DV.dat)->Dts K M H vs ds
 | vs,[],h=>by rw [List.map_nil] at h; cases h; exact .nil
 | vs,d :: ds,h=>by
  rw [List.map_cons] at h;cases h with
  | cons h1 h2=>exact .cons h1 (JF.Zgt h2)
def onV (o:Option (Option DV)) (P:DV->Prop):Prop:=match o with | some (some x)=>P x | _=>False
theorem UU {o:Option (Option DV)} {P:DV->Prop} (h:onV o P):∃ x,o = some (some x) /\ P x:=by
 unfold onV at h
 split at h
 ·exact ⟨_,rfl,h⟩
 ·exact h.elim
def onI (x:DV) (P:Int->Prop):Prop:=match x with | .dat (.int i)=>P i | _=>False
theorem Rw (i:Int) (P:Int->Prop):onI (.dat (.int i)) P = P i:=rfl
theorem Zt {x:DV} {P:Int->Prop} (h:onI x P):∃ i,x = .dat (.int i) /\ P i:=by
 unfold onI at h
 split at h
 ·exact ⟨_,rfl,h⟩
 ·exact h.elim
def onB (x:DV) (P:Bool->Prop):Prop:=match x with | .dat (.bool i)=>P i | _=>False
theorem XQ {x:DV} {P:Bool->Prop} (h:onB x P):∃ i,x = .dat (.bool i) /\ P i:=by
 unfold onB at h
 split at h
 ·exact ⟨_,rfl,h⟩
 ·exact h.elim
def onS (x:DV) (P:Str->Prop):Prop:=match x with | .dat (.str i)=>P i | _=>False
theorem QU {x:DV} {P:Str->Prop} (h:onS x P):∃ i,x = .dat (.str i) /\ P i:=by
 unfold onS at h
 split at h
 ·exact ⟨_,rfl,h⟩
 ·exact h.elim
def onT (x:DV) (P:List PyData->Prop):Prop:=match x with | .dat (.tuple i)=>P i | _=>False
theorem Yv {x:DV} {P:List PyData->Prop} (h:onT x P):∃ i,x = .dat (.tuple i) /\ P i:=by
 unfold onT at h
 split at h
 ·exact ⟨_,rfl,h⟩
 ·exact h.elim
def onL (x:DV) (P:List PyData->Prop):Prop:=match x with | .dat (.list i)=>P i | _=>False
theorem C1 {x:DV} {P:List PyData->Prop} (h:onL x P):∃ i,x = .dat (.list i) /\ P i:=by
 unfold onL at h
 split at h
 ·exact ⟨_,rfl,h⟩
 ·exact h.elim
def onD (x:DV) (P:PyData->Prop):Prop:=match x with | .dat i=>P i | _=>False
theorem ZR {x:DV} {P:PyData->Prop} (h:onD x P):∃ i,x = .dat i /\ P i:=by
 unfold onD at h
 split at h
 ·exact ⟨_,rfl,h⟩
 ·exact h.elim
def onO (x:DV) (P:Addr->Prop):Prop:=match x with | .own i=>P i | _=>False
theorem ZW {x:DV} {P:Addr->Prop} (h:onO x P):∃ i,x = .own i /\ P i:=by
 unfold onO at h
 split at h
 ·exact ⟨_,rfl,h⟩
 ·exact h.elim
def JR (o:Option OO) (P:List PyData->Prop):Prop:=match o with | some (.lst ds)=>P ds | _=>False
theorem Vc (ds:List PyData) (P:List PyData->Prop):JR (some (.lst ds)) P = P ds:=rfl
theorem QF {o:Option OO} {P:List PyData->Prop} (h:JR o P):∃ ds,o = some (.lst ds) /\ P ds:=by
 unfold JR at h
 split at h
 ·exact ⟨_,rfl,h⟩
 ·exact h.elim
def Zaj (o:Option OO) (P:List (List Key)->Prop):Prop:=match o with | some (.dct ks)=>P ks | _=>False
def onQ (x:DV) (M:Mp) (P:List PyData->Prop):Prop:=match x with | .dat (.tuple ds)=>P ds | .dat (.list ds)=>P ds | .own l=>JR (M l) P | _=>False
theorem MB {x:DV} {M:Mp} {P:List PyData->Prop} (h:onQ x M P):∃ ds,(x = .dat (.tuple ds) \/ x = .dat (.list ds) \/ ∃ l,x = .own l /\ M l = some (.lst ds)) /\ P ds:=by
 unfold onQ at h
 split at h
 ·exact ⟨_,.inl rfl,h⟩
 ·exact ⟨_,.inr (.inl rfl),h⟩
 ·replace h:=QF h;obtain ⟨ds,e,h⟩:=h;exact ⟨ds,.inr (.inr ⟨_,rfl,e⟩),h⟩
 ·exact h.elim
def onK (x:DV) (M:Mp) (P:List PyData->Prop):Prop:=match x with | .dat (.list ds)=>P ds | .own l=>JR (M l) P | _=>False
theorem We {x:DV} {M:Mp} {P:List PyData->Prop} (h:onK x M P):∃ ds,(x = .dat (.list ds) \/ ∃ l,x = .own l /\ M l = some (.lst ds)) /\ P ds:=by
 unfold onK at h
 split at h
 ·exact ⟨_,.inl rfl,h⟩
 ·replace h:=QF h;obtain ⟨ds,e,h⟩:=h;exact ⟨ds,.inr ⟨_,rfl,e⟩,h⟩
 ·exact h.elim
def on1 (xs:List DV) (P:DV->Prop):Prop:=match xs with | [x]=>P x | _=>False
theorem Zu {xs:List DV} {P:DV->Prop} (h:on1 xs P):∃ x,xs = [x] /\ P x:=by
 unfold on1 at h
 split at h
 ·exact ⟨_,rfl,h⟩
 ·exact h.elim
def on2 (xs:List DV) (P:DV->DV->Prop):Prop:=match xs with | [x,y]=>P x y | _=>False
theorem ZK {xs:List DV} {P:DV->DV->Prop} (h:on2 xs P):∃ x y,xs = [x,y] /\ P x y:=by
 unfold on2 at h
 split at h
 ·exact ⟨_,_,rfl,h⟩
 ·exact h.elim
def on3 (xs:List DV) (P:DV->DV->DV->Prop):Prop:=match xs with | [x,y,z]=>P x y z | _=>False
theorem QT {xs:List DV} {P:DV->DV->DV->Prop} (h:on3 xs P):∃ x y z,xs = [x,y,z] /\ P x y z:=by
 unfold on3 at h
 split at h
 ·exact ⟨_,_,_,rfl,h⟩
 ·exact h.elim
def on4 (xs:List DV) (P:DV->DV->DV->DV->Prop):Prop:=match xs with | [x0,x1,x2,x3]=>P x0 x1 x2 x3 | _=>False
def on5 (xs:List DV) (P:DV->DV->DV->DV->DV->Prop):Prop:=match xs with | [x0,x1,x2,x3,x4]=>P x0 x1 x2 x3 x4 | _=>False
def on6 (xs:List DV) (P:DV->DV->DV->DV->DV->DV->Prop):Prop:=match xs with | [x0,x1,x2,x3,x4,x5]=>P x0 x1 x2 x3 x4 x5 | _=>False
noncomputable def Nq:List DV->Option (List PyData)
 | []=>some []
 | .dat d :: r=>match Nq r with | some ds=>some (d :: ds) | none=>none
 | _ :: _=>none
theorem Dv:∀ {xs:List DV} {ds:List PyData},Nq xs = some ds->xs = ds.map DV.dat
 | [],_,h=>by cases h; rfl
 | .dat d :: r,ds,h=>by
  rw [Nq] at h
  split at h
  ·rename_i es e;cases h;rw [List.map_cons,<- Dv e]
  ·cases h
 | .own _ :: _,_,h=>by cases h
 | .ty _ :: _,_,h=>by cases h
 | .mix _ :: _,_,h=>by cases h
def Kk (xs:List DV) (P:List PyData->Prop):Prop:=match Nat.ble xs.length 100 with
 | true=>(match Nq xs with | some ds=>P ds | none=>False)
 | false=>False
theorem Bx {xs:List DV} {P:List PyData->Prop} (h:Kk xs P):∃ ds,xs = ds.map DV.dat /\ ds.length <= 100 /\ P ds:=by
 unfold Kk at h
 split at h
 ·rename_i e
  split at h
  ·rename_i ds e2;have e3:=Dv e2;refine ⟨ds,e3,?_,h⟩;have e4:=Nat.le_of_ble_eq_true e
   rwa [e3,List.length_map] at e4
  ·exact h.elim
 ·exact h.elim
abbrev DSt:=List (Option DV)
structure QV (K:Fk) (M:Mp) (H:Hp) (Z:L2.St) (Δ:DSt):Prop where
 len:Z.length = Δ.length
 at':∀ (i:Nat) (x:DV),Δ[i]? = some (some x)->∃ v,Z[i]? = some (some v) /\ Ql K M H v x
theorem QV.step {Z:L2.St} {Δ:DSt} (h:QV K M H Z Δ) (st:Step M H M' H'):QV K M' H' Z Δ:=
 ⟨h.len,λ i x e=>let ⟨v,e1,e2⟩:=h.at' i x e; ⟨v,e1,e2.step st⟩⟩
theorem QV.set {Z:L2.St} {Δ:DSt} {x:DV} (h:QV K M H Z Δ) (r:Ql K M H v x):QV K M H (Z.set i (some v)) (Δ.set i (some x)):=by
 refine ⟨by rw [List.length_set,List.length_set,h.len],λ j y e=>?_⟩
 by_cases hj:i = j
 ·subst hj
  by_cases hl:i < Δ.length
  ·rw [List.getElem?_set_self hl] at e;cases e;exact ⟨v,List.getElem?_set_self (by rw [h.len]; exact hl),r⟩
  ·rw [List.getElem?_eq_none (by rw [List.length_set]; lia)] at e;cases e
 ·rw [List.getElem?_set_ne hj] at e;rw [List.getElem?_set_ne hj];exact h.at' j y e
noncomputable def J2 (N:List Str) (xs:List DV):DSt:=xs.map some ++ List.replicate (N.length - xs.length) none
theorem Paired.ZgT {α β:Type} {F:α->β->Prop}:∀ {l:List α} {m:List β} {i:Nat} {b:β},Paired F l m->m[i]? = some b->∃ a,l[i]? = some a /\ F a b
 | _,_,_,_,.nil,e=>by simp at e
 | _,_,0,_,.cons h _,e=>by simp at e; subst e; exact ⟨_,rfl,h⟩
 | _,_,i + 1,b,.cons _ h,e=>by
  obtain ⟨a,h1,h2⟩:=Paired.ZgT (i:=i) (b:=b) h (by simpa using e);exact ⟨a,by simpa using h1,h2⟩
theorem QV.start {xs:List DV} (h:JF K M H vs xs):QV K M H (start N vs) (J2 N xs):=by
 have hl:vs.length = xs.length:=Paired.length h;refine ⟨by unfold L2.start J2; simp [hl],λ i x e=>?_⟩;unfold J2 at e;unfold L2.start
 by_cases hi:i < xs.length
 ·rw [List.getElem?_append_left (by simpa using hi),List.getElem?_map] at e;cases q:xs[i]? with
  | none=>rw [q] at e; cases e
  | some y=>
   rw [q] at e;cases e;obtain ⟨v,h1,h2⟩:=Paired.ZgT h q;exact ⟨v,by rw [List.getElem?_append_left (by simpa [hl] using hi),List.getElem?_map,h1]; rfl,h2⟩
 ·rw [List.getElem?_append_right (by simpa using hi),List.getElem?_replicate] at e
  split at e <;> cases e
end
abbrev DK:=DV->Mp->Prop
abbrev DTE:=DSt->Mp->DK->Prop
abbrev DTT:=DSt->Mp->(Bool->Mp->Prop)->Prop
abbrev DTA:=DSt->Mp->(List DV->Mp->Prop)->Prop
structure Z9 where
 nx:DSt->Mp->Prop
 rt:DK
 bk:DSt->Mp->Prop:=λ _ _=>False
 ct:DSt->Mp->Prop:=λ _ _=>False
abbrev DTS:=Z9->DSt->Mp->Prop
def Rch (K:Fk) (M:Mp) (H:Hp) (Φ:DK) (Q:VK):Prop:=∀ v H' x M',ZF K M' H'->Step M H M' H'->Ql K M' H' v x->Φ x M'->Q v H'
theorem Rch.step {M M':Mp} {Φ:DK} (h:Rch K M H Φ Q) (st:Step M H M' H'):Rch K M' H' Φ Q:=λ v H2 x M2 r s2 q f=>h v H2 x M2 r (st.trans s2) q f
theorem Rch.dat {M M':Mp} {Φ:DK} (h:Rch K M H Φ Q) (r:ZF K M' H') (st:Step M H M' H') (hd:Dt K M' H' v d) (f:Φ (.dat d) M'):Q v H':=h v H' (.dat d) M' r st hd f
def DE (X:Cx) (e:Expr) (τ:DTE):Prop:=∃ t,PE X e t /\ ∀ Z H Δ M Φ Q,ZF X.K M H->QV X.K M H Z Δ->τ Δ M Φ->Rch X.K M H Φ Q->t Z H Q
def DT (X:Cx) (e:Expr) (τ:DTT):Prop:=∃ t,PT X e t /\ ∀ Z H Δ M Φ (Q:Bool->Hp->Prop),ZF X.K M H->QV X.K M H Z Δ->τ Δ M Φ ->
 (∀ b H' M',ZF X.K M' H'->Step M H M' H'->Φ b M'->Q b H')->t Z H Q
def DW (X:Cx) (e:Expr) (τ:DTT):Prop:=∃ t,PW X e t /\ ∀ Z H Δ M Φ (Q:Bool->Hp->Prop),ZF X.K M H->QV X.K M H Z Δ->τ Δ M Φ ->
 (∀ b H' M',ZF X.K M' H'->Step M H M' H'->Φ b M'->Q b H')->t Z H Q
def DA (X:Cx) (es:List Expr) (τ:DTA):Prop:=∃ t,PA X es t /\ ∀ Z H Δ M Φ (Q:List V->Hp->Prop),ZF X.K M H->QV X.K M H Z Δ->τ Δ M Φ ->
 (∀ vs H' xs M',ZF X.K M' H'->Step M H M' H'->JF X.K M' H' vs xs->Φ xs M'->Q vs H')->t Z H Q
structure XZ (K:Fk) (M:Mp) (H:Hp) (D:Z9) (E:Ends):Prop where
 nx:∀ σ' H' Δ' M',ZF K M' H'->Step M H M' H'->QV K M' H' σ' Δ'->D.nx Δ' M'->E.nx σ' H'
 rt:Rch K M H D.rt E.rt
 bk:∀ σ' H' Δ' M',ZF K M' H'->Step M H M' H'->QV K M' H' σ' Δ'->D.bk Δ' M'->E.bk σ' H'
 ct:∀ σ' H' Δ' M',ZF K M' H'->Step M H M' H'->QV K M' H' σ' Δ'->D.ct Δ' M'->E.ct σ' H'
theorem XZ.step {M M':Mp} {D:Z9} {E:Ends} (h:XZ K M H D E) (st:Step M H M' H'):XZ K M' H' D E:=
 ⟨λ a b c d r s=>h.nx a b c d r (st.trans s),h.rt.step st,λ a b c d r s=>h.bk a b c d r (st.trans s),λ a b c d r s=>h.ct a b c d r (st.trans s)⟩
def DS (X:Cx) (st:Stmt) (τ:DTS):Prop:=∃ t,PS X st t /\ ∀ Z H Δ M D E,ZF X.K M H->QV X.K M H Z Δ->τ D Δ M->XZ X.K M H D E->t E Z H
def DSs (X:Cx) (st:List Stmt) (τ:DTS):Prop:=∃ t,PSs X st t /\ ∀ Z H Δ M D E,ZF X.K M H->QV X.K M H Z Δ->τ D Δ M->XZ X.K M H D E->t E Z H
section
variable {a b c:Expr} {ta tb tc:DTE}
def Zh6 (i:Nat):DTE:=λ Δ M Φ=>onV Δ[i]? λ x=>Φ x M
def dC (d:PyData):DTE:=λ _ M Φ=>Φ (.dat d) M
theorem Zb (i:Nat) {pos:Pos} (hN:autoParam (X.N[i]? = some x) zz3._auto_1) (hv:autoParam (Vis X.env.scope x) zz5._auto_1) (hd:autoParam ((x == ("__debug__" : Str)) = false) zz1._auto_1)
  (hcd:autoParam ((x == ("__classdict__" : Str)) = false) zz1._auto_1):DE X (.Name x pos) (Zh6 i):=by
 refine ⟨_,Rv hN hv hd hcd,λ Z H Δ M Φ Q r e h k=>?_⟩;replace h:=UU h;obtain ⟨x,e1,h⟩:=h;obtain ⟨v,e2,q⟩:=e.at' i x e1;exact ⟨v,e2,k v H x M r Step.refl q h⟩
theorem Yb (h:PE X e (tC v)) (q:∀ M H,Dt X.K M H v d):DE X e (dC d):=
 ⟨_,h,λ _ H _ M _ _ r _ h k=>k v H (.dat d) M r Step.refl (q M H) h⟩
theorem Zc {i j pos}:DE X (.Constant (.int i) j pos) (dC (.int i)):=Yb Zf9 λ _ _=>.int i
theorem Y9 {b j pos}:DE X (.Constant (.bool b) j pos) (dC (.bool b)):=Yb Zif λ _ _=>.bl b
theorem Sw {j pos}:DE X (.Constant .none j pos) (dC .none):=Yb Zco λ _ _=>.non
theorem Zv {x j pos}:DE X (.Constant (.str x) j pos) (dC (.str x)):=Yb R1 λ _ _=>.str x
theorem Q3 {i:Int} {t:Tok} (hg:Gl X x) (hm:X.mg x = some (.int i t)) (hd:autoParam ((x == ("__debug__" : Str)) = false) zz1._auto_1):DE X (.Name x pos) (dC (.int i)):=
 Yb (Zbb (v:=.int i) hg hm ⟨t,rfl⟩ hd) λ _ _=>.int i
def dTy (n:String):DTE:=λ _ M Φ=>Φ (.ty n) M
theorem B7 {n:String} (hg:Gl X x) (hm:X.mg x = none) (hv:bootBuiltins x = some (.type n)) (hn:autoParam (x ≠ "__name__") zz1._auto_1) (hdb:autoParam ((x == ("__debug__" : Str)) = false) zz1._auto_1):DE X (.Name x pos) (dTy n):=
 ⟨_,ZbF (v:=.ty n) hg hm hv rfl hn hdb,λ _ H _ M _ _ r _ h k=>k (.ty n) H (.ty n) M r Step.refl rfl h⟩
end
end DL
open DL
variable {M M':Mp} {te:DTE} {o:OO} {Δ:DSt} {tc:DTT} {r:Addr} {ta:DTA} {Φ:DK}
namespace DL
theorem Ql.bool {b:Bool} (h:Ql K M H v (.dat (.bool b))):v = .bl b:=by cases (show Dt K M H v (.bool b) from h); rfl
theorem Ql.int {i:Int} (h:Ql K M H v (.dat (.int i))):v = .int i:=by cases (show Dt K M H v (.int i) from h); rfl
theorem Ql.str (h:Ql K M H v (.dat (.str x))):v = .str x:=by cases (show Dt K M H v (.str x) from h); rfl
theorem Ql.tup (h:Ql K M H v (.dat (.tuple ds))):∃ a xs,v = .ref a /\ TupAt K M H a xs /\ Dts K M H xs ds:=by
 cases (show Dt K M H v (.tuple ds) from h) with
 | tup h1 h2=>exact ⟨_,_,rfl,h1,h2⟩
theorem Ql.lst (h:Ql K M H v (.dat (.list ds))):∃ a xs,v = .ref a /\ LstAt K M H a xs /\ Dts K M H xs ds:=by
 cases (show Dt K M H v (.list ds) from h) with
 | lst h1 h2=>exact ⟨_,_,rfl,h1,h2⟩
theorem Dt.Kr (r:ZF K M H) (hp:H p = none) (h:Dts K M H xs ds):Dt K M (upd H p (.tup xs)) (.ref p) (.tuple ds):=
 .tup (.inl ⟨r.tracked hp,.inl Qk⟩) (h.step (Step.new hp))
theorem Dt.Xx (r:ZF K M H) (hp:H p = none) (h:Dts K M H xs ds):Dt K M (upd H p (.lst xs)) (.ref p) (.list ds):=
 .lst (.inl ⟨r.tracked hp,.inl Qk⟩) (h.step (Step.new hp))
def Snd (K:Fk) (t:TE) (τ:DTE):Prop:=∀ Z H Δ M Φ Q,ZF K M H->QV K M H Z Δ->τ Δ M Φ->Rch K M H Φ Q->t Z H Q
theorem Snd.bin {ta tb:TE} {τa τb:DTE} (qa:Snd K ta τa) (qb:Snd K tb τb) {Z:L2.St} {S:DV->DV->Mp->Prop} {R:V->V->Hp->Prop} (r:ZF K M H) (e:QV K M H Z Δ)
  (h:τa Δ M λ x M1=>τb Δ M1 λ y M2=>S x y M2)
  (k:∀ v u H2 x y M2,ZF K M2 H2->Step M H M2 H2->Ql K M2 H2 v x->Ql K M2 H2 u y->S x y M2->R v u H2):ta Z H λ v H1=>tb Z H1 λ u H2=>R v u H2:=
 qa Z H Δ M _ _ r e h λ v H1 x M1 r1 st rv hx=>qb Z H1 Δ M1 _ _ r1 (e.step st) hx λ u H2 y M2 r2 st2 ru hy=>k v u H2 x y M2 r2 (st.trans st2) (rv.step st2) ru hy
abbrev D2:=DV->DV->Mp->DK->Prop
def OpD (X:Cx) (f:Value->Value->Sem Value) (δ:D2):Prop:=∃ r:R2,OpR X f r /\ ∀ v u H x y M Φ Q,ZF X.K M H->Ql X.K M H v x->Ql X.K M H u y->δ x y M Φ->Rch X.K M H Φ Q->r v u H Q
def dOp (δ:D2) (ta tb:DTE):DTE:=λ Δ M Φ=>ta Δ M λ x M1=>tb Δ M1 λ y M2=>δ x y M2 Φ
section
variable {a b c:Expr} {ta tb tc:DTE} {op op':CmpOp} {δ δ':D2}
theorem Snd.opn {ta' tb':TE} {r:R2} (ha:Snd X.K ta' ta) (hb:Snd X.K tb' tb) (q:∀ v u H x y M Φ Q,ZF X.K M H->Ql X.K M H v x->Ql X.K M H u y->δ x y M Φ->Rch X.K M H Φ Q->r v u H Q):Snd X.K (tOp r ta' tb') (dOp δ ta tb):=
 λ _ _ _ _ _ _ dr e h k=>Snd.bin ha hb dr e h λ v u H2 x y M2 r2 st rv ru hs=>q v u H2 x y M2 _ _ r2 rv ru hs (k.step st)
theorem Zj {bop:Operator} (ho:OpD X (binaryOp bop) δ) (ha:DE X a ta) (hb:DE X b tb):DE X (.BinOp a bop b pos) (dOp δ ta tb):=by
 obtain ⟨ta',pa,qa⟩:=ha;obtain ⟨tb',pb,qb⟩:=hb;obtain ⟨r,hr,q⟩:=ho;exact ⟨_,Zhf hr pa pb,Snd.opn qa qb q⟩
theorem QE (ho:OpD X (compareOp op) δ) (ha:DE X a ta) (hb:DE X b tb) (hm:autoParam (behindInMarks op b = false) zz6._auto_1):DE X (.Compare a [op] [b] pos) (dOp δ ta tb):=by
 obtain ⟨ta',pa,qa⟩:=ha;obtain ⟨tb',pb,qb⟩:=hb;obtain ⟨r,hr,q⟩:=ho;exact ⟨_,ZaX hr pa pb hm,Snd.opn qa qb q⟩
def dB (t:DTE):DTT:=λ Δ M Φ=>t Δ M λ x M1=>onB x λ c=>Φ c M1
theorem Snd.test {t:TE} {τ:DTE} (h:Snd X.K t τ) {Z:L2.St} {Φ:Bool->Mp->Prop} {Q:Bool->Hp->Prop} (r:ZF X.K M H) (e:QV X.K M H Z Δ) (hw:dB τ Δ M Φ)
  (k:∀ b H' M',ZF X.K M' H'->Step M H M' H'->Φ b M'->Q b H'):t Z H λ x H1=>∃ c,x = .bl c /\ Q c H1:=by
 refine h Z H Δ M _ _ r e hw λ v H1 x M1 r1 st rv hx=>?_;replace hx:=XQ hx;obtain ⟨c,rfl,hx⟩:=hx;exact ⟨c,rv.bool,k c H1 M1 r1 st hx⟩
theorem Z7 (ho:OpD X (compareOp op) δ) (ha:DE X a ta) (hb:DE X b tb) (hm:autoParam (behindInMarks op b = false) zz6._auto_1):DT X (.Compare a [op] [b] pos) (dB (dOp δ ta tb)):=by
 obtain ⟨ta',pa,qa⟩:=ha;obtain ⟨tb',pb,qb⟩:=hb;obtain ⟨r,hr,q⟩:=ho;exact ⟨_,Za3 hr pa pb hm,λ _ _ _ _ _ _ dr e h k=>Snd.test (Snd.opn qa qb q) dr e h k⟩
theorem QY {τ:DTE} (h:DE X e τ) (he:autoParam (∀ whole,isTrue e X.env whole = (do let v <- whole; standAt e.pos; holding [v] (truthy v))) zz2._auto_1):DT X e (dB τ):=by
 obtain ⟨t,p,q⟩:=h;exact ⟨_,ZeL p he,λ _ _ _ _ _ _ dr e h k=>Snd.test q dr e h k⟩
def DU (δ δ':D2) (ta tb tc:DTE):DTE:=λ Δ M Φ=>ta Δ M λ x M1=>tb Δ M1 λ y M2=>δ x y M2 λ z M3=>onB z λ k=>(if k = true then tc Δ M3 λ w' M4=>δ' y w' M4 Φ else Φ (.dat (.bool false)) M3)
theorem Snd.chain {ta' tb' tc':TE} {r r':R2} (ha:Snd X.K ta' ta) (hb:Snd X.K tb' tb) (hc:Snd X.K tc' tc) (q:∀ v u H x y M Φ Q,ZF X.K M H->Ql X.K M H v x->Ql X.K M H u y->δ x y M Φ->Rch X.K M H Φ Q->r v u H Q)
  (q':∀ v u H x y M Φ Q,ZF X.K M H->Ql X.K M H v x->Ql X.K M H u y->δ' x y M Φ->Rch X.K M H Φ Q->r' v u H Q):Snd X.K (Hb r r' ta' tb' tc') (DU δ δ' ta tb tc):=by
 intro Z H Δ M Φ Q dr e h k;refine Snd.bin ha hb dr e h λ v u H2 x y M2 r2 st rv ru hs=>?_;refine q v u H2 x y M2 _ _ r2 rv ru hs λ z H3 zd M3 r3 st3 rz hz=>?_;replace hz:=XQ hz;obtain ⟨kb,rfl,hz⟩:=hz;refine ⟨kb,rz.bool,?_⟩;cases kb with
 | true=>
  have hz':tc Δ M3 λ w' M4=>δ' y w' M4 Φ:=by simpa using hz
  rw [if_pos rfl];refine hc Z H3 Δ M3 _ _ r3 (e.step (st.trans st3)) hz' λ w' H4 wd M4 r4 st4 rw4 hw4=>?_;exact q' u w' H4 y wd M4 _ _ r4 (ru.step (st3.trans st4)) rw4 hw4 (k.step (st.trans (st3.trans st4)))
 | false=>
  have hz':Φ (.dat (.bool false)) M3:=by simpa using hz
  rw [if_neg Bool.false_ne_true];exact k.dat r3 (st.trans st3) (Dt.bl false) hz'
theorem Us (ho:OpD X (compareOp op) δ) (ho':OpD X (compareOp op') δ') (ha:DE X a ta) (hb:DE X b tb) (hc:DE X c tc) (hm:autoParam (lastMarks [op,op'] [b,c] = false) zz4._auto_1) :
  DE X (.Compare a [op,op'] [b,c] pos) (DU δ δ' ta tb tc):=by
 obtain ⟨ta',pa,qa⟩:=ha;obtain ⟨tb',pb,qb⟩:=hb;obtain ⟨tc',pc,qc⟩:=hc;obtain ⟨r,hr,q⟩:=ho;obtain ⟨r',hr',q'⟩:=ho';exact ⟨_,Ol hr hr' pa pb pc hm,Snd.chain qa qb qc q q'⟩
theorem WR (ho:OpD X (compareOp op) δ) (ho':OpD X (compareOp op') δ') (ha:DE X a ta) (hb:DE X b tb) (hc:DE X c tc) (hm:autoParam (lastMarks [op,op'] [b,c] = false) zz4._auto_1) :
  DT X (.Compare a [op,op'] [b,c] pos) (dB (DU δ δ' ta tb tc)):=by
 obtain ⟨ta',pa,qa⟩:=ha;obtain ⟨tb',pb,qb⟩:=hb;obtain ⟨tc',pc,qc⟩:=hc;obtain ⟨r,hr,q⟩:=ho;obtain ⟨r',hr',q'⟩:=ho';exact ⟨_,ND hr hr' pa pb pc hm,λ _ _ _ _ _ _ dr e h k=>Snd.test (Snd.chain qa qb qc q q') dr e h k⟩
variable {tA tB':DTT} {rest:List Expr}
def Zi6 (t u:DTT):DTT:=λ Δ M Φ=>t Δ M λ c M1=>if c = true then u Δ M1 Φ else Φ false M1
def dOr (t u:DTT):DTT:=λ Δ M Φ=>t Δ M λ c M1=>if c = true then Φ true M1 else u Δ M1 Φ
def Ziq (t:DTT):DTT:=λ Δ M Φ=>t Δ M λ c M1=>Φ (!c) M1
theorem DW.dt {τ:DTT} (h:DW X e τ):DT X e τ:=by
 obtain ⟨t,p,q⟩:=h;exact ⟨t,p.pt,q⟩
theorem CG (ha:DT X a tA):DW X (.BoolOp .And [a] pos) tA:=by
 obtain ⟨t,p,q⟩:=ha;exact ⟨t,S2 p,q⟩
theorem Y2 (ha:DT X a tA):DW X (.BoolOp .Or [a] pos) tA:=by
 obtain ⟨t,p,q⟩:=ha;exact ⟨t,Zdp p,q⟩
theorem Ht (ha:DT X a tA) (hb:DW X (.BoolOp .And (b :: rest) pos) tB'):DW X (.BoolOp .And (a :: b :: rest) pos) (Zi6 tA tB'):=by
 obtain ⟨t,p,q⟩:=ha;obtain ⟨u,p2,q2⟩:=hb;refine ⟨_,Zc0 p p2,λ Z H Δ M Φ Q r e h k=>?_⟩;refine q Z H Δ M _ _ r e h λ c H1 M1 r1 st hc=>?_;cases c with
 | true=>rw [if_pos rfl]; exact q2 Z H1 Δ M1 Φ Q r1 (e.step st) (by simpa using hc) λ b H2 M2 r2 st2 hb=>k b H2 M2 r2 (st.trans st2) hb
 | false=>rw [if_neg Bool.false_ne_true]; exact k false H1 M1 r1 st (by simpa using hc)
theorem GV (ha:DT X a tA) (hb:DW X (.BoolOp .Or (b :: rest) pos) tB'):DW X (.BoolOp .Or (a :: b :: rest) pos) (dOr tA tB'):=by
 obtain ⟨t,p,q⟩:=ha;obtain ⟨u,p2,q2⟩:=hb;refine ⟨_,ZhO p p2,λ Z H Δ M Φ Q r e h k=>?_⟩;refine q Z H Δ M _ _ r e h λ c H1 M1 r1 st hc=>?_;cases c with
 | false=>rw [if_neg Bool.false_ne_true]; exact q2 Z H1 Δ M1 Φ Q r1 (e.step st) (by simpa using hc) λ b H2 M2 r2 st2 hb=>k b H2 M2 r2 (st.trans st2) hb
 | true=>rw [if_pos rfl]; exact k true H1 M1 r1 st (by simpa using hc)
theorem QD (ha:DT X a tA):DT X (.UnaryOp .Not a pos) (Ziq tA):=by
 obtain ⟨t,p,q⟩:=ha;exact ⟨_,ZfB p,λ Z H Δ M Φ Q r e h k=>q Z H Δ M _ _ r e h λ c H1 M1 r1 st hc=>k _ H1 M1 r1 st hc⟩
def ZcT (ta tb:DTE):DTE:=λ Δ M Φ=>ta Δ M λ x M1=>onB x λ c=>if c = true then tb Δ M1 Φ else Φ (.dat (.bool false)) M1
def Zir (ta tb:DTE):DTE:=λ Δ M Φ=>ta Δ M λ x M1=>onB x λ c=>if c = true then Φ (.dat (.bool true)) M1 else tb Δ M1 Φ
def Zcb (ta:DTE):DTE:=λ Δ M Φ=>ta Δ M λ x M1=>onB x λ c=>Φ (.dat (.bool (!c))) M1
theorem Jg {bop} (h:DE X a ta):DE X (.BoolOp bop [a] pos) ta:=by
 obtain ⟨t,p,q⟩:=h;exact ⟨t,ZfA p,q⟩
theorem Qt (ha:DE X a ta) (hb:DE X (.BoolOp .And (b :: rest) pos) tb):DE X (.BoolOp .And (a :: b :: rest) pos) (ZcT ta tb):=by
 obtain ⟨t,p,q⟩:=ha;obtain ⟨u,p2,q2⟩:=hb;refine ⟨_,Zdx p p2,λ Z H Δ M Φ Q r e h k=>?_⟩;refine q Z H Δ M _ _ r e h λ v H1 x M1 r1 st rv hx=>?_;replace hx:=XQ hx;obtain ⟨c,rfl,hx⟩:=hx;refine ⟨c,rv.bool,?_⟩;cases c with
 | true=>rw [if_pos rfl]; exact q2 Z H1 Δ M1 Φ Q r1 (e.step st) (by simpa using hx) (k.step st)
 | false=>rw [if_neg Bool.false_ne_true]; exact k.dat r1 st (Dt.bl false) (by simpa using hx)
theorem ZgJ (ha:DE X a ta) (hb:DE X (.BoolOp .Or (b :: rest) pos) tb):DE X (.BoolOp .Or (a :: b :: rest) pos) (Zir ta tb):=by
 obtain ⟨t,p,q⟩:=ha;obtain ⟨u,p2,q2⟩:=hb;refine ⟨_,Zhy p p2,λ Z H Δ M Φ Q r e h k=>?_⟩;refine q Z H Δ M _ _ r e h λ v H1 x M1 r1 st rv hx=>?_;replace hx:=XQ hx;obtain ⟨c,rfl,hx⟩:=hx;refine ⟨c,rv.bool,?_⟩;cases c with
 | false=>rw [if_neg Bool.false_ne_true]; exact q2 Z H1 Δ M1 Φ Q r1 (e.step st) (by simpa using hx) (k.step st)
 | true=>rw [if_pos rfl]; exact k.dat r1 st (Dt.bl true) (by simpa using hx)
theorem ZdI (ha:DE X a ta):DE X (.UnaryOp .Not a pos) (Zcb ta):=by
 obtain ⟨t,p,q⟩:=ha;refine ⟨_,ZeT p,λ Z H Δ M Φ Q r e h k=>?_⟩;refine q Z H Δ M _ _ r e h λ v H1 x M1 r1 st rv hx=>?_;replace hx:=XQ hx;obtain ⟨c,rfl,hx⟩:=hx;exact ⟨c,rv.bool,k.dat r1 st (Dt.bl (!c)) hx⟩
def dIf (t:DTT) (ta tb:DTE):DTE:=λ Δ M Φ=>t Δ M λ c M1=>if c = true then ta Δ M1 Φ else tb Δ M1 Φ
theorem ZbR (hc:DT X c tA) (ha:DE X a ta) (hb:DE X b tb):DE X (.IfExp c a b pos) (dIf tA ta tb):=by
 obtain ⟨t,p,q⟩:=hc;obtain ⟨u,p2,q2⟩:=ha;obtain ⟨w,p3,q3⟩:=hb;refine ⟨_,O8 p p2 p3,λ Z H Δ M Φ Q r e h k=>?_⟩;refine q Z H Δ M _ _ r e h λ c H1 M1 r1 st hc=>?_;cases c with
 | true=>rw [if_pos rfl]; exact q2 Z H1 Δ M1 Φ Q r1 (e.step st) (by simpa using hc) (k.step st)
 | false=>rw [if_neg Bool.false_ne_true]; exact q3 Z H1 Δ M1 Φ Q r1 (e.step st) (by simpa using hc) (k.step st)
def Zi0 (g:Int->Int) (ta:DTE):DTE:=λ Δ M Φ=>ta Δ M λ x M1=>onI x λ i=>Φ (.dat (.int (g i))) M1
theorem Dc (ha:DE X a ta):DE X (.UnaryOp .USub a pos) (Zi0 (λ i=>-i) ta):=by
 obtain ⟨t,p,q⟩:=ha;refine ⟨_,Zh2 Zfn p,λ Z H Δ M Φ Q r e h k=>?_⟩;refine q Z H Δ M _ _ r e h λ v H1 x M1 r1 st rv hx=>?_;replace hx:=Zt hx;obtain ⟨i,rfl,hx⟩:=hx;exact ⟨i,rv.int,k.dat r1 st (Dt.int (-i)) hx⟩
def δI (C:Int->Int->Prop) (g:Int->Int->PyData):D2:=λ x y M Φ=>onI x λ i=>onI y λ j=>C i j /\ Φ (.dat (g i j)) M
def δI0 (g:Int->Int->PyData):D2:=λ x y M Φ=>onI x λ i=>onI y λ j=>Φ (.dat (g i j)) M
theorem Zdo {f:Value->Value->Sem Value} {C:Int->Int->Prop} {g:Int->Int->Int} (h:OpR X f (rI C λ i j=>.int (g i j))):OpD X f (δI C λ i j=>.int (g i j)):=
 ⟨_,h,λ v u H x y M Φ Q r rv ru h k=>by
  replace h:=Zt h;obtain ⟨i,e1,h⟩:=h;replace h:=Zt h;obtain ⟨j,e2,hc,q⟩:=h;subst e1 e2
  exact ⟨i,j,rv.int,ru.int,hc,k.dat r Step.refl (Dt.int _) q⟩⟩
theorem T6 {f:Value->Value->Sem Value} {g:Int->Int->Int} (h:OpR X f (rI0 λ i j=>.int (g i j))):OpD X f (δI0 λ i j=>.int (g i j)):=
 ⟨_,h,λ v u H x y M Φ Q r rv ru h k=>by
  replace h:=Zt h;obtain ⟨i,e1,h⟩:=h;replace h:=Zt h;obtain ⟨j,e2,q⟩:=h;subst e1 e2
  exact ⟨i,j,rv.int,ru.int,k.dat r Step.refl (Dt.int _) q⟩⟩
theorem PB {f:Value->Value->Sem Value} {g:Int->Int->Bool} (h:OpR X f (rI0 λ i j=>.bl (g i j))):OpD X f (δI0 λ i j=>.bool (g i j)):=
 ⟨_,h,λ v u H x y M Φ Q r rv ru h k=>by
  replace h:=Zt h;obtain ⟨i,e1,h⟩:=h;replace h:=Zt h;obtain ⟨j,e2,q⟩:=h;subst e1 e2
  exact ⟨i,j,rv.int,ru.int,k.dat r Step.refl (Dt.bl _) q⟩⟩
theorem Zx:OpD X (binaryOp .Add) (δI0 λ i j=>.int (i + j)):=T6 Zcg
theorem Qp:OpD X (binaryOp .Sub) (δI0 λ i j=>.int (i - j)):=T6 ZcC
theorem QO:OpD X (binaryOp .Mult) (δI Zb3 λ i j=>.int (i * j)):=Zdo Zdw
theorem Bq:OpD X (binaryOp .FloorDiv) (δI ZiT λ i j=>.int (i / j)):=Zdo Zaa
theorem JE:OpD X (binaryOp .Mod) (δI (λ _ j=>0 < j) λ i j=>.int (i % j)):=Zdo Ze9
theorem Vb:OpD X (binaryOp .Pow) (δI Zhn λ i j=>.int (i ^ j.toNat)):=Zdo Ze0
theorem LX:OpD X (compareOp .Lt) (δI0 λ i j=>.bool (decide (i < j))):=PB ZgI
theorem YO:OpD X (compareOp .LtE) (δI0 λ i j=>.bool (decide (i <= j))):=PB Zg7
theorem ZbS:OpD X (compareOp .Gt) (δI0 λ i j=>.bool (decide (j < i))):=PB ZgR
theorem Zfd:OpD X (compareOp .GtE) (δI0 λ i j=>.bool (decide (j <= i))):=PB Zh3
def δB (g:Bool->Bool->Bool):D2:=λ x y M Φ=>onB x λ c=>onB y λ d=>Φ (.dat (.bool (g c d))) M
def Zcw:D2:=λ x y M Φ=>onT x λ ds=>onT y λ es=>ds ≠ [] /\ ds.length + es.length <= sizeLine /\ Φ (.dat (.tuple (ds ++ es))) M
theorem Np:OpR X (binaryOp .Add) (λ x y H Q=>∃ l b xs zs,x = .ref l /\ y = .ref b /\ SqL X.K H l xs /\ SqL X.K H b zs /\ xs.length + zs.length <= sizeLine /\ ∀ p,H p = none->Q (.ref p) (upd H p (.lst (xs ++ zs)))):=by
 intro pins s Z H x y v u Q I rx ry h;obtain ⟨l,b,xs,zs,rfl,rfl,hl,hb,hz,q⟩:=h;cases rx;cases ry;obtain ⟨its,r1,p1,_⟩:=I.list hl;obtain ⟨its2,r2,p2,_⟩:=I.list hb;obtain ⟨⟨cls,dd,data,sl⟩,ho,hc,n,hd⟩:=p1.isList;obtain ⟨⟨cls2,dd2,data2,sl2⟩,ho2,hc2,n2,hd2⟩:=p2.isList;simp only at hc hd hc2 hd2;subst hc hd hc2 hd2;have e:its.toArray ++ its2.toArray = (its ++ its2).toArray:=by simp
 have hsz:its.toArray.size + its2.toArray.size <= sizeLine:=by rw [List.size_toArray,List.size_toArray,<- r1.length,<- r2.length]; exact hz
 refine concat_meets ⟨_,ho,rfl⟩ ⟨_,ho2,rfl⟩ noFill_list_add seq_list_add PySem.F.slot_list_add PySem.F.entry_list_add (PySem.F.args_list_add_2 _ _) (list_addW l b its.toArray its2.toArray n n2 dd dd2 sl sl2 hsz) ⟨ho,ho2,?_⟩;rw [e];exact ⟨.ref _,_,I.Zi5 (t':=s.toks) (r1.append r2) (by rw [List.length_append]; exact hz),rfl,q _ I.fresh⟩
def Zdf:D2:=λ x y M Φ=>onL x λ ds=>onL y λ es=>ds.length + es.length <= sizeLine /\ Φ (.dat (.list (ds ++ es))) M
def SY:D2:=λ x y M Φ=>onL x λ ds=>onL y λ es=>ds.length + es.length <= sizeLine /\ ∀ p,M p = none->Φ (.own p) (Z0 M p (.lst (ds ++ es)))
end
def ZiZ:DTA:=λ _ M Φ=>Φ [] M
def Zcs (ta:DTE) (tr:DTA):DTA:=λ Δ M Φ=>ta Δ M λ x M1=>tr Δ M1 λ xs M2=>Φ (x :: xs) M2
section
variable {t:DTA}
theorem Zd:DA X [] ZiZ:=⟨_,Dl,λ _ H _ M _ _ r _ h k=>k [] H [] M r Step.refl .nil h⟩
theorem Za (ha:DE X e te) (hr:DA X es t) (hs:autoParam (starEach (e :: es) X.env = (false,eval e X.env) :: starEach es X.env) zz3._auto_1):DA X (e :: es) (Zcs te t):=by
 obtain ⟨u,p,q⟩:=ha;obtain ⟨w,p2,q2⟩:=hr;refine ⟨_,W8 p p2 hs,λ Z H Δ M Φ Q r e h k=>?_⟩;refine q Z H Δ M _ _ r e h λ v H1 x M1 r1 st rv hx=>?_;exact q2 Z H1 Δ M1 _ _ r1 (e.step st) hx λ vs H2 xs M2 r2 st2 rvs hxs=>k (v :: vs) H2 (x :: xs) M2 r2 (st.trans st2) (.cons (rv.step st2) rvs) hxs
def ZiR (t:DTA):DTE:=λ Δ M Φ=>t Δ M λ xs M1=>Kk xs λ ds=>Φ (.dat (.tuple ds)) M1
def ZiP (t:DTA):DTE:=λ Δ M Φ=>t Δ M λ xs M1=>Kk xs λ ds=>Φ (.dat (.list ds)) M1
def Zex (t:DTA):DTE:=λ Δ M Φ=>t Δ M λ xs M1=>Kk xs λ ds=>∀ p,M1 p = none->Φ (.own p) (Z0 M1 p (.lst ds))
theorem ZG {x1} (h:DA X es t):DE X (.Tuple es x1 pos) (ZiR t):=by
 obtain ⟨u,p,q⟩:=h;refine ⟨_,ZeA p,λ Z H Δ M Φ Q r e h k=>?_⟩;refine q Z H Δ M _ _ r e h λ vs H1 xs M1 r1 st rv hx=>?_;replace hx:=Bx hx;obtain ⟨ds,rfl,hz',hx⟩:=hx;have hz:ds.length <= sizeLine:=by rw [sizeLine_eq]; lia
 have hd:=rv.Zgt;refine ⟨by rw [hd.length]; exact hz,λ p hp=>?_⟩;exact k.dat (r1.new hp) (st.trans (Step.new hp)) (Dt.Kr r1 hp hd) hx
theorem QC (h:DA X es t):DE X (.List es pos) (ZiP t):=by
 obtain ⟨u,p,q⟩:=h;refine ⟨_,Sb p,λ Z H Δ M Φ Q r e h k=>?_⟩;refine q Z H Δ M _ _ r e h λ vs H1 xs M1 r1 st rv hx=>?_;replace hx:=Bx hx;obtain ⟨ds,rfl,hz',hx⟩:=hx;have hz:ds.length <= sizeLine:=by rw [sizeLine_eq]; lia
 have hd:=rv.Zgt;refine ⟨by rw [hd.length]; exact hz,λ p hp=>?_⟩;exact k.dat (r1.new hp) (st.trans (Step.new hp)) (Dt.Xx r1 hp hd) hx
theorem VR (h:DA X es t):DE X (.List es pos) (Zex t):=by
 obtain ⟨u,p,q⟩:=h;refine ⟨_,Sb p,λ Z H Δ M Φ Q r e h k=>?_⟩;refine q Z H Δ M _ _ r e h λ vs H1 xs M1 r1 st rv hx=>?_;replace hx:=Bx hx;obtain ⟨ds,rfl,hz',hx⟩:=hx;have hz:ds.length <= sizeLine:=by rw [sizeLine_eq]; lia
 have hd:=rv.Zgt;refine ⟨by rw [hd.length]; exact hz,λ p hp=>?_⟩;exact k _ _ (.own p) _ (r1.XO (Step.Jp hp) hd) (st.trans (Step.Jp hp)) rfl (hx p (r1.tracked hp))
def ZiJ (t:DTE):DTE:=λ Δ M Φ=>t Δ M λ x M1=>onO x λ l=>JR (M1 l) λ ds=>Φ (.dat (.list ds)) (V1 M1 l)
theorem La (h:DE X e te):DE X e (ZiJ te):=by
 obtain ⟨u,p,q⟩:=h;refine ⟨u,p,λ Z H Δ M Φ Q r e h k=>?_⟩;refine q Z H Δ M _ _ r e h λ v H1 x M1 r1 st rv hx=>?_;replace hx:=ZW hx;obtain ⟨l,rfl,hx⟩:=hx;replace hx:=QF hx;obtain ⟨ds,hm,hx⟩:=hx;obtain ⟨vs,e1,e2⟩:=r1.ls l ds hm;cases (show v = .ref l from rv);exact k.dat r1.frz (st.trans Step.frz) (Dt.lst (.inl ⟨Yq,.inl e1⟩) (e2.step Step.frz)) hx
def EG:List PyData->Nat->(PyData->Prop)->Prop
 | [],_,_=>False
 | d :: _,0,P=>P d
 | _ :: r,n + 1,P=>EG r n P
def Ky (ds:List PyData) (i:Int) (P:PyData->Prop):Prop:=match i with
 | Int.ofNat n=>EG ds n P
 | Int.negSucc n=>EG ds.reverse n P
theorem WM:∀ {ds:List PyData} {n:Nat} {P:PyData->Prop},EG ds n P->∃ d,ds[n]? = some d /\ P d
 | [],_,_,h=>h.elim
 | d :: _,0,_,h=>⟨d,rfl,h⟩
 | _ :: r,n + 1,_,h=>by
  obtain ⟨d,e,hp⟩:=WM (ds:=r) (n:=n) h;exact ⟨d,by rw [List.getElem?_cons_succ]; exact e,hp⟩
theorem W0:∀ {ds:List PyData} {n:Nat} {P:PyData->Prop} {d:PyData},ds[n]? = some d->P d->EG ds n P
 | [],_,_,_,e,_=>by simp at e
 | d :: _,0,_,_,e,h=>by simp at e; subst e; exact h
 | _ :: r,n + 1,_,_,e,h=>W0 (ds:=r) (n:=n) (by rw [List.getElem?_cons_succ] at e; exact e) h
theorem ZaU {i:Int} {P:PyData->Prop} (h:Ky ds i P):∃ d,atI ds i = some d /\ P d:=by
 unfold Ky at h
 split at h
 ·rename_i n;replace h:=WM h;obtain ⟨d,e,hp⟩:=h;exact ⟨d,VX e,hp⟩
 ·rename_i n;replace h:=WM h;obtain ⟨d,e,hp⟩:=h;refine ⟨d,?_,hp⟩;have hl:=(List.getElem?_eq_some_iff.mp e).1;rw [List.length_reverse] at hl;rw [List.getElem?_reverse hl] at e;unfold L2.atI ixN;have e1:¬ (0 <= Int.negSucc n):=by lia
  rw [if_neg e1];have e2:-(ds.length:Int) <= Int.negSucc n:=by lia
  rw [if_pos e2];have e3:(Int.negSucc n + (ds.length:Int)).toNat = ds.length - 1 - n:=by lia
  simp only [e3];exact e
theorem YR {i:Int} {P:PyData->Prop} (e:atI ds i = some d) (h:P d):Ky ds i P:=by
 unfold L2.atI at e;cases i with
 | ofNat n=>
  have hh:ixN ds.length (Int.ofNat n) = if n < ds.length then some n else none:=by
   unfold ixN;rw [if_pos (show (0:Int) <= Int.ofNat n from Int.natCast_nonneg n)]
   by_cases hn:n < ds.length
   ·rw [if_pos hn,if_pos (show Int.ofNat n < _ by show ((n:Nat):Int) < _; lia)];rfl
   ·rw [if_neg hn,if_neg (show ¬ Int.ofNat n < _ by show ¬ ((n:Nat):Int) < _; lia)]
  rw [hh] at e
  split at e
  ·exact W0 (by exact e) h
  ·cases e
 | negSucc n=>
  unfold ixN at e;rw [if_neg (by lia)] at e
  by_cases hn:-(ds.length:Int) <= Int.negSucc n
  ·rw [if_pos hn] at e;have e3:(Int.negSucc n + (ds.length:Int)).toNat = ds.length - 1 - n:=by lia
   simp only [e3] at e;refine W0 (d:=d) ?_ h;rw [List.getElem?_reverse (by lia)];exact e
  ·rw [if_neg hn] at e;cases e
theorem Lx (l:List PyData) (a:PyData) (P:PyData->Prop):Ky (l ++ [a]) (-1) P = P a:=by
 show EG (l ++ [a]).reverse 0 P = P a;rw [List.reverse_append];rfl
def δIx:D2:=λ x y M Φ=>onQ x M λ ds=>onI y λ i=>Ky ds i λ d=>Φ (.dat d) M
theorem Dts.atI {i:Int} (h:Dts K M H vs ds) (e:L2.atI ds i = some d):∃ v,L2.atI vs i = some v /\ Dt K M H v d:=by
 unfold L2.atI at e ⊢;rw [h.length];cases q:ixN ds.length i with
 | none=>rw [q] at e; cases e
 | some j=>
  rw [q] at e;exact h.get e
theorem Zh {a b:Expr} {ta tb:DTE} (ha:DE X a ta) (hb:DE X b tb) (hs:autoParam (Bv b) zz7._auto_1):DE X (.Subscript a b pos) (dOp δIx ta tb):=by
 obtain ⟨ta',pa,qa⟩:=ha;obtain ⟨tb',pb,qb⟩:=hb;refine ⟨_,Zfa Zei pa pb hs,Snd.opn qa qb λ v u H x y M Φ Q r rv ru h k=>?_⟩;replace h:=MB h;obtain ⟨ds,hx,h⟩:=h;replace h:=Zt h;obtain ⟨i,rfl,h⟩:=h;replace h:=ZaU h;obtain ⟨d,hd,q⟩:=h;cases ru.int
 rcases hx with rfl | rfl | ⟨l,rfl,hm⟩
 ·obtain ⟨p,xs,rfl,h1,h2⟩:=rv.tup;obtain ⟨w',e1,e2⟩:=h2.atI hd;exact .inr (.inl ⟨p,xs,i,w',rfl,rfl,h1.sq,e1,k.dat r Step.refl e2 q⟩)
 ·obtain ⟨p,xs,rfl,h1,h2⟩:=rv.lst;obtain ⟨w',e1,e2⟩:=h2.atI hd;exact .inl ⟨p,xs,i,w',rfl,rfl,h1.sq,e1,k.dat r Step.refl e2 q⟩
 ·cases (show v = .ref l from rv);obtain ⟨vs,g1,g2⟩:=r.ls l ds hm;obtain ⟨w',e1,e2⟩:=g2.atI hd;exact .inl ⟨l,vs,i,w',rfl,rfl,SqL.of g1,e1,k.dat r Step.refl e2 q⟩
end
abbrev D1:=List DV->Mp->DK->Prop
def J0 (X:Cx) (f:Value) (δ:D1):Prop:=∃ r,JB X f r /\ ∀ vs H xs M Φ Q,ZF X.K M H->JF X.K M H vs xs->δ xs M Φ->Rch X.K M H Φ Q->r vs H Q
def dCB (δ:D1) (t:DTA):DTE:=λ Δ M Φ=>t Δ M λ xs M1=>δ xs M1 Φ
section
variable {t:DTA} {p:Pos} {id:String} {δ:D1}
theorem Zi (hc:J0 X (.builtin id) δ) (hg:Gl X x) (hm:X.mg x = none) (hv:bootBuiltins x = some (.builtin id)) (ha:DA X (e :: es) t) (hn:autoParam (x ≠ "__name__") zz1._auto_1) (hdb:autoParam ((x == ("__debug__" : Str)) = false) zz1._auto_1)
  (he:autoParam (starEach (e :: es) X.env = (false,eval e X.env) :: starEach es X.env) zz3._auto_1) (hpl:autoParam ((backTo pos (starEach es X.env)).any (·.1) = false) zz3._auto_1):DE X (.Call (.Name x p) (e :: es) [] pos) (dCB δ t):=by
 obtain ⟨u,p,q⟩:=ha;obtain ⟨r,hr,qr⟩:=hc;refine ⟨_,Rg hr hg hm hv p hn hdb he hpl,λ Z H Δ M Φ Q r e h k=>?_⟩;exact q Z H Δ M _ _ r e h λ vs H1 xs M1 r1 st rv hx=>qr vs H1 xs M1 _ _ r1 rv hx (k.step st)
theorem QR (hc:J0 X (.type id) δ) (hg:Gl X x) (hm:X.mg x = none) (hv:bootBuiltins x = some (.type id)) (ha:DA X (e :: es) t) (hn:autoParam (x ≠ "__name__") zz1._auto_1) (hdb:autoParam ((x == ("__debug__" : Str)) = false) zz1._auto_1)
  (he:autoParam (starEach (e :: es) X.env = (false,eval e X.env) :: starEach es X.env) zz3._auto_1) (hpl:autoParam ((backTo pos (starEach es X.env)).any (·.1) = false) zz3._auto_1):DE X (.Call (.Name x p) (e :: es) [] pos) (dCB δ t):=by
 obtain ⟨u,p,q⟩:=ha;obtain ⟨r,hr,qr⟩:=hc;refine ⟨_,FD hr hg hm hv p hn hdb he hpl,λ Z H Δ M Φ Q r e h k=>?_⟩;exact q Z H Δ M _ _ r e h λ vs H1 xs M1 r1 st rv hx=>qr vs H1 xs M1 _ _ r1 rv hx (k.step st)
theorem Paired.one {α β:Type} {F:α->β->Prop} {l:List α} {b:β} (h:Paired F l [b]):∃ a,l = [a] /\ F a b:=by
 cases h with
 | cons h1 h2=>cases h2; exact ⟨_,rfl,h1⟩
theorem Paired.two {α β:Type} {F:α->β->Prop} {l:List α} {b c:β} (h:Paired F l [b,c]):∃ a a',l = [a,a'] /\ F a b /\ F a' c:=by
 cases h with
 | cons h1 h2=>
  obtain ⟨a,rfl,h3⟩:=Paired.one h2;exact ⟨_,a,rfl,h1,h3⟩
def Zcm:D1:=λ xs M Φ=>on1 xs λ x=>onQ x M λ ds=>Φ (.dat (.int ds.length)) M
theorem QS:J0 X (.builtin "len") Zcm:=by
 refine ⟨_,Gg,λ vs H xs M Φ Q r rv h k=>?_⟩;replace h:=Zu h;obtain ⟨x,rfl,h⟩:=h;replace h:=MB h;obtain ⟨ds,hx,q⟩:=h;have fin:Q (.int ds.length) H:=k.dat r Step.refl (Dt.int _) q
 rcases hx with rfl | rfl | ⟨l,rfl,hm⟩
 ·obtain ⟨v,rfl,h1⟩:=Paired.one rv;obtain ⟨p,ys,rfl,g1,g2⟩:=Ql.tup h1;exact ⟨p,ys,rfl,.inr g1.sq,by rw [g2.length]; exact fin⟩
 ·obtain ⟨v,rfl,h1⟩:=Paired.one rv;obtain ⟨p,ys,rfl,g1,g2⟩:=Ql.lst h1;exact ⟨p,ys,rfl,.inl g1.sq,by rw [g2.length]; exact fin⟩
 ·obtain ⟨v,rfl,h1⟩:=Paired.one rv;cases (show v = .ref l from h1);obtain ⟨ws,g1,g2⟩:=r.ls l ds hm;exact ⟨l,ws,rfl,.inl (SqL.of g1),by rw [g2.length]; exact fin⟩
def Rm:D1:=λ xs M Φ=>on1 xs λ x=>onS x λ z=>z.length <= sizeLine /\ Φ (.dat (.int z.length)) M
theorem Hn:J0 X (.builtin "len") Rm:=by
 refine ⟨_,GH,λ vs H xs M Φ Q r rv h k=>?_⟩;replace h:=Zu h;obtain ⟨x,rfl,h⟩:=h;replace h:=QU h;obtain ⟨z,rfl,hz,q⟩:=h;obtain ⟨v,rfl,h1⟩:=Paired.one rv;exact ⟨z,by rw [Ql.str h1],hz,k.dat r Step.refl (Dt.int _) q⟩
def SQ:D1:=λ xs M Φ=>on1 xs λ x=>onI x λ i=>i.natAbs.log2 < 1920 /\ Φ (.dat (.str (toString i))) M
theorem S3:J0 X (.type "str") SQ:=by
 refine ⟨_,Gp,λ vs H xs M Φ Q r rv h k=>?_⟩;replace h:=Zu h;obtain ⟨x,rfl,h⟩:=h;replace h:=Zt h;obtain ⟨i,rfl,hz,q⟩:=h;obtain ⟨v,rfl,h1⟩:=Paired.one rv;exact ⟨i,by rw [Ql.int h1],hz,k.dat r Step.refl (Dt.str _) q⟩
def ZeH:D1:=λ xs M Φ=>on1 xs λ x=>onI x λ i=>Φ (.dat (.int (if i < 0 then -i else i))) M
theorem Mz:J0 X (.builtin "abs") ZeH:=by
 refine ⟨_,PH,λ vs H xs M Φ Q r rv h k=>?_⟩;replace h:=Zu h;obtain ⟨x,rfl,h⟩:=h;replace h:=Zt h;obtain ⟨i,rfl,q⟩:=h;obtain ⟨v,rfl,h1⟩:=Paired.one rv;exact ⟨i,by rw [Ql.int h1],k.dat r Step.refl (Dt.int _) q⟩
def δ2I (g:Int->Int->Int):D1:=λ xs M Φ=>on2 xs λ x y=>onI x λ i=>onI y λ j=>Φ (.dat (.int (g i j))) M
theorem BI (hc:X.calm = true):J0 X (.builtin "max") (δ2I λ i j=>max i j):=by
 refine ⟨_,L0 hc,λ vs H xs M Φ Q r rv h k=>?_⟩;replace h:=ZK h;obtain ⟨x,y,rfl,h⟩:=h;replace h:=Zt h;obtain ⟨i,rfl,h⟩:=h;replace h:=Zt h;obtain ⟨j,rfl,q⟩:=h;obtain ⟨v,u,rfl,h1,h2⟩:=Paired.two rv;have e:(if j > i then j else i) = max i j:=by rw [Int.max_def]; split <;> split <;> lia
 exact ⟨i,j,by rw [Ql.int h1,Ql.int h2],by rw [e]; exact k.dat r Step.refl (Dt.int _) q⟩
theorem HB (hc:X.calm = true):J0 X (.builtin "min") (δ2I λ i j=>min i j):=by
 refine ⟨_,Hh hc,λ vs H xs M Φ Q r rv h k=>?_⟩;replace h:=ZK h;obtain ⟨x,y,rfl,h⟩:=h;replace h:=Zt h;obtain ⟨i,rfl,h⟩:=h;replace h:=Zt h;obtain ⟨j,rfl,q⟩:=h;obtain ⟨v,u,rfl,h1,h2⟩:=Paired.two rv;have e:(if j < i then j else i) = min i j:=by rw [Int.min_def]; split <;> split <;> lia
 exact ⟨i,j,by rw [Ql.int h1,Ql.int h2],by rw [e]; exact k.dat r Step.refl (Dt.int _) q⟩
def P4:D1:=λ xs M Φ=>on1 xs λ x=>onQ x M λ ds=>Φ (.dat (.list ds)) M
end
mutual
noncomputable def ZX:PyData->Bool
 | .none | .bool _ | .int _ | .str _=>false
 | .list _=>true
 | .tuple xs=>ZD xs
 | .dict kvs=>JU kvs
noncomputable def ZD:List PyData->Bool
 | []=>false
 | x :: xs=>ZX x || ZD xs
noncomputable def JU:List (PyData × PyData)->Bool
 | []=>false
 | (k,v) :: r=>ZX k || ZX v || JU r
end
theorem Vh:∀ (ks ds:List PyData),ks.length = ds.length->JU (ks.zip ds) = false->ZD ds = false
 | [],[],_,_=>by simp [ZD]
 | k :: ks,d :: ds,h,e=>by
  rw [List.zip_cons_cons,JU] at e;have e':(ZX k = false /\ ZX d = false) /\ JU (ks.zip ds) = false:=by simpa using e
  rw [ZD,e'.1.2,Vh ks ds (by simpa using h) e'.2]; rfl
 | [],_ :: _,h,_=>by simp at h
 | _ :: _,[],h,_=>by simp at h
section
variable {Z:L2.St}
theorem Bh:∀ {es:List DictEntry} {kvs:List (Key × Value)},Pairs (Qe P w) es kvs->ReadsAll h (es.map (·.key)) (kvs.map λ kv=>kD kv.1) []
 | _,_,.nil=>.nil
 | _,_,.cons (e:=e) (kv:=kv) h1 _ h3=>by
  rw [List.map_cons,List.map_cons];have hk:Reads h e.key (kD kv.1) []:=by
   rcases ZT (k:=kv.1) (v:=e.key) h1 with ⟨i,t,e1,e2⟩ | ⟨x,t,e1,e2⟩
   ·rw [e1,e2]; exact .int i t
   ·rw [e1,e2]; exact .str x t
  exact .cons (as:=[]) (bs:=[]) hk (Bh h3)
theorem WB:∀ {es:List DictEntry} {kvs:List (Key × Value)},Pairs (Qe P w) es kvs->es.map (·.val) = kvs.map (·.2)
 | _,_,.nil=>rfl
 | _,_,.cons h1 h2 h3=>by rw [List.map_cons,List.map_cons,h2,WB h3]
theorem KV.vals {vs:List (Key × Value)} (r:KV kvs vs):Vals (kvs.map (·.2)) (vs.map (·.2)) /\ (kvs.map λ kv=>kD kv.1) = vs.map λ kv=>kD kv.1:=by
 unfold KV at r
 induction r with
 | nil=>exact ⟨.nil,rfl⟩
 | cons h _ ih=>exact ⟨.cons h.2 ih.1,by rw [List.map_cons,List.map_cons,h.1,ih.2]⟩
theorem LZ:∀ {ks:List Key} {us:List Value},Vals (ks.map kV) us->ReadsAll h us (ks.map kD) []
 | [],_,r=>by rw [List.map_nil] at r; cases r; exact .nil
 | k :: ks,_,r=>by
  rw [List.map_cons] at r;cases r with
  | cons r1 r2=>
   rw [List.map_cons];refine .cons (as:=[]) (bs:=[]) ?_ (LZ r2);cases k with
   | inl i=>obtain ⟨t,rfl⟩:=r1; exact .int i t
   | inr x=>obtain ⟨t,rfl⟩:=r1; exact .str x t
theorem KT.read (I:Inv X pins Z H s) {kvs:List (List Key × V)} {xs:List (List Key × Addr × Value)} (r:KT H kvs xs) :
  ReadsAll s.heap (xs.map λ x=>Value.ref x.2.1) (kvs.map λ kv=>PyData.tuple (kv.1.map kD)) [] /\ Vals (kvs.map (·.2)) (xs.map λ x=>x.2.2):=by
 induction r with
 | nil=>exact ⟨.nil,.nil⟩
 | @cons p q ps qs h _ ih=>
  obtain ⟨its,r,⟨o,ho,hc,n,hd⟩,_⟩:=I.tuple (SqT.of (K:=X.K) h.2.1);rw [List.map_cons,List.map_cons,List.map_cons,List.map_cons];exact ⟨.cons (as:=[]) (bs:=[]) (.tuple ho hc hd (by simpa using LZ r)) ih.1,.cons h.2.2 ih.2⟩
mutual
theorem Dt.reads (I:Inv X pins Z H s):∀ {v:V} {d:PyData},Dt X.K M H v d->∀ {u:Value},RelV v u->∃ as,Reads s.heap u d as /\ (ZX d = false->sysModules ∉ as)
 | _,_,.non,_,r=>by cases r; exact ⟨[],.none,λ _ h=>nomatch h⟩
 | _,_,.bl b,_,r=>by cases r; exact ⟨[],.bool b,λ _ h=>nomatch h⟩
 | _,_,.int i,_,r=>by obtain ⟨t,rfl⟩:=r; exact ⟨[],.int i t,λ _ h=>nomatch h⟩
 | _,_,.str x,_,r=>by obtain ⟨t,rfl⟩:=r; exact ⟨[],.str x t,λ _ h=>nomatch h⟩
 | _,_,.tup h1 h2,_,r=>by
  cases r;obtain ⟨its,rv,⟨o,ho,hc,n,hd⟩,_⟩:=I.tuple h1.sq;obtain ⟨as,ra,hs⟩:=Dts.reads I h2 rv;exact ⟨as,.tuple ho hc hd (by simpa using ra),λ h=>hs (by simpa [ZX] using h)⟩
 | _,_,.lst h1 h2,_,r=>by
  cases r;obtain ⟨its,rv,⟨o,n,ho,hc,_,hd⟩,_⟩:=I.list h1.sq;obtain ⟨as,ra,hs⟩:=Dts.reads I h2 rv;exact ⟨_,.list ho hc hd (by simpa using ra),λ h=>by simp [ZX] at h⟩
 | _,_,.dK (a:=a) (kvs:=kvs) (ds:=ds) h0 h1 h2,_,r=>by
  cases r;obtain ⟨_,hsys,vs,rel,o,es,ep,ho,hc,hd,_,hp,_⟩:=(show Z3 X.prog X.w H s.heap a (.dK kvs) from I.hok a _ h1)
  obtain ⟨rv,hk⟩:=KV.vals rel;obtain ⟨bs,rb,hs⟩:=Dts.reads I h2 rv;have hl:(kvs.map λ kv=>kD kv.1).length = ds.length:=by rw [List.length_map,<- h2.length,List.length_map]
  refine ⟨a :: [] ++ bs,.dict (as:=[]) ho hc.1 hd ?_ ?_,λ h=>?_⟩
  ·rw [List.map_fst_zip (Nat.le_of_eq hl),hk];exact Bh hp
  ·rw [List.map_snd_zip (Nat.le_of_eq hl.symm),WB hp];exact rb
  ·have h':ZD ds = false:=Vh _ _ hl (by rw [ZX] at h; exact h);intro hm
   rcases List.mem_cons.mp hm with e | hm
   ·rw [<- e] at hsys;simp at hsys
   ·exact hs h' hm
 | _,_,.dT (a:=a) (kvs:=kvs) (ds:=ds) h0 h1 h2 _,_,r=>by
  cases r;obtain ⟨_,hsys,xs,rel,o,es,ep,ho,hc,hd,he,_⟩:=(show Z3 X.prog X.w H s.heap a (.dT kvs) from I.hok a _ h1)
  obtain ⟨rk,rv⟩:=KT.read I rel;obtain ⟨bs,rb,hs⟩:=Dts.reads I h2 rv;have hl:(kvs.map λ kv=>PyData.tuple (kv.1.map kD)).length = ds.length:=by rw [List.length_map,<- h2.length,List.length_map]
  refine ⟨a :: [] ++ bs,.dict (as:=[]) ho hc.1 hd ?_ ?_,λ h=>?_⟩
  ·rw [List.map_fst_zip (Nat.le_of_eq hl),he,List.map_map];exact rk
  ·rw [List.map_snd_zip (Nat.le_of_eq hl.symm),he,List.map_map];exact rb
  ·have h':ZD ds = false:=Vh _ _ hl (by rw [ZX] at h; exact h);intro hm
   rcases List.mem_cons.mp hm with e | hm
   ·rw [<- e] at hsys;simp at hsys
   ·exact hs h' hm
 | _,_,.dX (a:=a) (dk:=dk) (d:=d) h0 h1 hsys h3 h4 h5,_,r=>by
  cases r;obtain ⟨hφ,_⟩:=(show Z3 X.prog X.w H s.heap a (.ext _) from I.hok a _ h1)
  obtain ⟨o,es,n,u,ho,hc,hd,ek,ev,ru⟩:=h3 s.heap hφ;obtain ⟨as,ra,ha⟩:=Dt.reads I h4 (u:=.ref _) rfl;obtain ⟨bs,rb,hb⟩:=Dt.reads I h5 ru;refine ⟨a :: (as ++ []) ++ (bs ++ []),.dict ho hc hd ?_ ?_,λ h=>?_⟩
  ·rw [ek]; exact .cons ra .nil
  ·rw [ev]; exact .cons rb .nil
  ·have h':ZX dk = false /\ ZX d = false:=by simpa [ZX,JU] using h
   intro hm;rw [List.append_nil,List.append_nil,List.cons_append] at hm
   rcases List.mem_cons.mp hm with e | hm
   ·rw [<- e] at hsys;simp at hsys
   ·rcases List.mem_append.mp hm with hm | hm
    ·exact ha h'.1 hm
    ·exact hb h'.2 hm
theorem Dts.reads (I:Inv X pins Z H s):∀ {vs:List V} {ds:List PyData},Dts X.K M H vs ds->∀ {us:List Value},Vals vs us->∃ as,ReadsAll s.heap us ds as /\ (ZD ds = false->sysModules ∉ as)
 | _,_,.nil,_,r=>by cases r; exact ⟨[],.nil,λ _ h=>nomatch h⟩
 | _,_,.cons (d:=d) (ds:=ds) h1 h2,_,r=>by
  cases r with
  | cons r1 r2=>
   obtain ⟨as,ra,ha⟩:=Dt.reads I h1 r1;obtain ⟨bs,rb,hb⟩:=Dts.reads I h2 r2;refine ⟨as ++ bs,.cons ra rb,λ h hm=>?_⟩;have h':ZX d = false /\ ZD ds = false:=by simpa [ZD] using h
   rcases List.mem_append.mp hm with hm | hm
   ·exact ha h'.1 hm
   ·exact hb h'.2 hm
end
end
theorem Wf (hg:X.A.guards = some []) (hu:X.A.units + 100 < cLine):JB X (.builtin "repr") (λ xs H Q=>∃ v d M,xs = [v] /\ Dt X.K M H v d /\ d.showable = true /\ (d.hasDict && ZX d) = false /\ d.depth <= 64 /\
  d.shown.length <= sizeLine /\ Q (.str d.shown) H):=by
 intro pins s Z H xs us Q I r h;obtain ⟨v,d,M,rfl,hd,hs,hm,hdp,hz,q⟩:=h;obtain ⟨u,rfl,ru⟩:=vals1 r;have ref:∀ a,u = .ref a->wpAny (model X.prog X.w) X.A (call (.builtin "repr") [u]) (EP X pins Z Q) X.xe s:=λ a e=>by
  obtain ⟨as,ra,hsm⟩:=hd.reads I ru;subst e;refine repr_of_reads' ra hs (λ hx=>hsm ?_) hg (by lia) (λ _ _ e=>e) (λ h' u tk k=>⟨.str d.shown,H,I.kept k,⟨_,rfl⟩,q⟩) hz;rw [hx,Bool.true_and] at hm;exact hm
 cases hd with
 | non=>cases ru; simp only [PyData.shown] at q; exact PySem.P.repr_of_none ⟨.str _,H,I.tok _,⟨_,rfl⟩,q⟩
 | bl b=>cases ru; simp only [PyData.shown] at q; exact PySem.P.repr_of_bool ⟨.str _,H,I.tok _,⟨_,rfl⟩,q⟩
 | int i=>obtain ⟨t,rfl⟩:=ru; simp only [PyData.shown] at q; exact PySem.P.repr_of_int (by simpa [PyData.showable] using hs) ⟨.str _,H,I.tok _,⟨_,rfl⟩,q⟩
 | str x=>obtain ⟨t,rfl⟩:=ru; simp only [PyData.shown] at q hz; exact PySem.P.repr_of_str ⟨.str _,H,I.tok _,⟨_,rfl⟩,q⟩ hz
 | tup _ _=>exact ref _ ru
 | lst _ _=>exact ref _ ru
 | dK _ _ _=>exact ref _ ru
 | dT _ _ _ _=>exact ref _ ru
 | dX _ _ _ _ _ _=>exact ref _ ru
structure Shw (d:PyData):Prop where
 s:d.showable = true
 m:(d.hasDict && ZX d) = false
 dp:d.depth <= 64
 z:d.shown.length <= sizeLine
def Rz:D1:=λ xs M Φ=>on1 xs λ x=>onD x λ d=>Shw d /\ Φ (.dat (.str d.shown)) M
theorem X0 {k:Nat} (hr:Jq k X.A):J0 X (.builtin "repr") Rz:=by
 refine ⟨_,Wf hr.gd (by have:=hr.un; lia),λ vs H xs M Φ Q r rv h k=>?_⟩;replace h:=Zu h;obtain ⟨x,rfl,h⟩:=h;replace h:=ZR h;obtain ⟨d,rfl,hs,q⟩:=h;obtain ⟨v,rfl,h1⟩:=Paired.one rv;exact ⟨v,d,M,rfl,h1,hs.s,hs.m,hs.dp,hs.z,k.dat r Step.refl (Dt.str _) q⟩
noncomputable def tyN:PyData->String
 | .none => "NoneType"
 | .bool _ => "bool"
 | .int _ => "int"
 | .str _ => "str"
 | .list _ => "list"
 | .tuple _ => "tuple"
 | .dict _ => "dict"
theorem Hl:JB X (.builtin "isinstance") (λ xs H Q=>∃ v d M T b,xs = [v,.ty T] /\ Dt X.K M H v d /\ PySem.W.kitOne X.K (.type (tyN d)) (.type T) = some b /\ Q (.bl b) H):=by
 intro pins s Z H xs us Q I r h;obtain ⟨v,d,M,T,b,rfl,hd,e,q⟩:=h;obtain ⟨u,w',rfl,ru,rt⟩:=vals2 r;cases (show w' = Value.type T from rt);have fin:∀ tk,EP X pins Z Q (.bool b) { s with toks:=tk }:=λ tk=>⟨.bl b,H,I.tok tk,rfl,q⟩;cases hd with
 | non=>cases ru; exact PySem.W.kia_one PySem.W.kitx_none I.kIn True.intro e (λ z=>nomatch z) fin
 | bl y=>cases ru; exact PySem.W.kia_one PySem.W.kitx_bool I.kIn True.intro e (λ z=>nomatch z) fin
 | int i=>obtain ⟨t,rfl⟩:=ru; exact PySem.W.kia_one PySem.W.kitx_int I.kIn True.intro e (λ z=>nomatch z) fin
 | str y=>obtain ⟨t,rfl⟩:=ru; exact PySem.W.kia_one PySem.W.kitx_str I.kIn True.intro e (λ z=>nomatch z) fin
 | tup h1 _=>
  cases ru;obtain ⟨_,_,⟨o,ho,hc,_⟩,_⟩:=I.tuple h1.sq;exact PySem.W.kia_one PySem.W.kitx_tuple I.kIn ⟨o,ho,hc⟩ e (λ z=>nomatch z) fin
 | lst h1 _=>
  cases ru;obtain ⟨_,_,⟨o,n,ho,hc,_⟩,_⟩:=I.list h1.sq;exact PySem.W.kia_one PySem.W.kitx_list I.kIn ⟨o,ho,hc⟩ e (λ z=>nomatch z) fin
 | dK _ h1 _=>
  cases ru;obtain ⟨_,_,vs,_,p⟩:=(show Z3 X.prog X.w H s.heap _ (.dK _) from I.hok _ _ h1)
  obtain ⟨o,es,ep,g1,g2,_⟩:=p;exact PySem.W.kia_one PySem.W.kitx_dict I.kIn ⟨o,g1,g2.1⟩ e (λ z=>nomatch z) fin
 | dT _ h1 _ _=>
  cases ru;obtain ⟨_,_,xs,_,o,es,ep,g1,g2,_⟩:=(show Z3 X.prog X.w H s.heap _ (.dT _) from I.hok _ _ h1)
  exact PySem.W.kia_one PySem.W.kitx_dict I.kIn ⟨o,g1,g2.1⟩ e (λ z=>nomatch z) fin
 | dX _ h1 _ h3 _ _=>
  cases ru;obtain ⟨hφ,_⟩:=(show Z3 X.prog X.w H s.heap _ (.ext _) from I.hok _ _ h1)
  obtain ⟨o,es,n,u,ho,hc,_⟩:=h3 s.heap hφ;exact PySem.W.kia_one PySem.W.kitx_dict I.kIn ⟨o,ho,hc⟩ e (λ z=>nomatch z) fin
noncomputable def ZL (T:String) (d:PyData):Bool:=tyN d == T || (T == "int" && tyN d == "bool")
theorem Ta (K:Fk) (d:PyData):PySem.W.kitOne K (.type (tyN d)) (.type "int") = some (ZL "int" d):=by cases d <;> rfl
theorem Rf (K:Fk) (d:PyData):PySem.W.kitOne K (.type (tyN d)) (.type "bool") = some (ZL "bool" d):=by cases d <;> rfl
theorem kit_tuple (K:Fk) (d:PyData):PySem.W.kitOne K (.type (tyN d)) (.type "tuple") = some (ZL "tuple" d):=by cases d <;> rfl
theorem Zav (K:Fk) (d:PyData):PySem.W.kitOne K (.type (tyN d)) (.type "str") = some (ZL "str" d):=by cases d <;> rfl
def TH (T:String):D1:=λ xs M Φ=>match xs with | [.dat d,.ty t]=>t = T /\ Φ (.dat (.bool (ZL T d))) M | _=>False
theorem Kh {T:String} (ht:∀ d,PySem.W.kitOne X.K (.type (tyN d)) (.type T) = some (ZL T d)):J0 X (.builtin "isinstance") (TH T):=by
 refine ⟨_,Hl,λ vs H xs M Φ Q r rv h k=>?_⟩;replace h:∃ d,xs = [.dat d,.ty T] /\ Φ (.dat (.bool (ZL T d))) M:=by
  unfold TH at h
  split at h
  ·exact ⟨_,by rw [h.1],h.2⟩
  ·exact h.elim
 obtain ⟨d,rfl,q⟩:=h;obtain ⟨v,u,rfl,h1,h2⟩:=Paired.two rv;cases (show u = .ty T from h2);exact ⟨v,d,M,T,_,rfl,h1,ht d,k.dat r Step.refl (Dt.bl _) q⟩
theorem Ss (hu:X.A.units + 64 < cLine):OpR X (compareOp .Eq) (λ x y H Q=>∃ M d e,Dt X.K M H x d /\ Dt X.K M H y e /\ d.canLay0 = true /\ e.canLay0 = true /\ min d.depth e.depth <= 64 /\ Q (.bl (PyData.eqv d e)) H):=by
 intro pins s Z H x y v u Q I rx ry h;obtain ⟨M,d,e,h1,h2,c1,c2,hdp,q⟩:=h;obtain ⟨as,ra,_⟩:=h1.reads I rx;obtain ⟨bs,rb,_⟩:=h2.reads I ry;exact PySem.SeqAt.compareEq_reads ra rb c1 c2 (by lia) ⟨.bl _,H,I,rfl,q⟩
theorem Sr (hu:X.A.units + 64 < cLine):OpR X (compareOp .NotEq) (λ x y H Q=>∃ M d e,Dt X.K M H x d /\ Dt X.K M H y e /\ d.canLay0 = true /\ e.canLay0 = true /\ min d.depth e.depth <= 64 /\ Q (.bl (!PyData.eqv d e)) H):=by
 intro pins s Z H x y v u Q I rx ry h;obtain ⟨M,d,e,h1,h2,c1,c2,hdp,q⟩:=h;obtain ⟨as,ra,_⟩:=h1.reads I rx;obtain ⟨bs,rb,_⟩:=h2.reads I ry;exact PySem.SeqAt.compareNe_reads ra rb c1 c2 (by lia) ⟨.bl _,H,I,rfl,q⟩
noncomputable def B1 (d e:PyData):Bool:=d.canLay0 && e.canLay0 && Nat.ble (min d.depth e.depth) 64
def eqD:PyData->PyData->(Bool->Prop)->Prop
 | .int i,.int j,P=>P (decide (i = j))
 | .str s,.str t,P=>P (decide (s = t))
 | .bool a,.bool b,P=>P (a == b)
 | d,e,P=>B1 d e = true /\ P (PyData.eqv d e)
theorem SV {e:PyData} {P:Bool->Prop} (h:eqD d e P):(d.canLay0 = true /\ e.canLay0 = true /\ min d.depth e.depth <= 64 /\ P (PyData.eqv d e)) \/ ∃ s t,d = .str s /\ e = .str t /\ P (decide (s = t)):=by
 unfold eqD at h
 split at h
 ·refine .inl ⟨by simp [PyData.canLay0],by simp [PyData.canLay0],by simp [PyData.depth],?_⟩;simp only [PyData.eqv];rw [Bool.beq_eq_decide_eq];exact h
 ·exact .inr ⟨_,_,rfl,rfl,h⟩
 ·refine .inl ⟨by simp [PyData.canLay0],by simp [PyData.canLay0],by simp [PyData.depth],?_⟩;simp only [PyData.eqv];exact h
 ·have h1:=h.1;unfold B1 at h1;simp only [Bool.and_eq_true] at h1;exact .inl ⟨h1.1.1,h1.1.2,Nat.le_of_ble_eq_true h1.2,h.2⟩
theorem Zes {f:Value->Value->Sem Value} {r1 r2:R2} (h1:OpR X f r1) (h2:OpR X f r2):OpR X f (λ x y H Q=>r1 x y H Q \/ r2 x y H Q):=
 λ pins s Z H x y v u Q I rx ry h=>h.elim (h1 pins s Z H x y v u Q I rx ry) (h2 pins s Z H x y v u Q I rx ry)
def δEq:D2:=λ x y M Φ=>onD x λ d=>onD y λ e=>eqD d e λ b=>Φ (.dat (.bool b)) M
def δNe:D2:=λ x y M Φ=>onD x λ d=>onD y λ e=>eqD d e λ b=>Φ (.dat (.bool (!b))) M
theorem KJ {k:Nat} (hr:Jq k X.A):OpD X (compareOp .Eq) δEq:=
 ⟨_,Zes (Ss hr.units) ZhL,λ v u H x y M Φ Q r rv ru h k=>by
  obtain ⟨d,e1,h⟩:=ZR h;obtain ⟨e,e2,h⟩:=ZR h;subst e1 e2
  rcases SV h with ⟨c1,c2,hdp,q⟩ | ⟨s,t,rfl,rfl,q⟩
  ·exact .inl ⟨M,d,e,rv,ru,c1,c2,hdp,k.dat r Step.refl (Dt.bl _) q⟩
  ·have q':Q (.bl (decide (s = t))) H:=k.dat r Step.refl (Dt.bl _) q;refine .inr ⟨by rw [rv.str,ru.str]; rfl,?_⟩;rw [rv.str,ru.str,WX,Bool.beq_eq_decide_eq]
   exact q'⟩
theorem Zhv {k:Nat} (hr:Jq k X.A):OpD X (compareOp .NotEq) δNe:=
 ⟨_,Zes (Sr hr.units) ZhX,λ v u H x y M Φ Q r rv ru h k=>by
  obtain ⟨d,e1,h⟩:=ZR h;obtain ⟨e,e2,h⟩:=ZR h;subst e1 e2
  rcases SV h with ⟨c1,c2,hdp,q⟩ | ⟨s,t,rfl,rfl,q⟩
  ·exact .inl ⟨M,d,e,rv,ru,c1,c2,hdp,k.dat r Step.refl (Dt.bl _) q⟩
  ·have q':Q (.bl (!decide (s = t))) H:=k.dat r Step.refl (Dt.bl _) q;refine .inr ⟨by rw [rv.str,ru.str]; rfl,?_⟩;rw [rv.str,ru.str,WX,Bool.beq_eq_decide_eq]
   exact q'⟩
def Zih:D2:=λ x y M Φ=>onS x λ s=>onS y λ t=>Φ (.dat (.bool (!decide (s = t)))) M
def ZhW:D2:=λ x y M Φ=>onS x λ s=>onS y λ t=>Φ (.dat (.bool (decide (s = t)))) M
abbrev DTO:=DSt->Mp->(Option Int->Mp->Prop)->Prop
def DO (X:Cx) (e:Option Expr) (τ:DTO):Prop:=∃ t,PO X e t /\ ∀ Z H Δ M Φ (Q:Option Int->Hp->Prop),ZF X.K M H->QV X.K M H Z Δ->τ Δ M Φ->(∀ o H' M',ZF X.K M' H'->Step M H M' H'->Φ o M'->Q o H')->t Z H Q
def L4:DTO:=λ _ M Φ=>Φ none M
def Zfg (t:DTE):DTO:=λ Δ M Φ=>t Δ M λ x M1=>onI x λ i=>Φ (some i) M1
theorem YE:DO X none L4:=⟨_,ZbN,λ _ H _ M _ _ r _ h k=>k none H M r Step.refl h⟩
theorem J5 (h:DE X e te):DO X (some e) (Zfg te):=by
 obtain ⟨t,p,q⟩:=h;refine ⟨_,S7 p,λ Z H Δ M Φ Q r e h k=>?_⟩;refine q Z H Δ M _ _ r e h λ v H1 x M1 r1 st rv hx=>?_;replace hx:=Zt hx;obtain ⟨i,rfl,hx⟩:=hx;exact ⟨i,rv.int,k _ H1 M1 r1 st hx⟩
noncomputable def cutD (xs:List PyData) (lo hi:Option Int):List PyData:=(xs.drop (HT.sIx xs.length 0 lo)).take (HT.sIx xs.length xs.length hi - HT.sIx xs.length 0 lo)
theorem Dts.cut (h:Dts K M H vs ds) (lo hi:Option Int):Dts K M H (Zb1 vs lo hi) (cutD ds lo hi):=by
 unfold Zb1 cutD;rw [h.length];exact (h.drop _).take _
def ZiH (te:DTE) (tl th:DTO):DTE:=λ Δ M Φ=>te Δ M λ x M1=>tl Δ M1 λ l M2=>th Δ M2 λ u M3=>onT x λ ds=>¬ (HT.sIx ds.length 0 l = 0 /\ HT.sIx ds.length ds.length u = ds.length) /\ Φ (.dat (.tuple (cutD ds l u))) M3
theorem V3 {lo hi:Option Expr} {tl th:DTO} (he:DE X e te) (hl:DO X lo tl) (hu:DO X hi th):DE X (.Subscript e (.Slice lo hi none p2) pos) (ZiH te tl th):=by
 obtain ⟨t1,p1,q1⟩:=he;obtain ⟨t2,p2,q2⟩:=hl;obtain ⟨t3,p3,q3⟩:=hu;refine ⟨_,DC ZfV p1 p2 p3,λ Z H Δ M Φ Q r e h k=>?_⟩;refine q1 Z H Δ M _ _ r e h λ v H1 x M1 r1 st rv hx=>?_;refine q2 Z H1 Δ M1 _ _ r1 (e.step st) hx λ l H2 M2 r2 st2 hl=>?_;refine q3 Z H2 Δ M2 _ _ r2 (e.step (st.trans st2)) hl λ u H3 M3 r3 st3 hu=>?_;replace hu:=Yv hu;obtain ⟨ds,rfl,hw,hu⟩:=hu;obtain ⟨a,xs,rfl,h1,h2⟩:=(rv.step (st2.trans st3)).tup;refine ⟨a,xs,rfl,h1.sq,by rw [h2.length]; exact hw,λ p hp=>?_⟩;exact k.dat (r3.new hp) ((st.trans (st2.trans st3)).trans (Step.new hp)) (Dt.Kr r3 hp (h2.cut l u)) hu
end DL
namespace DL
def Zgd:DTS:=λ D Δ M=>D.nx Δ M
def ZgC (t u:DTS):DTS:=λ D Δ M=>t { D with nx:=u D } Δ M
section
variable {rest:List Stmt} {t u:DTS}
theorem Zw:DSs X [] Zgd:=⟨_,Zbu,λ Z H Δ M D E r e h k=>k.nx Z H Δ M r Step.refl e h⟩
theorem Ze (h1:DS X st t) (h2:DSs X rest u):DSs X (st :: rest) (ZgC t u):=by
 obtain ⟨t1,p1,q1⟩:=h1;obtain ⟨t2,p2,q2⟩:=h2;refine ⟨_,Nf p1 p2,λ Z H Δ M D E r e h k=>?_⟩;refine q1 Z H Δ M { D with nx:=u D } { E with nx:=t2 E } r e h ⟨λ σ' H' Δ' M' r' st' e' hn=>?_,k.rt,k.bk,k.ct⟩;exact q2 σ' H' Δ' M' D E r' e' hn (k.step st')
theorem Zg (h1:DS X st t):DSs X [st] t:=by
 obtain ⟨t1,p1,q1⟩:=h1;exact ⟨_,Zbo p1,q1⟩
def ZdA:DTS:=λ D Δ M=>D.bk Δ M
def Zii:DTS:=λ D Δ M=>D.ct Δ M
def Zed (te:DTE):DTS:=λ D Δ M=>te Δ M λ _ M1=>D.nx Δ M1
theorem JM (he:DE X e te) (hs:autoParam (swapsWith e none pos.line X.env = pure false) zz3._auto_1):DS X (.Expr e pos) (Zed te):=by
 obtain ⟨t,p,q⟩:=he;refine ⟨_,Zbx p hs,λ Z H Δ M D E r e h k=>?_⟩;exact q Z H Δ M _ _ r e h λ v H1 x M1 r1 st rv hx=>k.nx Z H1 Δ M1 r1 st (e.step st) hx
def Zit (te:DTE):DTS:=λ D Δ M=>te Δ M D.rt
theorem Zn (he:DE X e te):DS X (.Return (some e) pos) (Zit te):=by
 obtain ⟨t,p,q⟩:=he;exact ⟨_,ZeY p,λ Z H Δ M D E r e h k=>q Z H Δ M _ _ r e h k.rt⟩
def Zhc:DTS:=λ D _ M=>D.rt (.dat .none) M
def Zgp (c:DTT) (t u:DTS):DTS:=λ D Δ M=>c Δ M λ b M1=>if b = true then t D Δ M1 else u D Δ M1
theorem Qm {c:Expr} {a b:List Stmt} (hc:DT X c tc) (ha:DSs X a t) (hb:DSs X b u):DS X (.If c a b pos) (Zgp tc t u):=by
 obtain ⟨t0,p0,q0⟩:=hc;obtain ⟨t1,p1,q1⟩:=ha;obtain ⟨t2,p2,q2⟩:=hb;refine ⟨_,Zic p0 p1 p2,λ Z H Δ M D E r e h k=>?_⟩;refine q0 Z H Δ M _ _ r e h λ c H1 M1 r1 st hc=>?_;cases c with
 | true=>rw [if_pos rfl]; exact q1 Z H1 Δ M1 D E r1 (e.step st) (by simpa using hc) (k.step st)
 | false=>rw [if_neg Bool.false_ne_true]; exact q2 Z H1 Δ M1 D E r1 (e.step st) (by simpa using hc) (k.step st)
abbrev DTG:=DV->DSt->Mp->(DSt->Mp->Prop)->Prop
abbrev N8:=List DV->DSt->Mp->(DSt->Mp->Prop)->Prop
def DG (X:Cx) (tg:Expr) (τ:DTG):Prop:=∃ t,PG X tg t /\ ∀ v Z H x Δ M Φ (Q:L2.St->Hp->Prop),ZF X.K M H->QV X.K M H Z Δ->Ql X.K M H v x->τ x Δ M Φ ->
 (∀ σ' H' Δ' M',ZF X.K M' H'->Step M H M' H'->QV X.K M' H' σ' Δ'->Φ Δ' M'->Q σ' H')->t v Z H Q
def DGs (X:Cx) (ts:List Expr) (τ:N8):Prop:=∃ t,PGs X ts t /\ ∀ vs Z H xs Δ M Φ (Q:L2.St->Hp->Prop),ZF X.K M H->QV X.K M H Z Δ->JF X.K M H vs xs->τ xs Δ M Φ ->
 (∀ σ' H' Δ' M',ZF X.K M' H'->Step M H M' H'->QV X.K M' H' σ' Δ'->Φ Δ' M'->Q σ' H')->t vs Z H Q
def KZ (i:Nat):DTG:=λ x Δ M Φ=>Φ (Δ.set i (some x)) M
theorem Zp (i:Nat) (hN:X.N.Nodup) (hi:autoParam (X.N[i]? = some x) zz3._auto_1) (hx:autoParam (Loc X.env.scope x) zz8._auto_1) (hf:autoParam (X.fn x = true \/ X.env.scope.names.lookup x = some .local) zz0._auto_1) :
  DG X (.Name x pos) (KZ i):=
 ⟨_,Lq hN hi hx hf,λ v Z H x Δ M Φ Q r e rv h k=>k _ H _ M r Step.refl (e.set rv) h⟩
def ZcF:N8:=λ xs Δ M Φ=>match xs with | []=>Φ Δ M | _=>False
def SJ (t:DTG) (u:N8):N8:=λ xs Δ M Φ=>match xs with | x :: r=>t x Δ M λ Δ' M'=>u r Δ' M' Φ | []=>False
theorem Vg:DGs X [] ZcF:=⟨_,Tu,λ vs Z H xs Δ M Φ Q r e rv h k=>by
 cases xs with
 | cons x r=>exact h.elim
 | nil=>
 have h2:Φ Δ M:=h;cases rv
 exact ⟨rfl,k Z H Δ M r Step.refl e h2⟩⟩
theorem ZV {t:DTG} {u:N8} (h1:DG X e t) (h2:DGs X es u)
  (hs:autoParam ((assignEach (e :: es) X.env).map (·.2) = assign e X.env :: (assignEach es X.env).map (·.2)) zz3._auto_1):DGs X (e :: es) (SJ t u):=by
 obtain ⟨t1,p1,q1⟩:=h1;obtain ⟨t2,p2,q2⟩:=h2;refine ⟨_,Po p1 p2 hs,λ vs Z H xs Δ M Φ Q r e rv h k=>?_⟩;obtain ⟨x,xr,e1,h⟩:∃ x xr,xs = x :: xr /\ t x Δ M λ Δ' M'=>u xr Δ' M' Φ:=by
  cases xs with
  | nil=>exact h.elim
  | cons x xr=>exact ⟨x,xr,rfl,h⟩
 subst e1;cases rv with
 | cons ra rr=>
  refine ⟨_,_,rfl,q1 _ Z H x Δ M _ _ r e ra h λ σ' H' Δ' M' r' st e' h'=>?_⟩;exact q2 _ σ' H' xr Δ' M' Φ Q r' e' (JF.step rr st) h' λ σ2 H2 Δ2 M2 r2 st2 e2 hΦ=>k σ2 H2 Δ2 M2 r2 (st.trans st2) e2 hΦ
def Zai:Nat->List PyData->(List DV->Prop)->Prop
 | 0,[],P=>P []
 | n + 1,d :: r,P=>Zai n r λ xs=>P (.dat d :: xs)
 | 0,_ :: _,_=>False
 | _ + 1,[],_=>False
theorem FE:∀ {n:Nat} {ds:List PyData} {P:List DV->Prop},Zai n ds P->ds.length = n /\ P (ds.map DV.dat)
 | 0,[],_,h=>⟨rfl,h⟩
 | n + 1,d :: r,P,h=>by
  obtain ⟨a,b⟩:=FE (n:=n) (ds:=r) h;exact ⟨by rw [List.length_cons,a],b⟩
 | 0,_ :: _,_,h=>h.elim
 | _ + 1,[],_,h=>h.elim
def Zec (n:Nat) (t:N8):DTG:=λ x Δ M Φ=>onT x λ ds=>Zai n ds λ xs=>t xs Δ M Φ
theorem Dts.ZeQ:∀ {vs:List V} {ds:List PyData},Dts K M H vs ds->JF K M H vs (ds.map DV.dat)
 | _,_,.nil=>.nil
 | _,_,.cons h1 h2=>.cons h1 (Dts.ZeQ h2)
theorem YT {k:Nat} {t:N8} (hc:X.calm = true) (h:DGs X es t) (hn:autoParam ((assignEach es X.env).length = n) zz3._auto_1) (hst:autoParam ((assignEach es X.env).findIdx? (·.1) = none) zz3._auto_1):DG X (.Tuple es k pos) (Zec n t):=by
 obtain ⟨t1,p1,q1⟩:=h;refine ⟨_,Zeu hc p1 hn hst,λ v Z H x Δ M Φ Q r e rv h k=>?_⟩;replace h:=Yv h;obtain ⟨ds,rfl,h⟩:=h;replace h:=FE h;obtain ⟨hl,h⟩:=h;obtain ⟨a,xs,rfl,h1,h2⟩:=rv.tup;exact ⟨a,xs,rfl,h1.sq,by rw [h2.length]; exact hl,q1 xs Z H _ Δ M Φ Q r e h2.ZeQ h k⟩
def ZeB (to ti:DTE):DTG:=λ x Δ M Φ=>to Δ M λ o M1=>ti Δ M1 λ i M2=>onO o λ l=>onI i λ k=>onD x λ d=>JR (M2 l) λ ds=>∃ j,ixN ds.length k = some j /\ Φ Δ (Z0 M2 l (.lst (ds.set j d)))
theorem Hi {o i:Expr} {to ti:DTE} (ho:DE X o to) (hi:DE X i ti)
  (ha:∀ v,assign (.Subscript o i pos) X.env v = (do
   let ov <- holding [v] (eval o X.env)
   let iv <- holding [v,ov] (eval i X.env)
   standAt pos
   holding [v,ov,iv] (setItem ov iv v)
   release [v,ov,iv] []):=by intro _; rfl):DG X (.Subscript o i pos) (ZeB to ti):=by
 obtain ⟨t1,p1,q1⟩:=ho;obtain ⟨t2,p2,q2⟩:=hi;refine ⟨_,ZeK p1 p2 set_list ha,λ v Z H x Δ M Φ Q r e rv h k=>?_⟩;refine Snd.bin q1 q2 r e h λ w1 w2 H2 o' i' M2 r2 st ro ri hs=>?_;replace hs:=ZW hs;obtain ⟨l,rfl,hs⟩:=hs;replace hs:=Zt hs;obtain ⟨kk,rfl,hs⟩:=hs;replace hs:=ZR hs;obtain ⟨d,rfl,hs⟩:=hs;replace hs:=QF hs;obtain ⟨ds,hm,j,hj,hΦ⟩:=hs;obtain ⟨vs,g1,g2⟩:=r2.ls l ds hm;cases (show w1 = .ref l from ro);have rv2:Dt X.K M2 H2 v d:=Dt.step st rv;have st2:Step M2 H2 (Z0 M2 l (.lst (ds.set j d))) (upd H2 l (.lst (vs.set j v))):=Step.UO hm;refine ⟨l,vs,kk,j,rfl,ri.int,g1,by rw [g2.length]; exact hj,?_⟩;exact k Z _ Δ _ (r2.XO st2 (g2.set rv2 j)) (st.trans st2) (e.step (st.trans st2)) hΦ
def Zb5 (te:DTE) (g:DTG):DTS:=λ D Δ M=>te Δ M λ x M1=>g x Δ M1 D.nx
theorem Kz {g:DTG} (he:DE X e te) (hg:DG X tg g) (hs:autoParam (swapsWithSole [tg] e pos.line X.env = pure false) zz3._auto_1) (hw:autoParam (swappedStores [tg] e X.env = pure none) zz3._auto_1)
  (h1:autoParam ((assignEach [tg] X.env).map (·.2) = [assign tg X.env]) zz3._auto_1):DS X (.Assign [tg] e pos) (Zb5 te g):=by
 obtain ⟨t1,p1,q1⟩:=he;obtain ⟨t2,p2,q2⟩:=hg;refine ⟨_,Zc5 p1 p2 hs hw h1,λ Z H Δ M D E r e h k=>?_⟩;refine q1 Z H Δ M _ _ r e h λ v H1 x M1 r1 st rv hx=>?_;exact q2 v Z H1 x Δ M1 _ _ r1 (e.step st) rv hx λ σ' H' Δ' M' r' st' e' hn=>k.nx σ' H' Δ' M' r' (st.trans st') e' hn
theorem Zo (i:Nat) {pos':Pos} (hN:X.N.Nodup) (he:DE X e te) (hi:autoParam (X.N[i]? = some x) zz3._auto_1) (hx:autoParam (Loc X.env.scope x) zz8._auto_1) (hs:autoParam (swapsWith e (some (.Name x pos')) pos.line X.env = pure false) zz3._auto_1)
  (hf:autoParam (X.fn x = true \/ X.env.scope.names.lookup x = some .local) zz0._auto_1):DS X (.Assign [.Name x pos'] e pos) (Zb5 te (KZ i)):=by
 obtain ⟨t1,p1,q1⟩:=he;refine ⟨_,ZeM hN hi hx p1 hs hf,λ Z H Δ M D E r e h k=>?_⟩;refine q1 Z H Δ M _ _ r e h λ v H1 x M1 r1 st rv hx=>?_;exact k.nx _ H1 _ M1 r1 st ((e.step st).set rv) hx
def LY (to te:DTE):DTE:=λ Δ M Φ=>to Δ M λ x M1=>onO x λ l=>JR (M1 l) λ _=>te Δ M1 λ y M2=>onD y λ d=>JR (M2 l) λ ds=>ds.length < sizeLine /\ Φ (.dat .none) (Z0 M2 l (.lst (ds ++ [d])))
theorem Jl {o:Expr} {to:DTE} {apos cpos:Pos} (ho:DE X o to) (he:DE X e te) (hbase:autoParam (attributeBase o "append" X.env (eval o X.env) = eval o X.env) zz3._auto_1)
  (hfew:((backTo cpos (starEach [e] X.env)).all (λ x=>!x.1) && (backToKw cpos (keywordEach [] X.env)).all (λ x=>x.1.isSome)
   && decide ([e].length + ([]:List Keyword).length + (if ([]:List Keyword).isEmpty then 0 else 1) < 30)) = true:=by rfl)
  (hline:autoParam ((apos.endLine == cpos.line) = true) zz3._auto_1) (hs:autoParam (starEach [e] X.env = (false,eval e X.env) :: starEach [] X.env) zz3._auto_1) (hplain:autoParam ((backTo cpos (starEach [] X.env)).any (·.1) = false) zz3._auto_1) :
  DE X (.Call (.Attribute o "append" apos) [e] [] cpos) (LY to te):=by
 obtain ⟨t1,p1,q1⟩:=ho;obtain ⟨t2,p2,q2⟩:=he;refine ⟨_,TR PySem.F.plainAttrs_list PySem.F.slot_list_append PySem.F.type_list_append HQ p1 (W8 p2 Dl hs) hbase hfew hline hs hplain,λ Z H Δ M Φ Q r e h k=>?_⟩;refine q1 Z H Δ M _ _ r e h λ v H1 x M1 r1 st rv hx=>?_;replace hx:=ZW hx;obtain ⟨l,rfl,hx⟩:=hx;replace hx:=QF hx;obtain ⟨oo,ho,hx⟩:=hx;cases (show v = .ref l from rv);have ty:tyV X.K "list" (.ref l) H1:=by
  obtain ⟨vs,g1,_⟩:=r1.ls l oo ho;exact .inl ⟨rfl,vs,SqL.of g1⟩
 refine ⟨ty,q2 Z H1 Δ M1 _ _ r1 (e.step st) hx λ w H2 y M2 r2 st2 rw2 hy=>?_⟩;replace hy:=ZR hy;obtain ⟨d,rfl,hy⟩:=hy;replace hy:=QF hy;obtain ⟨ds,hm,hz,hy⟩:=hy;obtain ⟨vs,g1,g2⟩:=r2.ls l ds hm;have st3:Step M2 H2 (Z0 M2 l (.lst (ds ++ [d]))) (upd H2 l (.lst (vs ++ [w]))):=Step.UO hm;refine ⟨l,vs,w,rfl,rfl,g1,by rw [g2.length]; exact hz,?_⟩;exact k.dat (r2.XO st3 (g2.append (.cons rw2 .nil))) (st.trans (st2.trans st3)) Dt.non hy
end
section
variable {body:List Stmt} {g:DTG} {tb:DTS}
def GJ (g:DTG) (tb:DTS) (D:Z9) (ds:List PyData) (Δ:DSt) (M:Mp):Prop:=
 ∃ J:Nat->DSt->Mp->Prop,J 0 Δ M /\ (∀ i d Δ M,ds[i]? = some d->J i Δ M->g (.dat d) Δ M λ Δ2 M2=>tb { D with nx:=J (i + 1),ct:=J (i + 1),bk:=D.nx } Δ2 M2) /\ ∀ Δ M,J ds.length Δ M->D.nx Δ M
def Zc4 (te:DTE) (g:DTG) (tb:DTS):DTS:=λ D Δ M=>te Δ M λ x M1=>onL x λ ds=>GJ g tb D ds Δ M1
def ZeC (te:DTE) (g:DTG) (tb:DTS):DTS:=λ D Δ M=>te Δ M λ x M1=>onT x λ ds=>GJ g tb D ds Δ M1
theorem FF (he:DE X iter te) (hg:DG X tg g) (hb:DSs X body tb) (hp:PassesOwn (model X.prog X.w) X.A X.env X.xe) (hc:X.calm = true) (hs:autoParam (∀ x,foldedSetIterable iter X.env x = pure x) zz2._auto_1) :
  DS X (.For tg iter body [] pos) (Zc4 te g tb):=by
 obtain ⟨t1,p1,q1⟩:=he;obtain ⟨t2,p2,q2⟩:=hg;obtain ⟨t3,p3,q3⟩:=hb;refine ⟨_,G0 hp hc (Fz p1) p2 p3 hs,λ Z H Δ M D E r e h k=>?_⟩;refine q1 Z H Δ M _ _ r e h λ v H1 x M1 r1 st rv hx=>?_;replace hx:=C1 hx;obtain ⟨ds,rfl,J,j0,jt,jd⟩:=hx;obtain ⟨a,xs,rfl,h1,h2⟩:=rv.lst
 refine ⟨a,rfl,⟨xs,h1.sq⟩,P0 (xs:=xs) (λ i Z H=>∃ Δ M,ZF X.K M H /\ Step M1 H1 M H /\ QV X.K M H Z Δ /\ J i Δ M) ⟨Δ,M1,r1,Step.refl,e.step st,j0⟩
  (λ i Z H _ ⟨Δ,M,_,st',_,_⟩=>(h1.step st').sq) (λ i y Z H hi ⟨Δ,M,r',st',e',j⟩=>?_) (λ Z H ⟨Δ,M,r',st',e',j⟩=>?_)⟩
 ·obtain ⟨d,hd,hy⟩:=h2.Pa hi;refine q2 y Z H (.dat d) Δ M _ _ r' e' (Dt.step st' hy) (jt i d Δ M hd j) λ σ2 H2 Δ2 M2 r2 st2 e2 hb2=>?_;refine q3 σ2 H2 Δ2 M2 _ _ r2 e2 hb2 ?_;have s12:Step M1 H1 M2 H2:=st'.trans st2
  exact ⟨λ σ' H' Δ' M' a b c d=>⟨Δ',M',a,s12.trans b,c,d⟩,k.rt.step (st.trans s12),λ σ' H' Δ' M' a b c d=>k.nx σ' H' Δ' M' a ((st.trans s12).trans b) c d,
   λ σ' H' Δ' M' a b c d=>⟨Δ',M',a,s12.trans b,c,d⟩⟩
 ·rw [h2.length] at j;exact k.nx Z H Δ M r' (st.trans st') e' (jd Δ M j)
theorem Zac (he:DE X iter te) (hg:DG X tg g) (hb:DSs X body tb) (hp:PassesOwn (model X.prog X.w) X.A X.env X.xe) (hc:X.calm = true) (hs:autoParam (∀ x,foldedSetIterable iter X.env x = pure x) zz2._auto_1) :
  DS X (.For tg iter body [] pos) (ZeC te g tb):=by
 obtain ⟨t1,p1,q1⟩:=he;obtain ⟨t2,p2,q2⟩:=hg;obtain ⟨t3,p3,q3⟩:=hb;refine ⟨_,G0 hp hc (SM p1) p2 p3 hs,λ Z H Δ M D E r e h k=>?_⟩;refine q1 Z H Δ M _ _ r e h λ v H1 x M1 r1 st rv hx=>?_;replace hx:=Yv hx;obtain ⟨ds,rfl,J,j0,jt,jd⟩:=hx;obtain ⟨a,xs,rfl,h1,h2⟩:=rv.tup
 refine ⟨a,rfl,⟨xs,h1.sq⟩,S1 (xs:=xs) (λ i Z H=>∃ Δ M,ZF X.K M H /\ Step M1 H1 M H /\ QV X.K M H Z Δ /\ J i Δ M) ⟨Δ,M1,r1,Step.refl,e.step st,j0⟩
  (λ i Z H _ ⟨Δ,M,_,st',_,_⟩=>(h1.step st').sq) (λ i y Z H hi ⟨Δ,M,r',st',e',j⟩=>?_) (λ Z H ⟨Δ,M,r',st',e',j⟩=>?_)⟩
 ·obtain ⟨d,hd,hy⟩:=h2.Pa hi;refine q2 y Z H (.dat d) Δ M _ _ r' e' (Dt.step st' hy) (jt i d Δ M hd j) λ σ2 H2 Δ2 M2 r2 st2 e2 hb2=>?_;refine q3 σ2 H2 Δ2 M2 _ _ r2 e2 hb2 ?_;have s12:Step M1 H1 M2 H2:=st'.trans st2
  exact ⟨λ σ' H' Δ' M' a b c d=>⟨Δ',M',a,s12.trans b,c,d⟩,k.rt.step (st.trans s12),λ σ' H' Δ' M' a b c d=>k.nx σ' H' Δ' M' a ((st.trans s12).trans b) c d,
   λ σ' H' Δ' M' a b c d=>⟨Δ',M',a,s12.trans b,c,d⟩⟩
 ·rw [h2.length] at j;exact k.nx Z H Δ M r' (st.trans st') e' (jd Δ M j)
def Gj (g:DTG) (tb:DTS) (D:Z9) (lo:Int) (n:Nat) (Δ:DSt) (M:Mp):Prop:=
 ∃ J:Nat->DSt->Mp->Prop,J 0 Δ M /\ (∀ i Δ M,i < n->J i Δ M->g (.dat (.int (lo + i))) Δ M λ Δ2 M2=>tb { D with nx:=J (i + 1),ct:=J (i + 1),bk:=D.nx } Δ2 M2) /\ ∀ Δ M,J n Δ M->D.nx Δ M
theorem RQ {g':TG} {tb':TS} {lo:Int} {n:Nat} (q2:∀ v Z H x Δ M Φ (Q:L2.St->Hp->Prop),ZF X.K M H->QV X.K M H Z Δ->Ql X.K M H v x->g x Δ M Φ ->
  (∀ σ' H' Δ' M',ZF X.K M' H'->Step M H M' H'->QV X.K M' H' σ' Δ'->Φ Δ' M'->Q σ' H')->g' v Z H Q)
  (q3:∀ Z H Δ M D E,ZF X.K M H->QV X.K M H Z Δ->tb D Δ M->XZ X.K M H D E->tb' E Z H) {D:Z9} {E:Ends} {Z:L2.St} {H:Hp} {Δ:DSt} {M:Mp} (r:ZF X.K M H) (e:QV X.K M H Z Δ) (h:Gj g tb D lo n Δ M) (k:XZ X.K M H D E) :
  ∃ W:Nat->Nat->L2.St->Hp->Prop,(∃ m,W 0 m Z H) /\ ∀ i m Z H,W i m Z H ->
   ((Itr lo n).stop i H /\ E.nx Z H) \/ ((Itr lo n).go i H /\ ∃ N:L2.St->Hp->Prop,(∀ σ' H',N σ' H'->∃ m',m' < m /\ W (i + 1) m' σ' H') /\ ∀ x H',(Itr lo n).yld i H x H'->g' x Z H' λ σ2 H2=>tb' { E with nx:=N,ct:=N,bk:=E.nx } σ2 H2):=by
 obtain ⟨J,j0,jt,jd⟩:=h;refine LP (λ i σ' H'=>∃ Δ' M',ZF X.K M' H' /\ Step M H M' H' /\ QV X.K M' H' σ' Δ' /\ J i Δ' M') ⟨Δ,M,r,Step.refl,e,j0⟩ (λ i σ1 H1 hi ⟨Δ1,M1,r',st',e',j⟩=>?_) (λ σ1 H1 ⟨Δ1,M1,r',st',e',j⟩=>?_)
 ·refine q2 _ σ1 H1 (.dat (.int (lo + i))) Δ1 M1 _ _ r' e' (Dt.int _) (jt i Δ1 M1 hi j) λ σ2 H2 Δ2 M2 r2 st2 e2 hb2=>?_;refine q3 σ2 H2 Δ2 M2 _ _ r2 e2 hb2 ?_;have s12:Step M H M2 H2:=st'.trans st2
  exact ⟨λ σ' H' Δ' M' a b c d=>⟨Δ',M',a,s12.trans b,c,d⟩,k.rt.step s12,λ σ' H' Δ' M' a b c d=>k.nx σ' H' Δ' M' a (s12.trans b) c d,
   λ σ' H' Δ' M' a b c d=>⟨Δ',M',a,s12.trans b,c,d⟩⟩
 ·exact k.nx σ1 H1 Δ1 M1 r' st' e' (jd Δ1 M1 j)
def InR (j:Int):Prop:=-(2 ^ 62) <= j /\ j < 2 ^ 62
def R7 (ta:DTA) (g:DTG) (tb:DTS):DTS:=λ D Δ M=>ta Δ M λ xs M1=>on1 xs λ x=>onI x λ j=>InR j /\ Gj g tb D 0 j.toNat Δ M1
theorem Vr {a:Expr} {p p2:Pos} (hg0:Gl X "range") (hm:X.mg "range" = none) (ha:DA X [a] ta) (hg:DG X tg g) (hb:DSs X body tb) (hp:PassesOwn (model X.prog X.w) X.A X.env X.xe) (hc:X.calm = true)
  (hs:autoParam (starEach [a] X.env = [(false,eval a X.env)]) zz3._auto_1) (hs2:autoParam (∀ x,foldedSetIterable (.Call (.Name "range" p) [a] [] p2) X.env x = pure x) zz2._auto_1):DS X (.For tg (.Call (.Name "range" p) [a] [] p2) body [] pos) (R7 ta g tb):=by
 obtain ⟨t1,p1,q1⟩:=ha;obtain ⟨t2,p2,q2⟩:=hg;obtain ⟨t3,p3,q3⟩:=hb;refine ⟨_,G0 hp hc (UB hg0 hm p1 hs) p2 p3 hs2,λ Z H Δ M D E r e h k=>?_⟩;refine q1 Z H Δ M _ _ r e h λ vs H1 xs M1 r1 st rv hx=>?_;replace hx:=Zu hx;obtain ⟨x,rfl,hx⟩:=hx;replace hx:=Zt hx;obtain ⟨j,rfl,⟨h1,h2⟩,hx⟩:=hx;obtain ⟨v,rfl,hv⟩:=Paired.one rv;exact ⟨j,by rw [Ql.int hv],h1,h2,RQ q2 q3 r1 (e.step st) hx (k.step st)⟩
def Rr (ta:DTA) (g:DTG) (tb:DTS):DTS:=λ D Δ M=>ta Δ M λ xs M1=>on2 xs λ x y=>onI x λ i=>onI y λ j=>(InR i /\ InR j) /\ Gj g tb D i (j - i).toNat Δ M1
end
abbrev DSp:=List DV->Mp->DK->Prop
def lift (K:Fk) (S:DSp):Sp:=λ vs H Q _=>∃ xs M Φ,ZF K M H /\ JF K M H vs xs /\ S xs M Φ /\ Rch K M H Φ Q
def Tp (S:DSp) (t:DTA):DTE:=λ Δ M Φ=>t Δ M λ xs M1=>S xs M1 Φ
section
variable {CX:CXT} {k:Nat} {ps:List Str} {S:DSp} {E:XK} {p:Pos} {t:DTA}
theorem Tt (F:Qa X.prog X.w X.K X.mg X.base CX k f fd ps (lift X.K S)) (hr:Jq k X.A) (hg:Gl X x) (hm:X.mg x = some (.ref f)) (hk:PySem.W.keepIn X.K (.ref f) = true) (hb:Binds X.K fd ps []) (hx:Passes CX X E)
  (ha:DA X (e :: es) t) (hdb:autoParam ((x == ("__debug__" : Str)) = false) zz1._auto_1) (he:autoParam (starEach (e :: es) X.env = (false,eval e X.env) :: starEach es X.env) zz3._auto_1) (hpl:autoParam ((backTo pos (starEach es X.env)).any (·.1) = false) zz3._auto_1) :
  DE X (.Call (.Name x p) (e :: es) [] pos) (Tp S t):=by
 obtain ⟨t1,p1,q1⟩:=ha;refine ⟨_,Zad F hr hg hm hk hb .nil hx p1 hdb he hpl,λ Z H Δ M Φ Q r e h k=>?_⟩;refine q1 Z H Δ M _ _ r e h λ vs H1 xs M1 r1 st rv hx=>?_;show lift X.K S (vs ++ []) H1 Q E;rw [List.append_nil];exact ⟨xs,M1,Φ,r1,rv,hx,k.step st⟩
end
section
variable {base:Heap}
theorem okD {ps:List Str} {k:Nat} {S:DSp} (F:Fun K x qual st f fd) (Sc:Zm N ps (Zf st)) (len:∀ xs M Φ,S xs M Φ->xs.length = ps.length)
  (hbody:∀ (cdv:Value) (A:Around) (outer:List Env) (s:Shared) (H:Hp) (E:XK),Jq k (A.deeper (envOfC qual (Zf st) s.heap.objs.size f cdv)) ->
   ∃ τ,DSs (Fc CX0 P w K mg base N qual (Zf st) f cdv A outer s H E).nox (Qr st) τ /\ ∀ xs M Φ,S xs M Φ->τ { nx:=λ _ M'=>Φ (.dat .none) M',rt:=Φ } (J2 N xs) M):Qa P w K mg base CX0 (k + 1) f fd ps (lift K S):=by
 refine F.ok Sc (λ vs H Q E h=>?_) λ cdv A outer s H vs Q E hr h=>?_
 ·obtain ⟨xs,M,Φ,_,rv,hs,_⟩:=h;rw [Paired.length rv];exact len xs M Φ hs
 ·obtain ⟨xs,M,Φ,r,rv,hs,kk⟩:=h;obtain ⟨τ,⟨t,p,q⟩,hτ⟩:=hbody cdv A outer s H E hr;refine ⟨t,p,q (start N vs) H (J2 N xs) M _ _ r (QV.start rv) (hτ xs M Φ hs) ⟨λ σ' H' Δ' M' r' st' e' hn=>?_,kk,λ _ _ _ _ _ _ _ h=>h.elim,λ _ _ _ _ _ _ _ h=>h.elim⟩⟩;exact kk.dat r' st' Dt.non hn
end
section
variable {k v:Expr}
def At (X:Cx) (e:Expr) (τ:DTE):Prop:=∃ t,PE X e t /\ ∀ Z H Δ M Φ,QV X.K M H Z Δ->τ Δ M Φ->∃ v x,Ql X.K M H v x /\ Φ x M /\ ∀ (H':Hp) (Q:VK),Q v H'->t Z H' Q
theorem Wi (i:Nat) {pos:Pos} (hN:autoParam (X.N[i]? = some x) zz3._auto_1) (hv:autoParam (Vis X.env.scope x) zz5._auto_1) (hd:autoParam ((x == ("__debug__" : Str)) = false) zz1._auto_1)
  (hcd:autoParam ((x == ("__classdict__" : Str)) = false) zz1._auto_1):At X (.Name x pos) (Zh6 i):=by
 refine ⟨_,Rv hN hv hd hcd,λ Z H Δ M Φ e h=>?_⟩;replace h:=UU h;obtain ⟨x,e1,h⟩:=h;obtain ⟨v,e2,q⟩:=e.at' i x e1;exact ⟨v,x,q,h,λ H' Q hq=>⟨v,e2,hq⟩⟩
theorem Wz {x j pos}:At X (.Constant (.str x) j pos) (dC (.str x)):=⟨_,R1,λ _ H _ M Φ _ h=>⟨.str x,.dat (.str x),Dt.str x,h,λ _ _ hq=>hq⟩⟩
def Zch:DTE:=λ _ M Φ=>Φ (.dat (.dict [])) M
def GK (x:DV) (P:Key->Prop):Prop:=match x with | .dat (.int i)=>P (.inl i) | .dat (.str s)=>P (.inr s) | _=>False
noncomputable def Px:List PyData->Option (List Key)
 | []=>some []
 | .int i :: r=>(Px r).map (.inl i :: ·)
 | .str s :: r=>(Px r).map (.inr s :: ·)
 | _ :: _=>none
def ZhQ (ds:List PyData) (P:List Key->Prop):Prop:=match Px ds with | some ks=>P ks | none=>False
def Zd8 (tk tv:DTE):DTE:=λ Δ M Φ=>tk Δ M λ x M1=>tv Δ M1 λ y M2=>GK x λ k=>onD y λ d=>Φ (.dat (.dict [(kD k,d)])) M2
def ZeO (tk tv tk' tv':DTE):DTE:=λ Δ M Φ=>tk Δ M λ x M1=>tv Δ M1 λ y M2=>tk' Δ M2 λ x' M3=>tv' Δ M3 λ y' M4=>GK x λ k=>onD y λ d=>GK x' λ k'=>onD y' λ d'=>k ≠ k' /\ Φ (.dat (.dict [(kD k,d),(kD k',d')])) M4
def T4 (tk tv:DTE):DTE:=λ Δ M Φ=>tk Δ M λ x M1=>tv Δ M1 λ y M2=>onT x λ ds=>ZhQ ds λ ks=>onD y λ d=>Φ (.dat (.dict [(.tuple (ks.map kD),d)])) M2
theorem SqT.new {o:HO} (h:SqT K H a xs) (hp:H p = none):SqT K (upd H p o) a xs:=by
 rcases h with (h | ⟨ob,h⟩) | h
 ·exact .inl (.inl (by rw [ZH (ZA h hp)]; exact h))
 ·exact .inl (.inr ⟨ob,by rw [ZH (ZA h hp)]; exact h⟩)
 ·exact .inr h
end
mutual
noncomputable def cost:PyData->Nat
 | .none=>4
 | .bool _=>5
 | .int _=>1921
 | .str x=>(reprText x).length
 | .list xs=>Qw xs + 2
 | .tuple xs=>Qw xs + 3
 | .dict kvs=>K8 kvs + 2
noncomputable def Qw:List PyData->Nat
 | []=>0
 | x :: xs=>cost x + 2 + Qw xs
noncomputable def K8:List (PyData × PyData)->Nat
 | []=>0
 | (k,v) :: r=>cost k + 2 + cost v + 2 + K8 r
end
theorem Kc:∀ (ts:List Str) (k:Nat) (acc:Str),(textFrom k acc ts).length <= acc.length + piled ts
 | [],k,acc=>Nat.le_add_right _ _
 | t :: r,k,acc=>by
  have h:=Kc r (k + 1) (acc ++ (if k > 0 then ", " else "" : String) ++ t);have e:(acc ++ (if k > 0 then ", " else "" : String) ++ t).length = acc.length + (if k > 0 then 2 else 0) + t.length:=by
   rw [strLen_append,strLen_append]
   split <;> rfl
  have d1:(if k > 0 then 2 else 0:Nat) <= 2:=by split <;> lia
  rw [e] at h;rw [piled_cons];show (textFrom (k + 1) _ r).length <= _;lia
theorem Mj (ts:List Str):(Str.join ", " ts).length <= piled ts:=by
 by_cases h:ts = []
 ·subst h; exact Nat.le_of_eq rfl
 ·have:=join_length_add ts h;lia
mutual
theorem JD:∀ d:PyData,d.showable = true->d.shown.length <= cost d
 | .none,_=>by simp only [PyData.shown,cost]; exact Nat.le_of_eq rfl
 | .bool b,_=>by
  simp only [PyData.shown,cost];cases b
  ·exact Nat.le_of_eq rfl
  ·exact (by decide:4 <= 5)
 | .int i,h=>by
  simp only [PyData.shown,cost];exact int_text_len_1921 (by simpa [PyData.showable] using h)
 | .str x,_=>by simp only [PyData.shown,cost]; exact Nat.le_refl _
 | .list xs,h=>by
  have h1:=JN xs (by simpa [PyData.showable] using h);have h2:=Kc (PyData.shownAll xs) 0 "[";have e1:((("[" : String):Str)).length = 1:=rfl;have e2:((("]" : String):Str)).length = 1:=rfl;simp only [PyData.shown,cost];unfold listText;rw [strLen_append,e2];rw [e1] at h2;lia
 | .tuple xs,h=>by
  have h1:=JN xs (by simpa [PyData.showable] using h);have h2:=Mj (PyData.shownAll xs);have e1:((("(" : String):Str)).length = 1:=rfl;have e3:(((if (PyData.shownAll xs).length == 1 then ",)" else ")" : String):Str)).length <= 2:=by split <;> decide
  simp only [PyData.shown,cost];unfold tupleText;rw [strLen_append,strLen_append,e1];lia
 | .dict kvs,h=>by
  have h1:=Y4 kvs (by simpa [PyData.showable] using h);have h2:=Mj (PyData.shownKv kvs);have e:(dictText (PyData.shownKv kvs)).length = 1 + (Str.join ", " (PyData.shownKv kvs)).length + 1:=by
   unfold dictText;rw [strLen_append,strLen_append]; rfl
  simp only [PyData.shown,cost];lia
theorem JN:∀ xs:List PyData,PyData.showableAll xs = true->piled (PyData.shownAll xs) <= Qw xs
 | [],_=>by simp only [PyData.shownAll,Qw]; exact Nat.le_of_eq rfl
 | x :: xs,h=>by
  have h':x.showable = true /\ PyData.showableAll xs = true:=by simpa [PyData.showableAll] using h
  have h1:=JD x h'.1;have h2:=JN xs h'.2;simp only [PyData.shownAll,Qw];rw [piled_cons];lia
theorem Y4:∀ kvs:List (PyData × PyData),PyData.showableKv kvs = true->piled (PyData.shownKv kvs) <= K8 kvs
 | [],_=>by simp only [PyData.shownKv,K8]; exact Nat.le_of_eq rfl
 | (k,v) :: r,h=>by
  have h':(k.showable = true /\ v.showable = true) /\ PyData.showableKv r = true:=by simpa [PyData.showableKv] using h
  have h1:=JD k h'.1.1;have h2:=JD v h'.1.2;have h3:=Y4 r h'.2;have e:((k.shown ++ ": " ++ v.shown:Str)).length = k.shown.length + 2 + v.shown.length:=by rw [strLen_append,strLen_append]; rfl
  simp only [PyData.shownKv,K8];rw [piled_cons,e];lia
end
theorem Shw.of (s:d.showable = true) (m:(d.hasDict && ZX d) = false) (dp:d.depth <= 64) (z:cost d <= 1000000):Shw d:=
 ⟨s,m,dp,Nat.le_trans (JD d s) (Nat.le_trans z (by rw [sizeLine_eq]; decide))⟩
structure Own (K:Fk) (mg:Str->Option Value) (x:Str) (st:Stmt) (ps:List Str) (f:Addr) (fd:FuncData):Prop where
 F:Fun K x x st f fd
 m:mg x = some (.ref f)
 b:Binds K fd ps []
theorem FN {α:Type} {l:List α} {i:Int} (h0:0 <= i) (h1:i < l.length):∃ d,atI l i = some d /\ d ∈ l:=by
 have hl:i.toNat < l.length:=by lia
 refine ⟨l[i.toNat],?_,List.getElem_mem hl⟩;have q:atI l ((i.toNat:Nat):Int) = some l[i.toNat]:=VX (by simp [hl]);rw [show ((i.toNat:Nat):Int) = i by lia] at q;exact q
theorem ZfC:ixN 3 0 = some 0:=rfl
theorem Zeq:ixN 3 1 = some 1:=rfl
theorem Ze2:ixN 3 2 = some 2:=rfl
theorem TN {j:Int} (h0:0 <= j) (h1:j < ns.length):∃ c:Int,atI (ns.map PyData.int) j = some (.int c):=by
 obtain ⟨d,e,hm⟩:=FN (l:=ns.map PyData.int) h0 (by rw [List.length_map]; exact h1);obtain ⟨c,_,rfl⟩:=List.mem_map.mp hm;exact ⟨c,e⟩
theorem GW (x:Int) {m:Int} (h:0 < m):0 <= x % m /\ x % m < m:=⟨Int.emod_nonneg _ (by lia),Int.emod_lt_of_pos _ h⟩
def sp1 (f:PyData->Bool):DSp:=λ xs M Φ=>∃ d,xs = [.dat d] /\ Φ (.dat (.bool (f d))) M
theorem Lg (k:Int) (h:0 <= k /\ k <= 1000000):Zhn 10 k:=⟨h.1,h.2,by decide⟩
theorem F2 (h:M a = none):V1 (Z0 M a o) a = M:=by
 funext b
 unfold V1 Z0
 split
 ·rename_i e; rw [e,h]
 ·rfl
theorem Zk {p:Prop} [Decidable p] {A B:Prop} (h1:p->A) (h2:¬ p->B):if decide p = true then A else B:=by
 by_cases h:p
 ·rw [decide_eq_true h,if_pos rfl]; exact h1 h
 ·rw [decide_eq_false h,if_neg Bool.false_ne_true]; exact h2 h
noncomputable def YS (env:Env):List (Str × NameKind)->List (Str × Addr)->List (Str × Addr)
 | [],cs=>cs
 | (n,k) :: r,cs=>YS env r (if (k == NameKind.free) = true then (n,(env.cells.lookup n).getD 0) :: cs else cs)
theorem Wv {env:Env} (f:Str × NameKind->List (Str × Addr)->Sem (ForInStep (List (Str × Addr)))):∀ (l:List (Str × NameKind)) (cs:List (Str × Addr)),
  (∀ y ∈ l,∀ cs,f y cs = pure (.yield (if (y.2 == NameKind.free) = true then (y.1,(env.cells.lookup y.1).getD 0) :: cs else cs)))->forIn l cs f = pure (YS env l cs)
 | [],cs,_=>by rw [List.forIn_nil]; rfl
 | (n,k) :: r,cs,h=>by
  rw [List.forIn_cons,h _ List.mem_cons_self,pure_bind];exact Wv f r _ λ y hy=>h y (List.mem_cons_of_mem _ hy)
theorem Xs (h:∀ y ∈ scope.names,y.2 = .free->∃ c,env.cells.lookup y.1 = some c):closureFor scope env = pure (YS env scope.names []):=by
 simp only [closureFor]
 rw [Wv (env:=env) _ scope.names [] (λ y hy cs=>by
  obtain ⟨n,k⟩:=y
  by_cases hk:k = .free
  ·subst hk;obtain ⟨c,e⟩:=h _ hy rfl;have e':env.cells.lookup n = some c:=e;simp only [beq_self_eq_true,if_true,cellOf,e',Option.getD_some,pure_bind]
  ·have:(k == NameKind.free) = false:=by simpa using hk
   simp only [this,Bool.false_eq_true,if_false])]
 rfl
theorem CT:∀ {l:List (Str × NameKind)} {cs:List (Str × Addr)} {x:Str} {c:Addr},(x,c) ∈ YS env l cs->(x,c) ∈ cs \/ ((x,NameKind.free) ∈ l /\ c = (env.cells.lookup x).getD 0)
 | [],_,_,_,h=>.inl h
 | (n,k) :: r,cs,x,c,h=>by
  rcases CT (l:=r) h with h | ⟨h1,h2⟩
  ·by_cases hk:k = .free
   ·subst hk;rw [if_pos (by simp)] at h
    rcases List.mem_cons.mp h with h | h
    ·cases h;exact .inr ⟨List.mem_cons_self,rfl⟩
    ·exact .inl h
   ·have:(k == NameKind.free) = false:=by simpa using hk
    rw [if_neg (by rw [this]; exact Bool.false_ne_true)] at h;exact .inl h
  ·exact .inr ⟨List.mem_cons_of_mem _ h1,h2⟩
theorem DB:∀ {l:List (Str × NameKind)} {cs:List (Str × Addr)} {x:Str},((x,NameKind.free) ∈ l \/ ∃ c,(x,c) ∈ cs)->∃ c,(x,c) ∈ YS env l cs
 | [],_,_,h=>h.elim (λ z=>nomatch z) id
 | (n,k) :: r,cs,x,h=>by
  refine DB (l:=r) ?_
  rcases h with h | ⟨c,h⟩
  ·rcases List.mem_cons.mp h with h | h
   ·cases h;exact .inr ⟨_,by rw [if_pos (by simp)]; exact List.mem_cons_self⟩
   ·exact .inl h
  ·refine .inr ⟨c,?_⟩
   split
   ·exact List.mem_cons_of_mem _ h
   ·exact h
theorem XD {β:Type}:∀ {l:List (Str × β)} {x:Str} {c:β},(x,c) ∈ l->∃ c',l.lookup x = some c'
 | [],_,_,h=>nomatch h
 | (n,d) :: r,x,c,h=>by
  rw [List.lookup_cons];cases e:x == n with
  | true=>exact ⟨d,rfl⟩
  | false=>
   rcases List.mem_cons.mp h with h | h
   ·cases h;simp at e
   ·exact XD h
theorem QG {names:List (Str × NameKind)} (hf:∀ y ∈ names,y.2 = .free->∃ c,env.cells.lookup y.1 = some c) (h:(YS env names []).lookup x = some c) :
  env.cells.lookup x = some c /\ (x,NameKind.free) ∈ names:=by
 rcases CT (PySem.mem_of_lookup h) with h | ⟨h1,h2⟩
 ·exact nomatch h
 ·obtain ⟨c',e⟩:=hf _ h1 rfl;have e':env.cells.lookup x = some c':=e;rw [e',Option.getD_some] at h2;subst h2;exact ⟨e',h1⟩
theorem DP {names:List (Str × NameKind)} (hf:∀ y ∈ names,y.2 = .free->∃ c,env.cells.lookup y.1 = some c) (h:(x,NameKind.free) ∈ names):∃ c,(YS env names []).lookup x = some c /\ env.cells.lookup x = some c:=by
 obtain ⟨c,hm⟩:=DB (env:=env) (cs:=[]) (.inl h);obtain ⟨c',e⟩:=XD hm;exact ⟨c',e,(QG hf e).1⟩
noncomputable def ZJ (X:Cx) (scope:Scope) (C:Addr) (N:List Str) (ex:List Addr) (s:Shared) (H:Hp):Cx:=
 { X with N:=N,s₀:=s,H₀:=H,env:=compEnvC scope (YS X.env scope.names []) C X.env,outer:=X.stack,ex:=ex,fn:=λ _=>false,pn:=[],xe:=λ _ _=>False }
noncomputable def Va (ix:List (Option Nat)) (Z:L2.St):L2.St:=ix.map λ o=>o.bind λ i=>(Z[i]?).join
noncomputable def Fe (ix:List (Option Nat)) (Δ:DSt):DSt:=ix.map λ o=>o.bind λ i=>(Δ[i]?).join
structure J1 (X:Cx) (scope:Scope) (N:List Str) (ix:List (Option Nat)):Prop where
 kind:scope.kind = .function
 cellF:∀ y ∈ scope.names,y.2 ≠ .cell
 names:∀ y ∈ scope.names,y.2 = .local->scope.names.lookup y.1 = some .local
 free:∀ y ∈ scope.names,y.2 = .free->X.env.kindOf y.1 = some .cell
 len:N.length = ix.length
 cap:∀ (j:Nat) (x:Str) (i:Nat),N[j]? = some x->ix[j]? = some (some i)->X.N[i]? = some x /\ (x,NameKind.free) ∈ scope.names /\ (relabel scope X.env).names.lookup x = some .cell
theorem H0 {Z:L2.St} (h:(Va ix Z)[j]? = some (some v)):∃ i,ix[j]? = some (some i) /\ Z[i]? = some (some v):=by
 unfold Va at h;rw [List.getElem?_map] at h;cases e:ix[j]? with
 | none=>rw [e] at h; cases h
 | some o=>
  rw [e] at h;cases o with
  | none=>simp at h
  | some i=>
   refine ⟨i,rfl,?_⟩;have h':(Z[i]?).join = some v:=by simpa using h
   cases q:Z[i]? with
   | none=>rw [q] at h'; cases h'
   | some o'=>rw [q] at h'; exact congrArg some h'
theorem QV.cap {Z:L2.St} (h:QV K M H Z Δ) (ix:List (Option Nat)):QV K M H (Va ix Z) (Fe ix Δ):=by
 refine ⟨by unfold Va Fe; rw [List.length_map,List.length_map],λ j x e=>?_⟩;unfold Fe at e;rw [List.getElem?_map] at e;cases q:ix[j]? with
 | none=>rw [q] at e; cases e
 | some o=>
  rw [q] at e;cases o with
  | none=>simp at e
  | some i=>
   have e':(Δ[i]?).join = some x:=by simpa using e
   have e2:Δ[i]? = some (some x):=by
    cases q2:Δ[i]? with
    | none=>rw [q2] at e'; cases e'
    | some o'=>rw [q2] at e'; exact congrArg some e'
   obtain ⟨v,hv,rv⟩:=h.at' i x e2;refine ⟨v,?_,rv⟩;unfold Va;rw [List.getElem?_map,q];simp [hv]
section
variable {Z:L2.St} {H2:Hp} {s2:Shared} {C:Addr} {fp:List Addr}
theorem Zcc (ok:J1 X scope N ix) (I2:Inv X pins Z H2 s2):∀ y ∈ scope.names,y.2 = .free->∃ c,X.env.cells.lookup y.1 = some c:=λ y hy hk=>I2.ok.has y.1 (.inl (ok.free y hy hk))
theorem ER (ok:J1 X scope N ix) (I2:Inv X pins Z H2 s2) (f2:∀ b ∈ fp,CQ X pins H2 b) (ex:∀ b ∈ fp,∃ o,s2.heap.get? b = some o) (hC:s2.heap.objs.size <= C):(ZJ X scope C N fp s2 H2).Ok:=by
 have hf:=Zcc ok I2
 refine ⟨I2.ok.mod,ok.kind,I2.ok.glob,I2.ok.blt,hC,λ x y c h1 h2=>I2.ok.inj x y c (QG hf h1).1 (QG hf h2).1,λ x hx=>?_,λ x c h=>absurd h Bool.false_ne_true,I2.ok.hd,I2.ok.frames,.inl rfl,λ b hb=>?_,λ b o e=>I2.bs b o e,Nat.le_trans I2.ok.bsz I2.sz,
  λ b o e hb=>?_,λ b hb z=>?_,I2.stack,I2.Hw⟩
 ·have hx':(relabel scope X.env).names.lookup x = some .cell \/ (relabel scope X.env).names.lookup x = some .free:=hx;have key:(x,NameKind.free) ∈ scope.names:=by
   have go:∀ k',(relabel scope X.env).names.lookup x = some k'->(k' = .cell \/ k' = .free)->(x,NameKind.free) ∈ scope.names:=λ k' e hk=>by
    have hm:=PySem.mem_of_lookup e;obtain ⟨⟨n,k⟩,hn,q⟩:=List.mem_map.mp hm
    by_cases hr:(k == NameKind.free && X.env.scope.kind == .function && X.env.kindOf n == some .cell) = true
    ·have q':(n,NameKind.cell) = (x,k'):=by rw [<- q]; simp [hr]
     cases q';have:k = .free:=by simp only [Bool.and_eq_true] at hr; simpa using hr.1.1
     subst this;exact hn
    ·have q':(n,k) = (x,k'):=by rw [<- q]; simp [hr]
     cases q'
     rcases hk with rfl | rfl
     ·exact absurd rfl (ok.cellF _ hn)
     ·exact hn
   rcases hx' with h | h
   ·exact go _ h (.inl rfl)
   ·exact go _ h (.inr rfl)
  obtain ⟨c,h1,_⟩:=DP hf key;exact ⟨c,h1⟩
 ·obtain ⟨o,e⟩:=ex b hb;exact ⟨Nat.ne_of_lt (Nat.lt_of_lt_of_le (Heap.lt_size e) hC),λ x c h=>(f2 b hb).2.2.2.2.1 x c (QG hf h).1⟩
 ·rcases (f2 b hb).2.2.2.1 with z | z
  ·exact I2.ok.noex b o e z
  ·exact absurd (Nat.lt_of_lt_of_le (Heap.lt_size e) (Nat.le_trans I2.ok.bsz z)) (Nat.lt_irrefl _)
 ·rcases List.mem_cons.mp (I2.LD b z) with z | z
  ·exact (f2 b hb).2.1 z
  ·exact (f2 b hb).2.2.1 z
theorem CO (ok:J1 X scope N ix) (I2:Inv X pins Z H2 s2) (f2:∀ b ∈ fp,CQ X pins H2 b) {m:Str->Option Value} (u:Un (frs X.stack) fp H2 H s2.heap s.heap) :
  ∀ (i:Nat) (x:Str) (v:V),N[i]? = some x->(Va ix Z)[i]? = some (some v)->∃ w,RelV v w /\ Look (ZJ X scope C N fp s2 H2).env s.heap m x w:=λ j x v hN hv=>by
 obtain ⟨i,hi,hs⟩:=H0 hv;obtain ⟨hx,hm,hr⟩:=ok.cap j x i hN hi;have hk:X.env.kindOf x = some .cell:=ok.free _ hm rfl;obtain ⟨m0,_,hl⟩:=I2.loc;obtain ⟨w,r,l⟩:=hl i x v hx hs (.inr (.inl hk));refine ⟨w,r,.inr ⟨.inl hr,?_⟩⟩
 rcases l with ⟨z,_⟩ | ⟨_,c,e,hc⟩
 ·rw [hk] at z; cases z
 ·obtain ⟨c',h1,h2⟩:=DP (Zcc ok I2) hm;rw [e] at h2;cases h2;refine ⟨c,h1,?_⟩;obtain ⟨o,ho,hd⟩:=hc;obtain ⟨sl,q⟩:=u.any ho (I2.freeC x c e) λ z=>(f2 c z).2.2.2.2.1 x c e rfl;exact ⟨_,q,hd⟩
end
section
variable {prog:Program} {R:Result->Shared->Prop}
theorem Gi {elt target iter:Expr} {ifs:List Expr} {scope:Scope} {pos:Pos} {it acc:Value} {env:Env} (I:Nat->Shared->Prop)
  (turn:∀ n s,I n s->wpAny (model prog w) A (pyNext it) (λ r s₁=>match r with
   | none=>R (.ok .next) s₁
   | some v=>wpAny (model prog w) A (letOwnedTupleGo target it v) (λ _ s₁'=>wpAny (model prog w) A (assign target env v) (λ _ s₂=>
     wpAny (model prog w) A (forIn ifs true λ c r=>if r = true then do let ok <- isTrue c env (eval c env); pure (ForInStep.yield ok) else pure (ForInStep.yield r)) (λ ok s₃=>
      if ok = true then wpAny (model prog w) A (eval elt env) (λ x s₄=>
       wpAny (model prog w) A (call (.builtin "list.append") [acc,x]) (λ _ s₅=>∃ m,m < n /\ I m s₅) (λ _ _=>False) s₄) (λ _ _=>False) s₃
      else ∃ m,m < n /\ I m s₃) (λ _ _=>False) s₂) (λ _ _=>False) s₁') (λ _ _=>False) s₁) (λ _ _=>False) s)
  (n:Nat) (h:I n s):codeAny (model prog w) A (.compLoop (.ListComp elt [⟨target,iter,ifs,0⟩] scope pos) 0 it acc env) R s:=by
 refine codeAny_loop rfl I (λ n s hI=>?_) n h;show wpAny _ A ((compTurn (.ListComp elt [⟨target,iter,ifs,0⟩] scope pos) 0 it acc env).onRaise (λ x=>do noteFrame x env; theTreesLotGoes x)) _ _ s;refine wpAny_noted ?_;rw [compTurn_list];refine wpAny_bind (wpAny_standAt (wpAny_bind (wpAny_mono (turn n s hI) (λ r s₁ h₁=>?_) λ _ _ h'=>h'.elim)));cases r with
 | none=>exact wpAny_pure h₁
 | some v=>
  refine wpAny_bind (wpAny_mono h₁ (λ _ s₁' h₁'=>?_) λ _ _ h'=>h'.elim);refine wpAny_bind (wpAny_mono h₁' (λ _ s₂ h₂=>wpAny_bind (wpAny_mono h₂ (λ ok s₃ h₃=>?_) λ _ _ h'=>h'.elim)) λ _ _ h'=>h'.elim);cases ok with
  | false=>exact wpAny_pure ⟨rfl,h₃⟩
  | true=>
   exact wpAny_bind (wpAny_bind (wpAny_mono h₃ (λ x s₄ h₄=>wpAny_bind (wpAny_mono h₄ (λ _ s₅ h₅=>wpAny_pure (wpAny_pure ⟨rfl,h₅⟩)) λ _ _ h'=>h'.elim)) λ _ _ h'=>h'.elim))
end
def Yl (K:Fk) (J:It) (ds:List PyData) (M:Mp) (H:Hp):Prop:=∀ M2 H2,Step M H M2 H2->∀ i,
 (i < ds.length->J.go i H2 /\ ∀ x H',J.yld i H2 x H'->ZF K M2 H2->ZF K M2 H' /\ Step M2 H2 M2 H' /\ ∃ d,ds[i]? = some d /\ Dt K M2 H' x d) /\ (ds.length <= i->J.stop i H2)
abbrev YF:=DSt->Mp->(List PyData->Mp->Prop)->Prop
def DI (X:Cx) (tg iter:Expr) (src:YF):Prop:=∃ wi,PI X tg iter wi /\ ∀ Z H Δ M Ψ (R:It->Hp->Prop),ZF X.K M H->QV X.K M H Z Δ->src Δ M Ψ ->
 (∀ J H' M' ds,ZF X.K M' H'->Step M H M' H'->Yl X.K J ds M' H'->Ψ ds M'->R J H')->wi Z H R
def ZiC (te:DTE):YF:=λ Δ M Ψ=>te Δ M λ x M1=>onL x λ ds=>Ψ ds M1
def Zi9 (te:DTE):YF:=λ Δ M Ψ=>te Δ M λ x M1=>onT x λ ds=>Ψ ds M1
theorem Ko (he:DE X iter te):DI X tg iter (ZiC te):=by
 obtain ⟨t,p,q⟩:=he;refine ⟨_,Fz p,λ Z H Δ M Ψ R dr er h k=>?_⟩;refine q Z H Δ M _ _ dr er h λ v H1 x M1 r1 st rv hx=>?_;replace hx:=C1 hx;obtain ⟨ds,rfl,hΨ⟩:=hx;obtain ⟨a,xs,rfl,h1,h2⟩:=rv.lst;refine ⟨a,rfl,⟨xs,h1.sq⟩,k _ H1 M1 ds r1 st (λ M2 H2 st2 i=>⟨λ hi=>?_,λ hi=>?_⟩) hΨ⟩
 ·have hx:i < xs.length:=by rw [h2.length]; exact hi
  refine ⟨⟨xs,xs[i],(h1.step st2).sq,by simp [hx]⟩,λ x H' y=>?_⟩;obtain ⟨e,y⟩:=y;obtain ⟨d,hd,hy⟩:=(h2.step st2).Pa (y xs (h1.step st2).sq);subst e;exact λ r=>⟨r,Step.refl,d,hd,hy⟩
 ·exact ⟨xs,(h1.step st2).sq,by rw [h2.length]; exact hi⟩
theorem SE (he:DE X iter te):DI X tg iter (Zi9 te):=by
 obtain ⟨t,p,q⟩:=he;refine ⟨_,SM p,λ Z H Δ M Ψ R dr er h k=>?_⟩;refine q Z H Δ M _ _ dr er h λ v H1 x M1 r1 st rv hx=>?_;replace hx:=Yv hx;obtain ⟨ds,rfl,hΨ⟩:=hx;obtain ⟨a,xs,rfl,h1,h2⟩:=rv.tup;refine ⟨a,rfl,⟨xs,h1.sq⟩,k _ H1 M1 ds r1 st (λ M2 H2 st2 i=>⟨λ hi=>?_,λ hi=>?_⟩) hΨ⟩
 ·have hx:i < xs.length:=by rw [h2.length]; exact hi
  refine ⟨⟨xs,xs[i],(h1.step st2).sq,by simp [hx]⟩,λ x H' y=>?_⟩;obtain ⟨e,y⟩:=y;obtain ⟨d,hd,hy⟩:=(h2.step st2).Pa (y xs (h1.step st2).sq);subst e;exact λ r=>⟨r,Step.refl,d,hd,hy⟩
 ·exact ⟨xs,(h1.step st2).sq,by rw [h2.length]; exact hi⟩
noncomputable def K6 (lo:Int) (n:Nat):List PyData:=(List.range n).map λ (i:Nat)=>PyData.int (lo + (i:Int))
theorem ZI (lo:Int) (n:Nat):(K6 lo n).length = n:=by unfold K6; rw [List.length_map,List.length_range]
theorem Vq {lo:Int} (h:i < n):(K6 lo n)[i]? = some (.int (lo + (i:Int))):=by
 unfold K6;rw [List.getElem?_map,List.getElem?_range h];rfl
theorem CZ (lo:Int) (n:Nat):Yl K (Itr lo n) (K6 lo n) M H:=λ M2 H2 st2 i=>by
 rw [ZI];refine ⟨λ hi=>⟨hi,λ x H' y=>?_⟩,λ hi=>hi⟩;obtain ⟨e,y⟩:=y;subst y e;exact λ r=>⟨r,Step.refl,_,Vq hi,Dt.int _⟩
def ZfS (ta:DTA):YF:=λ Δ M Ψ=>ta Δ M λ xs M1=>on1 xs λ x=>onI x λ j=>InR j /\ Ψ (K6 0 j.toNat) M1
theorem QP {a:Expr} {p:Pos} (hg0:Gl X "range") (hm:X.mg "range" = none) (ha:DA X [a] ta) (hs:autoParam (starEach [a] X.env = [(false,eval a X.env)]) zz3._auto_1):DI X tg (.Call (.Name "range" p) [a] [] p2) (ZfS ta):=by
 obtain ⟨t1,p1,q1⟩:=ha;refine ⟨_,UB hg0 hm p1 hs,λ Z H Δ M Ψ R dr er h k=>?_⟩;refine q1 Z H Δ M _ _ dr er h λ vs H1 xs M1 r1 st rv hx=>?_;replace hx:=Zu hx;obtain ⟨x,rfl,hx⟩:=hx;replace hx:=Zt hx;obtain ⟨j,rfl,⟨h1,h2⟩,hΨ⟩:=hx;obtain ⟨v,rfl,hv⟩:=Paired.one rv;exact ⟨j,by rw [Ql.int hv],h1,h2,k _ H1 M1 _ r1 st (CZ 0 j.toNat) hΨ⟩
def Zgc (ta:DTA):YF:=λ Δ M Ψ=>ta Δ M λ xs M1=>on2 xs λ x y=>onI x λ i=>onI y λ j=>(InR i /\ InR j) /\ Ψ (K6 i (j - i).toNat) M1
theorem U2 {a b:Expr} {p p2:Pos} (hg0:Gl X "range") (hm:X.mg "range" = none) (ha:DA X [a,b] ta) (hs:autoParam (starEach [a,b] X.env = [(false,eval a X.env),(false,eval b X.env)]) zz3._auto_1) (hs2:autoParam (starEach [b] X.env = [(false,eval b X.env)]) zz3._auto_1) :
  DI X tg (.Call (.Name "range" p) [a,b] [] p2) (Zgc ta):=by
 obtain ⟨t1,p1,q1⟩:=ha;refine ⟨_,Gf hg0 hm p1 hs hs2,λ Z H Δ M Ψ R dr er h k=>?_⟩;refine q1 Z H Δ M _ _ dr er h λ vs H1 xs M1 r1 st rv hx=>?_;replace hx:=ZK hx;obtain ⟨x,y,rfl,hx⟩:=hx;replace hx:=Zt hx;obtain ⟨i,rfl,hx⟩:=hx;replace hx:=Zt hx;obtain ⟨j,rfl,⟨⟨a1,a2⟩,a3,a4⟩,hΨ⟩:=hx;have h1:-(2 ^ 62) <= i /\ i < 2 ^ 62 /\ -(2 ^ 62) <= j /\ j < 2 ^ 62:=⟨a1,a2,a3,a4⟩
 obtain ⟨v,u,rfl,hv,hu⟩:=Paired.two rv;exact ⟨i,j,by rw [Ql.int hv,Ql.int hu],h1,k _ H1 M1 _ r1 st (CZ i (j - i).toNat) hΨ⟩
def Du (ow:Bool) (Φ:DK) (acc:List PyData) (M:Mp):Prop:=match ow with | true=>∀ p,M p = none->Φ (.own p) (Z0 M p (.lst acc)) | false=>Φ (.dat (.list acc)) M
def Eg (ow:Bool) (src:YF) (ix:List (Option Nat)) (g:DTG) (tc:DTT) (te:DTE):DTE:=λ Δ M Φ=>src Δ M λ ds M1=>ds.length <= sizeLine /\ ∃ J:Nat->List PyData->Mp->Prop,J 0 [] M1 /\
 (∀ i d acc M',ds[i]? = some d->J i acc M'->g (.dat d) (Fe ix Δ) M' λ Δ2 M2=>tc Δ2 M2 λ b M3=>if b = true then te Δ2 M3 λ y M4=>onD y λ e=>J (i + 1) (acc ++ [e]) M4 else J (i + 1) acc M3) /\
 ∀ acc M',J ds.length acc M'->Du ow Φ acc M'
def DTs (X:Cx) (ifs:List Expr) (τ:DTT):Prop:=∀ (pins:List (Addr × Obj)) (s:Shared) (Z:L2.St) (H:Hp) (Δ:DSt) (M:Mp) (Φ:Bool->Mp->Prop),L2.Inv X pins Z H s->ZF X.K M H->QV X.K M H Z Δ->τ Δ M Φ ->
 wpAny (model X.prog X.w) X.A (forIn ifs true λ c r=>if r = true then do let ok <- isTrue c X.env (eval c X.env); pure (ForInStep.yield ok) else pure (ForInStep.yield r))
  (λ b s'=>∃ H' M',L2.Inv X pins Z H' s' /\ ZF X.K M' H' /\ Step M H M' H' /\ Φ b M') X.xe s
def ZiG:DTT:=λ _ M Φ=>Φ true M
theorem Z8:DTs X [] ZiG:=λ pins s Z H Δ M Φ I dr er h=>wpAny_tests_nil ⟨H,M,I,dr,Step.refl,h⟩
def YlG (K:Fk) (J:It) (ds:List PyData) (G:Mp->Prop) (M:Mp) (H:Hp):Prop:=∀ M2 H2,Step M H M2 H2->ZF K M2 H2->G M2->∀ i,
 (i < ds.length->J.go i H2 /\ ∀ x H',J.yld i H2 x H'->ZF K M2 H2->ZF K M2 H' /\ Step M2 H2 M2 H' /\ ∃ d,ds[i]? = some d /\ Dt K M2 H' x d) /\ (ds.length <= i->J.stop i H2)
abbrev EA:=DSt->Mp->(List PyData->(Mp->Prop)->Mp->Prop)->Prop
def DIG (X:Cx) (tg iter:Expr) (src:EA):Prop:=∃ wi,PI X tg iter wi /\ ∀ Z H Δ M Ψ (R:It->Hp->Prop),ZF X.K M H->QV X.K M H Z Δ->src Δ M Ψ ->
 (∀ J H' M' ds G,ZF X.K M' H'->Step M H M' H'->YlG X.K J ds G M' H'->Ψ ds G M'->R J H')->wi Z H R
section
set_option maxHeartbeats 2000000
abbrev Oe (ds:List PyData) (G:Mp->Prop) (M1:Mp) (Δ:DSt) (ix:List (Option Nat)) (g:DTG) (tc:DTT) (te:DTE) (ψ:List PyData->Mp->Prop):Prop:=ds.length <= sizeLine /\ ∃ J:Nat->List PyData->Mp->Prop,(∀ i acc M',J i acc M'->G M') /\ J 0 [] M1 /\
 (∀ i d acc M',ds[i]? = some d->J i acc M'->g (.dat d) (Fe ix Δ) M' λ Δ2 M2=>tc Δ2 M2 λ b M3=>if b = true then te Δ2 M3 λ y M4=>onD y λ e=>J (i + 1) (acc ++ [e]) M4 else J (i + 1) acc M3) /\ ∀ acc M',J ds.length acc M'->ψ acc M'
theorem Ww {elt:Expr} {ifs:List Expr} {pos ps:Pos} {src:EA} {g:DTG} {tc:DTT} {te:DTE} {use:Option (Value->Sem Unit)} {QQ:Value->Shared->Prop} {ψ:List PyData->Mp->Prop} (ok:J1 X scope N ix) (hi:DIG X tg iter src)
  (hg:∀ C ex s H,DG (ZJ X scope C N ex s H) tg g) (ht:∀ C ex s H,DTs (ZJ X scope C N ex s H) ifs tc) (he:∀ C ex s H,DE (ZJ X scope C N ex s H) elt te) (hc:X.calm = true)
  (hs:∀ x,foldedSetIterable iter X.env x = pure x) {Z:L2.St} {H:Hp} {Δ:DSt} {M:Mp} {pins:List (Addr × Obj)} {s:Shared} (dr:ZF X.K M H) (er:QV X.K M H Z Δ) (h:src Δ M λ ds G M1=>Oe ds G M1 Δ ix g tc te ψ) (I:L2.Inv X pins Z H s)
  (hfin:∀ (s4:Shared) (C D:Addr) (H':Hp) (M':Mp) (vs:List V) (acc:List PyData),L2.Inv X pins Z (upd H' D (.lst vs)) s4->H' D = none->ZF X.K M' H'->Step M H M' H'->Dts X.K M' H' vs acc->ψ acc M'->(∃ m,s4.heap.Ns C m)->CQ X pins (upd H' D (.lst vs)) C ->
   compPost (model X.prog X.w) X.A X.xe use QQ (.ref D) C (.ok .next) s4) :
  wpAny (model X.prog X.w) X.A (comprehension (.ListComp elt [⟨tg,iter,ifs,0⟩] scope pos) scope X.env ps (newList []) false (eval iter X.env) use) QQ X.xe s:=by
 obtain ⟨wi,pi,qi⟩:=hi;refine wpAny_comprehension_free (use:=use) (cl:=YS X.env scope.names []) rfl hs (Xs (Zcc ok I)) ok.kind ok.names ?_;show wpAny _ _ (eval iter X.env) _ _ s
 refine thn (pi pins s Z H (λ J H'=>∃ M' ds G,ZF X.K M' H' /\ Step M H M' H' /\ YlG X.K J ds G M' H' /\ ds.length <= sizeLine /\ ∃ W:Nat->List PyData->Mp->Prop,(∀ i acc M',W i acc M'->G M') /\ W 0 [] M' /\
   (∀ i d acc M',ds[i]? = some d->W i acc M'->g (.dat d) (Fe ix Δ) M' λ Δ2 M2=>tc Δ2 M2 λ b M3=>if b = true then te Δ2 M3 λ y M4=>onD y λ e=>W (i + 1) (acc ++ [e]) M4 else W (i + 1) acc M3) /\
   ∀ acc M',W ds.length acc M'->ψ acc M') I (qi Z H Δ M _ _ dr er h λ J H' M' ds G a b c d=>⟨M',ds,G,a,b,c,d⟩)) λ x s1 h1=>thn h1 λ itv s2 h2=>?_
 obtain ⟨it,fp,tn,J,H2,e,I2,T,st2,f2,M1,ds,G,dr1,stp,yl,hz,W,wg,w0,wt,wd⟩:=h2;subst e;have exo:∀ b ∈ fp,∃ o,s2.heap.get? b = some o:=λ b hb=>let ⟨o,q,_⟩:=T.obj 0 _ st2 b hb; ⟨o,q⟩;refine wpAny_newObj_type (wpAny_newFunctionEnv ok.cellF (by intro y hy; simp at hy) (λ h₁ hns₁ hsb₁=>?_) ok.kind);dsimp only at hns₁ hsb₁ ⊢;generalize hH2:s2.heap.push { cls:=.type "list",dict:=none,data:=.seq ([]:List Value).toArray } = HH at hns₁ hsb₁ ⊢;have hC:HH.objs.size = s2.heap.objs.size + 1:=by rw [<- hH2,Heap.size_push]
 have hDC:s2.heap.objs.size ≠ HH.objs.size:=by rw [hC]; exact Nat.ne_of_lt (Nat.lt_succ_self _)
 have hCle:s2.heap.objs.size <= HH.objs.size:=by rw [hC]; exact Nat.le_succ _
 have below:∀ b,b < s2.heap.objs.size->b ≠ HH.objs.size /\ b ≠ s2.heap.objs.size:=λ b hb=>⟨by rw [hC]; exact Nat.ne_of_lt (Nat.lt_succ_of_lt hb),Nat.ne_of_lt hb⟩;have old:∀ b o,s2.heap.get? b = some o->h₁.get? b = some o:=λ b o e=>hsb₁.extBut b o (below b (Heap.lt_size e)).1 (Heap.get?_push_of_some _ (hH2 ▸ Heap.get?_push_of_some _ e));have hacc:h₁.get? s2.heap.objs.size = some { cls:=.type "list",data:=.seq ([]:List Value).toArray }:=hsb₁.extBut _ _ hDC (Heap.get?_push_of_some _ (hH2 ▸ Heap.get?_push_size _ rfl));generalize hCC:HH.objs.size = C at *;generalize hDD:s2.heap.objs.size = D at hDC hacc below hCle;have hDs:s2.heap.objs.size <= D:=Nat.le_of_eq hDD;have hCs:s2.heap.objs.size <= C:=by rw [hDD]; exact hCle
 have fD:∀ b ∈ fp,b ≠ D /\ b ≠ C:=λ b hb=>by
  obtain ⟨o,q⟩:=exo b hb;exact ⟨(below b (by rw [<- hDD]; exact Heap.lt_size q)).2,(below b (by rw [<- hDD]; exact Heap.lt_size q)).1⟩
 have okY:(ZJ X scope C N fp s2 H2).Ok:=ER ok I2 f2 exo hCs;have fsD:∀ b ∈ frs X.stack,b < s2.heap.objs.size:=λ b hb=>by
  obtain ⟨_,o,ho,_⟩:=I2.stack.mem hb;exact Heap.lt_size ho
 have cellD:∀ x c,(ZJ X scope C N fp s2 H2).env.cells.lookup x = some c->c < s2.heap.objs.size /\ H2 c = none:=λ x c e=>by
  have e':=(QG (Zcc ok I2) e).1;obtain ⟨v,q⟩:=I2.cell x c e';exact ⟨q.lt,I2.freeC x c e'⟩
 have fpY:∀ {H':Hp} {ps:List (Addr × Obj)},(∀ b ∈ fp,H' b = none)->(∀ p ∈ ps,p.1 = D)->∀ b ∈ fp,CQ (ZJ X scope C N fp s2 H2) ps H' b:=λ {H' ps} hn hp b hb=>
  ⟨hn b hb,(fD b hb).2,okY.exfs b hb,.inl hb,(okY.exf b hb).2,λ p hp' z=>by
   have q:p ∈ ps:=hp';rw [hp p q] at z
   exact (fD b hb).1 z.symm⟩
 have onlyD:∀ (o:Obj),∀ p ∈ [(D,o)],p.1 = D:=λ o p hp=>by
  have q:p = (D,o):=by simpa using hp
  rw [q]
 have reloc:∀ {ps:List (Addr × Obj)} {σ':L2.St} {H':Hp} {s':Shared} {o:Obj},L2.Inv (ZJ X scope C N fp s2 H2) ps σ' H' s'->s'.heap.get? D = some o->H' D = none->(∀ v,o.data ≠ .cell v) ->
   L2.Inv (ZJ X scope C N fp s2 H2) [(D,o)] (Va ix Z) H' s':=λ {ps σ' H' s' o} J' hD hn hd=>by
  obtain ⟨m,hm,_⟩:=J'.loc;refine ⟨J'.ok,J'.os,J'.bare,J'.base,⟨m,hm,λ i x v a b _=>CO ok I2 f2 J'.base i x v a b⟩,J'.cell,J'.free,J'.freeC,λ p hp=>?_,J'.hok,?_⟩
  ·have q:p = (D,o):=by
    have z:p ∈ ([]:List (Addr × Obj)) ++ [(D,o)]:=hp
    simpa using z
   subst q;exact ⟨hD,hn,hDC,λ z=>absurd (fsD D z) (Nat.not_lt.mpr hDs),hd⟩
  ·show (Va ix Z).length = N.length;unfold Va;rw [List.length_map,ok.len]
 have start:L2.Inv (ZJ X scope C N fp s2 H2) [(D,{ cls:=.type "list",data:=.seq ([]:List Value).toArray })] (Va ix Z) H2 { s2 with heap:=h₁,toks:=s2.toks + ([]:List (Str × Value)).length }:=by
  refine ⟨okY,rfl,I2.bare,Un.kept old,⟨_,hns₁,λ i x v a b _=>CO ok I2 f2 (Un.kept old) i x v a b⟩,λ x c e=>?_,I2.hok.fresh hCs,λ x c e=>(cellD x c e).2,λ p hp=>?_,I2.hok.kept old,?_⟩
  ·obtain ⟨v,o,ho,hd⟩:=I2.cell x c (QG (Zcc ok I2) e).1;exact ⟨v,o,old c o ho,hd⟩
  ·have q:p = (D,{ cls:=.type "list",data:=.seq ([]:List Value).toArray }):=by
    have z:p ∈ ([]:List (Addr × Obj)) ++ [(D,{ cls:=.type "list",data:=.seq ([]:List Value).toArray })]:=hp
    simpa using z
   subst q;exact ⟨hacc,I2.hok.fresh hDs,hDC,λ z=>absurd (fsD D z) (Nat.not_lt.mpr hDs),λ v z=>nomatch z⟩
  ·show (Va ix Z).length = N.length;unfold Va;rw [List.length_map,ok.len]
 have loop:∀ s₃:Shared,s₃ = { s2 with heap:=h₁,toks:=s2.toks + ([]:List (Str × Value)).length } ->
   codeAny (model X.prog X.w) X.A (.compLoop (.ListComp elt [⟨tg,iter,ifs,0⟩] scope pos) 0 (.ref it) (.ref D) (compEnvC scope (YS X.env scope.names []) C X.env)) (compPost (model X.prog X.w) X.A X.xe use QQ (.ref D) C) s₃:=by
  rintro s₃ rfl
  refine Gi (λ n s'=>∃ (i:Nat) (acc:List PyData) (vs:List V) (its:List Value) (nn:Nat) (H':Hp) (M':Mp),L2.Inv (ZJ X scope C N fp s2 H2) [(D,{ cls:=.type "list",data:=.seq its.toArray nn })] (Va ix Z) H' s' /\
   tn i s'.heap /\ (∀ b ∈ fp,H' b = none) /\ ZF X.K M' H' /\ Step M1 H2 M' H' /\ Vals vs its /\ Dts X.K M' H' vs acc /\ W i acc M' /\ i <= ds.length /\ acc.length <= i /\ n = ds.length - i) ?_ ds.length
   ⟨0,[],[],[],0,H2,M1,start,T.keep _ _ _ st2 (λ b _ o e=>old b o e),λ b hb=>(f2 b hb).1,dr1,Step.refl,.nil,.nil,w0,Nat.zero_le _,Nat.le_refl _,rfl⟩
  rintro n s' ⟨i,acc,vs,its,nn,H',M',IY,ti,fr,dr',stp',rv,rd,wi',hil,hal,rfl⟩;have pinD:=IY.pin (D,{ cls:=.type "list",data:=.seq its.toArray nn }) (by simp);have fok:=fpY (ps:=[(D,{ cls:=.type "list",data:=.seq its.toArray nn })]) fr (onlyD _);obtain ⟨ygo,ystop⟩:=yl M' H' stp' dr' (wg i acc M' wi') i
  by_cases hlt:i < ds.length
  ·obtain ⟨jgo,jyl⟩:=ygo hlt;refine thn (T.item (ZJ X scope C N fp s2 H2) rfl rfl rfl hc i _ s' (Va ix Z) H' (λ _ _=>False) IY fok ti jgo) λ r s4 ⟨u,hr,h4⟩=>?_;subst hr;refine thn h4 λ _ s5 ⟨x,H5,I5,r5,y5,st5,fr5⟩=>?_;obtain ⟨dr5,stp5,d,hd,hxd⟩:=jyl x H5 y5 dr';replace dr':=dr5;replace stp':=stp'.trans stp5;replace rd:=rd.step stp5;have I5':=I5.pinned (fpY (ps:=[(D,{ cls:=.type "list",data:=.seq its.toArray nn })]) fr5 (onlyD _)) (T.obj _ _ st5);obtain ⟨tg',pg,qg⟩:=hg C fp s2 H2
   refine thn (pg _ s5 (Va ix Z) H5 x u (λ σ6 H6=>∃ Δ6 M6,ZF X.K M6 H6 /\ Step M' H5 M6 H6 /\ QV X.K M6 H6 σ6 Δ6 /\ tc Δ6 M6 λ b M3=>if b = true then te Δ6 M3 λ y M4=>onD y λ e=>W (i + 1) (acc ++ [e]) M4 else W (i + 1) acc M3) I5' r5
    (qg x (Va ix Z) H5 (.dat d) (Fe ix Δ) M' _ _ dr' ((er.step (stp.trans stp')).cap ix) hxd (wt i d acc M' hd wi') λ σ6 H6 Δ6 M6 a b c d=>⟨Δ6,M6,a,b,c,d⟩)) λ _ s6 ⟨σ6,H6,I6,Δ6,M6,dr6,stp6,er6,q6⟩=>?_
   refine thn (ht C fp s2 H2 _ s6 σ6 H6 Δ6 M6 _ I6 dr6 er6 q6) λ b s7 ⟨H7,M7,I7,dr7,stp7,q7⟩=>?_;have keepD:∀ {σz:L2.St} {Hz:Hp} {sz:Shared},L2.Inv (ZJ X scope C N fp s2 H2) ([(D,{ cls:=.type "list",data:=.seq its.toArray nn })] ++ GI fp s5.heap) σz Hz sz ->
     sz.heap.get? D = some { cls:=.type "list",data:=.seq its.toArray nn } /\ Hz D = none /\ tn (i + 1) sz.heap /\ ∀ b ∈ fp,Hz b = none:=λ {σz Hz sz} Iz=>by
    have a:=Iz.pin (D,{ cls:=.type "list",data:=.seq its.toArray nn }) (by simp);refine ⟨a.1,a.2.1,T.keep _ _ _ st5 λ b hb o e=>(Iz.pin (b,o) (List.mem_append_right _ (List.mem_append_right _ (Vn hb e)))).1,λ b hb=>?_⟩;obtain ⟨o,e,_⟩:=T.obj _ _ st5 b hb;exact (Iz.pin (b,o) (List.mem_append_right _ (List.mem_append_right _ (Vn hb e)))).2.1
   cases b with
   | false=>
    have q7':W (i + 1) acc M7:=by simpa using q7
    obtain ⟨a1,a2,a3,a4⟩:=keepD I7;have st17:Step M' H5 M7 H7:=stp6.trans stp7;exact ⟨ds.length - (i + 1),by omega,i + 1,acc,vs,its,nn,H7,M7,reloc I7 a1 a2 (λ v z=>nomatch z),a3,a4,dr7,stp'.trans st17,rv,rd.step st17,q7',hlt,by omega,rfl⟩
   | true=>
    have q7':te Δ6 M7 λ y M4=>onD y λ e=>W (i + 1) (acc ++ [e]) M4:=by simpa using q7
    obtain ⟨te',pe',qe'⟩:=he C fp s2 H2
    refine thn (pe' _ s7 σ6 H7 (λ v H8=>∃ e M8,ZF X.K M8 H8 /\ Step M7 H7 M8 H8 /\ Dt X.K M8 H8 v e /\ W (i + 1) (acc ++ [e]) M8) I7 (qe' σ6 H7 Δ6 M7 _ _ dr7 (er6.step stp7) q7' λ v H8 x8 M8 a b c d=>by
     replace d:=ZR d;obtain ⟨e,rfl,w8⟩:=d
     exact ⟨e,M8,a,b,c,w8⟩)) λ y s8 ⟨v,H8,I8,r8,e,M8,dr8,stp8,dv8,w8⟩=>?_
    obtain ⟨a1,a2,a3,a4⟩:=keepD I8;have st18:Step M' H5 M8 H8:=stp6.trans (stp7.trans stp8);have lv:=rv.length;have ld:=rd.length;refine call_meets PySem.F.slot_list_append ⟨_,a1,rfl⟩ PySem.F.entry_list_append (PySem.F.args_list_append_2 _ _) (PySem.list_append D its.toArray nn y (by rw [List.size_toArray]; omega)) ⟨a1,?_⟩;have q:=PySem.IsL.update a1 (·.push y);have I8':L2.Inv (ZJ X scope C N fp s2 H2) [] σ6 H8 s8:=I8.XF λ p hp=>nomatch hp;have I9:=I8'.turned (it:=D) (h':=s8.heap.update D (Obj.mapSeq (·.push y))) (t':=s8.toks) (λ b o hb hu=>(Heap.get?_update_other s8.heap (Obj.mapSeq (·.push y)) (Ne.symm hb)).trans hu) a2 hDC (.inr hDs)
     (λ x c e z=>absurd (z ▸ (cellD x c e).1) (Nat.not_lt.mpr hDs)) (λ p hp=>by have z:p ∈ ([]:List (Addr × Obj)) ++ []:=hp; simp at z)
    have ea:(its.toArray.push y) = (its ++ [y]).toArray:=by simp
    rw [ea] at q
    refine ⟨ds.length - (i + 1),by omega,i + 1,acc ++ [e],vs ++ [v],its ++ [y],_,H8,M8,reloc I9 q a2 (λ v z=>nomatch z),T.keep _ _ _ a3 (λ b hb o e=>(Heap.get?_update_other s8.heap (Obj.mapSeq (·.push y)) (Ne.symm (fD b hb).1)).trans e),a4,dr8,stp'.trans st18,
     rv.append (.cons r8 .nil),(rd.step st18).append (.cons dv8 .nil),w8,hlt,by rw [List.length_append,List.length_singleton]; omega,rfl⟩
  ·have hie:i = ds.length:=by omega
   refine thn (T.done (ZJ X scope C N fp s2 H2) rfl rfl rfl hc i _ s' (Va ix Z) H' (λ _ _=>False) IY fok ti (ystop (by omega))) λ r s4 ⟨hr,I4⟩=>?_;subst hr;obtain ⟨m4,hm4,_⟩:=I4.loc;have pD:=I4.pin (D,{ cls:=.type "list",data:=.seq its.toArray nn }) (by simp);have hCn:H' C = none:=I4.free;have hDn:H' D = none:=pD.2.1;have hok4:HOk X.prog X.w (upd H' D (.lst vs)) s4.heap:=λ b u e=>by
    by_cases hb:b = D
    ·subst hb;rw [Qk] at e;cases e;exact ⟨by have:=rv.length; have:=rd.length; omega,its,nn,rv,pD.1⟩
    ·rw [ZH hb] at e;refine (I4.hok b u e).Fx (λ c v hc' q=>q) (λ c q=>?_) λ c xs q=>?_
     ·rw [ZH (ZA q pD.2.1)]; exact q
     ·rw [ZH (ZA q pD.2.1)]; exact q
   have bu:Un (frs X.stack) fp H2 H' s2.heap s4.heap:=I4.base;have un4:Un (frs X.stack) fp H2 (upd H' D (.lst vs)) s2.heap s4.heap:=by
    have nD:∀ b o,s2.heap.get? b = some o->b ≠ D /\ b ≠ C:=λ b o e=>⟨λ z=>absurd (z ▸ Heap.lt_size e) (Nat.not_lt.mpr hDs),λ z=>absurd (z ▸ Heap.lt_size e) (Nat.not_lt.mpr hCs)⟩;refine ⟨λ b o e n hb hx=>bu.keep b o e n hb hx,λ b o e n hb hx=>bu.slot b o e n hb hx,λ b o e n hx=>by rw [ZH (nD b o e).1]; exact bu.free b o e n hx,λ b o e hx=>bu.there b o e hx,λ b xs e=>?_,λ b o xs e=>?_,λ b ps e=>?_⟩
    ·have q:=bu.tups b xs e;rw [ZH (ZA q pD.2.1)]; exact q
    ·have q:=bu.frzs b o xs e;rw [ZH (ZA q pD.2.1)]; exact q
    ·obtain ⟨mo,q⟩:=bu.tbls b ps e;exact ⟨mo,by rw [ZH (ZA q pD.2.1)]; exact q⟩
   have os4:s4.os = s2.os:=I4.os;have IX:L2.Inv X pins Z (upd H' D (.lst vs)) s4:=I2.ZhC (s':=s4) os4 un4 hok4 I4.bare λ b hb=>⟨(f2 b hb).2.2.2.1,(f2 b hb).2.1,(f2 b hb).2.2.2.2.1,(f2 b hb).2.2.2.2.2⟩;subst hie;exact hfin s4 C D H' M' vs acc IX hDn dr' (stp.trans stp') rd (wd acc M' wi') ⟨m4,hm4⟩ (I2.Rk hCs (by rw [ZH (Ne.symm hDC)]; exact hCn))
 have hst₁:tn 0 h₁:=T.keep _ _ _ st2 λ b _ o e=>old b o e;exact codeAny_compStart_list (loop _ rfl) (T.self _ 0 _ _ _ hst₁ (loop _ rfl))
theorem ZfO {C:Addr} {m:Str->Option Value} (n:h.Ns C m) (k:∀ o,h.get? C = some o->h'.get? C = some o):h'.Ns C m:=by
 obtain ⟨o,es,ep,ho,r⟩:=n;exact ⟨o,es,ep,k o ho,r⟩
theorem gone {Z:L2.St} {C:Addr} (I:L2.Inv X pins Z H s) (f:CQ X pins H C) (hsb:Heap.SameBut C s.heap h'):L2.Inv X pins Z H { s with heap:=h' }:=
 I.turned (t':=s.toks) (λ b o hb e=>hsb.extBut b o hb e) f.1 f.2.1 f.2.2.2.1 f.2.2.2.2.1 f.2.2.2.2.2
theorem Zev {ow:Bool} {D:Addr} {acc:List PyData} (dr':ZF X.K M' H') (st:Step M H M' H') (rd:Dts X.K M' H' vs acc) (hDn:H' D = none) (fin:Du ow Φ acc M') (k:Rch X.K M H Φ Q):Q (.ref D) (upd H' D (.lst vs)):=by
 cases ow with
 | true=>
  have fin':∀ p,M' p = none->Φ (.own p) (Z0 M' p (.lst acc)):=by simpa [Du] using fin
  exact k _ _ (.own D) _ (dr'.XO (Step.Jp hDn) rd) (st.trans (Step.Jp hDn)) rfl (fin' D (dr'.tracked hDn))
 | false=>
  have fin':Φ (.dat (.list acc)) M':=by simpa [Du] using fin
  exact k.dat (dr'.new hDn) (st.trans (Step.new hDn)) (Dt.Xx dr' hDn rd) fin'
def CN (ow:Bool) (src:EA) (ix:List (Option Nat)) (g:DTG) (tc:DTT) (te:DTE):DTE:=λ Δ M Φ=>src Δ M λ ds G M1=>ds.length <= sizeLine /\ ∃ J:Nat->List PyData->Mp->Prop,(∀ i acc M',J i acc M'->G M') /\ J 0 [] M1 /\
 (∀ i d acc M',ds[i]? = some d->J i acc M'->g (.dat d) (Fe ix Δ) M' λ Δ2 M2=>tc Δ2 M2 λ b M3=>if b = true then te Δ2 M3 λ y M4=>onD y λ e=>J (i + 1) (acc ++ [e]) M4 else J (i + 1) acc M3) /\ ∀ acc M',J ds.length acc M'->Du ow Φ acc M'
theorem NY (ow:Bool) {elt:Expr} {ifs:List Expr} {pos:Pos} {src:EA} {g:DTG} {tc:DTT} {te:DTE} (ok:J1 X scope N ix) (hi:DIG X tg iter src)
  (hg:∀ C ex s H,DG (ZJ X scope C N ex s H) tg g) (ht:∀ C ex s H,DTs (ZJ X scope C N ex s H) ifs tc) (he:∀ C ex s H,DE (ZJ X scope C N ex s H) elt te) (hc:X.calm = true)
  (hs:autoParam (∀ x,foldedSetIterable iter X.env x = pure x) zz2._auto_1):DE X (.ListComp elt [⟨tg,iter,ifs,0⟩] scope pos) (CN ow src ix g tc te):=by
 refine ⟨λ Z H Q=>∀ pins s,L2.Inv X pins Z H s->wpAny (model X.prog X.w) X.A (eval (.ListComp elt [⟨tg,iter,ifs,0⟩] scope pos) X.env) (EP X pins Z Q) X.xe s,λ pins s Z H Q I h=>h pins s I,λ Z H Δ M Φ Q dr er h k pins s I=>?_⟩;rw [eval_ListComp];refine Ww (ψ:=Du ow Φ) ok hi hg ht he hc hs dr er h I λ s4 C D H' M' vs acc IX hDn dr' st rd fin hm f=>?_;obtain ⟨m,hm⟩:=hm;exact ⟨m,hm,λ h' hsb=>⟨.ref D,_,gone IX f hsb,rfl,Zev dr' st rd hDn fin k⟩⟩
theorem N1 (i:Nat) (ow:Bool) {x:Str} {pos' spos:Pos} (hN:X.N.Nodup) {elt:Expr} {ifs:List Expr} {pos:Pos} {src:EA} {g:DTG} {tc:DTT} {te:DTE} (ok:J1 X scope N ix) (hi:DIG X tg iter src)
  (hg:∀ C ex s H,DG (ZJ X scope C N ex s H) tg g) (ht:∀ C ex s H,DTs (ZJ X scope C N ex s H) ifs tc) (he:∀ C ex s H,DE (ZJ X scope C N ex s H) elt te) (hc:X.calm = true)
  (hs:autoParam (∀ x,foldedSetIterable iter X.env x = pure x) zz2._auto_1) (hin:autoParam (X.N[i]? = some x) zz3._auto_1) (hx:autoParam (Loc X.env.scope x) zz8._auto_1)
  (hsw:autoParam (swapsWith (.ListComp elt [⟨tg,iter,ifs,0⟩] scope pos) (some (.Name x pos')) spos.line X.env = pure true) zz3._auto_1)
  (hf:autoParam (X.fn x = true \/ X.env.scope.names.lookup x = some .local) zz0._auto_1) :
  DS X (.Assign [.Name x pos'] (.ListComp elt [⟨tg,iter,ifs,0⟩] scope pos) spos) (Zb5 (CN ow src ix g tc te) (KZ i)):=by
 refine ⟨λ E Z H=>∀ pins s,L2.Inv X pins Z H s->wpAny (model X.prog X.w) X.A (exec (.Assign [.Name x pos'] (.ListComp elt [⟨tg,iter,ifs,0⟩] scope pos) spos) X.env) (SP X pins E) X.xe s,λ pins s Z H E I h=>h pins s I,λ Z H Δ M D E dr er h k pins s I=>?_⟩;rw [exec_Assign_Name_used _ _ _ _ hsw];refine wpAny_bind (wpAny_standAt (wpAny_bind ?_));show wpAny _ _ (do let _ <- comprehension (.ListComp elt [⟨tg,iter,ifs,0⟩] scope pos) scope X.env _ (newList []) false (eval iter X.env) (some (assign (.Name x pos') X.env))) _ _ s
 refine wpAny_bind (wpAny_mono (Ww (QQ:=λ _ s'=>SP X pins E .next s') (use:=some (assign (.Name x pos') X.env)) (ψ:=Du ow λ y M1=>D.nx (Δ.set i (some y)) M1) ok hi hg ht he hc hs dr er h I λ s4 C DD H' M' vs acc IX hDn dr' st rd fin hm f=>?_)
  (λ _ s' hq=>wpAny_pure (wpAny_pure hq)) λ _ _ e=>e)
 obtain ⟨m,hm⟩:=hm;have hm0:=hm;obtain ⟨oC,es,ep,hoC,hr1,hr2⟩:=hm0;have IP:L2.Inv X (pins ++ [(C,oC)]) Z (upd H' DD (.lst vs)) s4:=IX.XF λ p hp=>by
  rcases List.mem_append.mp hp with hp | hp
  ·exact IX.pin p (List.mem_append_right _ hp)
  ·rw [List.mem_singleton.mp hp];exact ⟨hoC,f.1,f.2.1,f.2.2.1,λ v z=>nomatch (hr1.symm.trans z)⟩
 have nxt:∀ Q':L2.St->Hp->Prop,(Q' (Z.set i (some (.ref DD))) (upd H' DD (.lst vs)))->wpAny (model X.prog X.w) X.A (assign (.Name x pos') X.env (.ref DD)) (λ _ s'=>∃ σ' H',L2.Inv X (pins ++ [(C,oC)]) σ' H' s' /\ Q' σ' H') X.xe s4:=λ Q' hq=>
  Lq (pos:=pos') hN hin hx hf _ s4 Z _ (.ref DD) (.ref DD) Q' IP rfl hq
 have kq:E.nx (Z.set i (some (.ref DD))) (upd H' DD (.lst vs)):=by
  cases ow with
  | true=>
   have fin':∀ p,M' p = none->D.nx (Δ.set i (some (.own p))) (Z0 M' p (.lst acc)):=by simpa [Du] using fin
   have st2:Step M H (Z0 M' DD (.lst acc)) (upd H' DD (.lst vs)):=st.trans (Step.Jp hDn);exact k.nx _ _ _ _ (dr'.XO (Step.Jp hDn) rd) st2 ((er.step st2).set (v:=.ref DD) (x:=.own DD) rfl) (fin' DD (dr'.tracked hDn))
  | false=>
   have fin':D.nx (Δ.set i (some (.dat (.list acc)))) M':=by simpa [Du] using fin
   have st2:Step M H M' (upd H' DD (.lst vs)):=st.trans (Step.new hDn);exact k.nx _ _ _ _ (dr'.new hDn) st2 ((er.step st2).set (v:=.ref DD) (x:=.dat (.list acc)) (Dt.Xx dr' hDn rd)) fin'
 show wpAny _ _ (assign (.Name x pos') X.env (.ref DD)) _ _ s4;refine thn (nxt (λ σ' H'=>σ' = Z.set i (some (.ref DD)) /\ E.nx σ' H') ⟨rfl,kq⟩) λ _ s5 ⟨σ5,H5,I5,_,q5⟩=>?_;have p5:=I5.pin (C,oC) (by simp);refine ⟨m,ZfO hm λ o ho=>?_,λ h' hsb=>⟨σ5,H5,?_,q5⟩⟩
 ·rw [hoC] at ho;cases ho;exact p5.1
 ·have I6:L2.Inv X pins σ5 H5 s5:=I5.XF λ p hp=>I5.pin p (List.mem_append_right _ (List.mem_append_left _ hp));exact gone I6 ⟨p5.2.1,f.2⟩ hsb
def toG (src:YF):EA:=λ Δ M Ψ=>src Δ M λ ds M1=>Ψ ds (λ _=>True) M1
theorem DI.toG {src:YF} (h:DI X tg iter src):DIG X tg iter (toG src):=by
 obtain ⟨wi,p,q⟩:=h;exact ⟨wi,p,λ Z H Δ M Ψ R dr er hs k=>q Z H Δ M _ R dr er hs λ J H' M' ds a b c d=>k J H' M' ds _ a b (λ M2 H2 st _ _=>c M2 H2 st) d⟩
theorem Fw (ow:Bool) (src:YF) (ix:List (Option Nat)) (g:DTG) (tc:DTT) (te:DTE):Eg ow src ix g tc te = CN ow (toG src) ix g tc te:=by
 funext Δ M Φ
 unfold Eg CN toG;simp only [implies_true,true_and]
theorem Qs (ow:Bool) {elt:Expr} {ifs:List Expr} {pos:Pos} {src:YF} {g:DTG} {tc:DTT} {te:DTE} (ok:J1 X scope N ix) (hi:DI X tg iter src)
  (hg:∀ C ex s H,DG (ZJ X scope C N ex s H) tg g) (ht:∀ C ex s H,DTs (ZJ X scope C N ex s H) ifs tc) (he:∀ C ex s H,DE (ZJ X scope C N ex s H) elt te) (hc:X.calm = true)
  (hs:autoParam (∀ x,foldedSetIterable iter X.env x = pure x) zz2._auto_1):DE X (.ListComp elt [⟨tg,iter,ifs,0⟩] scope pos) (Eg ow src ix g tc te):=by
 rw [Fw];exact NY ow ok hi.toG hg ht he hc hs
theorem Fp (i:Nat) (ow:Bool) {x:Str} {pos' spos:Pos} (hN:X.N.Nodup) {elt:Expr} {ifs:List Expr} {pos:Pos} {src:YF} {g:DTG} {tc:DTT} {te:DTE} (ok:J1 X scope N ix) (hi:DI X tg iter src)
  (hg:∀ C ex s H,DG (ZJ X scope C N ex s H) tg g) (ht:∀ C ex s H,DTs (ZJ X scope C N ex s H) ifs tc) (he:∀ C ex s H,DE (ZJ X scope C N ex s H) elt te) (hc:X.calm = true)
  (hs:autoParam (∀ x,foldedSetIterable iter X.env x = pure x) zz2._auto_1) (hin:autoParam (X.N[i]? = some x) zz3._auto_1) (hx:autoParam (Loc X.env.scope x) zz8._auto_1)
  (hsw:autoParam (swapsWith (.ListComp elt [⟨tg,iter,ifs,0⟩] scope pos) (some (.Name x pos')) spos.line X.env = pure true) zz3._auto_1)
  (hf:autoParam (X.fn x = true \/ X.env.scope.names.lookup x = some .local) zz0._auto_1) :
  DS X (.Assign [.Name x pos'] (.ListComp elt [⟨tg,iter,ifs,0⟩] scope pos) spos) (Zb5 (Eg ow src ix g tc te) (KZ i)):=by
 rw [Fw];exact N1 i ow hN ok hi.toG hg ht he hc hs hin hx hsw hf
end
def VF (xs:List DV) (M:Mp) (ns:List Int):Prop:=xs = [.dat (.list (ns.map PyData.int))] \/ ∃ l,xs = [.own l] /\ M l = some (.lst (ns.map PyData.int))
theorem VF.sq {xs:List DV} (h:VF xs M ns) (r:ZF X.K M H) (rv:JF X.K M H vs xs):∃ p,vs = [.ref p] /\ SqL X.K H p (ns.map V.int):=by
 rcases h with rfl | ⟨l,rfl,hm⟩
 ·obtain ⟨v,rfl,h1⟩:=Paired.one rv;obtain ⟨p,ys,rfl,g1,g2⟩:=Ql.lst h1;rw [Yx g2] at g1;exact ⟨p,rfl,g1.sq⟩
 ·obtain ⟨v,rfl,h1⟩:=Paired.one rv;cases (show v = .ref l from h1);obtain ⟨ws,g1,g2⟩:=r.ls l _ hm;rw [Yx g2] at g1;exact ⟨l,rfl,SqL.of g1⟩
theorem GN:JB X (.builtin "sorted") (λ xs H Q=>∃ (p:Addr) (ns:List Int),xs = [.ref p] /\ SqL X.K H p (ns.map V.int) /\ ns.length < 64 /\ ∀ ns':List Int,ns'.Perm ns->ns'.Pairwise (· <= ·)->∀ l,H l = none->Q (.ref l) (upd H l (.lst (ns'.map V.int)))):=by
 intro pins s Z H xs us Q I r h;obtain ⟨p,ns,rfl,hq,h64,q⟩:=h;obtain ⟨u,rfl,rx⟩:=vals1 r;cases rx;obtain ⟨its,rv,pl,hz⟩:=I.list hq;have hi:IntsAre its ns:=intsAre_of rv;have hlen:its.length < 64:=by have:=rv.length; rw [List.length_map] at this; lia
 refine sorted_ints pl.isList hi hlen λ out ns' a1 a2 a3=>?_;obtain ⟨e,he⟩:=sortedAll_at s.heap its out;have hn:H (s.heap.objs.size + 1) = none:=I.hok.fresh (Nat.le_succ _);refine ⟨.ref (s.heap.objs.size + 1),_,I.laid (t':=s.toks) (a:=s.heap.objs.size + 1) (o:=.lst (ns'.map V.int)) (λ _ _=>sortedAll_old) (Nat.le_succ _) ?_,rfl,q ns' a2 a3 _ hn⟩;refine ⟨?_,out.toList,e,Ks a1,he⟩;rw [List.length_map,a2.length_eq,sizeLine_eq];lia
def Mw:D1:=λ xs M Φ=>∃ ns:List Int,VF xs M ns /\ ns.length < 64 /\ ∀ ns':List Int,ns'.Perm ns->ns'.Pairwise (· <= ·)->Φ (.dat (.list (ns'.map PyData.int))) M
theorem ED:J0 X (.builtin "sorted") Mw:=by
 refine ⟨_,GN,λ vs H xs M Φ Q r rv h k=>?_⟩;obtain ⟨ns,hx,h64,q⟩:=h;obtain ⟨p,rfl,hs⟩:=hx.sq r rv;exact ⟨p,ns,rfl,hs,h64,λ ns' a b l hl=>k.dat (r.new hl) (Step.new hl) (Dt.Xx r hl (Dts.ints ns')) (q ns' a b)⟩
def ZdL:D1:=λ xs M Φ=>∃ ns:List Int,VF xs M ns /\ 0 < ns.length /\ ∀ m ∈ ns,(∀ a ∈ ns,m <= a)->Φ (.dat (.int m)) M
def Zdq:D1:=λ xs M Φ=>∃ ns:List Int,VF xs M ns /\ 0 < ns.length /\ ∀ m ∈ ns,(∀ a ∈ ns,a <= m)->Φ (.dat (.int m)) M
theorem Paired.three {α β:Type} {F:α->β->Prop} {l:List α} {b c d:β} (h:Paired F l [b,c,d]):∃ a a' a'',l = [a,a',a''] /\ F a b /\ F a' c /\ F a'' d:=by
 cases h with
 | cons h1 h2=>
  obtain ⟨a,a',rfl,h3,h4⟩:=Paired.two h2;exact ⟨_,a,a',rfl,h1,h3,h4⟩
def δ3I (g:Int->Int->Int->Int):D1:=λ xs M Φ=>on3 xs λ x y z=>onI x λ i=>onI y λ j=>onI z λ l=>Φ (.dat (.int (g i j l))) M
theorem L8 (hc:X.calm = true):JB X (.builtin "max") (λ xs H Q=>∃ i j l,xs = [.int i,.int j,.int l] /\ Q (.int (max i (max j l))) H):=by
 intro pins s Z H xs us Q I r h;obtain ⟨i,j,l,rfl,q⟩:=h;obtain ⟨u,hu⟩:∃ u,us = u:=⟨us,rfl⟩
 cases r with
 | cons r1 r2=>
  obtain ⟨u2,u3,rfl,r3,r4⟩:=vals2 r2;obtain ⟨t1,rfl⟩:=r1;obtain ⟨t2,rfl⟩:=r3;obtain ⟨t3,rfl⟩:=r4;refine max_three_ints (I.ok.hd hc) λ h' tk k=>⟨.int (max i (max j l)),H,I.kept k,?_,q⟩
  by_cases c1:j > i
  ·rw [if_pos c1]
   by_cases c2:l > j
   ·rw [if_pos c2]; exact ⟨t3,by rw [show max i (max j l) = l by lia]⟩
   ·rw [if_neg c2]; exact ⟨t2,by rw [show max i (max j l) = j by lia]⟩
  ·rw [if_neg c1]
   by_cases c2:l > i
   ·rw [if_pos c2]; exact ⟨t3,by rw [show max i (max j l) = l by lia]⟩
   ·rw [if_neg c2]; exact ⟨t1,by rw [show max i (max j l) = i by lia]⟩
theorem Zak (hc:X.calm = true):J0 X (.builtin "max") (δ3I λ i j l=>max i (max j l)):=by
 refine ⟨_,L8 hc,λ vs H xs M Φ Q r rv h k=>?_⟩;replace h:=QT h;obtain ⟨x,y,z,rfl,h⟩:=h;replace h:=Zt h;obtain ⟨i,rfl,h⟩:=h;replace h:=Zt h;obtain ⟨j,rfl,h⟩:=h;replace h:=Zt h;obtain ⟨l,rfl,q⟩:=h;obtain ⟨v,u,w',rfl,h1,h2,h3⟩:=Paired.three rv;exact ⟨i,j,l,by rw [Ql.int h1,Ql.int h2,Ql.int h3],k.dat r Step.refl (Dt.int _) q⟩
def FR:D1:=λ xs M Φ=>on1 xs λ x=>onQ x M λ ds=>Φ (.dat (.tuple ds)) M
theorem Ja:J0 X (.type "tuple") FR:=by
 refine ⟨_,Uh,λ vs H xs M Φ Q r rv h k=>?_⟩;replace h:=Zu h;obtain ⟨x,rfl,h⟩:=h;replace h:=MB h;obtain ⟨ds,hx,q⟩:=h;have hx':x = .dat (.list ds) \/ x = .dat (.tuple ds) \/ ∃ l,x = .own l /\ M l = some (.lst ds):=by
  rcases hx with a | a | a
  ·exact .inr (.inl a)
  ·exact .inl a
  ·exact .inr (.inr a)
 rcases hx' with rfl | rfl | ⟨l,rfl,hm⟩
 ·obtain ⟨v,rfl,h1⟩:=Paired.one rv;obtain ⟨p,ys,rfl,g1,g2⟩:=Ql.lst h1;exact ⟨p,ys,rfl,.inl ⟨g1.sq,λ l hl=>k.dat (r.new hl) (Step.new hl) (Dt.Kr r hl g2) q⟩⟩
 ·obtain ⟨v,rfl,h1⟩:=Paired.one rv;obtain ⟨p,ys,rfl,g1,g2⟩:=Ql.tup h1;exact ⟨p,ys,rfl,.inr ⟨g1.sq,k.dat r Step.refl (Dt.tup g1 g2) q⟩⟩
 ·obtain ⟨v,rfl,h1⟩:=Paired.one rv;cases (show v = .ref l from h1);obtain ⟨ws,g1,g2⟩:=r.ls l _ hm;exact ⟨l,ws,rfl,.inl ⟨SqL.of g1,λ l hl=>k.dat (r.new hl) (Step.new hl) (Dt.Kr r hl g2) q⟩⟩
theorem Zcy (hu:X.A.units + 66 < cLine):OpR X (compareOp .In) (λ x y H Q=>∃ M d ds,Dt X.K M H x d /\ (Dt X.K M H y (.list ds) \/ Dt X.K M H y (.tuple ds)) /\ d.canLay0 = true /\ PyData.canLayAll0 ds = true /\ d.depth <= 64 /\ Q (.bl (ds.any λ e=>PyData.eqv e d)) H):=by
 intro pins s Z H x y v u Q I rx ry h;obtain ⟨M,d,ds,h1,h2,c1,c2,hdp,q⟩:=h;obtain ⟨as,ra,_⟩:=h1.reads I rx
 rcases h2 with h2 | h2
 ·obtain ⟨bs,rb,_⟩:=h2.reads I ry;exact PySem.SeqAt.in_list_reads rb ra c2 c1 (by have:=Nat.min_le_right (PyData.depthAll ds) d.depth; lia) ⟨.bl _,H,I,rfl,q⟩
 ·obtain ⟨bs,rb,_⟩:=h2.reads I ry;exact PySem.SeqAt.in_tuple_reads rb ra c2 c1 (by have:=Nat.min_le_right (PyData.depthAll ds) d.depth; lia) ⟨.bl _,H,I,rfl,q⟩
def onW (x:DV) (P:List PyData->Prop):Prop:=match x with | .dat (.tuple ds)=>P ds | .dat (.list ds)=>P ds | _=>False
theorem ZfZ {x:DV} {P:List PyData->Prop} (h:onW x P):∃ ds,(x = .dat (.list ds) \/ x = .dat (.tuple ds)) /\ P ds:=by
 unfold onW at h
 split at h
 ·exact ⟨_,.inr rfl,h⟩
 ·exact ⟨_,.inl rfl,h⟩
 ·exact h.elim
noncomputable def okIn (d:PyData) (ds:List PyData):Bool:=d.canLay0 && PyData.canLayAll0 ds && Nat.ble d.depth 64
theorem TK (h:okIn d ds = true):d.canLay0 = true /\ PyData.canLayAll0 ds = true /\ d.depth <= 64:=by
 unfold okIn at h;simp only [Bool.and_eq_true] at h;exact ⟨h.1.1,h.1.2,Nat.le_of_ble_eq_true h.2⟩
def δIn:D2:=λ x y M Φ=>onD x λ d=>onW y λ ds=>okIn d ds = true /\ Φ (.dat (.bool (ds.any λ e=>PyData.eqv e d))) M
theorem Zen {k:Nat} (hr:Jq k X.A):OpD X (compareOp .In) δIn:=
 ⟨_,Zcy (by have:=hr.un; lia),λ v u H x y M Φ Q r rv ru h k=>by
  obtain ⟨d,e1,h⟩:=ZR h;obtain ⟨ds,e2,ho,q⟩:=ZfZ h;obtain ⟨c1,c2,hdp⟩:=TK ho;subst e1;refine ⟨M,d,ds,rv,?_,c1,c2,hdp,k.dat r Step.refl (Dt.bl _) q⟩
  rcases e2 with rfl | rfl
  ·exact .inl ru
  ·exact .inr ru⟩
def FC (to te:DTE):DTE:=λ Δ M Φ=>to Δ M λ x M1=>onO x λ l=>JR (M1 l) λ _=>te Δ M1 λ y M2=>onO y λ b=>JR (M2 l) λ ds=>JR (M2 b) λ es=>b ≠ l /\ ds.length + es.length <= sizeLine /\ Φ (.dat .none) (V1 (Z0 M2 l (.lst (ds ++ es))) b)
theorem Mu {o:Expr} {to:DTE} {apos cpos:Pos} (ho:DE X o to) (he:DE X e te) (hbase:autoParam (attributeBase o "extend" X.env (eval o X.env) = eval o X.env) zz3._auto_1)
  (hfew:((backTo cpos (starEach [e] X.env)).all (λ x=>!x.1) && (backToKw cpos (keywordEach [] X.env)).all (λ x=>x.1.isSome)
   && decide ([e].length + ([]:List Keyword).length + (if ([]:List Keyword).isEmpty then 0 else 1) < 30)) = true:=by rfl)
  (hline:autoParam ((apos.endLine == cpos.line) = true) zz3._auto_1) (hs:autoParam (starEach [e] X.env = (false,eval e X.env) :: starEach [] X.env) zz3._auto_1) (hplain:autoParam ((backTo cpos (starEach [] X.env)).any (·.1) = false) zz3._auto_1) :
  DE X (.Call (.Attribute o "extend" apos) [e] [] cpos) (FC to te):=by
 obtain ⟨t1,p1,q1⟩:=ho;obtain ⟨t2,p2,q2⟩:=he;refine ⟨_,TR PySem.F.plainAttrs_list PySem.F.slot_list_extend PySem.F.type_list_extend Fm p1 (W8 p2 Dl hs) hbase hfew hline hs hplain,λ Z H Δ M Φ Q r e h k=>?_⟩;refine q1 Z H Δ M _ _ r e h λ v H1 x M1 r1 st rv hx=>?_;replace hx:=ZW hx;obtain ⟨l,rfl,hx⟩:=hx;replace hx:=QF hx;obtain ⟨oo,ho,hx⟩:=hx;cases (show v = .ref l from rv);have ty:tyV X.K "list" (.ref l) H1:=by
  obtain ⟨vs,g1,_⟩:=r1.ls l oo ho;exact .inl ⟨rfl,vs,SqL.of g1⟩
 refine ⟨ty,q2 Z H1 Δ M1 _ _ r1 (e.step st) hx λ w H2 y M2 r2 st2 rw2 hy=>?_⟩;replace hy:=ZW hy;obtain ⟨b,rfl,hy⟩:=hy;replace hy:=QF hy;obtain ⟨ds,hm,hy⟩:=hy;replace hy:=QF hy;obtain ⟨es,hb,hne,hz,hy⟩:=hy;cases (show w = .ref b from rw2);obtain ⟨vs,g1,g2⟩:=r2.ls l ds hm;obtain ⟨ws,g3,g4⟩:=r2.ls b es hb;have st3:Step M2 H2 (Z0 M2 l (.lst (ds ++ es))) (upd H2 l (.lst (vs ++ ws))):=Step.UO hm;refine ⟨l,b,vs,ws,rfl,rfl,g1,g3,by rw [g2.length,g4.length]; exact hz,?_⟩;exact k.dat (r2.XO st3 (g2.append g4)).frz (st.trans (st2.trans (st3.trans Step.frz))) Dt.non hy
theorem Pe {a b:Expr} {body:List Stmt} {g:DTG} {tb:DTS} {pos:Pos} {p p2:Pos} (hg0:Gl X "range") (hm:X.mg "range" = none) (ha:DA X [a,b] ta) (hg:DG X tg g) (hb:DSs X body tb) (hp:PassesOwn (model X.prog X.w) X.A X.env X.xe) (hc:X.calm = true)
  (hs:autoParam (starEach [a,b] X.env = [(false,eval a X.env),(false,eval b X.env)]) zz3._auto_1) (hs':autoParam (starEach [b] X.env = [(false,eval b X.env)]) zz3._auto_1) (hs2:autoParam (∀ x,foldedSetIterable (.Call (.Name "range" p) [a,b] [] p2) X.env x = pure x) zz2._auto_1) :
  DS X (.For tg (.Call (.Name "range" p) [a,b] [] p2) body [] pos) (Rr ta g tb):=by
 obtain ⟨t1,p1,q1⟩:=ha;obtain ⟨t2,p2,q2⟩:=hg;obtain ⟨t3,p3,q3⟩:=hb;refine ⟨_,G0 hp hc (Gf hg0 hm p1 hs hs') p2 p3 hs2,λ Z H Δ M D E r e h k=>?_⟩;refine q1 Z H Δ M _ _ r e h λ vs H1 xs M1 r1 st rv hx=>?_;replace hx:=ZK hx;obtain ⟨xx,yy,rfl,hx⟩:=hx;replace hx:=Zt hx;obtain ⟨i,rfl,hx⟩:=hx;replace hx:=Zt hx;obtain ⟨j,rfl,⟨⟨a1,a2⟩,a3,a4⟩,hx⟩:=hx;have h1:-(2 ^ 62) <= i /\ i < 2 ^ 62 /\ -(2 ^ 62) <= j /\ j < 2 ^ 62:=⟨a1,a2,a3,a4⟩
 obtain ⟨v,u,rfl,hv,hu⟩:=Paired.two rv;exact ⟨i,j,by rw [Ql.int hv,Ql.int hu],h1,RQ q2 q3 r1 (e.step st) hx (k.step st)⟩
def ZjA (te:DTE) (tl th:DTO):DTE:=λ Δ M Φ=>te Δ M λ x M1=>tl Δ M1 λ l M2=>th Δ M2 λ u M3=>onL x λ ds=>Φ (.dat (.list (cutD ds l u))) M3
noncomputable def O0 (scope sc:Scope):List (Str × NameKind):=scope.names.map λ (n,k)=>if (k == .free && sc.kind == .function && sc.names.lookup n == some .cell) then (n,.cell) else (n,k)
noncomputable def Zc2 (sc:Scope) (XN:List Str) (scope:Scope) (N:List Str) (ix:List (Option Nat)) (j:Nat):Bool:=
 match N[j]?,ix[j]? with
 | some x,some (some i)=>decide (XN[i]? = some x) && (decide ((x,NameKind.free) ∈ scope.names) && decide ((O0 scope sc).lookup x = some .cell))
 | _,_=>true
theorem ZE {sc:Scope} {XN:List Str} {scope:Scope} {N:List Str} {ix:List (Option Nat)} (hsc:X.env.scope = sc) (hN:X.N = XN)
  (h:scope.kind = .function /\ (∀ y ∈ scope.names,y.2 ≠ .cell) /\ (∀ y ∈ scope.names,y.2 = .local->scope.names.lookup y.1 = some .local) /\ (∀ y ∈ scope.names,y.2 = .free->sc.names.lookup y.1 = some .cell) /\ N.length = ix.length /\
   ∀ j ∈ List.range N.length,Zc2 sc XN scope N ix j = true):J1 X scope N ix:=by
 obtain ⟨h1,h2,h3,h4,h5,h6⟩:=h;subst hsc hN;refine ⟨h1,h2,h3,h4,h5,λ j x i hx hi=>?_⟩;have hj:j < N.length:=(List.getElem?_eq_some_iff.mp hx).1;have q:=h6 j (List.mem_range.mpr hj);unfold Zc2 at q;rw [hx,hi] at q;simp only [Bool.and_eq_true,decide_eq_true_eq] at q;exact ⟨q.1,q.2.1,q.2.2⟩
theorem take_snoc {α β:Type} {l:List α} {i:Nat} {a:α} (f:α->β) (h:l[i]? = some a):(l.take i).map f ++ [f a] = (l.take (i + 1)).map f:=by
 rw [List.take_add_one,h,List.map_append];rfl
theorem Jx {α β:Type} {l:List α} {f:α->β} {i:Nat} {b:β} (h:(l.map f)[i]? = some b):∃ a,l[i]? = some a /\ f a = b:=by
 rw [List.getElem?_map] at h;cases q:l[i]? with
 | none=>rw [q] at h; cases h
 | some a=>rw [q] at h; exact ⟨a,rfl,by simpa using h⟩
def gc (Φ:DK):DK:=λ x M=>∃ ps:List Addr,Φ x (ps.foldl V1 M)
theorem Zdn (k:Rch K M H Φ Q) {x:DV}:∀ (ps:List Addr) (M':Mp),ZF K M' H'->Step M H M' H'->Ql K M' H' v x->Φ x (ps.foldl V1 M')->Q v H'
 | [],M',r,st,rv,f=>k v H' x M' r st rv f
 | p :: ps,M',r,st,rv,f=>Zdn k ps (V1 M' p) r.frz (st.trans Step.frz) (rv.step Step.frz) f
theorem DM (k:Rch K M H Φ Q):Rch K M H (gc Φ) Q:=λ _ _ _ M' r st rv ⟨ps,f⟩=>Zdn k ps M' r st rv f
theorem okG {P:Program} {w:World} {mg:Str->Option Value} {base:Heap} {ps:List Str} {k:Nat} {S:DSp} (F:Fun K x qual st f fd) (Sc:Zm N ps (Zf st)) (len:∀ xs M Φ,S xs M Φ->xs.length = ps.length)
  (hbody:∀ (cdv:Value) (A:Around) (outer:List Env) (s:Shared) (H:Hp) (E:XK),Jq k (A.deeper (envOfC qual (Zf st) s.heap.objs.size f cdv)) ->
   ∃ τ,DSs (Fc CX0 P w K mg base N qual (Zf st) f cdv A outer s H E).nox (Qr st) τ /\ ∀ xs M Φ,S xs M Φ->τ { nx:=λ _ M'=>gc Φ (.dat .none) M',rt:=gc Φ } (J2 N xs) M):Qa P w K mg base CX0 (k + 1) f fd ps (lift K S):=by
 refine F.ok Sc (λ vs H Q E h=>?_) λ cdv A outer s H vs Q E hr h=>?_
 ·obtain ⟨xs,M,Φ,_,rv,hs,_⟩:=h;rw [Paired.length rv];exact len xs M Φ hs
 ·obtain ⟨xs,M,Φ,r,rv,hs,kk⟩:=h;obtain ⟨τ,⟨t,p,q⟩,hτ⟩:=hbody cdv A outer s H E hr;refine ⟨t,p,q (start N vs) H (J2 N xs) M _ _ r (QV.start rv) (hτ xs M Φ hs) ⟨λ σ' H' Δ' M' r' st' e' hn=>?_,DM kk,λ _ _ _ _ _ _ _ h=>h.elim,λ _ _ _ _ _ _ _ h=>h.elim⟩⟩;exact (DM kk).dat r' st' Dt.non hn
theorem RT {x:DV} (hp:M p = none) (h:Φ x M):gc Φ x (Z0 M p o):=⟨[p],by
 show Φ x (V1 (Z0 M p o) p)
 rw [F2 hp]; exact h⟩
theorem NV {x:DV} (h:Φ x M):gc Φ x M:=⟨[],h⟩
theorem Ud {k:Nat} (h:n < 2 ^ k) (hk:0 < k):n.log2 < k:=by
 by_cases h0:n = 0
 ·subst h0; simpa using hk
 ·exact (Nat.log2_lt h0).mpr h
def Mid (i:Int):Prop:=-(10 ^ 70) <= i /\ i <= 10 ^ 70
theorem Mid.show {i:Int} (h:Mid i):(PyData.int i).showable = true:=by
 have h1:i.natAbs.log2 < 240:=Ud (by unfold Mid at h; omega) (by decide);simp only [PyData.showable,decide_eq_true_eq];omega
def Zew:D1:=λ xs M Φ=>∃ ns:List Int,VF xs M ns /\ Φ (.dat (.int ns.sum)) M
theorem GD:∀ {bs:List Bool} {us:List Value},Vals (bs.map V.bl) us->∀ (i:Nat) (v:Value),us[i]? = some v->∃ b,bs[i]? = some b /\ v = .bool b
 | [],_,r,i,v,e=>by rw [List.map_nil] at r; cases r; simp at e
 | b :: bs,_,r,i,v,e=>by
  rw [List.map_cons] at r;cases r with
  | cons r1 r2=>
   cases i with
   | zero=>
    simp at e;subst e;exact ⟨b,rfl,r1⟩
   | succ i=>simpa using GD r2 i v (by simpa using e)
theorem ET (bs:List Bool):((List.range bs.length).all λ i=>(bs[i]?).getD true) = bs.all id:=by
 rw [Bool.eq_iff_iff,List.all_eq_true,List.all_eq_true];constructor
 ·intro h b hb;obtain ⟨i,hi,e⟩:=List.getElem_of_mem hb;have q:=h i (List.mem_range.mpr hi);rw [List.getElem?_eq_getElem hi,Option.getD_some,e] at q;exact q
 ·intro h i hi;have hi':=List.mem_range.mp hi;rw [List.getElem?_eq_getElem hi',Option.getD_some];exact h _ (List.getElem_mem hi')
theorem LL {o:Obj} (hk:∀ b x,b ∉ [s.heap.objs.size]->(s.heap.push o).get? b = some x->h'.get? b = some x):∀ b x,s.heap.get? b = some x->h'.get? b = some x:=
 λ b x e=>hk b x (λ hm=>absurd (Heap.lt_size e) (by rw [List.mem_singleton.mp hm]; exact Nat.lt_irrefl _)) (Heap.get?_push_of_some _ e)
theorem Fl (hc:X.calm = true):JB X (.builtin "all") (λ xs H Q=>∃ (p:Addr) (bs:List Bool),xs = [.ref p] /\ SqL X.K H p (bs.map V.bl) /\ Q (.bl (bs.all id)) H):=by
 intro pins s Z H xs us Q I r h;obtain ⟨p,bs,rfl,hq,q⟩:=h;obtain ⟨u,rfl,rx⟩:=vals1 r;cases rx;obtain ⟨its,rv,pl,hz⟩:=I.list hq;have hl:=pl.isList;have hlt:p < s.heap.objs.size:=by obtain ⟨_,e,_⟩:=hl; exact Heap.lt_size e
 refine call_all_walk (wpAny_pyIter_list hl ?_)
 refine ⟨s.heap.objs.size,[s.heap.objs.size,p],[s.heap.objs.size],its.toArray.size,_,_,λ i=>(bs[i]?).getD true,rfl,Walks.list (A:=X.A.in1) (I.ok.hd hc) _ p (Nat.ne_of_lt hlt) its.toArray,
  ⟨⟨_,Heap.get?_push_size _ rfl,rfl,rfl⟩,hl.push _⟩,λ i v s' Q' E' hP hQ=>?_,λ h' tk hk=>?_⟩
 ·obtain ⟨b,e,rfl⟩:=GD rv i v (by simpa using hP);simp only [e,Option.getD_some] at hQ;exact wpAny_truthy_bool hQ
 ·have e:((List.range its.toArray.size).all λ i=>(bs[i]?).getD true) = bs.all id:=by
   have hln:=rv.length;rw [List.length_map] at hln;rw [List.size_toArray,<- hln]; exact ET bs
  rw [e];exact ⟨.bl _,H,I.kept (LL hk),rfl,q⟩
theorem X2:∀ {vs:List V} {bs:List Bool},Dts K M H vs (bs.map PyData.bool)->vs = bs.map V.bl
 | vs,[],h=>by
  rw [List.map_nil] at h;cases h;rfl
 | vs,n :: ns,h=>by
  rw [List.map_cons] at h;cases h with
  | cons h1 h2=>
   cases h1;rw [X2 h2,List.map_cons]
def SK:D1:=λ xs M Φ=>∃ bs:List Bool,xs = [.dat (.list (bs.map PyData.bool))] /\ Φ (.dat (.bool (bs.all id))) M
def Zek:D1:=λ xs M Φ=>∃ bs:List Bool,xs = [.dat (.list (bs.map PyData.bool))] /\ Φ (.dat (.bool (bs.any id))) M
theorem Dw (hc:X.calm = true):J0 X (.builtin "all") SK:=by
 refine ⟨_,Fl hc,λ vs H xs M Φ Q r rv h k=>?_⟩;obtain ⟨bs,rfl,q⟩:=h;obtain ⟨v,rfl,h1⟩:=Paired.one rv;obtain ⟨p,ys,rfl,g1,g2⟩:=Ql.lst h1;rw [X2 g2] at g1;exact ⟨p,bs,rfl,g1.sq,k.dat r Step.refl (Dt.bl _) q⟩
def SW:D1:=λ xs M Φ=>on1 xs λ x=>onB x λ b=>Φ (.dat (.int (if b = true then 1 else 0))) M
theorem ZcH:J0 X (.type "int") SW:=by
 refine ⟨_,Lf,λ vs H xs M Φ Q r rv h k=>?_⟩;replace h:=Zu h;obtain ⟨x,rfl,h⟩:=h;replace h:=XQ h;obtain ⟨b,rfl,q⟩:=h;obtain ⟨v,rfl,h1⟩:=Paired.one rv;cases (show v = .bl b from Ql.bool h1);exact .inr ⟨b,rfl,k.dat r Step.refl (Dt.int _) q⟩
def ZjG (i j:Nat) (ta:DTA):DTS:=λ D Δ M=>ta Δ M λ xs M1=>on2 xs λ x y=>D.nx ((Δ.set i (some x)).set j (some y)) M1
def RI (x:DV) (M:Mp) (ds:List PyData):Prop:=x = .dat (.list ds) \/ ∃ l,x = .own l /\ M l = some (.lst ds)
theorem RI.sq {x:DV} (h:RI x M ds) (r:ZF X.K M H) (rv:Ql X.K M H v x):∃ p ys,v = .ref p /\ SqL X.K H p ys /\ Dts X.K M H ys ds:=by
 rcases h with rfl | ⟨l,rfl,hm⟩
 ·obtain ⟨p,ys,rfl,g1,g2⟩:=Ql.lst rv;exact ⟨p,ys,rfl,g1.sq,g2⟩
 ·cases (show v = .ref l from rv);obtain ⟨ws,g1,g2⟩:=r.ls l _ hm;exact ⟨l,ws,rfl,SqL.of g1,g2⟩
def R6:D2:=λ x y M Φ=>onK x M λ ds=>onK y M λ es=>ds.length + es.length <= sizeLine /\ Φ (.dat (.list (ds ++ es))) M
theorem Tw:OpD X (binaryOp .Add) R6:=by
 refine ⟨_,Np,λ v u H x y M Φ Q r rv ru h k=>?_⟩;replace h:=We h;obtain ⟨ds,hx,h⟩:=h;replace h:=We h;obtain ⟨es,hy,hz,q⟩:=h;replace hx:RI x M ds:=hx;replace hy:RI y M es:=hy;obtain ⟨a,xs,rfl,h1,h2⟩:=hx.sq r rv;obtain ⟨b,ys,rfl,h3,h4⟩:=hy.sq r ru;exact ⟨a,b,xs,ys,rfl,rfl,h1,h3,by rw [h2.length,h4.length]; exact hz,λ p hp=>k.dat (r.new hp) (Step.new hp) (Dt.Xx r hp (h2.append h4)) q⟩
def Zjz (te:DTE) (tl th:DTO):DTE:=λ Δ M Φ=>te Δ M λ x M1=>tl Δ M1 λ l M2=>th Δ M2 λ u M3=>onK x M3 λ ds=>Φ (.dat (.list (cutD ds l u))) M3
def Zbg (ta:DTA):DTE:=λ Δ M Φ=>ta Δ M λ xs M1=>on2 xs λ x y=>onI x λ i=>onI y λ j=>(InR i /\ InR j) /\ (j - i).toNat <= 16777216 /\ Φ (.dat (.list (K6 i (j - i).toNat))) M1
def ZjH (i:Nat) (te:DTE) (f:Int->Int->Int):DTS:=λ D Δ M=>onV Δ[i]? λ z=>onI z λ a=>te Δ M λ x M1=>onI x λ b=>D.nx (Δ.set i (some (.dat (.int (f a b))))) M1
def ZgO (h:Heap) (v:Value) (q:Int × Int):Prop:=∃ a o n t u,v = .ref a /\ h.get? a = some o /\ o.cls = .type "tuple" /\ o.data = .seq #[.int q.1 t,.int q.2 u] n
theorem ZgO.keep {v:Value} {q:Int × Int} (p:ZgO h v q) (k:∀ b o,h.get? b = some o->h'.get? b = some o):ZgO h' v q:=by
 obtain ⟨a,o,n,t,u,e,g,c,d⟩:=p;exact ⟨a,o,n,t,u,e,k _ _ g,c,d⟩
noncomputable def ltP (p q:Int × Int):Bool:=if p.1 = q.1 then decide (p.2 < q.2) else decide (p.1 < q.1)
section
variable {prog:Program} {E:Value->Shared->Prop}
end
section
variable {prog:Program} {R:Result->Shared->Prop} {I:Addr} {fp wr:List Addr} {P:Nat->Value->Prop} {St:Nat->Heap->Prop}
end
section
variable {prog:Program} {E:Value->Shared->Prop}
end
def ZdT (i j:Int):Prop:=0 < j /\ j.natAbs.log2 < 9000
theorem Nv:OpR X (binaryOp .FloorDiv) (rI ZdT λ i j=>.int (i / j)):=opI λ i j _ _ _ _ _ hc q=>by
 have h1:(0:Int) < j:=hc.1;exact floordiv_int (by lia) (by rw [Int.fdiv_eq_ediv_of_nonneg i (by lia)]; exact q) (.inl (PyProof.noPylong_of_log2 hc.2))
theorem DX:OpD X (binaryOp .FloorDiv) (δI ZdT λ i j=>.int (i / j)):=Zdo Nv
theorem Vals.back (r:Vals xs us) (e:us[i]? = some u):∃ x,xs[i]? = some x /\ RelV x u:=by
 cases q:xs[i]? with
 | none=>rw [r.none_of q] at e; cases e
 | some x=>
  obtain ⟨u',e',h⟩:=r.get q;rw [e] at e';cases e';exact ⟨x,rfl,h⟩
noncomputable def prD (q:Int × Int):PyData:=.tuple [.int q.1,.int q.2]
def Zez:D1:=λ xs M Φ=>∃ qs:List (Int × Int),xs = [.dat (.list (qs.map prD))] /\ 0 < qs.length /\ ∀ q ∈ qs,(∀ r ∈ qs,ltP r q = false)->Φ (.dat (prD q)) M
noncomputable def Zgq {α:Type} [DecidableEq α] (ks:List α) (k:α):Bool:=decide (k ∈ ks)
noncomputable def ZiD {α:Type} [DecidableEq α] (ks:List α) (k:α):List α:=if k ∈ ks then ks else ks ++ [k]
def Zan:DTE:=λ _ M Φ=>∀ p,M p = none->Φ (.own p) (Z0 M p (.dct []))
noncomputable def kP (i j:Int):List Key:=[.inl i,.inl j]
def ZhD (td:DTE) (ta:DTA) (tv:DTE):DTS:=λ D Δ M=>tv Δ M λ x M1=>td Δ M1 λ y M2=>ta Δ M2 λ zs M3=>onD x λ _=>onO y λ l=>on2 zs λ p q=>onI p λ i=>onI q λ j=>Zaj (M3 l) λ ks=>ks.length < sizeLine /\ D.nx Δ (Z0 M3 l (.dct (ZiD ks (kP i j))))
def onP (x:DV) (P:Int->Int->Prop):Prop:=match x with | .dat (.tuple [.int i,.int j])=>P i j | _=>False
theorem MQ {x:DV} {P:Int->Int->Prop} (h:onP x P):∃ i j,x = .dat (.tuple [.int i,.int j]) /\ P i j:=by
 unfold onP at h
 split at h
 ·exact ⟨_,_,rfl,h⟩
 ·exact h.elim
def Zho:D2:=λ x y M Φ=>onP x λ i j=>onO y λ l=>Zaj (M l) λ ks=>Φ (.dat (.bool (Zgq ks (kP i j)))) M
section
variable {prog:Program} {E:Value->Shared->Prop}
end
def Zie (te ts:DTE):DTE:=λ Δ M Φ=>te Δ M λ x M1=>ts Δ M1 λ y M2=>onT x λ ds=>onI y λ i=>i = -1 /\ Φ (.dat (.tuple ds.reverse)) M2
section
variable {prog:Program} {E:Value->Shared->Prop}
end
def Zhh (te:DTE) (tl th:DTO):DTE:=λ Δ M Φ=>te Δ M λ x M1=>tl Δ M1 λ l M2=>th Δ M2 λ u M3=>onT x λ ds=>Φ (.dat (.tuple (cutD ds l u))) M3
def Zgu (x:DV) (M:Mp) (Φ:DK):Prop:=match x with | .dat (.list ds)=>Φ (.dat (.list ds)) M | .own l=>JR (M l) λ ds=>Φ (.dat (.list ds)) (V1 M l) | _=>False
def ZhR (t:DTE):DTE:=λ Δ M Φ=>t Δ M λ x M1=>Zgu x M1 Φ
theorem Zbm {τ τ':DTE} (h:DE X e τ) (k:∀ Δ M Φ,τ' Δ M Φ->τ Δ M Φ):DE X e τ':=by
 obtain ⟨t,p,q⟩:=h;exact ⟨t,p,λ Z H Δ M Φ Q a b c d=>q Z H Δ M Φ Q a b (k _ _ _ c) d⟩
theorem ZbT {s:Stmt} {τ τ':DTS} (h:DS X s τ) (k:∀ D Δ M,τ' D Δ M->τ D Δ M):DS X s τ':=by
 obtain ⟨t,p,q⟩:=h;exact ⟨t,p,λ Z H Δ M D E a b c d=>q Z H Δ M D E a b (k _ _ _ c) d⟩
def ZhH (src:YF):YF:=λ Δ M Ψ=>∃ Ψ',src Δ M Ψ' /\ ∀ ds M1,Ψ' ds M1->Ψ ds M1
theorem DI.mono {src:YF} (h:DI X tg iter src):DI X tg iter (ZhH src):=by
 obtain ⟨wi,p,q⟩:=h;exact ⟨wi,p,λ Z H Δ M Ψ R dr er ⟨Ψ',h1,h2⟩ k=>q Z H Δ M Ψ' R dr er h1 λ J H' M' ds a b c d=>k J H' M' ds a b c (h2 _ _ d)⟩
def QX (g:DTG) (tc:DTT) (te:DTE) (Δc:DSt) (fin:List PyData->Mp->Prop):List PyData->List PyData->Mp->Prop
 | [],acc,M=>fin acc M
 | d :: ds,acc,M=>g (.dat d) Δc M λ Δ2 M2=>tc Δ2 M2 λ b M3=>if b = true then te Δ2 M3 λ y M4=>onD y λ e=>QX g tc te Δc fin ds (acc ++ [e]) M4 else QX g tc te Δc fin ds acc M3
theorem FO (g:DTG) (tc:DTT) (te:DTE) (Δc:DSt) (fin:List PyData->Mp->Prop) (acc:List PyData) (M:Mp):QX g tc te Δc fin [] acc M = fin acc M:=by rw [QX]
theorem H9 (g:DTG) (tc:DTT) (te:DTE) (Δc:DSt) (fin:List PyData->Mp->Prop) (d:PyData) (ds acc:List PyData) (M:Mp):QX g tc te Δc fin (d :: ds) acc M =
  g (.dat d) Δc M λ Δ2 M2=>tc Δ2 M2 λ b M3=>if b = true then te Δ2 M3 λ y M4=>onD y λ e=>QX g tc te Δc fin ds (acc ++ [e]) M4 else QX g tc te Δc fin ds acc M3:=by rw [QX]
theorem NF {g:DTG} {Δc:DSt} {fin:List PyData->Mp->Prop} (h:QX g tc te Δc fin ds [] M):∃ J:Nat->List PyData->Mp->Prop,J 0 [] M /\
 (∀ i d acc M',ds[i]? = some d->J i acc M'->g (.dat d) Δc M' λ Δ2 M2=>tc Δ2 M2 λ b M3=>if b = true then te Δ2 M3 λ y M4=>onD y λ e=>J (i + 1) (acc ++ [e]) M4 else J (i + 1) acc M3) /\
 ∀ acc M',J ds.length acc M'->fin acc M':=by
 refine ⟨λ i acc M'=>QX g tc te Δc fin (ds.drop i) acc M',by simpa using h,λ i d acc M' e k=>?_,λ acc M' k=>?_⟩
 ·have ed:ds.drop i = d :: ds.drop (i + 1):=by
   obtain ⟨hi,e'⟩:=List.getElem?_eq_some_iff.mp e;rw [<- e',List.drop_eq_getElem_cons hi]
  dsimp only at k;rw [ed] at k;exact k
 ·dsimp only at k;rw [List.drop_length] at k;exact k
def C2 (ow:Bool) (src:YF) (ix:List (Option Nat)) (g:DTG) (tc:DTT) (te:DTE):DTE:=λ Δ M Φ=>src Δ M λ ds M1=>ds.length <= sizeLine /\ QX g tc te (Fe ix Δ) (Du ow Φ) ds [] M1
theorem C4 {ow:Bool} {src:YF} {g:DTG} (Δ:DSt) (M:Mp) (Φ:DK) (h:C2 ow src ix g tc te Δ M Φ):Eg ow (ZhH src) ix g tc te Δ M Φ:=
 ⟨_,h,λ _ _ ⟨a,b⟩=>⟨a,NF b⟩⟩
theorem NW (ow:Bool) {elt:Expr} {ifs:List Expr} {pos:Pos} {src:YF} {g:DTG} {tc:DTT} {te:DTE} (ok:J1 X scope N ix) (hi:DI X tg iter src)
  (hg:∀ C ex s H,DG (ZJ X scope C N ex s H) tg g) (ht:∀ C ex s H,DTs (ZJ X scope C N ex s H) ifs tc) (he:∀ C ex s H,DE (ZJ X scope C N ex s H) elt te) (hc:X.calm = true)
  (hs:autoParam (∀ x,foldedSetIterable iter X.env x = pure x) zz2._auto_1):DE X (.ListComp elt [⟨tg,iter,ifs,0⟩] scope pos) (C2 ow src ix g tc te):=
 Zbm (Qs ow ok hi.mono hg ht he hc hs) C4
theorem C8 (i:Nat) (ow:Bool) {x:Str} {pos' spos:Pos} (hN:X.N.Nodup) {elt:Expr} {ifs:List Expr} {pos:Pos} {src:YF} {g:DTG} {tc:DTT} {te:DTE} (ok:J1 X scope N ix) (hi:DI X tg iter src)
  (hg:∀ C ex s H,DG (ZJ X scope C N ex s H) tg g) (ht:∀ C ex s H,DTs (ZJ X scope C N ex s H) ifs tc) (he:∀ C ex s H,DE (ZJ X scope C N ex s H) elt te) (hc:X.calm = true)
  (hs:autoParam (∀ x,foldedSetIterable iter X.env x = pure x) zz2._auto_1) (hin:autoParam (X.N[i]? = some x) zz3._auto_1) (hx:autoParam (Loc X.env.scope x) zz8._auto_1)
  (hsw:autoParam (swapsWith (.ListComp elt [⟨tg,iter,ifs,0⟩] scope pos) (some (.Name x pos')) spos.line X.env = pure true) zz3._auto_1)
  (hf:autoParam (X.fn x = true \/ X.env.scope.names.lookup x = some .local) zz0._auto_1) :
  DS X (.Assign [.Name x pos'] (.ListComp elt [⟨tg,iter,ifs,0⟩] scope pos) spos) (Zb5 (C2 ow src ix g tc te) (KZ i)):=
 ZbT (Fp i ow hN ok hi.mono hg ht he hc hs hin hx hsw hf) λ D Δ M h=>C4 Δ M _ h
def Y1 (g:DTG) (tb:DTS) (D:Z9):List PyData->DSt->Mp->Prop
 | [],Δ,M=>D.nx Δ M
 | d :: ds,Δ,M=>g (.dat d) Δ M λ Δ2 M2=>tb { D with nx:=Y1 g tb D ds,ct:=Y1 g tb D ds,bk:=D.nx } Δ2 M2
theorem OM (g:DTG) (tb:DTS) (D:Z9) (Δ:DSt) (M:Mp):Y1 g tb D [] Δ M = D.nx Δ M:=by rw [Y1]
theorem NJ (g:DTG) (tb:DTS) (D:Z9) (d:PyData) (ds:List PyData) (Δ:DSt) (M:Mp):Y1 g tb D (d :: ds) Δ M = g (.dat d) Δ M λ Δ2 M2=>tb { D with nx:=Y1 g tb D ds,ct:=Y1 g tb D ds,bk:=D.nx } Δ2 M2:=by rw [Y1]
theorem C5 (lo:Int) (n:Nat):K6 lo (n + 1) = .int lo :: K6 (lo + 1) n:=by
 unfold K6;rw [List.range_succ_eq_map,List.map_cons,List.map_map]
 congr 1
 ·simp
 ·refine List.map_congr_left λ i _=>?_;show PyData.int _ = PyData.int _
  congr 1
  simp;lia
theorem Zer (lo:Int):K6 lo 0 = []:=rfl
theorem RH (lo:Int):K6 lo 1 = [.int lo]:=by rw [C5]; rfl
theorem SR (lo:Int):K6 lo 2 = [.int lo,.int (lo + 1)]:=by rw [C5,RH]
theorem RP (lo:Int):K6 lo 3 = [.int lo,.int (lo + 1),.int (lo + 1 + 1)]:=by rw [C5,SR]
theorem ZcW (lo:Int):K6 lo 4 = [.int lo,.int (lo + 1),.int (lo + 1 + 1),.int (lo + 1 + 1 + 1)]:=by rw [C5,RP]
theorem Jm {A B:DTS} {D:Z9} (h:∀ R,R = B->ZgC A R D Δ M):ZgC A B D Δ M:=h B rfl
theorem ZaL {l:List Int} {r:Int} (h0:0 <= r) (h1:r < l.length):∃ w ∈ l,atI (l.map PyData.int) r = some (.int w):=by
 obtain ⟨d,e,hm⟩:=FN (l:=l.map PyData.int) h0 (by rw [List.length_map]; exact h1);obtain ⟨w,hw,rfl⟩:=List.mem_map.mp hm;exact ⟨w,hw,e⟩
theorem CA  : ZL "int" .none = false:=rfl
theorem BF (b:Bool):ZL "int" (.bool b) = true:=rfl
theorem EH (i:Int):ZL "int" (.int i) = true:=rfl
theorem EJ (z:Str):ZL "int" (.str z) = false:=rfl
theorem Ck (l:List PyData):ZL "int" (.list l) = false:=rfl
theorem GX (l:List PyData):ZL "int" (.tuple l) = false:=rfl
theorem Cz (l:List (PyData × PyData)):ZL "int" (.dict l) = false:=rfl
theorem G3  : ZL "bool" .none = false:=rfl
theorem U5 (b:Bool):ZL "bool" (.bool b) = true:=rfl
theorem BD (i:Int):ZL "bool" (.int i) = false:=rfl
theorem BX (z:Str):ZL "bool" (.str z) = false:=rfl
theorem Gs (l:List PyData):ZL "bool" (.list l) = false:=rfl
theorem Ua (l:List PyData):ZL "bool" (.tuple l) = false:=rfl
theorem UR (l:List (PyData × PyData)):ZL "bool" (.dict l) = false:=rfl
theorem Uu  : ZL "tuple" .none = false:=rfl
theorem Uw (b:Bool):ZL "tuple" (.bool b) = false:=rfl
theorem UZ (i:Int):ZL "tuple" (.int i) = false:=rfl
theorem Ge (z:Str):ZL "tuple" (.str z) = false:=rfl
theorem WV (l:List PyData):ZL "tuple" (.list l) = false:=rfl
theorem KN (l:List PyData):ZL "tuple" (.tuple l) = true:=rfl
theorem W7 (l:List (PyData × PyData)):ZL "tuple" (.dict l) = false:=rfl
theorem UM  : ZL "list" .none = false:=rfl
theorem Gb (b:Bool):ZL "list" (.bool b) = false:=rfl
theorem BO (i:Int):ZL "list" (.int i) = false:=rfl
theorem BU (z:Str):ZL "list" (.str z) = false:=rfl
theorem UW (l:List PyData):ZL "list" (.list l) = true:=rfl
theorem Uj (l:List PyData):ZL "list" (.tuple l) = false:=rfl
theorem Gz (l:List (PyData × PyData)):ZL "list" (.dict l) = false:=rfl
theorem Cc  : ZL "str" .none = false:=rfl
theorem BM (b:Bool):ZL "str" (.bool b) = false:=rfl
theorem EV (i:Int):ZL "str" (.int i) = false:=rfl
theorem E3 (z:Str):ZL "str" (.str z) = true:=rfl
theorem Cu (l:List PyData):ZL "str" (.list l) = false:=rfl
theorem GQ (l:List PyData):ZL "str" (.tuple l) = false:=rfl
theorem Ct (l:List (PyData × PyData)):ZL "str" (.dict l) = false:=rfl
theorem G7  : ZL "dict" .none = false:=rfl
theorem GB (b:Bool):ZL "dict" (.bool b) = false:=rfl
theorem Cv (i:Int):ZL "dict" (.int i) = false:=rfl
theorem Ce (z:Str):ZL "dict" (.str z) = false:=rfl
theorem U7 (l:List PyData):ZL "dict" (.list l) = false:=rfl
theorem WW (l:List PyData):ZL "dict" (.tuple l) = false:=rfl
theorem Gh (l:List (PyData × PyData)):ZL "dict" (.dict l) = true:=rfl
theorem ZgF (i j:Int):(PyData.int i).eqv (.int j) = decide (i = j):=by
 simp only [PyData.eqv]
 first | rfl | exact Bool.beq_eq_decide_eq _ _ | (rw [Bool.eq_iff_iff]; simp)
theorem ZgX (x y:Str):(PyData.str x).eqv (.str y) = decide (x = y):=by
 simp only [PyData.eqv]
 first | rfl | (rw [Bool.eq_iff_iff]; simp)
theorem Zib (x y:Bool):(PyData.bool x).eqv (.bool y) = (x == y):=by
 simp only [PyData.eqv]
theorem Zhs:PyData.none.eqv .none = true:=by simp only [PyData.eqv]
theorem Zhu (x y:List PyData):(PyData.tuple x).eqv (.tuple y) = PyData.eqvAll x y:=by simp only [PyData.eqv]
theorem Zg8 (x y:List PyData):(PyData.list x).eqv (.list y) = PyData.eqvAll x y:=by simp only [PyData.eqv]
theorem Za9:PyData.eqvAll [] [] = true:=by simp only [PyData.eqvAll]
theorem O1 (x y:PyData) (xs ys:List PyData):PyData.eqvAll (x :: xs) (y :: ys) = (x.eqv y && PyData.eqvAll xs ys):=by simp only [PyData.eqvAll]
theorem Zc8 (x:PyData) (xs:List PyData):PyData.eqvAll (x :: xs) [] = false:=by simp only [PyData.eqvAll]
theorem ZcV (x:PyData) (xs:List PyData):PyData.eqvAll [] (x :: xs) = false:=by simp only [PyData.eqvAll]
def Zds (tc:DTT) (tb:DTS):DTS:=λ D Δ M=>∃ J:Nat->DSt->Mp->Prop,(∃ m,J m Δ M) /\ ∀ n Δ M,J n Δ M->tc Δ M λ b M1=>
 if b = true then tb { D with nx:=λ Δ' M'=>∃ m,m < n /\ J m Δ' M',ct:=λ Δ' M'=>∃ m,m < n /\ J m Δ' M',bk:=D.nx } Δ M1 else D.nx Δ M1
def Zjh (to:DTE):DTE:=λ Δ M Φ=>to Δ M λ x M1=>onO x λ l=>∃ ds d,M1 l = some (.lst (ds ++ [d])) /\ Φ (.dat d) (Z0 M1 l (.lst ds))
noncomputable def isNone:PyData->Bool
 | .none=>true
 | _=>false
def onN (x:DV) (P:Prop):Prop:=match x with | .dat .none=>P | _=>False
def ZhS (b:Bool):D2:=λ x y M Φ=>onD x λ d=>onN y <| Φ (.dat (.bool (isNone d != b))) M
theorem isNone_none:isNone .none = true:=rfl
theorem Bz (b:Bool):isNone (.bool b) = false:=rfl
theorem EK (b:Int):isNone (.int b) = false:=rfl
theorem Eo (b:Str):isNone (.str b) = false:=rfl
theorem Cn (b:List PyData):isNone (.list b) = false:=rfl
theorem GC (b:List PyData):isNone (.tuple b) = false:=rfl
theorem CB (b:List (PyData × PyData)):isNone (.dict b) = false:=rfl
def S9:D2:=λ x y M Φ=>onD x λ d=>onW y λ ds=>okIn d ds = true /\ Φ (.dat (.bool (!(ds.any λ e=>PyData.eqv e d)))) M
def PZ:D2:=λ x y M Φ=>onP x λ i j=>onO y λ l=>Zaj (M l) λ ks=>Φ (.dat (.bool (!Zgq ks (kP i j)))) M
section
variable {prog:Program} {E:Value->Shared->Prop}
end
theorem Pq (x:DV) (P:DV->Prop):onV (some (some x)) P = P x:=qI
theorem Py (i:Int) (P:Int->Prop):onI (.dat (.int i)) P = P i:=qI
theorem P8 (i:Bool) (P:Bool->Prop):onB (.dat (.bool i)) P = P i:=qI
theorem ON (i:Str) (P:Str->Prop):onS (.dat (.str i)) P = P i:=qI
theorem OE (i:List PyData) (P:List PyData->Prop):onT (.dat (.tuple i)) P = P i:=qI
theorem PV (i:List PyData) (P:List PyData->Prop):onL (.dat (.list i)) P = P i:=qI
theorem Nj (i:PyData) (P:PyData->Prop):onD (.dat i) P = P i:=qI
theorem Rh (i:Addr) (P:Addr->Prop):onO (.own i) P = P i:=qI
theorem MK (ds:List PyData) (P:List PyData->Prop):JR (some (.lst ds)) P = P ds:=qI
theorem ZbM (ds:List PyData) (M:Mp) (P:List PyData->Prop):onQ (.dat (.tuple ds)) M P = P ds:=qI
theorem ZbB (ds:List PyData) (M:Mp) (P:List PyData->Prop):onQ (.dat (.list ds)) M P = P ds:=qI
theorem Tn (l:Addr) (M:Mp) (P:List PyData->Prop):onQ (.own l) M P = JR (M l) P:=qI
theorem Za8 (ds:List PyData) (M:Mp) (P:List PyData->Prop):onK (.dat (.list ds)) M P = P ds:=qI
theorem ZaH (l:Addr) (M:Mp) (P:List PyData->Prop):onK (.own l) M P = JR (M l) P:=qI
theorem Rj (x:DV) (P:DV->Prop):on1 [x] P = P x:=qI
theorem OQ (x y:DV) (P:DV->DV->Prop):on2 [x,y] P = P x y:=qI
theorem OT (x y z:DV) (P:DV->DV->DV->Prop):on3 [x,y,z] P = P x y z:=qI
theorem OI (P:List PyData->Prop):Kk [] P = P []:=qI
theorem Ng (a0:PyData) (P:List PyData->Prop):Kk [.dat a0] P = P [a0]:=qI
theorem Rc (a0 a1:PyData) (P:List PyData->Prop):Kk [.dat a0,.dat a1] P = P [a0,a1]:=qI
theorem NO (a0 a1 a2:PyData) (P:List PyData->Prop):Kk [.dat a0,.dat a1,.dat a2] P = P [a0,a1,a2]:=qI
theorem OW (a0 a1 a2 a3:PyData) (P:List PyData->Prop):Kk [.dat a0,.dat a1,.dat a2,.dat a3] P = P [a0,a1,a2,a3]:=qI
theorem OA (a0 a1 a2 a3 a4:PyData) (P:List PyData->Prop):Kk [.dat a0,.dat a1,.dat a2,.dat a3,.dat a4] P = P [a0,a1,a2,a3,a4]:=qI
theorem P9 (a0 a1 a2 a3 a4 a5:PyData) (P:List PyData->Prop):Kk [.dat a0,.dat a1,.dat a2,.dat a3,.dat a4,.dat a5] P = P [a0,a1,a2,a3,a4,a5]:=qI
theorem OS (a0 a1 a2 a3 a4 a5 a6 a7:PyData) (P:List PyData->Prop):Kk [.dat a0,.dat a1,.dat a2,.dat a3,.dat a4,.dat a5,.dat a6,.dat a7] P = P [a0,a1,a2,a3,a4,a5,a6,a7]:=qI
theorem F5 (a0 a1 a2 a3 a4 a5 a6 a7 a8 a9 a10 a11 a12:PyData) (P:List PyData->Prop):Kk [.dat a0,.dat a1,.dat a2,.dat a3,.dat a4,.dat a5,.dat a6,.dat a7,.dat a8,.dat a9,.dat a10,.dat a11,.dat a12] P = P [a0,a1,a2,a3,a4,a5,a6,a7,a8,a9,a10,a11,a12]:=qI
theorem Zb7:type_of% @Zh6.eq_1:=λ _ _ _ _=>qI
theorem Zjq:type_of% @dC.eq_1:=λ _ _ _ _=>qI
theorem Zg4:type_of% @dTy.eq_1:=λ _ _ _ _=>qI
theorem Zhb:type_of% @dOp.eq_1:=λ _ _ _ _ _ _=>qI
theorem ZjC:type_of% @dB.eq_1:=λ _ _ _ _=>qI
theorem Pn:type_of% @DU.eq_1:=λ _ _ _ _ _ _ _ _=>qI
theorem Zck:type_of% @Zi6.eq_1:=λ _ _ _ _ _=>qI
theorem ZhI:type_of% @dOr.eq_1:=λ _ _ _ _ _=>qI
theorem Zdu:type_of% @Ziq.eq_1:=λ _ _ _ _=>qI
theorem ZaJ:type_of% @ZcT.eq_1:=λ _ _ _ _ _=>qI
theorem ZfH:type_of% @Zir.eq_1:=λ _ _ _ _ _=>qI
theorem Za2:type_of% @Zcb.eq_1:=λ _ _ _ _=>qI
theorem Zg3:type_of% @dIf.eq_1:=λ _ _ _ _ _ _=>qI
theorem Zfw:type_of% @Zi0.eq_1:=λ _ _ _ _ _=>qI
theorem Zhm:type_of% @δI.eq_1:=λ _ _ _ _ _ _=>qI
theorem ZcR:type_of% @δI0.eq_1:=λ _ _ _ _ _=>qI
theorem Ze6  (z0:DSt) (M:Mp) (Φ:List DV->Mp->Prop):ZiZ z0 M Φ = (Φ [] M):=qI
theorem Zbc:type_of% @Zcs.eq_1:=λ _ _ _ _ _=>qI
theorem ZcN:type_of% @ZiR.eq_1:=λ _ _ _ _=>qI
theorem Zfe:type_of% @ZiP.eq_1:=λ _ _ _ _=>qI
theorem ZbQ:type_of% @Zex.eq_1:=λ _ _ _ _=>qI
theorem ZdF:type_of% @ZiJ.eq_1:=λ _ _ _ _=>qI
theorem NM (a:PyData) (l:List PyData) (P:PyData->Prop):Ky (a :: l) 0 P = P a:=qI
theorem Nu (a b:PyData) (l:List PyData) (P:PyData->Prop):Ky (a :: b :: l) 1 P = P b:=qI
theorem N6 (a b c:PyData) (l:List PyData) (P:PyData->Prop):Ky (a :: b :: c :: l) 2 P = P c:=qI
theorem Nz (a b c d:PyData) (l:List PyData) (P:PyData->Prop):Ky (a :: b :: c :: d :: l) 3 P = P d:=qI
theorem Pj (a b c d e:PyData) (l:List PyData) (P:PyData->Prop):Ky (a :: b :: c :: d :: e :: l) 4 P = P e:=qI
theorem PY (a b c d e f:PyData) (l:List PyData) (P:PyData->Prop):Ky (a :: b :: c :: d :: e :: f :: l) 5 P = P f:=qI
theorem ZeW  (x:DV) (y:DV) (M:Mp) (Φ:DK):δIx x y M Φ = (onQ x M λ ds=>onI y λ i=>Ky ds i λ d=>Φ (.dat d) M):=qI
theorem ZgG:type_of% @dCB.eq_1:=λ _ _ _ _ _=>qI
theorem Zar  (xs:List DV) (M:Mp) (Φ:DK):Zcm xs M Φ = (on1 xs λ x=>onQ x M λ ds=>Φ (.dat (.int ds.length)) M):=qI
theorem Pz  (xs:List DV) (M:Mp) (Φ:DK):Rm xs M Φ = (on1 xs λ x=>onS x λ z=>z.length <= sizeLine /\ Φ (.dat (.int z.length)) M):=qI
theorem P2  (xs:List DV) (M:Mp) (Φ:DK):SQ xs M Φ = (on1 xs λ x=>onI x λ i=>i.natAbs.log2 < 1920 /\ Φ (.dat (.str (toString i))) M):=qI
theorem ZaM  (xs:List DV) (M:Mp) (Φ:DK):ZeH xs M Φ = (on1 xs λ x=>onI x λ i=>Φ (.dat (.int (if i < 0 then -i else i))) M):=qI
theorem Zf1:type_of% @δ2I.eq_1:=λ _ _ _ _=>qI
theorem Oz  (xs:List DV) (M:Mp) (Φ:DK):Rz xs M Φ = (on1 xs λ x=>onD x λ d=>Shw d /\ Φ (.dat (.str d.shown)) M):=qI
theorem Ex (T:String) (d:PyData) (t:String) (M:Mp) (Φ:DK):TH T [.dat d,.ty t] M Φ = (t = T /\ Φ (.dat (.bool (ZL T d))) M):=qI
theorem Ox (i j:Int) (P:Bool->Prop):eqD (.int i) (.int j) P = P (decide (i = j)):=qI
theorem ZfT  (x:DV) (y:DV) (M:Mp) (Φ:DK):δEq x y M Φ = (onD x λ d=>onD y λ e=>eqD d e λ b=>Φ (.dat (.bool b)) M):=qI
theorem Zdr  (x:DV) (y:DV) (M:Mp) (Φ:DK):δNe x y M Φ = (onD x λ d=>onD y λ e=>eqD d e λ b=>Φ (.dat (.bool (!b))) M):=qI
theorem F8  (z0:DSt) (M:Mp) (Φ:Option Int->Mp->Prop):L4 z0 M Φ = (Φ none M):=qI
theorem Zaw:type_of% @Zfg.eq_1:=λ _ _ _ _=>qI
theorem ZdV:type_of% @ZiH.eq_1:=λ _ _ _ _ _ _=>qI
theorem Zbe  (D:Z9) (Δ:DSt) (M:Mp):Zgd D Δ M = (D.nx Δ M):=qI
theorem ZcY:type_of% @ZgC.eq_1:=λ _ _ _ _ _=>qI
theorem Te:type_of% @Zed.eq_1:=λ _ _ _ _=>qI
theorem ZcP:type_of% @Zit.eq_1:=λ _ _ _ _=>qI
theorem ZdP:type_of% @Zgp.eq_1:=λ _ _ _ _ _ _=>qI
theorem Yd:type_of% @KZ.eq_1:=λ _ _ _ _ _=>qI
theorem EY (Δ:DSt) (M:Mp) (Φ:DSt->Mp->Prop):ZcF [] Δ M Φ = Φ Δ M:=qI
theorem Cp (t:DTG) (u:N8) (x:DV) (r:List DV) (Δ:DSt) (M:Mp) (Φ:DSt->Mp->Prop):SJ t u (x :: r) Δ M Φ = t x Δ M λ Δ' M'=>u r Δ' M' Φ:=qI
theorem Of (P:List DV->Prop):Zai 0 [] P = P []:=qI
theorem OZ (n:Nat) (d:PyData) (r:List PyData) (P:List DV->Prop):Zai (n + 1) (d :: r) P = Zai n r λ xs=>P (.dat d :: xs):=qI
theorem Zbt:type_of% @Zec.eq_1:=λ _ _ _ _ _ _=>qI
theorem Za4:type_of% @ZeB.eq_1:=λ _ _ _ _ _ _=>qI
theorem ZeR:type_of% @Zb5.eq_1:=λ _ _ _ _ _=>qI
theorem Mt:type_of% @LY.eq_1:=λ _ _ _ _ _=>qI
theorem Zbk:type_of% @Zc4.eq_1:=λ _ _ _ _ _ _=>qI
theorem Th:type_of% @ZeC.eq_1:=λ _ _ _ _ _ _=>qI
theorem N9:type_of% @R7.eq_1:=λ _ _ _ _ _ _=>qI
theorem PL:type_of% @Rr.eq_1:=λ _ _ _ _ _ _=>qI
theorem Zax:type_of% @Tp.eq_1:=λ _ _ _ _ _=>qI
theorem Zf3:type_of% @ZiC.eq_1:=λ _ _ _ _=>qI
theorem Zft:type_of% @Zi9.eq_1:=λ _ _ _ _=>qI
theorem Zbw:type_of% @ZfS.eq_1:=λ _ _ _ _=>qI
theorem ZbD:type_of% @Zgc.eq_1:=λ _ _ _ _=>qI
theorem Oo (Φ:DK) (acc:List PyData) (M:Mp):Du true Φ acc M = ∀ p,M p = none->Φ (.own p) (Z0 M p (.lst acc)):=qI
theorem OL (Φ:DK) (acc:List PyData) (M:Mp):Du false Φ acc M = Φ (.dat (.list acc)) M:=qI
theorem ZbW:type_of% @Eg.eq_1:=λ _ _ _ _ _ _ _ _ _=>qI
theorem ZdO  (z0:DSt) (M:Mp) (Φ:Bool->Mp->Prop):ZiG z0 M Φ = (Φ true M):=qI
theorem LB  (xs:List DV) (M:Mp) (Φ:DK):Mw xs M Φ = (∃ ns:List Int,VF xs M ns /\ ns.length < 64 /\ ∀ ns':List Int,ns'.Perm ns->ns'.Pairwise (· <= ·)->Φ (.dat (.list (ns'.map PyData.int))) M):=qI
theorem Zdd:type_of% @δ3I.eq_1:=λ _ _ _ _=>qI
theorem Lj  (xs:List DV) (M:Mp) (Φ:DK):FR xs M Φ = (on1 xs λ x=>onQ x M λ ds=>Φ (.dat (.tuple ds)) M):=qI
theorem ZaY (ds:List PyData) (P:List PyData->Prop):onW (.dat (.tuple ds)) P = P ds:=qI
theorem Zc1  (x:DV) (y:DV) (M:Mp) (Φ:DK):δIn x y M Φ = (onD x λ d=>onW y λ ds=>okIn d ds = true /\ Φ (.dat (.bool (ds.any λ e=>PyData.eqv e d))) M):=qI
theorem Ln:type_of% @FC.eq_1:=λ _ _ _ _ _=>qI
theorem OU  (xs:List DV) (M:Mp) (Φ:DK):SK xs M Φ = (∃ bs:List Bool,xs = [.dat (.list (bs.map PyData.bool))] /\ Φ (.dat (.bool (bs.all id))) M):=qI
theorem NG  (xs:List DV) (M:Mp) (Φ:DK):SW xs M Φ = (on1 xs λ x=>onB x λ b=>Φ (.dat (.int (if b = true then 1 else 0))) M):=qI
theorem Nd  (x:DV) (y:DV) (M:Mp) (Φ:DK):R6 x y M Φ = (onK x M λ ds=>onK y M λ es=>ds.length + es.length <= sizeLine /\ Φ (.dat (.list (ds ++ es))) M):=qI
theorem M0 (i j:Int) (P:Int->Int->Prop):onP (.dat (.tuple [.int i,.int j])) P = P i j:=qI
theorem PJ:type_of% @C2.eq_1:=λ _ _ _ _ _ _ _ _ _=>qI
noncomputable def MN (x:Str) (lo hi:Option Int):Str:=⟨((x.cps.toList.drop (HT.sIx x.length 0 lo)).take (HT.sIx x.length x.length hi - HT.sIx x.length 0 lo)).toArray⟩
theorem WO (v:Int) (n d:Nat):max 0 (min (if v < 0 then v + (n:Int) else v) (n:Int)) = ((HT.sIx n d (some v):Nat):Int):=by
 rw [<- HT.BC v n d]
 split <;> lia
theorem idx_eq (lo hi:Option Int) (n:Nat):Builtin.Str.strSliceIndices lo hi 1 n = Builtin.Str.strSliceIndices (some ((HT.sIx n 0 lo:Nat):Int)) (some ((HT.sIx n n hi:Nat):Int)) 1 n:=by
 have l1:=HT.K4 n 0 (Nat.zero_le n) lo;have l2:=HT.K4 n n (Nat.le_refl n) hi;have e:∀ a:Nat,a <= n->max 0 (min (if (a:Int) < 0 then (a:Int) + (n:Int) else (a:Int)) (n:Int)) = (a:Int):=λ a ha=>by
  rw [if_neg (by lia)];lia
 unfold Builtin.Str.strSliceIndices;simp only [show ((1:Int) > 0) = True from by simp,if_true];rw [e _ l1,e _ l2];cases lo with
 | none=>
  cases hi with
  | none=>rfl
  | some v=>simp only [WO v n n]; rfl
 | some u=>
  cases hi with
  | none=>simp only [WO u n 0]; rfl
  | some v=>simp only [WO u n 0,WO v n n]
theorem Tr {a b:Nat} (h:b < a) (ha:a <= n):Builtin.Str.strSliceIndices (some (a:Int)) (some (b:Int)) 1 n = []:=by
 unfold Builtin.Str.strSliceIndices sliceRange;simp only [show ((1:Int) > 0) = True from by simp,if_true];rw [if_neg (show ¬ ((a:Int) < 0) by lia),if_neg (show ¬ ((b:Int) < 0) by lia),if_neg (by lia)];rfl
theorem Fq (x:Str) (lo hi:Option Int):Txt.slice x lo hi = MN x lo hi:=by
 have l1:=HT.K4 x.length 0 (Nat.zero_le _) lo;have l2:=HT.K4 x.length x.length (Nat.le_refl _) hi;have hl:x.cps.toList.length = x.length:=by simp [Str.length]
 unfold Txt.slice;rw [idx_eq];unfold MN;generalize HT.sIx x.length 0 lo = a at *;generalize HT.sIx x.length x.length hi = b at *
 by_cases h:a <= b
 ·rw [StrLaws.sliced_plain x h l2,StrLaws.strSliceIndices_plain h l2]
  split
  ·rename_i q;have q':b - a = x.length:=by simpa using q
   have a0:a = 0:=by lia
   subst a0;apply Str.ext';rw [List.drop_zero,List.take_of_length_le (by lia)]
  ·rfl
 ·rw [Tr (by lia) l1,show b - a = 0 by lia]
  split
  ·rename_i q;have q':x.length = 0:=by
    have:0 = x.length:=by simpa using q
    lia
   apply Str.ext';have:x.cps.toList = []:=List.length_eq_zero_iff.mp (by lia);rw [List.take_zero];exact Array.toList_inj.mp this
  ·simp
section
variable {a b:Expr} {ta tb:DTE}
def ZjS:V->Option Int->Option Int->Hp->VK->Prop:=λ x lo hi H Q=>∃ z,x = .str z /\ z.length <= sizeLine /\ Q (.str (MN z lo hi)) H
theorem ZeD:SlR X ZjS:=by
 intro pins s Z H x v vl vu lo hi sl Q I rx hs pl pu h;obtain ⟨z,rfl,hz,q⟩:=h;obtain ⟨t,rfl⟩:=rx;have hlen:(Txt.slice z lo hi).length <= sizeLine:=Nat.le_trans (Txt.slice_le z lo hi) hz;have fin:∀ t' k,EP X pins Z Q (.str (Txt.slice z lo hi) t') { s with toks:=k }:=λ t' k=>by
  rw [Fq];exact ⟨.str (MN z lo hi),H,I.tok _,⟨_,rfl⟩,q⟩
 refine ⟨"str",_,PySem.F.slot_str_getitem.lookup,typeIs_str s z t,?_⟩;cases pl with
 | none=>cases pu with
  | none=>exact wpAny_getItem_str_slice (l:=none) (u:=none) (st:=none) hs rfl (post_val_or_str ⟨hlen,fin⟩)
  | int j uj=>exact wpAny_getItem_str_slice (l:=none) (u:=some (j,uj)) (st:=none) hs rfl (post_val_or_str ⟨hlen,fin⟩)
 | int i ui=>cases pu with
  | none=>exact wpAny_getItem_str_slice (l:=some (i,ui)) (u:=none) (st:=none) hs rfl (post_val_or_str ⟨hlen,fin⟩)
  | int j uj=>exact wpAny_getItem_str_slice (l:=some (i,ui)) (u:=some (j,uj)) (st:=none) hs rfl (post_val_or_str ⟨hlen,fin⟩)
def Ziw (te:DTE) (tl th:DTO):DTE:=λ Δ M Φ=>te Δ M λ x M1=>tl Δ M1 λ l M2=>th Δ M2 λ u M3=>onS x λ s=>s.length <= sizeLine /\ Φ (.dat (.str (MN s l u))) M3
theorem XB {lo hi:Option Expr} {tl th:DTO} (he:DE X e te) (hl:DO X lo tl) (hu:DO X hi th):DE X (.Subscript e (.Slice lo hi none p2) pos) (Ziw te tl th):=by
 obtain ⟨t1,p1,q1⟩:=he;obtain ⟨t2,p2,q2⟩:=hl;obtain ⟨t3,p3,q3⟩:=hu;refine ⟨_,DC ZeD p1 p2 p3,λ Z H Δ M Φ Q r e h k=>?_⟩;refine q1 Z H Δ M _ _ r e h λ v H1 x M1 r1 st rv hx=>?_;refine q2 Z H1 Δ M1 _ _ r1 (e.step st) hx λ l H2 M2 r2 st2 hl=>?_;refine q3 Z H2 Δ M2 _ _ r2 (e.step (st.trans st2)) hl λ u H3 M3 r3 st3 hu=>?_;replace hu:=QU hu;obtain ⟨s,rfl,hz,hu⟩:=hu;exact ⟨s,rv.str,hz,k.dat r3 (st.trans (st2.trans st3)) (Dt.str _) hu⟩
def ZfM:D2:=λ x y M Φ=>onS x λ s=>onI y λ i=>s.length <= sizeLine /\ ∃ c,L2.atI s.cps.toList i = some c /\ Φ (.dat (.str ⟨#[c]⟩)) M
theorem Se (ha:DE X a ta) (hb:DE X b tb) (hs:autoParam (Bv b) zz7._auto_1):DE X (.Subscript a b pos) (dOp ZfM ta tb):=by
 obtain ⟨ta',pa,qa⟩:=ha;obtain ⟨tb',pb,qb⟩:=hb;refine ⟨_,Zfa SX pa pb hs,Snd.opn qa qb λ v u H x y M Φ Q r rv ru h k=>?_⟩;replace h:=QU h;obtain ⟨s,rfl,h⟩:=h;replace h:=Zt h;obtain ⟨i,rfl,hz,c,hc,q⟩:=h;exact ⟨s,i,c,rv.str,ru.int,hz,hc,k.dat r Step.refl (Dt.str _) q⟩
def Sz:D2:=λ x y M Φ=>onS x λ s=>onS y λ t=>s.length + t.length <= sizeLine /\ Φ (.dat (.str (s ++ t))) M
theorem LW:OpD X (binaryOp .Add) Sz:=
 ⟨_,Es,λ v u H x y M Φ Q r rv ru h k=>by
  replace h:=QU h;obtain ⟨s,rfl,h⟩:=h;replace h:=QU h;obtain ⟨t,rfl,hz,q⟩:=h
  exact ⟨s,t,rv.str,ru.str,hz,k.dat r Step.refl (Dt.str _) q⟩⟩
noncomputable def Zis (s:Str) (n:Nat):Str:=⟨((List.replicate n s.cps.toList).flatten).toArray⟩
def ZcQ:D2:=λ x y M Φ=>onS x λ s=>onI y λ i=>(1 <= i /\ i <= 1000 /\ s.length <= 1000) /\ Φ (.dat (.str (Zis s i.toNat))) M
theorem Hg:OpR X (compareOp .LtE) (λ x y H Q=>∃ i j,x = .str i /\ y = .str j /\ Q (.bl (!decide (j.cps.toList < i.cps.toList))) H):=by
 intro pins s Z H x y v u Q I rx ry h;obtain ⟨i,j,rfl,rfl,q⟩:=h;obtain ⟨t,rfl⟩:=rx;obtain ⟨t',rfl⟩:=ry;exact PySem.P.le_str (ZO I q rfl)
def ZdX:D2:=λ x y M Φ=>onS x λ s=>onS y λ t=>Φ (.dat (.bool (!decide (t.cps.toList < s.cps.toList)))) M
theorem RS:OpD X (compareOp .LtE) ZdX:=
 ⟨_,Hg,λ v u H x y M Φ Q r rv ru h k=>by
  replace h:=QU h;obtain ⟨s,rfl,h⟩:=h;replace h:=QU h;obtain ⟨t,rfl,q⟩:=h
  exact ⟨s,t,rv.str,ru.str,k.dat r Step.refl (Dt.bl _) q⟩⟩
noncomputable def Its (x:Str):It:=⟨λ i _=>i < x.length,λ i H y H'=>H' = H /\ ∃ c,x.cps[i]? = some c /\ y = .str ⟨#[c]⟩,λ i _=>x.length <= i⟩
theorem Lz (x:Str) (t:Tok) (it:Addr):Turn P w K tg (Its x) [it] it (λ i h=>h.IsStrIter it "str_ascii_iterator" x t i) where
 mem:=by simp
 obj:=λ i h st b hb=>by
  have e:b = it:=by simpa using hb
  subst e;obtain ⟨o,e,c,d⟩:=st;exact ⟨o,e,λ v z=>by rw [d] at z; cases z⟩
 keep:=λ i h h' st k=>let ⟨o,ho,r⟩:=st; ⟨o,k it (by simp) o ho,r⟩
 item:=by
  intro X hP hw hK hc i pins s Z H E I hf st hg;subst hP hw hK;have hi:i < x.cps.size:=hg;obtain ⟨f0,f1,f2,f3,f4,f5⟩:=hf it (by simp);refine wpAny_pyNext_ascii_item st (c:=x.cps[i]) (by simp [hi]) λ h' st' sb=>?_;have I1:Inv X pins Z H { s with heap:=h',toks:=s.toks + 1 }:=I.turned (t':=s.toks + 1) (λ b o hb e=>(sb.2 b hb).trans e) f0 f1 f3 f4 f5;obtain ⟨o,e,c,d⟩:=id st';exact ⟨_,rfl,Hf (s:={ s with heap:=h',toks:=s.toks + 1 }) e c d (by decide) ⟨.str ⟨#[x.cps[i]]⟩,H,I1,⟨_,rfl⟩,⟨rfl,_,by simp [hi],rfl⟩,st',λ b hb=>(hf b hb).1⟩⟩
 done:=by
  intro X hP hw hK hc i pins s Z H E I hf st hg;subst hP hw hK;obtain ⟨f0,f1,f2,f3,f4,f5⟩:=hf it (by simp);have hi:x.cps.size <= i:=hg;exact wpAny_pyNext_ascii_end (I.ok.hd hc) st (by simp [hi]) λ h' eb=>⟨rfl,I.turned (t':=s.toks) (λ b o hb e=>eb b o hb e) f0 f1 f3 f4 f5⟩
 self:=λ _ _ _ _ _ st h=>wpAny_pyIter_striter_ascii st h
theorem FY (x:Str) (t:Tok) (it:Addr):Turn P w K tg (Its x) [it] it (λ i h=>h.IsStrIter it "str_iterator" x t i) where
 mem:=by simp
 obj:=λ i h st b hb=>by
  have e:b = it:=by simpa using hb
  subst e;obtain ⟨o,e,c,d⟩:=st;exact ⟨o,e,λ v z=>by rw [d] at z; cases z⟩
 keep:=λ i h h' st k=>let ⟨o,ho,r⟩:=st; ⟨o,k it (by simp) o ho,r⟩
 item:=by
  intro X hP hw hK hc i pins s Z H E I hf st hg;subst hP hw hK;have hi:i < x.cps.size:=hg;obtain ⟨f0,f1,f2,f3,f4,f5⟩:=hf it (by simp);refine wpAny_pyNext_wide_item st (c:=x.cps[i]) (by simp [hi]) λ h' st' sb=>?_;have I1:Inv X pins Z H { s with heap:=h',toks:=s.toks + 1 }:=I.turned (t':=s.toks + 1) (λ b o hb e=>(sb.2 b hb).trans e) f0 f1 f3 f4 f5;obtain ⟨o,e,c,d⟩:=id st';exact ⟨_,rfl,Hf (s:={ s with heap:=h',toks:=s.toks + 1 }) e c d (by decide) ⟨.str ⟨#[x.cps[i]]⟩,H,I1,⟨_,rfl⟩,⟨rfl,_,by simp [hi],rfl⟩,st',λ b hb=>(hf b hb).1⟩⟩
 done:=by
  intro X hP hw hK hc i pins s Z H E I hf st hg;subst hP hw hK;obtain ⟨f0,f1,f2,f3,f4,f5⟩:=hf it (by simp);have hi:x.cps.size <= i:=hg;exact wpAny_pyNext_wide_end (I.ok.hd hc) st (by simp [hi]) λ h' eb=>⟨rfl,I.turned (t':=s.toks) (λ b o hb e=>eb b o hb e) f0 f1 f3 f4 f5⟩
 self:=λ _ _ _ _ _ st h=>wpAny_pyIter_striter_wide st h
def Zjr (tl:TE):TI:=λ Z H R=>tl Z H λ x H1=>∃ z,x = .str z /\ R (Its z) H1
theorem ZeS {l:Expr} {tl:TE} (hl:PE X l tl):PI X tg l (Zjr tl):=by
 intro pins s Z H R I h;refine thn (hl pins s Z H _ I h) λ v s1 ⟨x,H1,I1,r1,q1⟩=>?_;obtain ⟨z,e,q⟩:=q1;subst e;obtain ⟨t,rfl⟩:=r1;cases ha:z.cps.all (· < 128)
 ·refine wpAny_pyIter_wide ha ?_;refine ⟨s1.heap.objs.size,[s1.heap.objs.size],_,_,H1,rfl,I1.kept (t':=s1.toks) λ b o e=>Heap.get?_push_of_some _ e,FY z t _,⟨_,Heap.get?_push_size _ rfl,rfl,rfl⟩,λ b hb=>?_,q⟩;have e:b = s1.heap.objs.size:=by simpa using hb
  subst e;exact I1.Rk (Nat.le_refl _) (I1.hok.fresh (Nat.le_refl _))
 ·refine wpAny_pyIter_ascii ha ?_;refine ⟨s1.heap.objs.size,[s1.heap.objs.size],_,_,H1,rfl,I1.kept (t':=s1.toks) λ b o e=>Heap.get?_push_of_some _ e,Lz z t _,⟨_,Heap.get?_push_size _ rfl,rfl,rfl⟩,λ b hb=>?_,q⟩;have e:b = s1.heap.objs.size:=by simpa using hb
  subst e;exact I1.Rk (Nat.le_refl _) (I1.hok.fresh (Nat.le_refl _))
noncomputable def N2 (c:Nat):PyData:=.str ⟨#[c]⟩
def Zjc (te:DTE):YF:=λ Δ M Ψ=>te Δ M λ x M1=>onS x λ s=>Ψ (s.cps.toList.map N2) M1
theorem Zct (he:DE X iter te):DI X tg iter (Zjc te):=by
 obtain ⟨t,p,q⟩:=he;refine ⟨_,ZeS p,λ Z H Δ M Ψ R dr er h k=>?_⟩;refine q Z H Δ M _ _ dr er h λ v H1 x M1 r1 st rv hx=>?_;replace hx:=QU hx;obtain ⟨s,rfl,hΨ⟩:=hx;have hl:(s.cps.toList.map N2).length = s.length:=by simp [Str.length]
 refine ⟨s,rv.str,k _ H1 M1 _ r1 st (λ M2 H2 st2 i=>⟨λ hi=>⟨by rw [hl] at hi; exact hi,λ x H' y=>?_⟩,λ hi=>by rw [hl] at hi; exact hi⟩) hΨ⟩;obtain ⟨e,c,hc,rfl⟩:=y;subst e;refine λ r=>⟨r,Step.refl,N2 c,?_,Dt.str _⟩;rw [List.getElem?_map,Array.getElem?_toList,hc];rfl
def Zao:D1:=λ xs M Φ=>on1 xs λ x=>onS x λ s=>s.length <= sizeLine /\ Φ (.dat (.list (s.cps.toList.map N2))) M
def Zcr:D1:=λ xs M Φ=>on1 xs λ x=>onS x λ s=>s.length <= sizeLine /\ Φ (.dat (.tuple (s.cps.toList.map N2))) M
def rJoin (K:Fk):V->List V->Hp->VK->Prop:=λ x xs H Q=>∃ z p ss,x = .str z /\ xs = [.ref p] /\ SqL K H p (ss.map V.str) /\ JoinOk z ss = true /\ Q (.str (Txt.join z ss)) H
theorem FL:∀ {ss:List Str} {us:List Value},Vals (ss.map V.str) us->∃ l:List (Str × Tok),us = strValues l /\ l.map (·.1) = ss
 | [],_,r=>by rw [List.map_nil] at r; cases r; exact ⟨[],rfl,rfl⟩
 | s :: ss,_,r=>by
  rw [List.map_cons] at r;cases r with
  | cons r1 r2=>
   obtain ⟨t,rfl⟩:=r1;obtain ⟨l,rfl,e⟩:=FL r2;exact ⟨(s,t) :: l,rfl,by rw [List.map_cons,e]⟩
theorem S4:MtR X "str.join" (rJoin X.K):=by
 intro pins s Z H x xs v us Q I rx rs h;obtain ⟨z,p,ss,rfl,rfl,hq,hj,q⟩:=h;obtain ⟨t,rfl⟩:=rx;obtain ⟨u,rfl,ru⟩:=vals1 rs;cases ru;obtain ⟨its,rv,pl,hz⟩:=I.list hq;obtain ⟨l,rfl,hl⟩:=FL rv;exact SC.join pl.isList hl hj λ t' k=>⟨.str _,H,I.tok _,⟨_,rfl⟩,q⟩
def ZiK (ds:List PyData) (P:List Str->Prop):Prop:=∃ ss,ds = ss.map PyData.str /\ P ss
def ZcZ (to te:DTE):DTE:=λ Δ M Φ=>to Δ M λ x M1=>onS x λ z=>te Δ M1 λ y M2=>onK y M2 λ ds=>ZiK ds λ ss=>JoinOk z ss = true /\ Φ (.dat (.str (Txt.join z ss))) M2
theorem YB:∀ {vs:List V} {ss:List Str},Dts K M H vs (ss.map PyData.str)->vs = ss.map V.str
 | vs,[],h=>by
  rw [List.map_nil] at h;cases h;rfl
 | vs,n :: ns,h=>by
  rw [List.map_cons] at h;cases h with
  | cons h1 h2=>
   cases h1;rw [YB h2,List.map_cons]
theorem Zay {o:Expr} {to:DTE} {apos cpos:Pos} (ho:DE X o to) (he:DE X e te) (hbase:autoParam (attributeBase o "join" X.env (eval o X.env) = eval o X.env) zz3._auto_1)
  (hfew:((backTo cpos (starEach [e] X.env)).all (λ x=>!x.1) && (backToKw cpos (keywordEach [] X.env)).all (λ x=>x.1.isSome)
   && decide ([e].length + ([]:List Keyword).length + (if ([]:List Keyword).isEmpty then 0 else 1) < 30)) = true:=by rfl)
  (hline:autoParam ((apos.endLine == cpos.line) = true) zz3._auto_1) (hs:autoParam (starEach [e] X.env = (false,eval e X.env) :: starEach [] X.env) zz3._auto_1) (hplain:autoParam ((backTo cpos (starEach [] X.env)).any (·.1) = false) zz3._auto_1) :
  DE X (.Call (.Attribute o "join" apos) [e] [] cpos) (ZcZ to te):=by
 obtain ⟨t1,p1,q1⟩:=ho;obtain ⟨t2,p2,q2⟩:=he;refine ⟨_,TR PySem.F.plainAttrs_str PySem.F.slot_str_join PySem.F.type_str_join S4 p1 (W8 p2 Dl hs) hbase hfew hline hs hplain,λ Z H Δ M Φ Q r e h k=>?_⟩;refine q1 Z H Δ M _ _ r e h λ v H1 x M1 r1 st rv hx=>?_;replace hx:=QU hx;obtain ⟨z,rfl,hx⟩:=hx;cases rv.str;refine ⟨rfl,q2 Z H1 Δ M1 _ _ r1 (e.step st) hx λ w H2 y M2 r2 st2 rw2 hy=>?_⟩;replace hy:=We hy;obtain ⟨ds,hd,ss,rfl,hj,hy⟩:=hy;replace hd:RI y M2 (ss.map PyData.str):=hd;obtain ⟨a,xs,rfl,h1,h2⟩:=hd.sq r2 rw2;cases YB h2;exact ⟨z,a,ss,rfl,rfl,h1,hj,k.dat r2 (st.trans st2) (Dt.str _) hy⟩
def ZfX (to:DTE):DTE:=λ Δ M Φ=>to Δ M λ x M1=>onS x λ z=>z.length <= 1000 /\ Φ (.dat (.str (Txt.upper z))) M1
end
theorem Zd4:type_of% @Ziw.eq_1:=λ _ _ _ _ _ _=>qI
theorem Zbj:type_of% @ZfM.eq_1:=λ _ _ _ _=>qI
theorem Rb:type_of% @Sz.eq_1:=λ _ _ _ _=>qI
theorem Za7:type_of% @ZdX.eq_1:=λ _ _ _ _=>qI
theorem Zfi:type_of% @Zjc.eq_1:=λ _ _ _ _=>qI
theorem Ti:type_of% @ZcZ.eq_1:=λ _ _ _ _ _=>qI
theorem str_len (s:Str):s.cps.toList.length = s.length:=by simp [Str.length]
theorem add_list (s t:Str):(s ++ t).cps.toList = s.cps.toList ++ t.cps.toList:=by rw [Str.cps_append,Array.toList_append]
theorem BP (s t:Str):(s ++ t).length = s.length + t.length:=Str.length_append s t
theorem Xj (c:Nat):(⟨#[c]⟩:Str).cps.toList = [c]:=rfl
theorem B9 (c:Nat):(⟨#[c]⟩:Str).length = 1:=rfl
theorem Dq (s:Str) (lo hi:Option Int):(MN s lo hi).cps.toList = (s.cps.toList.drop (HT.sIx s.length 0 lo)).take (HT.sIx s.length s.length hi - HT.sIx s.length 0 lo):=rfl
theorem CJ {s:Str} {lo hi:Option Int} {c:Nat} (h:c ∈ (MN s lo hi).cps.toList):c ∈ s.cps.toList:=by
 rw [Dq] at h;exact List.mem_of_mem_drop (List.mem_of_mem_take h)
theorem Cj (s:Str) (lo hi:Option Int):(MN s lo hi).length = HT.sIx s.length s.length hi - HT.sIx s.length 0 lo:=by
 have l1:=HT.K4 s.length s.length (Nat.le_refl _) hi;rw [<- str_len,Dq,List.length_take,List.length_drop,str_len];lia
theorem C3 {d:Nat} {i:Int} (h0:0 <= i):HT.sIx n d (some i) = min i.toNat n:=by
 obtain ⟨k,rfl⟩:=Int.eq_ofNat_of_zero_le h0;rw [HT.ZaR];rfl
theorem join_list:∀ ss:List Str,(Txt.join (Str.ofString "") ss).cps.toList = (ss.map (·.cps.toList)).flatten:=by
 have e0:(Str.ofString "").cps.toList = []:=by walk_at "k"
 have go:∀ ss:List Str,(Str.join (Str.ofString "") ss).cps.toList = (ss.map (·.cps.toList)).flatten:=λ ss=>by
  induction ss with
  | nil=>rfl
  | cons s ss ih=>
   cases ss with
   | nil=>simp [Str.join]
   | cons t ss=>
    rw [Str.join,add_list,add_list,e0,ih]
    ·simp
    ·simp
 intro ss;have:Txt.join (Str.ofString "") ss = Str.join (Str.ofString "") ss:=by
  exact StrLaws.glued_eq_join _ _
 rw [this,go]
theorem ZaO {sep:Str} {ss:List Str} {B:Nat} (hB:∀ y ∈ ss,y.length <= B) (h:ss.length * B + ss.length * sep.length <= 16777216):JoinOk sep ss = true:=by
 unfold JoinOk;rw [StrLaws.joinFits hB h];rfl
end DL
namespace DL
open PySem.W
section
variable {lt:Nat->Nat->Bool}
def KOk (n:Nat) (lt:Nat->Nat->Bool) {α:Type}:KasT α->(α->Prop)->Prop
 | .ret a,Q=>Q a
 | .ask i j k,Q=>i < n /\ j < n /\ i ≠ j /\ KOk n lt (k (lt i j)) Q
def Le (lt:Nat->Nat->Bool) (a b:Nat):Prop:=lt b a = false
structure Ord (lt:Nat->Nat->Bool):Prop where
 asym:∀ a b,lt a b = true->lt b a = false
 tran:∀ a b c,Le lt a b->Le lt b c->Le lt a c
theorem Ord.refl (o:Ord lt) (a:Nat):Le lt a a:=by
 unfold Le;cases h:lt a a with
 | false=>rfl
 | true=>have:=o.asym a a h; rw [h] at this; cases this
noncomputable abbrev at' (p:Array Nat) (k:Nat):Nat:=p.getD k 0
def Pm (n:Nat) (p:Array Nat):Prop:=p.Perm (List.range n).toArray
theorem Pm.size {p:Array Nat} (h:Pm n p):p.size = n:=by
 have:=h.size_eq
 simpa using this
theorem Pm.below {p:Array Nat} (h:Pm n p) {k:Nat} (hk:k < n):at' p k < n:=by
 have hs:k < p.size:=by rw [h.size]; exact hk
 have e:at' p k = p[k]:=by simp [at',hs]
 have m1:p[k] ∈ p:=Array.getElem_mem hs;have m2:=h.mem_iff.mp m1;rw [e]
 simpa using m2
theorem Pm.rev {p:Array Nat} (h:Pm n p) (i j:Nat):Pm n (kas_rev p i j):=(mirror_perm _ _ _ _).trans h
theorem Pm.bub {p:Array Nat} (h:Pm n p) (i j:Nat):Pm n (bubble p i j):=(bubble_perm _ _ _).trans h
theorem KU {p:Array Nat} (hj:j <= p.size) (k:Nat):at' (kas_rev p i j) k = if i <= k /\ k < j then at' p (i + j - 1 - k) else at' p k:=by
 have hm:=getElem?_mirror (i:=i) hj ((j - i) / 2) (by lia) k;have e:∀ (q:Array Nat) (k:Nat),at' q k = q[k]?.getD 0:=λ q k=>by simp [at',Array.getD_eq_getD_getElem?]
 rw [e,e,e];unfold kas_rev;rw [hm]
 by_cases c:i <= k /\ k < j
 ·rw [if_pos c]
  by_cases c2:(i <= k /\ k < i + (j - i) / 2) \/ (j - (j - i) / 2 <= k /\ k < j)
  ·rw [if_pos c2]
  ·rw [if_neg c2]
   congr 2
   lia
 ·rw [if_neg c,if_neg (by lia)]
theorem MG {p:Array Nat} {k l:Nat} (hk:k < p.size) (hl:l <= k) (x:Nat):at' (bubble p k (k - l)) x = if x = l then at' p k else if l < x /\ x <= k then at' p (x - 1) else at' p x:=by
 have hm:=getElem?_bubble hk (k - l) (by lia) x;have e:∀ (q:Array Nat) (k:Nat),at' q k = q[k]?.getD 0:=λ q k=>by simp [at',Array.getD_eq_getD_getElem?]
 rw [show k - (k - l) = l by lia] at hm;rw [e,hm,e,e,e]
 split
 ·rfl
 ·split <;> rfl
end
section
variable {prog:Program} {E:Value->Shared->Prop} {lt:Nat->Nat->Bool}
noncomputable abbrev EU (vs:List Value) (q:Array Nat):Array Value:=List.toArray (q.toList.map λ i=>vs.getD i Value.none)
theorem FJ (vs:List Value):EU vs (List.range vs.length).toArray = vs.toArray:=by
 apply Array.toList_inj.mp;show (List.range vs.length).map (λ i=>vs.getD i Value.none) = vs;apply List.ext_getElem?;intro i;rw [List.getElem?_map]
 by_cases h:i < vs.length
 ·rw [List.getElem?_range h,List.getElem?_eq_getElem h];simp [h]
 ·rw [List.getElem?_eq_none (by simpa using h),List.getElem?_eq_none (by simpa using h)];rfl
end
theorem map_range {α:Type} (l:List α) (d:α):(List.range l.length).map (λ i=>l.getD i d) = l:=by
 apply List.ext_getElem?;intro i;rw [List.getElem?_map]
 by_cases h:i < l.length
 ·rw [List.getElem?_range h,List.getElem?_eq_getElem h];simp [h]
 ·rw [List.getElem?_eq_none (by simpa using h),List.getElem?_eq_none (by simpa using h)];rfl
section
variable {prog:Program} {E:Value->Shared->Prop}
variable {K:Type} [DecidableEq K] {knd:KeyKind prog w K}
end
end DL
namespace DL
def Me (o:Option OO) (P:List (Key × PyData)->Prop):Prop:=match o with | some (.dkv ps)=>P ps | _=>False
theorem Zba {o:Option OO} {P:List (Key × PyData)->Prop} (h:Me o P):∃ ps,o = some (.dkv ps) /\ P ps:=by
 unfold Me at h
 split at h
 ·exact ⟨_,rfl,h⟩
 ·exact h.elim
noncomputable def JP (ps:List (Key × PyData)) (k:Key):Option PyData:=(ps.find? λ kv=>decide (kv.1 = k)).map (·.2)
noncomputable def Zdc (ps:List (Key × PyData)) (k:Key) (d:PyData):List (Key × PyData):=if (ps.any λ kv=>decide (kv.1 = k)) = true then ps.map (λ kv=>if kv.1 = k then (kv.1,d) else kv) else ps ++ [(k,d)]
inductive KD (K:Fk) (M:Mp) (H:Hp):List (Key × V)->List (Key × PyData)->Prop
 | nil:KD K M H [] []
 | cons {k:Key} {v:V} {d:PyData} {kvs:List (Key × V)} {ps:List (Key × PyData)}:Dt K M H v d->KD K M H kvs ps->KD K M H ((k,v) :: kvs) ((k,d) :: ps)
theorem KD.of:∀ {kvs:List (Key × V)} {ps:List (Key × PyData)},kvs.map (·.1) = ps.map (·.1)->Dts K M H (kvs.map (·.2)) (ps.map (·.2))->KD K M H kvs ps
 | [],[],_,_=>.nil
 | [],_ :: _,h,_=>by simp at h
 | _ :: _,[],h,_=>by simp at h
 | (k,v) :: kvs,(k',d) :: ps,h,hd=>by
  rw [List.map_cons,List.map_cons,List.cons.injEq] at h;cases (show k = k' from h.1);cases hd with
  | cons h1 h2=>exact .cons h1 (KD.of h.2 h2)
theorem KD.keys:∀ {kvs:List (Key × V)} {ps:List (Key × PyData)},KD K M H kvs ps->kvs.map (·.1) = ps.map (·.1)
 | _,_,.nil=>rfl
 | _,_,.cons _ h=>by rw [List.map_cons,List.map_cons,h.keys]
theorem KD.vals:∀ {kvs:List (Key × V)} {ps:List (Key × PyData)},KD K M H kvs ps->Dts K M H (kvs.map (·.2)) (ps.map (·.2))
 | _,_,.nil=>.nil
 | _,_,.cons h1 h=>.cons h1 h.vals
theorem KD.any (k:Key):∀ {kvs:List (Key × V)} {ps:List (Key × PyData)},KD K M H kvs ps->(kvs.any λ kv=>decide (kv.1 = k)) = ps.any λ kv=>decide (kv.1 = k)
 | _,_,.nil=>rfl
 | _,_,.cons _ h=>by rw [List.any_cons,List.any_cons,h.any k]
theorem KD.snoc {k:Key} (hd:Dt K M H v d):∀ {kvs:List (Key × V)} {ps:List (Key × PyData)},KD K M H kvs ps->KD K M H (kvs ++ [(k,v)]) (ps ++ [(k,d)])
 | _,_,.nil=>.cons hd .nil
 | _,_,.cons h1 h=>.cons h1 (h.snoc hd)
theorem KD.ZbO (k:Key) (hd:Dt K M H v d):∀ {kvs:List (Key × V)} {ps:List (Key × PyData)},KD K M H kvs ps->KD K M H (kvs.map λ kv=>if kv.1 = k then (kv.1,v) else kv) (ps.map λ kv=>if kv.1 = k then (kv.1,d) else kv)
 | _,_,.nil=>.nil
 | _,_,.cons (k:=k') h1 h=>by
  rw [List.map_cons,List.map_cons]
  by_cases e:k' = k
  ·rw [if_pos e,if_pos e];exact .cons hd (h.ZbO k hd)
  ·rw [if_neg e,if_neg e];exact .cons h1 (h.ZbO k hd)
theorem KD.put (k:Key) (hd:Dt K M H v d) {ps:List (Key × PyData)} (h:KD K M H kvs ps):KD K M H (putK kvs k v) (Zdc ps k d):=by
 unfold putK Zdc;rw [h.any k]
 split
 ·exact h.ZbO k hd
 ·exact h.snoc hd
theorem KD.val (k:Key):∀ {kvs:List (Key × V)} {ps:List (Key × PyData)},KD K M H kvs ps->(Bo kvs k = none /\ JP ps k = none) \/ ∃ v d,Bo kvs k = some v /\ JP ps k = some d /\ Dt K M H v d
 | _,_,.nil=>.inl ⟨rfl,rfl⟩
 | _,_,.cons (k:=k') (v:=v) (d:=d) h1 h=>by
  unfold Bo JP
  by_cases e:k' = k
  ·rw [List.find?_cons_of_pos (by simpa using e),List.find?_cons_of_pos (by simpa using e)];exact .inr ⟨v,d,rfl,rfl,h1⟩
  ·rw [List.find?_cons_of_neg (by simpa using e),List.find?_cons_of_neg (by simpa using e)];exact h.val k
theorem KD.length {ps:List (Key × PyData)} (h:KD K M H kvs ps):kvs.length = ps.length:=by
 have:=congrArg List.length h.keys
 simpa using this
theorem ZF.dk (r:ZF K M H) {ps:List (Key × PyData)} (h:M a = some (.dkv ps)):∃ kvs,H a = some (.dK kvs) /\ KD K M H kvs ps:=by
 obtain ⟨kvs,e1,e2,e3⟩:=r.ok a _ h;exact ⟨kvs,e1,.of e2 e3⟩
theorem ZF.ZhG (r:ZF K M H) {ps:List (Key × PyData)} (st:Step M H (Z0 M p (.dkv ps)) (upd H p (.dK kvs))) (h:KD K M H kvs ps):ZF K (Z0 M p (.dkv ps)) (upd H p (.dK kvs)):=
 r.Wo st ⟨kvs,Qk,h.keys,h.vals.step st⟩
section
variable {o i value:Expr} {td ti tv:DTE} {pos':Pos}
theorem KD.some {ps:List (Key × PyData)} (h:KD K M H kvs ps) (k:Key):(Bo kvs k).isSome = (JP ps k).isSome:=by
 rcases h.val k with ⟨a,b⟩ | ⟨v,d,a,b,_⟩
 ·rw [a,b]; rfl
 ·rw [a,b]; rfl
def Zdh (td ti:DTE):DTE:=λ Δ M Φ=>td Δ M λ x M1=>ti Δ M1 λ y M2=>onO x λ l=>onS y λ s=>Me (M2 l) λ ps=>∃ d,JP ps (.inr s) = some d /\ Φ (.dat d) M2
theorem QW {k:Nat} (hr:Jq k X.A) (ho:DE X o td) (hi:DE X i ti) (hs:autoParam (ZgP i) zz7._auto_1):DE X (.Subscript o i pos) (Zdh td ti):=by
 obtain ⟨t1,p1,q1⟩:=ho;obtain ⟨t2,p2,q2⟩:=hi;refine ⟨_,ZbY (by have:=hr.un; lia) p1 p2 hs,λ Z H Δ M Φ Q r e h k=>?_⟩;refine q1 Z H Δ M _ _ r e h λ v H1 x M1 r1 st1 rv hx=>?_;refine q2 Z H1 Δ M1 _ _ r1 (e.step st1) hx λ w H2 y M2 r2 st2 rw2 hy=>?_;replace hy:=ZW hy;obtain ⟨l,rfl,hy⟩:=hy;replace hy:=QU hy;obtain ⟨s,rfl,hy⟩:=hy;replace hy:=Zba hy;obtain ⟨ps,hm,d,hd,q⟩:=hy;cases (show v = .ref l from rv);cases rw2.str;obtain ⟨kvs,g1,g2⟩:=r2.dk hm
 rcases g2.val (.inr s) with ⟨_,b⟩ | ⟨u,d',a,b,du⟩
 ·rw [hd] at b;cases b
 ·rw [hd] at b;cases b;exact ⟨l,u,rfl,by rw [<- a]; exact SN.k (k:=.inr s) g1,k.dat r2 (st1.trans st2) du q⟩
end
theorem ZaN:type_of% @Zdh.eq_1:=λ _ _ _ _ _=>qI
end DL
namespace DL
open PySem.W
section
variable {prog:Program} {E:Value->Shared->Prop}
theorem YI {it l:Addr} {items:Array Value} {x:Value} {Q:Value->Shared->Prop} (hit:s.heap.IsTupleIter it l i) (hl:s.heap.IsTuple l items) (hx:items[i]? = some x)
  (hQ:∀ h',h'.IsTupleIter it l (i + 1)->Heap.SameBut it s.heap h'->Q x { s with heap:=h' }):wpAny (model prog w) A (Builtin.SmallTypes.nextOf (.ref it)) Q E s:=by
 obtain ⟨o,ho,hc,hd⟩:=id hit;obtain ⟨ol,hol,_,nl,hdl⟩:=hl;unfold Builtin.SmallTypes.nextOf;refine wpAny_bind (wpAny_callSpecial?_slot (name:=Str.ofString "__next__") hit.typeIs F.slot_tuple_iterator_next (wpAny_call_entry F.slot_tuple_iterator_next hit.typeIs F.entry_tuple_iterator_next ?_ (F.args_tuple_iterator_next_1 _)));show wpAny _ _ (field (.ref it) 0 >>= _) _ _ s;refine wpAny_bind (wpAny_field ho hd (x:=.ref l) rfl ?_);show wpAny _ _ (if (Value.ref l == Value.none) = true then _ else _) _ _ s;rw [if_neg (show ¬ ((Value.ref l == Value.none) = true) from Bool.false_ne_true)];show wpAny _ _ (field (.ref it) 1 >>= _) _ _ s;refine wpAny_bind (wpAny_field ho hd (x:=.int i 0) rfl ?_);show wpAny _ _ (seqItems? (.ref l) >>= _) _ _ s;refine wpAny_bind (wpAny_seqItems hol hdl ?_);simp only [Int.toNat_natCast,hx];refine wpAny_bind (wpAny_setField ho hd (by simp) (wpAny_pure ⟨x,rfl,wpAny_pure (hQ _ ?_ (Heap.SameBut.update ..))⟩));exact ⟨_,Heap.get?_update_self _ ho (Obj.isFreed_of_fields (Obj.data_mapFields hd _)),(Obj.cls_mapFields ..).trans hc,by rw [Obj.data_mapFields hd]; simp [rawInt]⟩
theorem Y8 {it l:Addr} {items:Array Value} {Q:Value->Shared->Prop} (hh:A.handled = none) (hit:s.heap.IsTupleIter it l i) (hl:s.heap.IsTuple l items) (hx:items[i]? = none)
  (hE:∀ h' e,Heap.ExtBut it s.heap h'->(∃ o,h'.get? e = some o /\ o.cls = .type "StopIteration")->E (.ref e) { s with heap:=h' }):wpAny (model prog w) A (Builtin.SmallTypes.nextOf (.ref it)) Q E s:=by
 obtain ⟨o,ho,hc,hd⟩:=id hit;obtain ⟨ol,hol,_,nl,hdl⟩:=hl;unfold Builtin.SmallTypes.nextOf;refine wpAny_bind (wpAny_callSpecial?_slot (name:=Str.ofString "__next__") hit.typeIs F.slot_tuple_iterator_next (wpAny_call_entry F.slot_tuple_iterator_next hit.typeIs F.entry_tuple_iterator_next ?_ (F.args_tuple_iterator_next_1 _)));show wpAny _ _ (field (.ref it) 0 >>= _) _ _ s;refine wpAny_bind (wpAny_field ho hd (x:=.ref l) rfl ?_);show wpAny _ _ (if (Value.ref l == Value.none) = true then _ else _) _ _ s;rw [if_neg (show ¬ ((Value.ref l == Value.none) = true) from Bool.false_ne_true)];show wpAny _ _ (field (.ref it) 1 >>= _) _ _ s;refine wpAny_bind (wpAny_field ho hd (x:=.int i 0) rfl ?_);show wpAny _ _ (seqItems? (.ref l) >>= _) _ _ s;refine wpAny_bind (wpAny_seqItems hol hdl ?_);simp only [Int.toNat_natCast,hx];refine wpAny_bind (wpAny_rule (wpAny_bind (wpAny_setField ho hd (by simp) ?_)));show wpAny _ _ (newExc (.type "StopIteration") [] >>= _) _ _ _;refine wpAny_bind ?_;simp only [newExc,newTuple];refine wpAny_bind (wpAny_newObj_type ?_ (by size_fits));refine wpAny_bind (m:=firstArgMember _ _) (wpAny_of_eq (a:=Value.none) (by first | rfl | (simp only [firstArgMember]; rfl)) ?_);refine wpAny_newObj_type ?_ (by size_fits);simp only [raiseNew];refine wpAny_bind (wpAny_handled ?_)
 first | rw [show A.in1.handled = none from hh] | rw [hh]
 refine wpAny_bind (wpAny_pure (wpAny_throw ?_));exact hE _ _ (((Heap.SameBut.update ..).extBut.push _).push _) ⟨_,Heap.get?_push_size _ rfl,rfl⟩
end
section
variable {prog:Program} {E:Value->Shared->Prop}
end
section
variable {Z:L2.St}
theorem Xl {t':Nat} {ch:List Addr} (I:L2.Inv X pins Z H s) (k:∀ b o,b ∉ ch->s.heap.get? b = some o->h'.get? b = some o) (f:∀ b ∈ ch,CQ X pins H b):L2.Inv X pins Z H { s with heap:=h',toks:=t' }:=by
 have nit:∀ b u,H b = some u->b ∉ ch:=λ b u e z=>by rw [(f b z).1] at e; cases e
 refine I.step (g':=s.gens) (d':=s.drawn) (ch:=ch) (λ b hb=>?_) (λ b o _ _ hc e _=>k b o hc e) (λ b o _ _ hc e _=>⟨o.slots,k b o hc e⟩) (λ _ _ _ _ n=>n)
  (λ b o hc e=>⟨o,k b o hc e⟩) (λ _ _ e=>e) (λ _ _ _ e=>e) (λ b ps e=>⟨#[],by rw [e]; simp⟩) (λ m hm=>?_) (λ b u e=>?_) I.bare
 ·obtain ⟨_,f1,_,f3,f4,f5⟩:=f b hb;exact ⟨f3,f1,f4,f5⟩
 ·obtain ⟨o,es,ep,ho,r⟩:=hm;exact ⟨o,es,ep,k _ o (λ z=>(f _ z).2.1 rfl) ho,r⟩
 ·refine (I.hok b u e).Fx (λ c v hc q=>k c v ?_ q) (λ _ q=>q) λ _ _ q=>q
  rcases hc with z | z
  ·rw [z]; exact nit b u e
  ·exact nit c _ z
end
section
variable {prog:Program} {E:Value->Shared->Prop}
end
theorem Ny (hu:X.A.units < cLine):OpR X (compareOp .NotEq) (λ x y H Q=>∃ a b xs,x = .ref a /\ y = .ref b /\ SqL X.K H a xs /\ SqL X.K H b [] /\ Q (.bl (!xs.isEmpty)) H):=by
 intro pins s Z H x y v u Q I rx ry h;obtain ⟨a,b,xs,rfl,rfl,h1,h2,q⟩:=h;cases rx;cases ry;obtain ⟨its,r,p,_⟩:=I.list h1;obtain ⟨jts,r2,p2,_⟩:=I.list h2;cases r2;have hl:=r.length;cases xs with
 | nil=>
  have e:its.toArray.size = ([]:List Value).toArray.size:=by rw [List.size_toArray,List.size_toArray]; exact hl.symm
  refine PySem.SeqAt.RcNeAt.lists (e:=λ _=>true) p.isList p2.isList e hu (λ j h1 h2=>absurd h2 (Nat.not_lt_zero _)) _ _ _ _ ⟨.bl _,H,I,?_,q⟩;show Value.bool (!(List.range its.toArray.size).all λ _=>true) = _;rw [e];rfl
 | cons x xs=>
  refine PySem.SeqAt.RcNeAt.lists_lengths p.isList p2.isList ?_ hu _ _ _ _ ⟨.bl _,H,I,rfl,q⟩;rw [List.size_toArray,<- hl];rfl
def FZ:D2:=λ x y M Φ=>onK x M λ ds=>onK y M λ es=>es = [] /\ Φ (.dat (.bool (!ds.isEmpty))) M
theorem Pt {k:Nat} (hr:Jq k X.A):OpD X (compareOp .NotEq) FZ:=by
 refine ⟨_,Ny (by have:=hr.un; lia),λ v u H x y M Φ Q r rv ru h k=>?_⟩;replace h:=We h;obtain ⟨ds,hx,h⟩:=h;replace h:=We h;obtain ⟨es,hy,rfl,q⟩:=h;replace hx:RI x M ds:=hx;replace hy:RI y M []:=hy;obtain ⟨a,xs,rfl,h1,h2⟩:=hx.sq r rv;obtain ⟨b,ys,rfl,h3,h4⟩:=hy.sq r ru;cases h4;refine ⟨a,b,xs,rfl,rfl,h1,h3,?_⟩;have e:xs.isEmpty = ds.isEmpty:=by cases h2 <;> rfl
 rw [e];exact k.dat r Step.refl (Dt.bl _) q
theorem FI:type_of% @FZ.eq_1:=λ _ _ _ _=>qI
noncomputable def isS (h:PyData) (s:Str):Bool:=match h with | .str t=>decide (t = s) | _=>false
end DL
namespace DL
open PySem.W PySem.SeqAt PySem.MeetsSeq
theorem Q0 (l:Addr) (es:Array DictEntry) (n:Nat) (dd:Option Addr) (sl:Array (Option Value)) (b:Str) (u:Tok) :
  Meets (Builtin.«dict.__eq__» ⟨[.ref l,.str b u],[]⟩) (λ _ R s=>s.heap.get? l = some { cls:=.type "dict",dict:=dd,data:=.dict es n,slots:=sl } /\ R (.ok (.ret .notImplemented)) s):=
 .of_wp λ prog w A R s h=>by
  obtain ⟨hp,g,d,tk,os⟩:=s; obtain ⟨hl,h⟩:=h;have f1:=F.sub_str_dict
  wp_walk using wpAny_loadPart' hl
  exact ⟨_,rfl,h⟩
theorem QZ (b:Str) (u:Tok) (l:Addr) (c:Value) (es:Array DictEntry) (n:Nat) (dd:Option Addr) (sl:Array (Option Value)) :
  Meets (Builtin.«str.__eq__» ⟨[.str b u,.ref l],[]⟩) (λ _ R s=>s.heap.get? l = some { cls:=c,dict:=dd,data:=.dict es n,slots:=sl } /\ R (.ok (.ret .notImplemented)) s):=
 .of_wp λ prog w A R s h=>by obtain ⟨hp,g,d,tk,os⟩:=s; obtain ⟨hl,h⟩:=h; wp_walk using wpAny_loadPart' hl,wpAny_load hl; exact ⟨_,rfl,h⟩
def Zgh (h:Heap) (l:Addr):Prop:=∃ (o:Obj) (es:Array DictEntry) (n:Nat),h.get? l = some o /\ o.cls = .type "dict" /\ o.data = .dict es n
theorem Bu {l:Addr} (b:Str) (u:Tok) (hl:Zgh s.heap l) (hu:A.units < cLine):RcAt A s (.ref l) (.str b u) false:=λ prog w E Q h=>by
 obtain ⟨⟨cls,dd,data,sl⟩,es,n,ho,hc,hd⟩:=hl;simp only at hc hd;subst hc hd;exact rc_eq_decline_or (k:=false) ⟨_,ho,rfl⟩ (typeIs_str s b u) (by decide) F.sub_str_dict F.slot_dict_eq F.slot_str_eq_refl
  (λ _ hq=>call_meets F.slot_dict_eq ⟨_,ho,rfl⟩ F.entry_dict_eq (F.args_dict_eq_2 _ _) (Q0 l es n dd sl b u) ⟨ho,hq⟩)
  (λ _ hq=>call_meets F.slot_str_eq_refl (typeIs_str s b u) F.entry_str_eq (F.args_str_eq_2 _ _) (QZ b u l (.type "dict") es n dd sl) ⟨ho,hq⟩)
  (λ _ hq=>wpAny_of_eq (rfl:isSame (.ref l) (.str b u) = pure false) hq) (.inr hu) h
theorem BW {l:Addr} (b:Str) (u:Tok) (hl:Zgh s.heap l) (hu:A.units < cLine):RcAt A s (.str b u) (.ref l) false:=λ prog w E Q h=>by
 obtain ⟨⟨cls,dd,data,sl⟩,es,n,ho,hc,hd⟩:=hl;simp only at hc hd;subst hc hd;exact rc_eq_decline_or (k:=false) (typeIs_str s b u) ⟨_,ho,rfl⟩ (by decide) F.sub_dict_str F.slot_str_eq F.slot_dict_eq_refl
  (λ _ hq=>call_meets F.slot_str_eq (typeIs_str s b u) F.entry_str_eq (F.args_str_eq_2 _ _) (QZ b u l (.type "dict") es n dd sl) ⟨ho,hq⟩)
  (λ _ hq=>call_meets F.slot_dict_eq_refl ⟨_,ho,rfl⟩ F.entry_dict_eq (F.args_dict_eq_2 _ _) (Q0 l es n dd sl b u) ⟨ho,hq⟩)
  (λ _ hq=>wpAny_of_eq (rfl:isSame (.str b u) (.ref l) = pure false) hq) (.inr hu) h
theorem B8 {l:Addr} (b:Str) (u:Tok) (hl:Zgh s.heap l) (hu:A.units < cLine):EqAt A s (.str b u) (.ref l) false:=λ prog w E Q h=>by
 unfold eqBool;refine wpAny_holding ?_;refine wpAny_ite_split (λ hab=>absurd (eq_of_beq hab) nofun) (λ _=>?_);exact wpAny_bind (BW b u hl hu prog w E _ (wpAny_truthy_bool h))
inductive Bs (h:Heap) (b:Bool) (t:Str):Value->Prop
 | non:b = false->Bs h b t .none
 | bl (k:Bool):b = false->Bs h b t (.bool k)
 | int (i:Int) (u:Tok):b = false->Bs h b t (.int i u)
 | str (x:Str) (u:Tok):b = decide (x = t)->Bs h b t (.str x u)
 | tup {a:Addr} {items:Array Value}:h.IsTuple a items->b = false->Bs h b t (.ref a)
 | lst {a:Addr} {items:Array Value}:h.IsList a items->b = false->Bs h b t (.ref a)
 | dic {a:Addr}:Zgh h a->b = false->Bs h b t (.ref a)
theorem Zee {Z:L2.St} {x:V} {v:Value} (t:Str) (I:L2.Inv X pins Z H s) (r:RelV x v) (h:Dt X.K M H x d):Bs s.heap (isS d t) t v:=by
 cases h with
 | non=>cases r; exact .non rfl
 | bl b=>cases r; exact .bl b rfl
 | int i=>obtain ⟨u,rfl⟩:=r; exact .int i u rfl
 | str z=>obtain ⟨u,rfl⟩:=r; exact .str z u rfl
 | tup h1 h2=>
  cases r;obtain ⟨its,rv,p,_⟩:=I.tuple h1.sq;exact .tup (show s.heap.IsTuple _ its.toArray from p) rfl
 | lst h1 h2=>
  cases r;obtain ⟨its,rv,p,_⟩:=I.list h1.sq;exact .lst p.isList rfl
 | dK h0 h1 h2=>
  cases r;obtain ⟨_,_,_,_,o,es,n,e,c,d,_⟩:=I.hok _ _ h1;exact .dic ⟨o,es,n,e,c.1,d⟩ rfl
 | dT h0 h1 h2 _=>
  cases r;obtain ⟨_,_,_,_,o,es,n,e,c,d,_⟩:=I.hok _ _ h1;exact .dic ⟨o,es,n,e,c.1,d⟩ rfl
 | dX h0 h1 h2 h3 h4 h5=>
  cases r;obtain ⟨φ,_⟩:=I.hok _ _ h1;obtain ⟨o,es,n,u,e,c,d,_⟩:=h3 _ φ;exact .dic ⟨o,es,n,e,c,d⟩ rfl
theorem Bs.rc {b:Bool} {t:Str} {v:Value} (u:Tok) (h:Bs s.heap b t v) (hu:A.units < cLine):RcAt A s v (.str t u) b:=by
 cases h with
 | non e=>rw [e]; exact RcAt.none_str t u
 | bl k e=>rw [e]; exact RcAt.bool_str k t u
 | int i w e=>rw [e]; exact RcAt.int_str i w t u
 | str x w e=>rw [e,<- Bool.beq_eq_decide_eq]; exact RcAt.str_str x w t u
 | tup p e=>rw [e]; exact RcAt.tuple_str t u p hu
 | lst p e=>rw [e]; exact RcAt.list_str t u p hu
 | dic p e=>rw [e]; exact Bu t u p hu
theorem Bs.eq {b:Bool} {t:Str} {v:Value} (u:Tok) (h:Bs s.heap b t v) (hu:A.units < cLine):EqAt A s (.str t u) v b:=by
 cases h with
 | non e=>rw [e]; exact EqAt.str_none t u
 | bl k e=>rw [e]; exact EqAt.str_bool t u k
 | int i w e=>rw [e]; exact EqAt.str_int t u i w
 | str x w e=>
  have e2:b = (t == x):=by rw [e,Bool.beq_eq_decide_eq,decide_eq_decide]; exact eq_comm
  rw [e2];exact EqAt.str_str t u x w
 | tup p e=>rw [e]; exact EqAt.str_tuple t u p hu
 | lst p e=>rw [e]; exact EqAt.str_list t u p hu
 | dic p e=>rw [e]; exact B8 t u p hu
theorem Zd9 (hu:X.A.units < cLine):OpR X (compareOp .Eq) (λ x y H Q=>∃ M d t,Dt X.K M H x d /\ y = .str t /\ Q (.bl (isS d t)) H):=by
 intro pins s Z H x y v u Q I rx ry h;obtain ⟨M,d,t,h1,rfl,q⟩:=h;obtain ⟨w,rfl⟩:=ry;exact (Zee t I rx h1).rc w hu _ _ _ _ ⟨.bl _,H,I,rfl,q⟩
def ZdE:D2:=λ x y M Φ=>onD x λ d=>onS y λ t=>Φ (.dat (.bool (isS d t))) M
theorem Vd {k:Nat} (hr:Jq k X.A):OpD X (compareOp .Eq) ZdE:=
 ⟨_,Zd9 (by have:=hr.un; lia),λ v u H x y M Φ Q r rv ru h k=>by
  obtain ⟨d,e1,h⟩:=ZR h;obtain ⟨t,e2,q⟩:=QU h;subst e1 e2
  exact ⟨M,d,t,rv,ru.str,k.dat r Step.refl (Dt.bl _) q⟩⟩
theorem Zea (hu:X.A.in1.units < cLine):OpR X (compareOp .In) (λ x y H Q=>∃ (M:Mp) (d:PyData) (b:Addr) (ts:List Str),Dt X.K M H x d /\ y = .ref b /\ SqT X.K H b (ts.map V.str) /\ Q (.bl (ts.any (isS d))) H):=by
 intro pins s Z H x y v u Q I rx ry h;obtain ⟨M,d,b,ts,h1,rfl,h2,q⟩:=h;cases ry;obtain ⟨its,r,p,_⟩:=I.tuple h2;have key:∀ (ts:List Str) (its:List Value),Vals (ts.map V.str) its->(∀ y ∈ its,EqAt X.A.in1 s y v (match y with | .str t _=>isS d t | _=>false)) /\ (its.any λ y=>match y with | .str t _=>isS d t | _=>false) = ts.any (isS d):=by
  intro ts
  induction ts with
  | nil=>intro its r; cases r; exact ⟨λ y hy=>(nomatch hy),rfl⟩
  | cons t ts ih=>
   intro its r;rw [List.map_cons] at r;cases r with
   | cons r1 r2=>
    obtain ⟨w,rfl⟩:=r1;obtain ⟨i1,i2⟩:=ih _ r2;refine ⟨λ y hy=>?_,by rw [List.any_cons,List.any_cons,i2]⟩
    rcases List.mem_cons.mp hy with rfl | hy
    ·exact (Zee t I rx h1).eq w hu
    ·exact i1 y hy
 obtain ⟨k1,k2⟩:=key ts its r;refine in_tupleAt (λ y=>match y with | .str t _=>isS d t | _=>false) (show s.heap.IsTuple b its.toArray from p) (λ y hy=>k1 y (by simpa using hy)) ⟨.bl _,H,I,?_,q⟩;rw [<- k2];simp only [List.any_toArray];rfl
def Zcx:D2:=λ x y M Φ=>onD x λ d=>onT y λ ds=>∃ ts:List Str,ds = ts.map PyData.str /\ Φ (.dat (.bool (ts.any (isS d)))) M
theorem Zdg {k:Nat} (hr:Jq k X.A):OpD X (compareOp .In) Zcx:=
 ⟨_,Zea (by have:=hr.un; show X.A.units + 1 < _; lia),λ v u H x y M Φ Q r rv ru h k=>by
  obtain ⟨d,e1,h⟩:=ZR h;obtain ⟨ds,e2,ts,rfl,q⟩:=Yv h;subst e1 e2;obtain ⟨b,xs,rfl,g1,g2⟩:=ru.tup;rw [YB g2] at g1
  exact ⟨M,d,b,ts,rv,rfl,g1.sq,k.dat r Step.refl (Dt.bl _) q⟩⟩
theorem Zbz:type_of% @ZdE.eq_1:=λ _ _ _ _=>qI
theorem ZaI:type_of% @Zcx.eq_1:=λ _ _ _ _=>qI
end DL
namespace DL
open PySem.W
theorem Uy:∀ (l acc:List (Key × V)),(l.map (·.1)).Nodup->(∀ p ∈ l,∀ q ∈ acc,q.1 ≠ p.1)->l.foldl (λ acc kv=>putK acc kv.1 kv.2) acc = acc ++ l
 | [],acc,_,_=>by simp
 | p :: l,acc,hn,hd=>by
  rw [List.map_cons,List.nodup_cons] at hn;have e:putK acc p.1 p.2 = acc ++ [p]:=by
   unfold putK;rw [if_neg];intro z;obtain ⟨q,hq,e⟩:=List.any_eq_true.mp z;exact hd p List.mem_cons_self q hq (of_decide_eq_true e)
  rw [List.foldl_cons,e,Uy l _ hn.2 λ p' hp' q hq=>?_]
  ·simp
  ·rcases List.mem_append.mp hq with hq | hq
   ·exact hd p' (List.mem_cons_of_mem _ hp') q hq
   ·rw [List.mem_singleton.mp hq];intro z;exact hn.1 (List.mem_map.mpr ⟨p',hp',z.symm⟩)
theorem Ej (l:List (Key × V)) (h:(l.map (·.1)).Nodup):YW [] l = l:=by
 unfold YW;rw [Uy l [] h λ p _ q hq=>(nomatch hq)];rfl
def RF (tk0 tk1 tk2 tk3 tk4 tk5 tv0 tv1 tv2 tv3 tv4 tv5:DTE):DTE:=λ Δ M Φ=>tk0 Δ M λ x0 M1=>tv0 Δ M1 λ y0 M2=>tk1 Δ M2 λ x1 M3=>tv1 Δ M3 λ y1 M4=>tk2 Δ M4 λ x2 M5=>tv2 Δ M5 λ y2 M6=>tk3 Δ M6 λ x3 M7=>tv3 Δ M7 λ y3 M8=>tk4 Δ M8 λ x4 M9=>tv4 Δ M9 λ y4 M10=>tk5 Δ M10 λ x5 M11=>tv5 Δ M11 λ y5 M12=>onS x0 λ s0=>onD y0 λ d0=>onS x1 λ s1=>onD y1 λ d1=>onS x2 λ s2=>onD y2 λ d2=>onS x3 λ s3=>onD y3 λ d3=>onS x4 λ s4=>onD y4 λ d4=>onS x5 λ s5=>onD y5 λ d5=>([s0,s1,s2,s3,s4,s5]:List Str).Nodup /\ ∀ p,M12 p = none->Φ (.own p) (Z0 M12 p (.dkv [(Sum.inr s0,d0),(Sum.inr s1,d1),(Sum.inr s2,d2),(Sum.inr s3,d3),(Sum.inr s4,d4),(Sum.inr s5,d5)]))
theorem Pk {k0 k1 k2 k3 k4 k5 v0 v1 v2 v3 v4 v5:Expr} {tk0 tk1 tk2 tk3 tk4 tk5 tv0 tv1 tv2 tv3 tv4 tv5:DTE} (hk0:At X k0 tk0) (hv0:At X v0 tv0) (hk1:At X k1 tk1) (hv1:At X v1 tv1) (hk2:At X k2 tk2) (hv2:At X v2 tv2) (hk3:At X k3 tk3) (hv3:At X v3 tv3) (hk4:At X k4 tk4) (hv4:At X v4 tv4) (hk5:At X k5 tk5) (hv5:At X v5 tv5):DE X (.Dict [some k0,some k1,some k2,some k3,some k4,some k5] [v0,v1,v2,v3,v4,v5] pos) (RF tk0 tk1 tk2 tk3 tk4 tk5 tv0 tv1 tv2 tv3 tv4 tv5):=by
 obtain ⟨a0,pk0,qk0⟩:=hk0;obtain ⟨b0,pv0,qv0⟩:=hv0;obtain ⟨a1,pk1,qk1⟩:=hk1;obtain ⟨b1,pv1,qv1⟩:=hv1;obtain ⟨a2,pk2,qk2⟩:=hk2;obtain ⟨b2,pv2,qv2⟩:=hv2;obtain ⟨a3,pk3,qk3⟩:=hk3;obtain ⟨b3,pv3,qv3⟩:=hv3;obtain ⟨a4,pk4,qk4⟩:=hk4;obtain ⟨b4,pv4,qv4⟩:=hv4;obtain ⟨a5,pk5,qk5⟩:=hk5;obtain ⟨b5,pv5,qv5⟩:=hv5;refine ⟨_,ZaW (Vt pk0 pv0 (Vt pk1 pv1 (Vt pk2 pv2 (Vt pk3 pv3 (Vt pk4 pv4 (Vt pk5 pv5 ZaD)))))) rfl rfl (by simp) (by simp),λ Z H Δ M Φ Q r e h kk p hp=>?_⟩;obtain ⟨u0,x0,ru0,i0,f0⟩:=qk0 Z H Δ M _ e h;clear h;obtain ⟨w0,y0,rw0,j0,g0⟩:=qv0 Z H Δ M _ e i0;clear i0;obtain ⟨u1,x1,ru1,i1,f1⟩:=qk1 Z H Δ M _ e j0;clear j0;obtain ⟨w1,y1,rw1,j1,g1⟩:=qv1 Z H Δ M _ e i1;clear i1;obtain ⟨u2,x2,ru2,i2,f2⟩:=qk2 Z H Δ M _ e j1;clear j1;obtain ⟨w2,y2,rw2,j2,g2⟩:=qv2 Z H Δ M _ e i2;clear i2;obtain ⟨u3,x3,ru3,i3,f3⟩:=qk3 Z H Δ M _ e j2;clear j2;obtain ⟨w3,y3,rw3,j3,g3⟩:=qv3 Z H Δ M _ e i3;clear i3;obtain ⟨u4,x4,ru4,i4,f4⟩:=qk4 Z H Δ M _ e j3;clear j3;obtain ⟨w4,y4,rw4,j4,g4⟩:=qv4 Z H Δ M _ e i4;clear i4;obtain ⟨u5,x5,ru5,i5,f5⟩:=qk5 Z H Δ M _ e j4;clear j4;obtain ⟨w5,y5,rw5,j5,g5⟩:=qv5 Z H Δ M _ e i5;clear i5;replace j5:=QU j5;obtain ⟨s0,rfl,z0⟩:=j5;replace z0:=ZR z0;obtain ⟨d0,rfl,y0⟩:=z0;replace y0:=QU y0;obtain ⟨s1,rfl,z1⟩:=y0;replace z1:=ZR z1;obtain ⟨d1,rfl,y1⟩:=z1;replace y1:=QU y1;obtain ⟨s2,rfl,z2⟩:=y1;replace z2:=ZR z2;obtain ⟨d2,rfl,y2⟩:=z2;replace y2:=QU y2;obtain ⟨s3,rfl,z3⟩:=y2;replace z3:=ZR z3;obtain ⟨d3,rfl,y3⟩:=z3;replace y3:=QU y3;obtain ⟨s4,rfl,z4⟩:=y3;replace z4:=ZR z4;obtain ⟨d4,rfl,y4⟩:=z4;replace y4:=QU y4;obtain ⟨s5,rfl,z5⟩:=y4;replace z5:=ZR z5;obtain ⟨d5,rfl,y5⟩:=z5;have h:=y5;refine f0 _ _ (g0 _ _ (f1 _ _ (g1 _ _ (f2 _ _ (g2 _ _ (f3 _ _ (g3 _ _ (f4 _ _ (g4 _ _ (f5 _ _ (g5 _ _ ⟨Qk,[((Sum.inr s0:Key),w0),((Sum.inr s1:Key),w1),((Sum.inr s2:Key),w2),((Sum.inr s3:Key),w3),((Sum.inr s4:Key),w4),((Sum.inr s5:Key),w5)],?_,by simp,?_⟩)))))))))))
 ·rw [ru0.str,ru1.str,ru2.str,ru3.str,ru4.str,ru5.str]; rfl
 ·have e1:YW [] [((Sum.inr s0:Key),w0),((Sum.inr s1:Key),w1),((Sum.inr s2:Key),w2),((Sum.inr s3:Key),w3),((Sum.inr s4:Key),w4),((Sum.inr s5:Key),w5)] = [((Sum.inr s0:Key),w0),((Sum.inr s1:Key),w1),((Sum.inr s2:Key),w2),((Sum.inr s3:Key),w3),((Sum.inr s4:Key),w4),((Sum.inr s5:Key),w5)]:=Ej _ (by simpa using h.1);rw [e1,Zal];exact kk _ _ (.own p) _ (r.ZhG (ps:=[(Sum.inr s0,d0),(Sum.inr s1,d1),(Sum.inr s2,d2),(Sum.inr s3,d3),(Sum.inr s4,d4),(Sum.inr s5,d5)]) (Step.Jp hp) (.cons rw0 (.cons rw1 (.cons rw2 (.cons rw3 (.cons rw4 (.cons rw5 .nil))))))) (Step.Jp hp) rfl (h.2 p (r.tracked hp))
theorem Nc:type_of% @RF.eq_1:=λ _ _ _ _ _ _ _ _ _ _ _ _ _ _ _=>qI
theorem Dts.rep (h:Dts K M H vs ds):∀ n:Nat,Dts K M H (List.replicate n vs).flatten (List.replicate n ds).flatten
 | 0=>.nil
 | n + 1=>by rw [List.replicate_succ,List.replicate_succ,List.flatten_cons,List.flatten_cons]; exact h.append (h.rep n)
def Zc7:D2:=λ x y M Φ=>onO x λ l=>onI y λ i=>JR (M l) λ ds=>(0 <= i /\ i < 2 ^ 63 /\ ds.length * i.toNat <= sizeLine) /\ Φ (.dat (.list (List.replicate i.toNat ds).flatten)) M
theorem Zdl:OpD X (binaryOp .Mult) Zc7:=by
 refine ⟨_,Zd0,λ v u H x y M Φ Q r rv ru h k=>?_⟩;replace h:=ZW h;obtain ⟨l,rfl,h⟩:=h;replace h:=Zt h;obtain ⟨i,rfl,h⟩:=h;replace h:=QF h;obtain ⟨ds,hl,⟨h1,h2,h3⟩,q⟩:=h;cases (show v = .ref l from rv);obtain ⟨ws,g1,g2⟩:=r.ls l _ hl;exact ⟨l,i,ws,rfl,ru.int,g1,by lia,h2,by rw [g2.length]; exact h3,λ p hp=>k.dat (r.new hp) (Step.new hp) (Dt.Xx r hp (g2.rep _)) q⟩
theorem S8:type_of% @Zc7.eq_1:=λ _ _ _ _=>qI
end DL
namespace DL
open PySem.W PySem.SeqAt PySem.MeetsSeq
def Zfm:D2:=λ x y M Φ=>onT x λ ds=>onI y λ k=>(2 <= k /\ k <= 1000 /\ 1 <= ds.length /\ ds.length <= 1000) /\ Φ (.dat (.tuple (List.replicate k.toNat ds).flatten)) M
theorem Nm:OpR X (binaryOp .Add) (λ x y H Q=>∃ a b xs ys,x = .ref a /\ y = .ref b /\ SqT X.K H a xs /\ SqT X.K H b ys /\ xs.length + ys.length <= sizeLine /\
  (xs = []->Q (.ref b) H) /\ (xs ≠ []->ys = []->Q (.ref a) H) /\ (xs ≠ []->ys ≠ []->∀ p,H p = none->Q (.ref p) (upd H p (.tup (xs ++ ys))))):=by
 intro pins s Z H x y v u Q I rx ry h;obtain ⟨a,b,xs,ys,rfl,rfl,ha,hb,hz,q0,q1,q2⟩:=h
 by_cases hx:xs = []
 ·cases rx;cases ry;obtain ⟨its,r1,p1,_⟩:=I.tuple ha;obtain ⟨its2,r2,p2,_⟩:=I.tuple hb;obtain ⟨⟨cls,dd,data,sl⟩,ho,hc,n,hd⟩:=id p1;obtain ⟨⟨cls2,dd2,data2,sl2⟩,ho2,hc2,n2,hd2⟩:=id p2;simp only at hc hd hc2 hd2;subst hc hd hc2 hd2;have he:its = []:=r1.WZ.mpr hx;exact concat_meets ⟨_,ho,rfl⟩ ⟨_,ho2,rfl⟩ noFill_tuple_add seq_tuple_add PySem.F.slot_tuple_add PySem.F.entry_tuple_add (PySem.F.args_tuple_add_2 _ _)
   (tuple_addW0 a b its.toArray its2.toArray n n2 dd dd2 sl sl2 (by rw [he]; rfl)) ⟨ho,ho2,⟨.ref b,H,I,rfl,q0 hx⟩⟩
 ·exact ZaK pins s Z H _ _ v u Q I rx ry ⟨a,b,xs,ys,rfl,rfl,ha,hb,hx,hz,q1 hx,q2 hx⟩
def FT:D2:=λ x y M Φ=>onT x λ ds=>onT y λ es=>ds.length + es.length <= sizeLine /\ Φ (.dat (.tuple (ds ++ es))) M
theorem Xh:OpD X (binaryOp .Add) FT:=by
 refine ⟨_,Nm,λ v u H x y M Φ Q r rv ru h k=>?_⟩;replace h:=Yv h;obtain ⟨ds,rfl,h⟩:=h;replace h:=Yv h;obtain ⟨es,rfl,hz,q⟩:=h;obtain ⟨a,xs,rfl,h1,h2⟩:=id rv.tup;obtain ⟨b,ys,rfl,h3,h4⟩:=id ru.tup;refine ⟨a,b,xs,ys,rfl,rfl,h1.sq,h3.sq,by rw [h2.length,h4.length]; exact hz,λ e=>?_,λ e e2=>?_,λ e e2 p hp=>?_⟩
 ·subst e;cases h2;exact k _ _ _ _ r Step.refl ru q
 ·subst e2;cases h4;rw [List.append_nil] at q;exact k _ _ _ _ r Step.refl rv q
 ·exact k.dat (r.new hp) (Step.new hp) (Dt.Kr r hp (h2.append h4)) q
theorem MT:type_of% @FT.eq_1:=λ _ _ _ _=>qI
end DL
namespace DL
open PySem.W
noncomputable def Itz (K:Fk) (a b:Addr):It:=
  ⟨λ i H=>∃ xs ys x y,SqL K H a xs /\ xs[i]? = some x /\ SqL K H b ys /\ ys[i]? = some y,
   λ i H v H'=>∃ T x y,(∀ xs,SqL K H a xs->xs[i]? = some x) /\ (∀ ys,SqL K H b ys->ys[i]? = some y) /\ H T = none /\ v = .ref T /\ H' = upd H T (.tup [x,y]),
   λ i H=>∃ xs ys,SqL K H a xs /\ SqL K H b ys /\ (xs.length <= i \/ ys.length <= i)⟩
def EX (a b:Addr) (n:Nat) (i:Nat) (h:Heap):Prop:=
 IsZip h (n + 4) (n + 2) (n + 3) .none /\ IsPair h (n + 2) (.ref n) (.ref (n + 1)) /\ (∃ u v,IsPair h (n + 3) u v) /\ h.IsListIter n a i /\ h.IsListIter (n + 1) b i
theorem zn {p q:Nat} (h:p ≠ q):n + p ≠ n + q:=λ e=>h (Nat.add_left_cancel e)
theorem zn0 {p:Nat} (h:p ≠ 0):n + p ≠ n:=λ e=>h (by lia)
theorem EX.apart {xs ys:Array Value} (st:EX a b n i h) (ha:h.IsList a xs) (hb:h.IsList b ys):ZipApart (n + 4) (n + 2) (n + 3) n (n + 1) a b:=by
 obtain ⟨hz,h2,⟨u,v,h3⟩,h0,h1⟩:=st;have nz:∀ {l:Addr} {zs:Array Value} (_:h.IsList l zs),l ≠ n + 4 /\ l ≠ n + 3 /\ l ≠ n /\ l ≠ n + 1:=by
  intro l zs hl;obtain ⟨o,ho,hc,_⟩:=hl;refine ⟨λ e=>?_,λ e=>?_,λ e=>?_,λ e=>?_⟩
  ·rw [e,hz] at ho; cases ho; exact absurd (Value.type.inj hc) (by decide)
  ·rw [e,h3] at ho; cases ho; exact absurd (Value.type.inj hc) (by decide)
  ·obtain ⟨o',ho',hc',_⟩:=h0;rw [e,ho'] at ho; cases ho; rw [hc'] at hc; exact absurd (Value.type.inj hc) (by decide)
  ·obtain ⟨o',ho',hc',_⟩:=h1;rw [e,ho'] at ho; cases ho; rw [hc'] at hc; exact absurd (Value.type.inj hc) (by decide)
 have A:=nz ha;have B:=nz hb;exact ⟨zn (by decide),zn (by decide),(zn0 (by decide)).symm,zn (by decide),zn (by decide),zn0 (by decide),zn (by decide),zn0 (by decide),zn (by decide),(zn0 (by decide)).symm,A.1,A.2.1,A.2.2.1,A.2.2.2,B.1,B.2.1,B.2.2.1,B.2.2.2⟩
theorem EX.keep (st:EX a b n i h) (k:∀ c ∈ [n + 4,n + 2,n + 3,n,n + 1],∀ o,h.get? c = some o->h'.get? c = some o):EX a b n i h':=by
 obtain ⟨hz,h2,⟨u,v,h3⟩,h0,h1⟩:=st;exact ⟨k _ (by simp) _ hz,k _ (by simp) _ h2,⟨u,v,k _ (by simp) _ h3⟩,h0.at λ o e=>k _ (by simp) o e,h1.at λ o e=>k _ (by simp) o e⟩
theorem NB (a b:Addr) (n:Nat):Turn P w K (.Tuple elts x1 pos) (Itz K a b) [n + 4,n + 2,n + 3,n,n + 1] (n + 4) (EX a b n) where
 mem:=by simp
 obj:=λ i h st c hc=>by
  obtain ⟨hz,h2,⟨u,v,h3⟩,h0,h1⟩:=st;have it:∀ {p l:Addr} {j:Nat},h.IsListIter p l j->∃ o,h.get? p = some o /\ ∀ v,o.data ≠ .cell v:=λ ⟨o,ho,_,hd⟩=>⟨o,ho,λ v z=>by rw [hd] at z; cases z⟩;simp only [List.mem_cons,List.not_mem_nil,or_false] at hc
  rcases hc with rfl | rfl | rfl | rfl | rfl
  ·exact ⟨_,hz,λ v z=>nomatch z⟩
  ·exact ⟨_,h2,λ v z=>nomatch z⟩
  ·exact ⟨_,h3,λ v z=>nomatch z⟩
  ·exact it h0
  ·exact it h1
 keep:=λ i h h' st k=>st.keep k
 item:=by
  intro X hP hw hK hc i pins s Z H E I hf st hg;subst hP hw hK;obtain ⟨xs,ys,x,y,hq,hx,hr,hy⟩:=hg;obtain ⟨its,rv,p,hz⟩:=I.list hq;obtain ⟨jts,rw',p',hz'⟩:=I.list hr;obtain ⟨u,hu,ru⟩:=rv.get hx;obtain ⟨v,hv,rv2⟩:=rw'.get hy;have hA:s.heap.IsList a its.toArray:=p.isList;have hB:s.heap.IsList b jts.toArray:=p'.isList;have D:=st.apart hA hB;obtain ⟨tz,t2,⟨c,d,t3⟩,t0,t1⟩:=st;refine wpAny_pyNext_zip_item D tz t2 t3 t0 t1 hA hB (x:=u) (y:=v) (by simpa using hu) (by simpa using hv) λ h' z1 z2 z3 z4 z5 z6 z7=>?_;refine ⟨_,rfl,?_⟩;refine wpAny_letOwnedTupleGo_zip z1 λ h2 hz2 hs2=>?_;have zl:n + 4 < s.heap.objs.size:=Heap.lt_size tz;have hTn:H s.heap.objs.size = none:=I.hok.fresh (Nat.le_refl _);have g2:h2.get? s.heap.objs.size = some { cls:=.type "tuple",data:=.seq #[u,v] }:=(hs2.2 _ (Nat.ne_of_gt zl)).trans z5;have IA:L2.Inv X pins Z (upd H s.heap.objs.size (.tup [x,y])) { s with heap:=s.heap.push { cls:=.type "tuple",data:=.seq #[u,v] },toks:=s.toks }:=
   I.laid (t':=s.toks) (o:=.tup [x,y]) (λ b ob q=>Heap.get?_push_of_some _ q) (Nat.le_refl _) ⟨by rw [sizeLine_eq]; exact (by decide:2 <= 16777216),[u,v],.cons ru (.cons rv2 .nil),IsTup.new _ _⟩
  have fN:∀ c ∈ [n + 4,n + 2,n + 3,n,n + 1],CQ X pins (upd H s.heap.objs.size (.tup [x,y])) c:=λ c hc=>by
   have f:=hf c hc;refine ⟨?_,f.2⟩;have hlt:c < s.heap.objs.size:=by
    simp only [List.mem_cons,List.not_mem_nil,or_false] at hc
    rcases hc with rfl | rfl | rfl | rfl | rfl <;> lia
   rw [ZH (Nat.ne_of_lt hlt)];exact f.1
  have I2:L2.Inv X pins Z (upd H s.heap.objs.size (.tup [x,y])) { s with heap:=h2,toks:=s.toks }:=Xl (s:={ s with heap:=s.heap.push { cls:=.type "tuple",data:=.seq #[u,v] },toks:=s.toks }) (t':=s.toks) (ch:=[n + 4,n + 2,n + 3,n,n + 1]) IA (λ c o hc q=>by
   have q':(s.heap.push { cls:=.type "tuple",data:=.seq #[u,v] }).get? c = some o:=q;have n4:c ≠ n + 4:=λ z=>hc (by simp [z])
   by_cases hT:c = s.heap.objs.size
   ·rw [hT,Heap.get?_push_size _ rfl] at q';rw [hT,g2];exact q'
   ·have q2:s.heap.get? c = some o:=by
     rw [<- q'];exact (Heap.get?_push_ne _ _ _ hT).symm
    exact (hs2.2 c n4).trans (z7 c o n4 (λ z=>hc (by simp [z])) (λ z=>hc (by simp [z])) (λ z=>hc (by simp [z])) q2)) fN
  refine ⟨.ref s.heap.objs.size,_,I2,rfl,⟨_,x,y,λ zs hy=>by rw [I.Ur hy hq]; exact hx,λ zs hx=>by rw [I.Ur hx hr]; exact hy,hTn,rfl,rfl⟩,?_,λ b hb=>(fN b hb).1⟩;have e2:h'.get? (n + 2) = _:=z7 (n + 2) _ (zn (by decide)) (zn (by decide)) (zn0 (by decide)) (zn (by decide)) t2;exact ⟨hz2,(hs2.2 _ (zn (by decide))).trans e2,⟨u,v,(hs2.2 _ (zn (by decide))).trans z2⟩,z3.at λ o e=>(hs2.2 _ (zn0 (by decide)).symm).trans e,z4.at λ o e=>(hs2.2 _ (zn (by decide))).trans e⟩
 done:=by
  intro X hP hw hK hc i pins s Z H E I hf st hg;subst hP hw hK;obtain ⟨xs,ys,hq,hr,hl⟩:=hg;obtain ⟨its,rv,p,hz⟩:=I.list hq;obtain ⟨jts,rw',p',hz'⟩:=I.list hr;have hA:s.heap.IsList a its.toArray:=p.isList;have hB:s.heap.IsList b jts.toArray:=p'.isList;have D:=st.apart hA hB;obtain ⟨tz,t2,⟨c,d,t3⟩,t0,t1⟩:=st;have l1:=rv.length;have l2:=rw'.length;refine wpAny_pyNext_zip_end (show X.A.handled = none from I.ok.hd hc) D tz t2 t3 t0 t1 hA hB (hl.imp (λ h=>by simp; lia) λ h=>by simp; lia) λ h' hk=>?_;exact ⟨rfl,Xl (t':=s.toks) (ch:=[n + 4,n + 2,n + 3,n,n + 1]) I (λ c o hb q=>hk c o (λ z=>hb (by simp [z])) (λ z=>hb (by simp [z])) (λ z=>hb (by simp [z])) (λ z=>hb (by simp [z])) q) λ b hb=>hf b hb⟩
 self:=λ _ _ _ _ _ st h=>wpAny_pyIter_zip st.1 h
def Zjm (K:Fk) (ta:TA):TI:=λ Z H R=>ta Z H λ vs H1=>∃ a b,vs = [.ref a,.ref b] /\ (∃ xs,SqL K H1 a xs) /\ (∃ ys,SqL K H1 b ys) /\ R (Itz K a b) H1
theorem boot_zip:bootBuiltins "zip" = some (.type "zip"):=by walk_at "k"
theorem Zfj {a b:Expr} {tp:Pos} {ta:TA} {p:Pos} (hg:Gl X "zip") (hm:X.mg "zip" = none) (ha:PA X [a,b] ta) (hs:autoParam (starEach [a,b] X.env = [(false,eval a X.env),(false,eval b X.env)]) zz3._auto_1) (hs2:autoParam (starEach [b] X.env = [(false,eval b X.env)]) zz3._auto_1):PI X (.Tuple elts x1 tp) (.Call (.Name "zip" p) [a,b] [] pos) (Zjm X.K ta):=by
 intro pins s Z H R I h;refine Call_ (X9 I hg hm boot_zip (PyProof.Rows.callWith_type1 (thn (ha pos pins s Z H _ I h) λ us s1 ⟨vs,H1,I1,r1,q1⟩=>?_) (by rw [hs,hs2]) (by rw [hs2]; rfl)));obtain ⟨l,m,e,⟨xs,hq⟩,⟨ys,hr⟩,q⟩:=q1;subst e;cases r1 with
 | cons r rr=>
  cases rr with
  | cons r' rr=>
   cases rr;cases r;cases r';obtain ⟨its,rv,pt,hz⟩:=I1.list hq;obtain ⟨jts,rw',pt',hz'⟩:=I1.list hr;refine call_zip_2 pt.isList pt'.isList λ h' z1 z2 z3 z4 z5 hsz hk=>?_;have I2:L2.Inv X pins Z H1 { s1 with heap:=h' }:=I1.kept (t':=s1.toks) hk;refine wpAny_pyIter_zip z1 ?_;refine ⟨s1.heap.objs.size + 4,[s1.heap.objs.size + 4,s1.heap.objs.size + 2,s1.heap.objs.size + 3,s1.heap.objs.size,s1.heap.objs.size + 1],_,_,H1,rfl,I2,NB l m s1.heap.objs.size,⟨z1,z2,⟨_,_,z3⟩,z4,z5⟩,λ c hc=>?_,q⟩;have hle:s1.heap.objs.size <= c:=by
    simp only [List.mem_cons,List.not_mem_nil,or_false] at hc
    rcases hc with rfl | rfl | rfl | rfl | rfl <;> lia
   exact I1.Rk hle (I1.hok.fresh hle)
noncomputable def Ff (as bs:List PyData):List PyData:=List.zipWith (λ a b=>.tuple [a,b]) as bs
theorem D8 {as bs:List PyData} {a b:PyData} (h:as[i]? = some a) (k:bs[i]? = some b):(Ff as bs)[i]? = some (.tuple [a,b]):=by
 unfold Ff;rw [List.getElem?_zipWith,h,k]
def ZiM (ta:DTA):YF:=λ Δ M Ψ=>ta Δ M λ xs M1=>on2 xs λ x y=>onL x λ as=>onL y λ bs=>Ψ (Ff as bs) M1
theorem ZdW {a b:Expr} {elts:List Expr} {x1:Nat} {tp:Pos} {p p2:Pos} (hg0:Gl X "zip") (hm:X.mg "zip" = none) (ha:DA X [a,b] ta) (hs:autoParam (starEach [a,b] X.env = [(false,eval a X.env),(false,eval b X.env)]) zz3._auto_1) (hs2:autoParam (starEach [b] X.env = [(false,eval b X.env)]) zz3._auto_1) :
  DI X (.Tuple elts x1 tp) (.Call (.Name "zip" p) [a,b] [] p2) (ZiM ta):=by
 obtain ⟨t1,p1,q1⟩:=ha;refine ⟨_,Zfj hg0 hm p1 hs hs2,λ Z H Δ M Ψ R dr er h k=>?_⟩;refine q1 Z H Δ M _ _ dr er h λ vs H1 xs M1 r1 st rv hx=>?_;replace hx:=ZK hx;obtain ⟨x,y,rfl,hx⟩:=hx;replace hx:=C1 hx;obtain ⟨as,rfl,hx⟩:=hx;replace hx:=C1 hx;obtain ⟨bs,rfl,hΨ⟩:=hx;obtain ⟨v,u,rfl,hv,hu⟩:=Paired.two rv;obtain ⟨a,ys,rfl,h1,h2⟩:=hv.lst;obtain ⟨b,zs,rfl,h3,h4⟩:=hu.lst;have el:(Ff as bs).length = min as.length bs.length:=by unfold Ff; rw [List.length_zipWith]
 refine ⟨a,b,rfl,⟨ys,h1.sq⟩,⟨zs,h3.sq⟩,k _ H1 M1 _ r1 st (λ M2 H2 st2 i=>⟨λ hi=>?_,λ hi=>?_⟩) hΨ⟩
 ·rw [el] at hi;have hx:i < ys.length:=by rw [h2.length]; lia
  have hy:i < zs.length:=by rw [h4.length]; lia
  refine ⟨⟨ys,zs,ys[i],zs[i],(h1.step st2).sq,by simp [hx],(h3.step st2).sq,by simp [hy]⟩,λ y H' z=>?_⟩;obtain ⟨T,u,v,hu,hv,hT,rfl,rfl⟩:=z;intro r;obtain ⟨d,hd,hy⟩:=(h2.step st2).Pa (hu ys (h1.step st2).sq);obtain ⟨d',hd',hy'⟩:=(h4.step st2).Pa (hv zs (h3.step st2).sq);exact ⟨r.new hT,Step.new hT,_,D8 hd hd',Dt.Kr r hT (.cons hy (.cons hy' .nil))⟩
 ·rw [el] at hi;exact ⟨ys,zs,(h1.step st2).sq,(h3.step st2).sq,by rw [h2.length,h4.length]; lia⟩
theorem ZfN:type_of% @ZiM.eq_1:=λ _ _ _ _=>qI
section
variable {Z:L2.St}
end
end DL
namespace DL
end DL
namespace DL
open PySem.W
structure Gives (it l:Addr) (xs:Array Value) (st:Nat->Heap->Prop):Prop where
 frame:∀ {i:Nat} {h h':Heap},st i h->(∀ b,b = it \/ b = l->∀ o,h.get? b = some o->h'.get? b = some o)->st i h'
 live:∀ {i:Nat} {h:Heap},st i h->∃ o,h.get? it = some o
 item:∀ {prog:Program} {w:World} {A:Around} {E:Value->Shared->Prop} {s:Shared} {Q:Value->Shared->Prop} {i:Nat} {x:Value},st i s.heap->xs[i]? = some x ->
  (∀ h',st (i + 1) h'->Heap.SameBut it s.heap h'->Q x { s with heap:=h' })->wpAny (model prog w) A (Builtin.SmallTypes.nextOf (.ref it)) Q E s
 done:∀ {prog:Program} {w:World} {A:Around} {E:Value->Shared->Prop} {s:Shared} {Q:Value->Shared->Prop} {i:Nat},A.handled = none->st i s.heap->xs[i]? = none ->
  (∀ h' e,Heap.ExtBut it s.heap h'->(∃ o,h'.get? e = some o /\ o.cls = .type "StopIteration")->E (.ref e) { s with heap:=h' })->wpAny (model prog w) A (Builtin.SmallTypes.nextOf (.ref it)) Q E s
theorem Ya {it l:Addr} (hne:l ≠ it) (xs:Array Value):Gives it l xs λ i h=>h.IsTupleIter it l i /\ h.IsTuple l xs where
 frame:=λ st k=>⟨let ⟨o,ho,r⟩:=st.1; ⟨o,k it (.inl rfl) o ho,r⟩,let ⟨o,ho,r⟩:=st.2; ⟨o,k l (.inr rfl) o ho,r⟩⟩
 live:=λ st=>let ⟨o,ho,_⟩:=st.1; ⟨o,ho⟩
 item:=λ st hx hQ=>YI st.1 st.2 hx λ h' a b=>hQ h' ⟨a,st.2.extBut b.extBut hne⟩ b
 done:=λ hh st hx hE=>Y8 hh st.1 st.2 hx hE
theorem JG {l:Addr} (hb:b = p \/ b = l) (h1:p ≠ c) (h2:l ≠ c):b ≠ c:=hb.elim (λ e=>e ▸ h1) λ e=>e ▸ h2
def Zef (a b c d:Addr) (h h':Heap):Prop:=∀ x o,x ≠ a->x ≠ b->x ≠ c->x ≠ d->h.get? x = some o->h'.get? x = some o
section
variable {prog:Program} {E:Value->Shared->Prop} {z TI TO l m:Addr} {xs ys:Array Value} {f g:Nat->Heap->Prop}
theorem Hy {x y a b:Value} {Q:Value->Shared->Prop} (D:ZipApart z TI TO p q l m) (G1:Gives p l xs f) (G2:Gives q m ys g) (hz:IsZip s.heap z TI TO .none) (hI:IsPair s.heap TI (.ref p) (.ref q)) (hO:IsPair s.heap TO a b)
  (h1:f i s.heap) (h2:g j s.heap) (hx:xs[i]? = some x) (hy:ys[j]? = some y)
  (hQ:∀ h',IsZip h' z TI TO (rawInt s.heap.objs.size)->IsPair h' TO x y->f (i + 1) h'->g (j + 1) h'->IsPair h' s.heap.objs.size x y->h'.objs.size = s.heap.objs.size + 1->Zef z TO p q s.heap h'->Q (.ref s.heap.objs.size) { s with heap:=h' }) :
  wpAny (model prog w) A (Builtin.«zip.__next__» ⟨[.ref z],[]⟩) (λ r s'=>∃ v,r = .done (.ret v) /\ Q v s') E s:=by
 show wpAny _ _ (field (.ref z) 2 >>= _) _ _ s;refine wpAny_bind (wpAny_field hz rfl (x:=.bool false) rfl (show wpAny _ _ (field (.ref z) 3 >>= _) _ _ s from wpAny_bind (wpAny_field hz rfl (x:=.ref TI) rfl (wpAny_bind (wpAny_seqItems hI rfl ?_)))));show wpAny _ _ (Builtin.SmallTypes.ownedTupleIsFree (.ref z) >>= _) _ _ s;unfold Builtin.SmallTypes.ownedTupleIsFree;refine wpAny_bind (wpAny_bind (wpAny_field hz rfl (x:=.none) rfl (wpAny_pure ?_)));simp only [if_true];refine wpAny_bind (wpAny_rule (wpAny_bind (wpAny_field hz rfl (x:=.ref TO) rfl (wpAny_bind (wpAny_setField_rec hz (by simp) λ ha za sa=>wpAny_bind ?_)))));replace za:IsZip ha z TI TO .ellipsis:=za;simp only [List.zipIdx_cons,List.forIn_cons,List.zipIdx_nil,List.forIn_nil];have fa:f i ha:=G1.frame h1 λ b hb o e=>sa.extBut b o (JG hb D.i1z D.l1z) e;refine wpAny_bind (wpAny_bind (wpAny_onRaise (show wpAny _ _ (Builtin.SmallTypes.nextOf (.ref p) >>= _) _ _ _ from wpAny_bind (G1.item fa hx λ hb fb sb=>wpAny_pure ?_))));have ob:IsPair hb TO a b:=sb.extBut _ _ D.TOi1 (sa.extBut _ _ D.TOz hO);refine wpAny_bind (wpAny_seqItems ob rfl (wpAny_bind (wpAny_updateSeq_pair ob λ hc oc sc=>wpAny_bind (wpAny_letGo (wpAny_pure ?_)))));replace oc:IsPair hc TO x b:=oc;have gc:g j hc:=G2.frame h2 λ b hb o e=>by
  have n1:b ≠ z:=JG hb D.i2z D.l2z;have n2:b ≠ p:=JG hb D.i12.symm D.l2i1;have n3:b ≠ TO:=JG hb D.TOi2.symm D.l2TO;exact sc.extBut b o n3 (sb.extBut b o n2 (sa.extBut b o n1 e))
 refine wpAny_bind (wpAny_bind (wpAny_onRaise (show wpAny _ _ (Builtin.SmallTypes.nextOf (.ref q) >>= _) _ _ _ from wpAny_bind (G2.item gc hy λ hd gd sd=>wpAny_pure ?_))));have od:IsPair hd TO x b:=sd.extBut _ _ D.TOi2 oc;refine wpAny_bind (wpAny_seqItems od rfl (wpAny_bind (wpAny_updateSeq_pair od λ he oe se=>wpAny_bind (wpAny_letGo (wpAny_pure (wpAny_pure ?_))))));replace oe:IsPair he TO x y:=oe;refine wpAny_bind (wpAny_seqItems oe rfl (wpAny_bind (wpAny_newTuple ?_)));have size:he.objs.size = s.heap.objs.size:=by rw [se.1,sd.1,sc.1,sb.1,sa.1]
 have ze:IsZip he z TI TO .ellipsis:=se.extBut _ _ D.TOz.symm (sd.extBut _ _ D.i2z.symm (sc.extBut _ _ D.TOz.symm (sb.extBut _ _ D.i1z.symm za)));have all:Zef z TO p q s.heap he:=λ c o c1 c2 c3 c4 e=>se.extBut _ _ c2 (sd.extBut _ _ c4 (sc.extBut _ _ c2 (sb.extBut _ _ c3 (sa.extBut _ _ c1 e))));have fe:f (i + 1) he:=G1.frame fb λ b hb o e=>by
  have n3:b ≠ TO:=JG hb D.TOi1.symm D.l1TO;have n4:b ≠ q:=JG hb D.i12 D.l1i2;exact se.extBut b o n3 (sd.extBut b o n4 (sc.extBut b o n3 e))
 have ge:g (j + 1) he:=G2.frame gd λ b hb o e=>se.extBut b o (JG hb D.TOi2.symm D.l2TO) e;have zlt:z < he.objs.size:=Heap.lt_size ze;show wpAny _ _ (Builtin.SmallTypes.ownedTupleHandOut (.ref z) (.ref he.objs.size) >>= _) _ _ _;unfold Builtin.SmallTypes.ownedTupleHandOut;have zf:IsZip (he.push { cls:=.type "tuple",data:=.seq #[x,y] }) z TI TO .ellipsis:=Heap.get?_push_of_some _ ze;refine wpAny_bind (wpAny_bind (wpAny_setField_rec zf (by simp) λ hg zg sg=>?_));replace zg:IsZip hg z TI TO (rawInt he.objs.size):=zg;refine wpAny_setField_rec zg (by simp) λ hk zk sk=>wpAny_pure ⟨_,rfl,?_⟩;replace zk:IsZip hk z TI TO (rawInt he.objs.size):=zk;have up:∀ c o,c ≠ z->he.get? c = some o->hk.get? c = some o:=λ c o c1 e=>sk.extBut _ _ c1 (sg.extBut _ _ c1 (Heap.get?_push_of_some _ e));have new:IsPair hk he.objs.size x y:=sk.extBut _ _ (Nat.ne_of_gt zlt) (sg.extBut _ _ (Nat.ne_of_gt zlt) (Heap.get?_push_size _ rfl));have one:hk.objs.size = he.objs.size + 1:=by rw [sk.1,sg.1,Heap.size_push]
 rw [size] at zk new one;show Q (.ref he.objs.size) _;rw [size];exact hQ hk zk (up _ _ D.TOz oe) (G1.frame fe λ b hb o e=>up b o (JG hb D.i1z D.l1z) e) (G2.frame ge λ b hb o e=>up b o (JG hb D.i2z D.l2z) e) new one λ c o c1 c2 c3 c4 e=>up c o c1 (all c o c1 c2 c3 c4 e)
theorem Ni {a b:Value} {Q:Fin->Shared->Prop} (hh:A.handled = none) (D:ZipApart z TI TO p q l m) (G1:Gives p l xs f) (G2:Gives q m ys g) (hz:IsZip s.heap z TI TO .none) (hI:IsPair s.heap TI (.ref p) (.ref q)) (hO:IsPair s.heap TO a b)
  (h1:f i s.heap) (h2:g j s.heap) (hx:xs[i]? = none \/ ys[j]? = none)
  (hE:∀ h' e,Zef z TO p q s.heap h'->(∃ o,h'.get? e = some o /\ o.cls = .type "StopIteration")->E (.ref e) { s with heap:=h' }) :
  wpAny (model prog w) A (Builtin.«zip.__next__» ⟨[.ref z],[]⟩) Q E s:=by
 show wpAny _ _ (field (.ref z) 2 >>= _) _ _ s;refine wpAny_bind (wpAny_field hz rfl (x:=.bool false) rfl (show wpAny _ _ (field (.ref z) 3 >>= _) _ _ s from wpAny_bind (wpAny_field hz rfl (x:=.ref TI) rfl (wpAny_bind (wpAny_seqItems hI rfl ?_)))));show wpAny _ _ (Builtin.SmallTypes.ownedTupleIsFree (.ref z) >>= _) _ _ s;unfold Builtin.SmallTypes.ownedTupleIsFree;refine wpAny_bind (wpAny_bind (wpAny_field hz rfl (x:=.none) rfl (wpAny_pure ?_)));simp only [if_true];refine wpAny_bind (wpAny_rule (wpAny_bind (wpAny_field hz rfl (x:=.ref TO) rfl (wpAny_bind (wpAny_setField_rec hz (by simp) λ ha za sa=>wpAny_bind ?_)))));replace za:IsZip ha z TI TO .ellipsis:=za;simp only [List.zipIdx_cons,List.forIn_cons,List.zipIdx_nil,List.forIn_nil];have fa:f i ha:=G1.frame h1 λ b hb o e=>sa.extBut b o (JG hb D.i1z D.l1z) e;have stop:∀ (hv hw:Heap) (e:Addr),IsZip hv z TI TO .ellipsis->(∃ o,hv.get? e = some o /\ o.cls = .type "StopIteration")->Heap.SameBut z hv hw->∃ o,hw.get? e = some o /\ o.cls = .type "StopIteration" := λ hv hw e zv ⟨o,ho,hc⟩ k=>
  ⟨o,k.extBut _ _ (λ x=>by subst x; rw [zv] at ho; cases ho; simp at hc) ho,hc⟩
 cases qx:xs[i]? with
 | none=>
  refine wpAny_bind (wpAny_bind (wpAny_onRaise (show wpAny _ _ (Builtin.SmallTypes.nextOf (.ref p) >>= _) _ _ _ from wpAny_bind (G1.done hh fa qx λ hb e sb he=>?_))));have zb:IsZip hb z TI TO .ellipsis:=sb _ _ D.i1z.symm za;exact wpAny_setField_rec zb (by simp) λ hc _ sc=>hE hc e (λ c o c1 _ c3 _ x=>sc.extBut _ _ c1 (sb _ _ c3 (sa.extBut _ _ c1 x))) (stop hb hc e zb he sc)
 | some x=>
  have hy:ys[j]? = none:=by
   rcases hx with hx | hx
   ·rw [qx] at hx; cases hx
   ·exact hx
  refine wpAny_bind (wpAny_bind (wpAny_onRaise (show wpAny _ _ (Builtin.SmallTypes.nextOf (.ref p) >>= _) _ _ _ from wpAny_bind (G1.item fa qx λ hb fb sb=>wpAny_pure ?_))));have ob:IsPair hb TO a b:=sb.extBut _ _ D.TOi1 (sa.extBut _ _ D.TOz hO);refine wpAny_bind (wpAny_seqItems ob rfl (wpAny_bind (wpAny_updateSeq_pair ob λ hc oc sc=>wpAny_bind (wpAny_letGo (wpAny_pure ?_)))));have gc:g j hc:=G2.frame h2 λ b hb o e=>sc.extBut b o (JG hb D.TOi2.symm D.l2TO) (sb.extBut b o (JG hb D.i12.symm D.l2i1) (sa.extBut b o (JG hb D.i2z D.l2z) e));refine wpAny_bind (wpAny_bind (wpAny_onRaise (show wpAny _ _ (Builtin.SmallTypes.nextOf (.ref q) >>= _) _ _ _ from wpAny_bind (G2.done hh gc hy λ hd e sd he=>?_))));have zd:IsZip hd z TI TO .ellipsis:=sd _ _ D.i2z.symm (sc.extBut _ _ D.TOz.symm (sb.extBut _ _ D.i1z.symm za));exact wpAny_setField_rec zd (by simp) λ hk _ sk=>hE hk e (λ c o c1 c2 c3 c4 x=>sk.extBut _ _ c1 (sd _ _ c4 (sc.extBut _ _ c2 (sb.extBut _ _ c3 (sa.extBut _ _ c1 x))))) (stop hd hk e zd he sk)
theorem Xc {x y a b:Value} {Q:Option Value->Shared->Prop} (D:ZipApart z TI TO p q l m) (G1:Gives p l xs f) (G2:Gives q m ys g) (hz:IsZip s.heap z TI TO .none) (hI:IsPair s.heap TI (.ref p) (.ref q)) (hO:IsPair s.heap TO a b)
  (h1:f i s.heap) (h2:g j s.heap) (hx:xs[i]? = some x) (hy:ys[j]? = some y)
  (hQ:∀ h',IsZip h' z TI TO (rawInt s.heap.objs.size)->IsPair h' TO x y->f (i + 1) h'->g (j + 1) h'->IsPair h' s.heap.objs.size x y->h'.objs.size = s.heap.objs.size + 1->Zef z TO p q s.heap h'->Q (some (.ref s.heap.objs.size)) { s with heap:=h' }) :
  wpAny (model prog w) A (pyNext (.ref z)) Q E s:=by
 have ty:s.TypeIs (.ref z) "zip" := ⟨_,hz,rfl⟩
 unfold pyNext;refine wpAny_bind (wpAny_attempt (wpAny_callSpecial?_slot (name:=Str.ofString "__next__") ty F.slot_zip_next (wpAny_call_entry F.slot_zip_next ty F.entry_zip_next ?_ (F.args_zip_next_1 _))));exact Hy D G1 G2 hz hI hO h1 h2 hx hy λ h' a1 a2 a3 a4 a5 a6 a7=>wpAny_pure (hQ h' a1 a2 a3 a4 a5 a6 a7)
theorem Kf {a b:Value} {Q:Option Value->Shared->Prop} (hh:A.handled = none) (D:ZipApart z TI TO p q l m) (G1:Gives p l xs f) (G2:Gives q m ys g) (hz:IsZip s.heap z TI TO .none) (hI:IsPair s.heap TI (.ref p) (.ref q)) (hO:IsPair s.heap TO a b)
  (h1:f i s.heap) (h2:g j s.heap) (hx:xs[i]? = none \/ ys[j]? = none) (hQ:∀ h',Zef z TO p q s.heap h'->Q none { s with heap:=h' }):wpAny (model prog w) A (pyNext (.ref z)) Q E s:=by
 have ty:s.TypeIs (.ref z) "zip" := ⟨_,hz,rfl⟩
 unfold pyNext;refine wpAny_bind (wpAny_attempt (wpAny_callSpecial?_slot (name:=Str.ofString "__next__") ty F.slot_zip_next (wpAny_call_entry F.slot_zip_next ty F.entry_zip_next ?_ (F.args_zip_next_1 _))));refine Ni hh D G1 G2 hz hI hO h1 h2 hx λ h' e k ⟨o,ho,hc⟩=>?_;exact wpAny_bind (wpAny_isInstance (T := "StopIteration") (b:=true) ⟨o,ho,hc⟩ isSubtype_stop (wpAny_pure (hQ _ k)))
end
section
variable {prog:Program} {E:Value->Shared->Prop}
end
theorem D9 {a b:Nat} (ha:a < n) (hb:b < n):ZipApart (n + 4) (n + 2) (n + 3) n (n + 1) a b:=by
 constructor <;> (intro e; change (_:Nat) = _ at e; lia)
section
variable {g:DTG} {tb:DTS} {body:List Stmt}
def ZfP (src:YF) (g:DTG) (tb:DTS):DTS:=λ D Δ M=>src Δ M λ ds M1=>GJ g tb D ds Δ M1
theorem ZbX:type_of% @ZfP.eq_1:=λ _ _ _ _ _ _=>qI
theorem Hu {src:YF} (hi:DI X tg iter src) (hg:DG X tg g) (hb:DSs X body tb) (hp:PassesOwn (model X.prog X.w) X.A X.env X.xe) (hc:X.calm = true) (hs:autoParam (∀ x,foldedSetIterable iter X.env x = pure x) zz2._auto_1) :
  DS X (.For tg iter body [] pos) (ZfP src g tb):=by
 obtain ⟨wi,p1,q1⟩:=hi;obtain ⟨t2,p2,q2⟩:=hg;obtain ⟨t3,p3,q3⟩:=hb;refine ⟨_,G0 hp hc p1 p2 p3 hs,λ Z H Δ M D E r e h k=>?_⟩;refine q1 Z H Δ M _ _ r e h λ J H1 M1 ds r1 st yl hx=>?_;obtain ⟨I,j0,jt,jd⟩:=hx;refine ⟨λ i m Z H=>(∃ Δ M,ZF X.K M H /\ Step M1 H1 M H /\ QV X.K M H Z Δ /\ I i Δ M) /\ i + m = ds.length,⟨ds.length,⟨Δ,M1,r1,Step.refl,e.step st,j0⟩,Nat.zero_add _⟩,λ i m Z H hW=>?_⟩;obtain ⟨⟨Δ,M,r',st',e',j⟩,hm⟩:=hW
 by_cases hi:i < ds.length
 ·obtain ⟨go,yd⟩:=(yl M H st' i).1 hi;refine .inr ⟨go,λ σ' H'=>∃ Δ' M',ZF X.K M' H' /\ Step M1 H1 M' H' /\ QV X.K M' H' σ' Δ' /\ I (i + 1) Δ' M',λ σ' H' h=>⟨m - 1,by lia,h,by lia⟩,λ x H' hy=>?_⟩;obtain ⟨r2,st2,d,hd,hv⟩:=yd x H' hy r';refine q2 x Z H' (.dat d) Δ M _ _ r2 (e'.step st2) hv (jt i d Δ M hd j) λ σ3 H3 Δ3 M3 r3 st3 e3 hb3=>?_;refine q3 σ3 H3 Δ3 M3 _ _ r3 e3 hb3 ?_;have s12:Step M1 H1 M3 H3:=(st'.trans st2).trans st3
  exact ⟨λ σ' H' Δ' M' a b c d=>⟨Δ',M',a,s12.trans b,c,d⟩,k.rt.step (st.trans s12),λ σ' H' Δ' M' a b c d=>k.nx σ' H' Δ' M' a ((st.trans s12).trans b) c d,
   λ σ' H' Δ' M' a b c d=>⟨Δ',M',a,s12.trans b,c,d⟩⟩
 ·have ei:i = ds.length:=by lia
  refine .inl ⟨(yl M H st' i).2 (by lia),?_⟩;rw [ei] at j;exact k.nx Z H Δ M r' (st.trans st') e' (jd Δ M j)
end
end DL
namespace DL
structure Zg1 (X:Cx) (scope:Scope) (k:Str) (N:List Str) (ix:List (Option Nat)):Prop where
 kind:scope.kind = .function
 cf:∀ n cl,cellsFrom n scope.names cl = (k,n) :: cl
 pc:∀ h,pushCells h scope.names = h.push { cls:=.type "cell",data:=.cell none }
 cellK:∀ y ∈ scope.names,y.2 = .cell->y.1 = k
 nk:∀ y ∈ scope.names,y.2 = .free->y.1 ≠ k
 names:∀ y ∈ scope.names,y.2 = .local->scope.names.lookup y.1 = some .local
 free:∀ y ∈ scope.names,y.2 = .free->X.env.kindOf y.1 = some .cell
 len:N.length = ix.length
 cap:∀ (j:Nat) (x:Str) (i:Nat),N[j]? = some x->ix[j]? = some (some i)->X.N[i]? = some x /\ (x,NameKind.free) ∈ scope.names /\ (relabel scope X.env).names.lookup x = some .cell
section
variable {Z:L2.St} {H2:Hp} {s2:Shared} {k:Str} {C:Addr} {fp:List Addr}
end
end DL
namespace DL
open PySem.W
theorem Ql.zero {x:DV} (h:Ql K M H v x) (n:∀ t,x ≠ .ty t):VR0 K M H v x:=by
 cases x with
 | dat d=>exact h
 | own b=>exact h
 | ty t=>exact absurd rfl (n t)
 | mix xs=>exact h
section
variable {o i value:Expr} {td ti tv:DTE} {pos':Pos}
end
section
open PySem.SeqAt
open PySem.AutoSeq1 (wpAny_loadPart')
open PySem.MeetsSeq PySem.MeetsSeq2 PySem.MeetsSeq3
variable {prog:Program} {E:Value->Shared->Prop}
end
theorem Step.all:Step M H (λ _=>none) H:=⟨λ _ _ _ h=>h,λ _ _ _ _=>rfl⟩
def E8 (x:DV) (M:Mp) (P:PyData->Prop):Prop:=match x with | .dat d=>P d | .own q=>JR (M q) (λ ds=>P (.list ds)) | _=>False
theorem Pc (d:PyData) (M:Mp) (P:PyData->Prop):E8 (.dat d) M P = P d:=qI
theorem Nl (q:Addr) (M:Mp) (P:PyData->Prop):E8 (.own q) M P = JR (M q) (λ ds=>P (.list ds)):=qI
theorem X1 {x:DV} {P:PyData->Prop} (h:E8 x M P) (r:ZF X.K M H) (rv:Ql X.K M H v x):∃ d,Dt X.K (λ _=>none) H v d /\ P d:=by
 cases x with
 | dat d=>exact ⟨d,Dt.step Step.all rv,h⟩
 | own q=>
  have h:JR (M q) (λ ds=>P (.list ds)):=h;replace h:=QF h;obtain ⟨ds,hm,h⟩:=h;cases (show v = .ref q from rv);obtain ⟨vs,g1,g2⟩:=r.ls q ds hm;exact ⟨.list ds,.lst (.inl ⟨rfl,.inl g1⟩) (g2.step Step.all),h⟩
 | ty t=>exact h.elim
 | mix xs=>exact h.elim
def Zf2:D2:=λ x y M Φ=>E8 x M λ d=>E8 y M λ e=>B1 d e = true /\ Φ (.dat (.bool (PyData.eqv d e))) M
theorem Zbp:type_of% @Zf2.eq_1:=λ _ _ _ _=>qI
def Zge:D2:=λ x y M Φ=>E8 x M λ d=>E8 y M λ e=>B1 d e = true /\ Φ (.dat (.bool (!PyData.eqv d e))) M
theorem Tq:type_of% @Zge.eq_1:=λ _ _ _ _=>qI
theorem LO {e:PyData} (h:B1 d e = true):d.canLay0 = true /\ e.canLay0 = true /\ min d.depth e.depth <= 64:=by
 unfold B1 at h;simp only [Bool.and_eq_true] at h;exact ⟨h.1.1,h.1.2,Nat.le_of_ble_eq_true h.2⟩
theorem Fn {k:Nat} (hr:Jq k X.A):OpD X (compareOp .Eq) Zf2:=
 ⟨_,Ss hr.units,λ v u H x y M Φ Q r rv ru h k=>by
  obtain ⟨d,hd,h⟩:=X1 h r rv;obtain ⟨e,he,ok,q⟩:=X1 h r ru;obtain ⟨c1,c2,hdp⟩:=LO ok
  exact ⟨_,d,e,hd,he,c1,c2,hdp,k.dat r Step.refl (Dt.bl _) q⟩⟩
theorem Zcv {k:Nat} (hr:Jq k X.A):OpD X (compareOp .NotEq) Zge:=
 ⟨_,Sr hr.units,λ v u H x y M Φ Q r rv ru h k=>by
  obtain ⟨d,hd,h⟩:=X1 h r rv;obtain ⟨e,he,ok,q⟩:=X1 h r ru;obtain ⟨c1,c2,hdp⟩:=LO ok
  exact ⟨_,d,e,hd,he,c1,c2,hdp,k.dat r Step.refl (Dt.bl _) q⟩⟩
def MS:D1:=λ xs M Φ=>on1 xs λ x=>E8 x M λ d=>Shw d /\ Φ (.dat (.str d.shown)) M
theorem Hj:type_of% @MS.eq_1:=λ _ _ _=>qI
theorem Oq {k:Nat} (hr:Jq k X.A):J0 X (.builtin "repr") MS:=by
 refine ⟨_,Wf hr.gd (by have:=hr.un; lia),λ vs H xs M Φ Q r rv h k=>?_⟩;replace h:=Zu h;obtain ⟨x,rfl,h⟩:=h;obtain ⟨v,rfl,h1⟩:=Paired.one rv;obtain ⟨d,hd,hs,q⟩:=X1 h r h1;exact ⟨v,d,_,rfl,hd,hs.s,hs.m,hs.dp,hs.z,k.dat r Step.refl (Dt.str _) q⟩
end DL
namespace DL
end DL
namespace DL
open PySem.W
def Zgs (x:DV) (M:Mp) (P:List PyData->Prop):Prop:=match x with | .dat (.list ds)=>P ds | .own q=>JR (M q) P | _=>False
def Zig:D2:=λ x y M Φ=>onD x λ d=>Zgs y M λ ds=>okIn d ds = true /\ Φ (.dat (.bool (ds.any λ e=>PyData.eqv e d))) M
def ZdC (i:Nat) (t:DTS):DTS:=λ D Δ M=>onV Δ[i]? λ x=>onO x λ l=>JR (M l) λ ds=>t D (Δ.set i (some (.dat (.list ds)))) (V1 M l)
theorem Zaf:type_of% @ZdC.eq_1:=λ _ _ _ _ _=>qI
theorem ZbG (i:Nat) {s:Stmt} {t:DTS} (h:DS X s t):DS X s (ZdC i t):=by
 obtain ⟨u,p,k⟩:=h;refine ⟨u,p,λ Z H Δ M D E r er h e=>?_⟩;obtain ⟨x,hx,h⟩:=UU h;obtain ⟨l,rfl,h⟩:=ZW h;obtain ⟨ds,hm,h⟩:=QF h;obtain ⟨vs,e1,e2⟩:=r.ls l ds hm;obtain ⟨v,hv,rv⟩:=er.at' i _ hx;cases (show v = .ref l from rv);have er2:=(er.step Step.frz).set (i:=i) (v:=.ref l) (x:=.dat (.list ds)) (Dt.lst (.inl ⟨Yq,.inl e1⟩) (e2.step Step.frz));have es:Z.set i (some (.ref l)) = Z:=by
  obtain ⟨hi,e⟩:=List.getElem?_eq_some_iff.mp hv;rw [<- e];exact List.set_getElem_self hi
 rw [es] at er2;exact k Z H _ _ D E r.frz er2 h (e.step Step.frz)
section
variable {l:Expr} {tl:TE}
end
section
variable {g:DTG} {tb:DTS} {body:List Stmt}
end
section
variable {o i:Expr} {td ti:DTE}
end
end DL
namespace DL
open PySem.W Builtin Builtin.Str
section
variable {a b:Expr} {rest:List Expr} {ta tb:DTE}
end
def Dz (to:DTE):DTE:=λ Δ M Φ=>to Δ M λ x M1=>onO x λ l=>JR (M1 l) λ ds=>Φ (.dat .none) (Z0 M1 l (.lst ds.reverse))
theorem E5:type_of% @Dz.eq_1:=λ _ _ _ _=>qI
theorem Dts.rev:∀ {vs:List V} {ds:List PyData},Dts K M H vs ds->Dts K M H vs.reverse ds.reverse
 | _,_,.nil=>.nil
 | _,_,.cons h1 h2=>by
  rw [List.reverse_cons,List.reverse_cons];exact (Dts.rev h2).append (.cons h1 .nil)
theorem Em {o:Expr} {to:DTE} {apos cpos:Pos} (ho:DE X o to) (hbase:autoParam (attributeBase o "reverse" X.env (eval o X.env) = eval o X.env) zz3._auto_1) (hline:autoParam ((apos.endLine == cpos.line) = true) zz3._auto_1) :
  DE X (.Call (.Attribute o "reverse" apos) [] [] cpos) (Dz to):=by
 obtain ⟨t1,p1,q1⟩:=ho;refine ⟨_,ZdB PySem.F.plainAttrs_list PySem.F.slot_list_reverse PySem.F.type_list_reverse EL p1 hbase hline,λ Z H Δ M Φ Q r e h k=>?_⟩;refine q1 Z H Δ M _ _ r e h λ v H1 x M1 r1 st rv hx=>?_;replace hx:=ZW hx;obtain ⟨l,rfl,hx⟩:=hx;replace hx:=QF hx;obtain ⟨ds,hm,hx⟩:=hx;cases (show v = .ref l from rv);obtain ⟨vs,g1,g2⟩:=r1.ls l _ hm;refine ⟨.inl ⟨rfl,_,SqL.of g1⟩,l,_,rfl,rfl,g1,?_⟩;have st2:Step M1 H1 (Z0 M1 l (.lst ds.reverse)) (upd H1 l (.lst vs.reverse)):=Step.UO hm;exact k.dat (r1.XO st2 g2.rev) (st.trans st2) Dt.non hx
def Sv:DTS:=λ _ _ _=>False
theorem OC (D:Z9) (Δ:DSt) (M:Mp):Sv D Δ M = False:=rfl
theorem Dm:DS X st Sv:=⟨_,NK,λ _ _ _ _ _ _ _ _ h=>h.elim⟩
end DL
namespace DL
open PySem.W
theorem Paired.atI {α β:Type} {F:α->β->Prop} {l:List α} {m:List β} {i:Int} {b:β} (h:Paired F l m) (e:L2.atI m i = some b):∃ a,L2.atI l i = some a /\ F a b:=by
 unfold L2.atI at e ⊢;rw [Paired.length h];cases q:ixN m.length i with
 | none=>rw [q] at e; cases e
 | some j=>
  rw [q] at e;exact Paired.ZgT h e
theorem Paired.app {α β:Type} {F:α->β->Prop}:∀ {l l':List α} {m m':List β},Paired F l m->Paired F l' m'->Paired F (l ++ l') (m ++ m')
 | _,_,_,_,.nil,h=>h
 | _,_,_,_,.cons h1 h2,h=>.cons h1 (Paired.app h2 h)
theorem ZF.lv (r:ZF K M H) {xs:List DV} (h:M a = some (.lsv n xs)):∃ vs,H a = some (.lst vs) /\ Paired (VR0 K M H) vs xs:=r.ok a _ h
theorem Mxs.of:∀ {vs:List V} {xs:List DV},Paired (VR0 K M H) vs xs->Mxs K M H vs xs
 | _,_,.nil=>.nil
 | _,.dat d :: _,.cons h1 h2=>.dat h1 (Mxs.of h2)
 | _,.own b :: _,.cons h1 h2=>by
  cases (show _ = V.ref b from h1);exact .own (Mxs.of h2)
 | _,.mix ys :: _,.cons h1 h2=>.mix h1 (Mxs.of h2)
 | _,.ty t :: _,.cons h1 h2=>h1.elim
theorem Mxs.vr:∀ {vs:List V} {xs:List DV},Mxs K M H vs xs->Paired (VR0 K M H) vs xs
 | _,_,.nil=>.nil
 | _,_,.dat h1 h2=>.cons h1 (Mxs.vr h2)
 | _,_,.own h2=>.cons rfl (Mxs.vr h2)
 | _,_,.mix h1 h2=>.cons h1 (Mxs.vr h2)
mutual
inductive AsD (M:Mp):DV->PyData->Prop
 | dat (d:PyData):AsD M (.dat d) d
 | lsv {a:Addr} {n:Nat} {xs:List DV} {ds:List PyData}:M a = some (.lsv n xs)->Cy M xs ds->AsD M (.own a) (.list ds)
 | mix {xs:List DV} {ds:List PyData}:Cy M xs ds->AsD M (.mix xs) (.tuple ds)
 | lst {a:Addr} {ds:List PyData}:M a = some (.lst ds)->AsD M (.own a) (.list ds)
 | dkv {a:Addr} {ps:List (Key × PyData)}:M a = some (.dkv ps)->AsD M (.own a) (.dict (ps.map λ q=>(kD q.1,q.2)))
inductive Cy (M:Mp):List DV->List PyData->Prop
 | nil:Cy M [] []
 | cons {x:DV} {xs:List DV} {d:PyData} {ds:List PyData}:AsD M x d->Cy M xs ds->Cy M (x :: xs) (d :: ds)
end
theorem Zd5 (r:ZF K M H) {ps:List (Key × PyData)} (hm:M a = some (.dkv ps)):Dt K (λ _=>none) H (.ref a) (.dict (ps.map λ q=>(kD q.1,q.2))):=by
 obtain ⟨kvs,g1,g2,g3⟩:=(show OOk K M H a (.dkv ps) from r.ok a _ hm)
 have e:(kvs.map λ kv=>kD kv.1) = ps.map λ q=>kD q.1:=by
  have:=congrArg (List.map kD) g2
  rwa [List.map_map,List.map_map] at this
 have z:=Dt.dK (K:=K) (M:=λ _=>none) (H:=H) (a:=a) rfl g1 (g3.step Step.all);rw [e,List.zip_map'] at z;exact z
mutual
theorem AsD.dt (r:ZF K M H):∀ {x:DV} {d:PyData},AsD M x d->∀ {v:V},VR0 K M H v x->Dt K (λ _=>none) H v d
 | _,_,.dat _,_,h=>Dt.step Step.all h
 | _,_,.lsv hm hs,_,h=>by
  cases (show _ = V.ref _ from h);exact .lst (.inl ⟨rfl,.inl (r.lv hm).choose_spec.1⟩) (Cy.dt r hs (r.lv hm).choose_spec.2)
 | _,_,.mix hs,_,h=>by
  cases (show Mx K M H _ _ from h) with
  | mk h1 h2 h3=>exact .tup (.inl ⟨rfl,.inl h2⟩) (Cy.dt r hs h3.vr)
 | _,_,.lst hm,_,h=>by
  cases (show _ = V.ref _ from h);exact .lst (.inl ⟨rfl,.inl (r.ls _ _ hm).choose_spec.1⟩) ((r.ls _ _ hm).choose_spec.2.step Step.all)
 | _,_,.dkv hm,_,h=>by
  cases (show _ = V.ref _ from h);exact Zd5 r hm
theorem Cy.dt (r:ZF K M H):∀ {xs:List DV} {ds:List PyData},Cy M xs ds->∀ {vs:List V},Paired (VR0 K M H) vs xs->Dts K (λ _=>none) H vs ds
 | _,_,.nil,_,h=>by cases h; exact .nil
 | _,_,.cons h1 h2,_,h=>by
  cases h with
  | cons a b=>exact .cons (AsD.dt r h1 a) (Cy.dt r h2 b)
end
mutual
noncomputable def Xt:PyData->Bool
 | .none=>true
 | .bool _=>true
 | .int _=>true
 | .str _=>true
 | .tuple ds=>Bl ds
 | _=>false
noncomputable def Bl:List PyData->Bool
 | []=>true
 | d :: ds=>Xt d && Bl ds
end
theorem Hr (r:ZF K M H) (h:Rd H a (.tup xs)):M a = none:=by
 cases q:M a with
 | none=>rfl
 | some o=>
  have g:=r.ok a o q;exfalso;have no:∀ u,H a = some u->(∀ ys,u ≠ .tup ys)->(∀ o ys,u ≠ .frz o (.tup ys))->False:=λ u e n1 n2=>by
   rcases h with h | ⟨o,h⟩
   ·rw [h] at e; cases e; exact n1 _ rfl
   ·rw [h] at e; cases e; exact n2 _ _ rfl
  cases o with
  | lst ds=>obtain ⟨vs,e,_⟩:=g; exact no _ e (λ _ z=>nomatch z) (λ _ _ z=>nomatch z)
  | dct ks=>obtain ⟨vs,e,_⟩:=g; exact no _ e (λ _ z=>nomatch z) (λ _ _ z=>nomatch z)
  | dtv ps=>obtain ⟨vs,e,_⟩:=g; exact no _ e (λ _ z=>nomatch z) (λ _ _ z=>nomatch z)
  | dkv ps=>obtain ⟨vs,e,_⟩:=g; exact no _ e (λ _ z=>nomatch z) (λ _ _ z=>nomatch z)
  | dko ps=>obtain ⟨vs,e,_⟩:=g; exact no _ e (λ _ z=>nomatch z) (λ _ _ z=>nomatch z)
  | fdk o ps=>obtain ⟨vs,e,_⟩:=g; exact no _ e (λ _ z=>nomatch z) (λ _ _ z=>(by cases z))
  | lsv n xs=>obtain ⟨vs,e,_⟩:=g; exact no _ e (λ _ z=>nomatch z) (λ _ _ z=>nomatch z)
  | ext φ=>exact no _ g (λ _ z=>nomatch z) (λ _ _ z=>nomatch z)
  | gst N₀ H₀=>obtain ⟨⟨vs,e,_⟩,_⟩:=g; exact no _ e (λ _ z=>nomatch z) (λ _ _ z=>nomatch z)
  | fdc o ks=>obtain ⟨vs,e,_⟩:=g; exact no _ e (λ _ z=>nomatch z) (λ _ _ z=>(by cases z))
  | fdt o ps=>obtain ⟨vs,e,_⟩:=g; exact no _ e (λ _ z=>nomatch z) (λ _ _ z=>(by cases z))
  | tab φ=>obtain ⟨⟨vs,e,_⟩,_⟩:=g; exact no _ e (λ _ z=>nomatch z) (λ _ _ z=>nomatch z)
theorem O3 (r:ZF K M H) (h:TupAt K M' H a xs):TupAt K M H a xs:=by
 rcases h with ⟨_,h⟩ | h
 ·exact .inl ⟨Hr r h,h⟩
 ·exact .inr h
mutual
theorem Dt.back (r:ZF K M H):∀ {v:V} {d:PyData},Dt K M' H v d->Xt d = true->Dt K M H v d
 | _,_,.non,_=>.non
 | _,_,.bl b,_=>.bl b
 | _,_,.int i,_=>.int i
 | _,_,.str x,_=>.str x
 | _,_,.tup h1 h2,l=>.tup (O3 r h1) (Dts.back r h2 (by rw [Xt] at l; exact l))
 | _,_,.lst _ _,l=>by simp [Xt] at l
 | _,_,.dK _ _ _,l=>by simp [Xt] at l
 | _,_,.dT _ _ _ _,l=>by simp [Xt] at l
 | _,_,.dX _ _ _ _ _ _,l=>by simp [Xt] at l
theorem Dts.back (r:ZF K M H):∀ {vs:List V} {ds:List PyData},Dts K M' H vs ds->Bl ds = true->Dts K M H vs ds
 | _,_,.nil,_=>.nil
 | _,_,.cons h1 h2,l=>.cons (Dt.back r h1 (by rw [Bl,Bool.and_eq_true] at l; exact l.1)) (Dts.back r h2 (by rw [Bl,Bool.and_eq_true] at l; exact l.2))
end
noncomputable def Q2:DSt->DSt
 | []=>[]
 | _ :: r=>none :: Q2 r
theorem UG:Q2 [] = []:=by rw [Q2]
theorem Uo (y:Option DV) (r:DSt):Q2 (y :: r) = none :: Q2 r:=by rw [Q2]
theorem YQ:∀ (Δ:DSt),(Q2 Δ).length = Δ.length
 | []=>rfl
 | _ :: r=>by rw [Q2,List.length_cons,List.length_cons,YQ r]
theorem YN:∀ (Δ:DSt) (j:Nat) (y:DV),(Q2 Δ)[j]? ≠ some (some y)
 | [],j,y,h=>by simp [Q2] at h
 | _ :: r,0,y,h=>by simp [Q2] at h
 | _ :: r,j + 1,y,h=>by rw [Q2,List.getElem?_cons_succ] at h; exact YN r j y h
section
variable {o i:Expr} {to ti:DTE} {t:DTA} {pos':Pos}
theorem Ql.Zcq {x:DV} (h:Ql K M H v x) (a:AsD M x d):VR0 K M H v x:=h.zero λ t e=>by subst e; cases a
end
section
variable {g:DTG} {tb:DTS} {body:List Stmt}
end
section
variable {o f:Expr} {td tf:DTE} {p apos cpos:Pos}
end
def Ly (te:DTE) (Δ:DSt) (M:Mp) (Φ:DK):List Nat->DSt->Prop
 | [],Δ0=>te Δ0 (λ _=>none) λ y _=>onD y λ c=>Xt c = true /\ Φ (.dat c) M
 | n :: ns,Δ0=>onV Δ[n]? λ x=>∃ d,AsD M x d /\ Ly te Δ M Φ ns (Δ0.set n (some (.dat d)))
theorem Zfu (te:DTE) (Δ:DSt) (M:Mp) (Φ:DK) (Δ0:DSt):Ly te Δ M Φ [] Δ0 = (te Δ0 (λ _=>none) λ y _=>onD y λ c=>Xt c = true /\ Φ (.dat c) M):=by rw [Ly]
theorem Zf6 (te:DTE) (Δ:DSt) (M:Mp) (Φ:DK) (n:Nat) (ns:List Nat) (Δ0:DSt):Ly te Δ M Φ (n :: ns) Δ0 = (onV Δ[n]? λ x=>∃ d,AsD M x d /\ Ly te Δ M Φ ns (Δ0.set n (some (.dat d)))):=by rw [Ly]
def ZfU (ns:List Nat) (te:DTE):DTE:=λ Δ M Φ=>Ly te Δ M Φ ns (Q2 Δ)
theorem ZaC (ns:List Nat) (te:DTE) (Δ:DSt) (M:Mp) (Φ:DK):ZfU ns te Δ M Φ = Ly te Δ M Φ ns (Q2 Δ):=qI
theorem QV.putD {Z:L2.St} (e:QV K M H Z Δ) (hv:Z[n]? = some (some v)) (hd:Dt K M H v d):QV K M H Z (Δ.set n (some (.dat d))):=⟨by rw [List.length_set]; exact e.len,λ j y z=>by
 by_cases q:n = j
 ·subst q
  by_cases hl:n < Δ.length
  ·rw [List.getElem?_set_self hl] at z;cases z;exact ⟨v,hv,hd⟩
  ·rw [List.getElem?_eq_none (by rw [List.length_set]; lia)] at z;cases z
 ·rw [List.getElem?_set_ne q] at z
  exact e.at' j y z⟩
theorem Hq (ns:List Nat) (h:DE X e te):DE X e (ZfU ns te):=by
 obtain ⟨u,p,q⟩:=h;refine ⟨u,p,λ Z H Δ M Φ Q r er h k=>?_⟩;have r0:ZF X.K (λ _=>none) H:=⟨λ a o z=>nomatch z⟩
 have go:∀ (ns:List Nat) (Δ0:DSt),QV X.K (λ _=>none) H Z Δ0->Ly te Δ M Φ ns Δ0->u Z H Q:=λ ns=>by
  induction ns with
  | nil=>
   intro Δ0 e0 h;rw [Ly] at h;refine q Z H _ _ _ _ r0 e0 h λ w H' y M' r' st' rw' hy=>?_;replace hy:=ZR hy;obtain ⟨c,rfl,lf,f⟩:=hy;have st:Step M H M H':=⟨λ b o _ z=>st'.keep b o rfl z,λ b o z _=>z⟩
   have r2:ZF X.K M H':=r.step_same st λ a u _ z=>st'.keep a u rfl z;exact k _ _ (.dat c) M r2 st (Dt.back r2 rw' lf) f
  | cons n ns ih=>
   intro Δ0 e0 h;rw [Ly] at h;replace h:=UU h;obtain ⟨x,ex,d,hd,h⟩:=h;obtain ⟨v,ev,rv⟩:=er.at' n x ex;exact ih _ (e0.putD ev (AsD.dt r hd (rv.Zcq hd))) h
 exact go ns _ ⟨by rw [YQ]; exact er.len,λ j y z=>absurd z (YN Δ j y)⟩ h
theorem cO {k:Nat} {ps:List Str} {S:DSp} {t:DTA} {p pos:Pos} (O:Own X.K X.mg x st ps f fd) (F:Qa X.prog X.w X.K X.mg X.base CX0 k f fd ps (lift X.K S)) (hr:Jq k' X.A) (ha:DA X (e :: es) t)
  (hl:autoParam (k <= k') zz9._auto_1) (hg:autoParam (Gl X x) zz10._auto_1) (hdb:autoParam ((x == ("__debug__" : Str)) = false) zz1._auto_1) (he:autoParam (starEach (e :: es) X.env = (false,eval e X.env) :: starEach es X.env) zz3._auto_1) (hpl:autoParam ((backTo pos (starEach es X.env)).any (·.1) = false) zz3._auto_1):DE X (.Call (.Name x p) (e :: es) [] pos) (Tp S t):=
 Tt F (hr.mono hl) hg O.m O.F.kp O.b Zhg ha hdb he hpl
section
variable {prog:Program} {w:World} {A:Around} {E:Value->Shared->Prop} {h:Heap} {g:Array GenState} {d:Drawn} {t:Nat} {os:OsState} {nm q:Str} {C N:Addr} {bs bm bmB:List Value} {hdct:Bool} {sn:List Str}
 {sub:List Value} {ab:Bool} {col:Option Bool} {dd:Option Addr} {k0 k1 k2 k3 k5:Option Value} {B newId initId:String}
end
section
variable {prog:Program} {w:World} {A:Around} {E:Value->Shared->Prop} {s:Shared} {env:Env} {nm q:Str} {C N:Addr} {bs bm bmB:List Value} {hdct:Bool} {sn:List Str} {sub:List Value} {ab:Bool} {col:Option Bool} {dd:Option Addr}
 {k0 k1 k2 k3 k5:Option Value} {B newId initId:String}
end
abbrev XCl:=Value × Option Addr
def ZdD (h:Heap) (a:Addr) (cls:XCl) (tb:Option Addr):Prop:=
 ∃ oe vs,h.get? a = some oe /\ (oe.cls = cls.1 /\ oe.dict = cls.2) /\ oe.data = .fields vs /\ match tb with
  | none=>vs[1]? = some .none
  | some T=>vs[1]? = some (.ref T) /\ T ≠ a /\ ∃ oT ts fl,h.get? T = some oT /\ oT.data = .fields ts /\ ts[3]? = some fl
structure Chg (fs:List Addr) (a:Addr) (tb:Option Addr) (h h':Heap):Prop where
 keep:∀ b o,h.get? b = some o->b ∉ fs->b ≠ a->tb ≠ some b->h'.get? b = some o
 slot:∀ b o,h.get? b = some o->b ≠ a->tb ≠ some b->∃ sl,h'.get? b = some { o with slots:=sl }
 there:∀ b o,h.get? b = some o->∃ o',h'.get? b = some o'
theorem ZdD.keeps {cls:XCl} {tb:Option Addr} (x:ZdD h a cls tb) (k1:∀ o,h.get? a = some o->h'.get? a = some o) (k2:∀ T o,tb = some T->h.get? T = some o->h'.get? T = some o):ZdD h' a cls tb:=by
 obtain ⟨oe,vs,h1,hc,h2,h3⟩:=x;refine ⟨oe,vs,k1 _ h1,hc,h2,?_⟩;cases tb with
 | none=>exact h3
 | some T=>
  obtain ⟨e1,e2,oT,ts,fl,g1,g2,g3⟩:=h3;exact ⟨e1,e2,oT,ts,fl,k2 T _ rfl g1,g2,g3⟩
section
variable {M:Model} {E:Value->Shared->Prop} {cls:XCl} {tb:Option Addr} {Q:Unit->Shared->Prop}
end
structure Loose (X:Cx) (pins:List (Addr × Obj)) (H:Hp) (b:Addr):Prop where
 un:H b = none
 new:X.s₀.heap.objs.size <= b
 nl:b ≠ X.env.locals
 nc:∀ x c,X.env.cells.lookup x = some c->c ≠ b
 np:∀ p ∈ X.pn ++ pins,p.1 ≠ b
section
variable {Z:L2.St} {cls:XCl} {tb:Option Addr} {Ξ:XCl->Hp->Prop}
variable {Ξg:XCl->L2.St->Hp->Prop}
end
section
variable {Ξ:XCl->Hp->Prop} {C:Addr} {B newId initId:String} {bm:List Value} {np cpos:Pos} {e₀:Expr} {t:TA}
end
end DL
namespace DL
section
variable {prog:Program} {R:Result->Shared->Prop}
end
end DL
namespace DL
open PySem.W
section
variable {Ξ:XCl->Hp->Prop}
end
section
variable {k:Nat} {ps:List Str} {S:DSpX} {Ξ:DXK} {p:Pos} {t:DTA}
end
section
variable {base:Heap}
end
def Zhp (a:Addr) (cls:XCl) (h:Heap):Prop:=∃ o vs,h.get? a = some o /\ (o.cls = cls.1 /\ o.dict = cls.2) /\ o.data = .fields vs
section
variable {Z:L2.St} {cls:XCl} {tb:Option Addr}
structure ZgU (K:Fk) (C L:Addr):Prop where
 sub:subIn K (.ref C) (.ref L) = some true
 exc:subIn K (.ref L) (.type "BaseException") = some true
 ty:typeIn K (.ref L) = some (.type "type")
 cl:(clsIn K L).isSome = true
end
section
variable {Z:L2.St} {C L:Addr} {tb ed:Option Addr}
theorem ZdD.is {cls:XCl} (x:ZdD h a cls tb):Zhp a cls h:=by
 obtain ⟨oe,vs,h1,hc,h2,_⟩:=x;exact ⟨oe,vs,h1,hc,h2⟩
end
section
variable {k:Nat} {ps:List Str} {S:DSpX} {p:Pos} {t:DTA}
end
end DL
namespace DL
open PySem.W PySem.Calls
structure Zh0 (K:Fk) (C:Addr):Prop where
 ga:findIn K (.ref C) "__getattribute__" = some (some (.builtin "BaseException.__getattribute__"))
 gb:findIn K (.ref C) "__getattr__" = some none
 cl:findIn K (.ref C) "__class__" = some (some (.builtin "object.__class__"))
 gs:specialIn K (.builtin "object.__class__") "__get__" = some (some (.builtin "getset_descriptor.__get__"))
 tk:takesIn K (.builtin "object.__class__") = some true
 ob:mroIn K C (.type "object") = some true
 be:mroIn K C (.type "BaseException") = some true
 cd:(clsIn K C).isSome = true
section
variable {prog:Program} {E:Value->Shared->Prop} {x C:Addr} {ox:Obj} {od:Option Obj}
end
end DL
namespace DL
open PySem.W
section
variable {k:Nat} {ps:List Str} {S:DSpX} {Ξ:DXK} {p:Pos} {t:DTA}
end
inductive ZeN:PyData->Prop
 | one {d:PyData}:Shw d->ZeN d
 | tup {ds:List PyData}:(∀ d ∈ ds,ZeN d)->ZeN (.tuple ds)
 | lst {e:PyData} {ds:List PyData}:(∀ d ∈ e :: ds,ZeN d)->ZeN (.list (e :: ds))
section
variable {Z:L2.St}
end
end DL
namespace DL
open PySem.W Builtin Builtin.ObjectAttr
section
variable {prog:Program} {w:World} {A:Around} {E:Value->Shared->Prop} {h:Heap} {g:Array GenState} {d:Drawn} {t:Nat} {os:OsState} {nm q:Str} {C N:Addr} {bs bm bmB:List Value} {hdct:Bool} {sn:List Str}
 {sub:List Value} {ab:Bool} {col:Option Bool} {dd:Option Addr} {k0 k1 k2 k3 k5:Option Value} {B newId initId:String}
end
section
variable {prog:Program} {w:World} {A:Around} {E:Value->Shared->Prop} {s:Shared} {env:Env} {nm q:Str} {C N:Addr} {bs bm bmB:List Value} {hdct:Bool} {sn:List Str} {sub:List Value} {ab:Bool} {col:Option Bool} {dd:Option Addr}
 {k0 k1 k2 k3 k5:Option Value} {B newId initId:String}
end
section
variable {prog:Program} {w:World} {A:Around} {E:Value->Shared->Prop} {h:Heap} {g:Array GenState} {d:Drawn} {t:Nat} {os:OsState} {nm q:Str} {C N x:Addr} {bs bm bmB:List Value} {sn:List Str} {sub:List Value} {ab:Bool} {col:Option Bool} {dd:Option Addr}
 {k0 k1 k2 k3 k5:Option Value} {B newId sa owner:String} {name:Str} {v:Value} {o:Obj}
end
end DL
namespace DL
open PySem.W
noncomputable abbrev bmV:List Value:=[.type "ValueError",.type "Exception",.type "BaseException",.type "object"]
structure Zim (K:Fk) (C f:Addr):Prop where
 ex:∃ nm q N bs bm sn sub ab col dd k0 k1 k2 k3 k5,K.lookup C = some (excClassObj nm q C N bs bm true sn sub ab col dd k0 k1 k2 k3 k5 "ValueError.__new__") /\ tailIn K bmV bm = true /\ nsOkIn K N = true /\ nsIn K N "__init__" = some (some (.ref f))
 sa:findIn K (.ref C) "__setattr__" = some (some (.builtin "object.__setattr__"))
 ln:findIn K (.ref C) "line" = some none
section
variable {C:Addr} {o value:Expr} {ta tv:TE} {pos':Pos}
end
section
variable {Z:L2.St} {φ:Heap->Prop}
end
section
variable {base:Heap}
end
section
variable {Ξ:XCl->Hp->Prop} {C:Addr} {k:Nat} {np cpos:Pos} {e₀:Expr} {t:TA}
end
end DL
namespace DL
open PySem.W PySem.Calls
structure ZjI (K:Fk) (C:Addr):Prop where
 ex:Zh0 K C
 ln:findIn K (.ref C) "line" = some none
 hd:∃ cd,clsIn K C = some cd /\ cd.hasDict = true
section
variable {prog:Program} {E:Value->Shared->Prop} {x C:Addr} {ox od:Obj} {v:Value}
end
section
variable {Ξ:DXK} {C:Addr} {k:Nat} {np cpos:Pos} {e₀:Expr} {t:DTA}
end
end DL
namespace DL
open PySem.W
section
variable {k:Nat} {ps:List Str} {S:DSpX} {p:Pos} {t:DTA}
end
end DL
namespace DL
open PySem.W Builtin Builtin.Str
section
variable {o:Expr} {to:DTE} {apos cpos:Pos}
end
end DL
namespace DL
open PySem.W PySem.Calls
section
variable {prog:Program} {w:World} {A:Around} {E:Value->Shared->Prop} {s:Shared} {env:Env} {nm q:Str} {C N:Addr} {bs bm bmB:List Value} {hdct:Bool} {sn:List Str} {sub:List Value} {ab:Bool} {col:Option Bool} {dd:Option Addr}
 {k0 k1 k2 k3 k5:Option Value} {B newId initId:String}
end
section
variable {Z:L2.St} {φ ψ:Heap->Prop}
end
section
variable {C:Addr} {k:Nat} {np cpos:Pos} {e₀:Expr}
end
end DL
namespace DL
open PySem.W
noncomputable def KC (l:List (Pos × Addr)):Array Value:=(l.flatMap λ q=>[rawInt q.1.line,rawInt q.1.col,.ref q.2]).toArray
def VA (P:Addr) (l:List (Pos × Addr)) (h:Heap):Prop:=h.get? P = some (tabObj (KC l))
theorem F4 {l:List (Pos × Addr)} (x:VA a l h):Z3 P w H h a (.ext (VA a l)):=⟨x,⟨_,x⟩,λ _ _ y k=>k _ y⟩
def BmB (base:Heap) (mg:Str->Option Value):Prop:=∃ bm o,mg "__builtins__" = some (.ref bm) /\ bm ≠ builtinsNs /\ base.get? bm = some o /\ o.cls = .type "module" /\ o.dict = some builtinsNs /\ o.data = .plain
theorem FQ {P:Program} {w:World} {K:Fk} {mg mb:Str->Option Value} {CX:CXT} {k:Nat} {fa a:Addr} {fd:FuncData} {x:Str} {sp:Sp} {s₁:Shared} {vs:List Value} {ns:List Int} {ts:List Addr}
  (KX:K.In s₁.heap) (hns:s₁.heap.Ns mainGlobals mg) (hb:s₁.heap.Ns builtinsNs mb) (hbb:∀ x:Str,x ≠ "__name__" -> mb x = bootBuiltins x) (hlim:s₁.heap.NoLimit) (hg:s₁.gens = #[])
  (ha:s₁.heap.get? a = some { cls:=.type "list",data:=.seq vs.toArray }) (hi:IntsAre vs ns) (hl:ns.length <= sizeLine) (hr:Jq k callerA)
  (hbm:BmB s₁.heap mg) (F:∀ base:Heap,K.In base->base.Ns mainGlobals mg->BmB base mg->Qa P w K mg base CX k fa fd [x] sp) (hbind:∀ (s:Shared) (u:Value),BindsTo s fd ⟨[u],[]⟩ [(x,u)])
  (hT:∀ p ∈ ts,s₁.heap.get? p = some (tabObj #[]) /\ isCodeTable s₁.heap p /\ K.lookup p = none)
  (hsp:∀ H:Hp,(∀ p ∈ ts,H p = some (.ext (VA p [])))->SqL K H a (ns.map V.int)->sp [.ref a] H (λ v H'=>v = .bl true /\ ∀ p ∈ ts,∃ l,H' p = some (.ext (VA p l))) λ _ _ _=>False)
  (hCX:∀ H e s',CX [] H s₁ (λ _ _ _=>False) e s'->False) :
  codeAny (model P w) callerA (.call (.ref fa) ⟨[.ref a],[]⟩) (λ r s'=>r = .ok (.ret (.bool true)) /\ OldK s₁.heap s'.heap /\ s'.os = s₁.os /\ AllBare s'.gens) s₁:=by
 have rv:=Ks hi;have lenV:=hi.length;have na:a ∉ ts:=λ z=>by
  have q:=(hT a z).1;rw [ha] at q;cases q
 have core:∀ H:Hp,(∀ b,H b = none \/ (b = a /\ ∃ o xs,H b = some (.frz o (.lst xs))) \/ b ∈ ts)->(∀ p ∈ ts,H p = some (.ext (VA p [])))->SqL K H a (ns.map V.int)->HOk P w H s₁.heap->(H a ≠ none->K.lookup a = none) ->
   codeAny (model P w) callerA (.call (.ref fa) ⟨[.ref a],[]⟩) (λ r s'=>r = .ok (.ret (.bool true)) /\ OldK s₁.heap s'.heap /\ s'.os = s₁.os /\ AllBare s'.gens) s₁:=by
  intro H hO hH hS hok hK;have base_of:∀ {b:Addr} {o:Obj},s₁.heap.get? b = some o->H b = none->(MX s₁.heap H).get? b = some o:=λ e n=>NX e n;have noA:∀ {b:Addr} {o:Obj} {es:Array DictEntry} {ep:Nat},s₁.heap.get? b = some o->o.data = .dict es ep->H b = none:=λ {b o es ep} e d=>by
   rcases hO b with q | ⟨rfl,_⟩ | q
   ·exact q
   ·rw [ha] at e; cases e;have d':Data.seq vs.toArray _ = Data.dict es ep:=d;cases d'
   ·rw [(hT b q).1] at e; cases e;have d':Data.fields #[] = Data.dict es ep:=d;cases d'
  have nsK:∀ {b:Addr} {m:Str->Option Value},s₁.heap.Ns b m->(MX s₁.heap H).Ns b m:=λ {b m} ⟨o,es,ep,e,d,r⟩=>⟨o,es,ep,base_of e (noA e d),d,r⟩
  have hKb:K.In (MX s₁.heap H):=λ b o e=>base_of (KX b o e) (by
   rcases hO b with q | ⟨rfl,o',xs,q⟩ | q
   ·exact q
   ·rw [hK (by rw [q]; simp)] at e; cases e
   ·rw [(hT b q).2.2] at e; cases e)
  have hM:Mod K mg (MX s₁.heap H):=⟨hKb,nsK hns,⟨mb,nsK hb,hbb⟩,let ⟨mc,h1,h2⟩:=hlim; ⟨mc,nsK h1,h2⟩⟩
  have e0:Nn P w K mg (MX s₁.heap H) callerA [] s₁ H:=⟨rfl,hM,λ b o e=>ZaQ e,Nat.le_of_eq (HM _ _),trivial,λ b hb=>absurd (show b ∈ ([]:List Addr) from hb) (by simp),hok,.of_eq hg⟩
  have hB:BmB (MX s₁.heap H) mg:=by
   obtain ⟨bm,o,b1,b2,b3,b4,b5,b6⟩:=hbm;refine ⟨bm,o,b1,b2,base_of b3 ?_,b4,b5,b6⟩
   rcases hO bm with q | ⟨rfl,_⟩ | q
   ·exact q
   ·rw [ha] at b3; cases b3; injection b4 with z; exact absurd z (by decide)
   ·rw [(hT bm q).1] at b3; cases b3; cases b4
  refine codeAny_mono ((F _ hKb (nsK hns) hB).run callerA [] s₁ H ⟨[.ref a],[]⟩ [.ref a] [.ref a] _ _ hr e0 (hbind s₁ (.ref a)) (.cons rfl .nil) (hsp H hH hS)) λ r s' h=>?_;cases r with
  | error e=>exact (hCX H e s' h).elim
  | ok fl=>
   cases fl with
   | next=>exact False.elim h
   | brk=>exact False.elim h
   | cont=>exact False.elim h
   | ret u=>
    obtain ⟨v,H',os,bare,un,hok',r',q⟩:=h;obtain ⟨q',hT'⟩:v = .bl true /\ _:=q;subst q';obtain rfl:u = Value.bool true:=r';have kept:∀ b o,s₁.heap.get? b = some o->b ∉ ts->s'.heap.get? b = some o:=λ b o e nb=>by
     rcases hO b with q | ⟨_,ob,xs,z⟩ | q
     ·exact un.keep b o e q (by intro z; exact absurd (show b ∈ ([]:List Addr) from z) (by simp)) (by simp)
     ·have z2:=un.frzs b ob _ z;obtain ⟨e1,_⟩:=hok b _ z;obtain ⟨e2,_⟩:=hok' b _ z2;rw [e] at e1; cases e1;exact e2
     ·exact absurd q nb
    have grown:∀ b ∈ ts,∃ l,s'.heap.get? b = some (tabObj (KC l)):=λ b hb=>by
     obtain ⟨l,z⟩:=hT' b hb;exact ⟨l,(show Z3 P w H' s'.heap b (.ext _) from hok' b _ z).1⟩
    refine ⟨rfl,⟨λ b o e=>?_,λ b o e=>?_⟩,os,bare⟩
    ·by_cases hb:b ∈ ts
     ·obtain ⟨l,z⟩:=grown b hb;rw [(hT b hb).1] at e;cases e;exact .inr (.inl ⟨(hT b hb).2.1,rfl,#[],KC l,rfl,by rw [z]; simp⟩)
     ·exact .inl (kept b o e hb)
    ·by_cases hb:b ∈ ts
     ·obtain ⟨l,z⟩:=grown b hb;exact ⟨_,z⟩
     ·exact ⟨o,kept b o e hb⟩
 have tabs:∀ {H:Hp} {b:Addr} {u:HO},b ∈ ts->some (HO.ext (VA b [])) = some u->Z3 P w H s₁.heap b u:=λ {H b u} hb z=>by
  cases z;exact F4 (hT b hb).1
 cases hk:K.lookup a with
 | some o=>
  have e:=KX a o hk;rw [ha] at e;cases e;refine core (λ b=>if b ∈ ts then some (.ext (VA b [])) else none) (λ b=>?_) (λ p hp=>if_pos hp) (.inr ⟨_,vs.toArray,_,hk,rfl,rfl,rfl,by rw [List.size_toArray,lenV]; exact hl,by simpa using rv⟩) (λ b u z=>?_) λ z=>absurd (if_neg na) z
  ·by_cases hb:b ∈ ts
   ·exact .inr (.inr hb)
   ·exact .inl (if_neg hb)
  ·by_cases hb:b ∈ ts
   ·exact tabs hb ((if_pos hb).symm.trans z)
   ·have z':=(if_neg hb).symm.trans z;cases z'
 | none=>
  refine core (λ b=>if b = a then some (.frz { cls:=.type "list",data:=.seq vs.toArray } (.lst (ns.map V.int))) else if b ∈ ts then some (.ext (VA b [])) else none) (λ b=>?_) (λ p hp=>?_) (.inl (.inr ⟨{ cls:=.type "list",data:=.seq vs.toArray },if_pos rfl⟩)) (λ b u z=>?_) λ _=>hk
  ·by_cases hb:b = a
   ·exact .inr (.inl ⟨hb,_,_,if_pos hb⟩)
   ·by_cases ht:b ∈ ts
    ·exact .inr (.inr ht)
    ·exact .inl ((if_neg hb).trans (if_neg ht))
  ·have n1:p ≠ a:=λ z=>na (z ▸ hp);exact (if_neg n1).trans (if_pos hp)
  ·by_cases hb:b = a
   ·have z':=(if_pos hb).symm.trans z;cases z';subst hb;exact ⟨ha,by rw [List.length_map]; exact hl,vs,_,rv,ha⟩
   ·have z':=(if_neg hb).symm.trans z
    by_cases ht:b ∈ ts
    ·exact tabs ht ((if_pos ht).symm.trans z')
    ·have z2:=(if_neg ht).symm.trans z';cases z2
theorem O6 {l:PySem.W.OpenLaw} {n k:Nat} {q:Program} {loose:List Str} {XP:(Str->Option Value)->Heap->Prop} {YP:World->Heap->Prop} {d:DefRec} {K:Params->Fk} {CX:World->CXT} {sp:World->Sp} {x:Str} {ts:List Addr}
  (hn:l.most = some n) (hn2:n <= sizeLine) (hdf:d.params.defaults = []) (hr:Jq k callerA)
  (hY:∀ (w:World) (h:Heap),YP w h->(K w.params).In h /\ ∀ p ∈ ts,h.get? p = some (tabObj #[]) /\ (∃ c,codeHdIn (K w.params) c p = true) /\ (K w.params).lookup p = none)
  (F:∀ (w:World) (mg:Str->Option Value) (fa:Addr) (h:Heap),(K w.params).In h->h.Ns mainGlobals mg->mg d.name = some (.ref fa) ->
   ∃ fd:FuncData,(∀ (s:Shared) (u:Value),BindsTo s fd ⟨[u],[]⟩ [(x,u)]) /\
    ∀ base:Heap,(K w.params).In base->base.Ns mainGlobals mg->BmB base mg->Qa l.prog w (K w.params) mg base (CX w) k fa fd [x] (sp w))
  (hsp:∀ (w:World) (H:Hp) (a:Addr) (ns:List Int),ns.length <= n->(∀ p ∈ ts,H p = some (.ext (VA p [])))->SqL (K w.params) H a (ns.map V.int)->sp w [.ref a] H (λ v H'=>v = .bl true /\ ∀ p ∈ ts,∃ l,H' p = some (.ext (VA p l))) λ _ _ _=>False)
  (hCX:∀ (w:World) (H:Hp) (s:Shared) (e:Value) (s':Shared),CX w [] H s (λ _ _ _=>False) e s'->False) :
  PySem.W.WalkO q loose XP YP l.row.toRowW d [] (λ f vs=>PySem.call f vs):=by
 refine Att.B6 hn hdf λ w s₀ s₁ mg mb fa o pm cd doc a vs ns G Y ho hd hcd hmg hobj hints hlen hg=>?_;obtain ⟨KX,hT⟩:=hY w _ Y;obtain ⟨fd,hb,hF⟩:=F w mg fa _ KX G.T.g hmg;exact FQ (ts:=ts) KX G.T.g G.T.b G.T.builtins G.T.nolimit hg hobj hints (Nat.le_trans hlen hn2) hr (let ⟨bm,ob,b1,b2,b3,b4,b5,b6⟩:=G.T.bmain; ⟨bm,ob,b1,b2,b3,b4,b5,b6⟩) hF hb (λ p hp=>⟨(hT p hp).1,let ⟨c,hc⟩:=(hT p hp).2.1; ((codeHd_of_K KX hc).tab (hT p hp).1).isCodeTable,(hT p hp).2.2⟩) (λ H hH hS=>hsp w H a ns hlen hH hS) λ H e s'=>hCX w H s₁ e s'
def GP (ts:List Addr):DSp:=λ xs M Φ=>∃ ns:List Int,xs = [.dat (.list (ns.map PyData.int))] /\ ns.length <= 63 /\ (∀ p ∈ ts,M p = some (.ext (VA p []))) /\ ∀ M',(∀ p ∈ ts,∃ l,M' p = some (.ext (VA p l)))->Φ (.dat (.bool true)) M'
theorem Ek {ts:List Addr} (hl:ns.length <= 63) (hH:∀ p ∈ ts,H p = some (.ext (VA p []))) (hS:SqL K H a (ns.map V.int)):lift K (GP ts) [.ref a] H (λ v H'=>v = .bl true /\ ∀ p ∈ ts,∃ l,H' p = some (.ext (VA p l))) λ _ _ _=>False:=by
 refine ⟨[.dat (.list (ns.map PyData.int))],λ b=>if b ∈ ts then some (.ext (VA b [])) else none,λ x M'=>x = .dat (.bool true) /\ ∀ p ∈ ts,∃ l,M' p = some (.ext (VA p l)),⟨λ b o e=>?_⟩,Paired.cons (Dt.lst ?_ (Dts.ints ns)) Paired.nil,⟨ns,rfl,hl,λ p hp=>if_pos hp,λ M' h=>⟨rfl,h⟩⟩,λ v H' x M' r' _ rv hx=>?_⟩
 ·by_cases hb:b ∈ ts
  ·have z:=(if_pos hb).symm.trans e;cases z;exact hH b hb
  ·have z:=(if_neg hb).symm.trans e;cases z
 ·rcases hS with h | h
  ·have n:a ∉ ts:=λ z=>by
    rcases h with h | ⟨ob,h⟩
    ·rw [hH a z] at h; cases h
    ·rw [hH a z] at h; cases h
   exact .inl ⟨if_neg n,h⟩
  ·exact .inr h
 ·obtain ⟨rfl,hx⟩:=hx;refine ⟨rv.bool,λ p hp=>?_⟩;obtain ⟨l,z⟩:=hx p hp;exact ⟨l,r'.ok p _ z⟩
def Gx (c:Addr) (q:Str) (h:Heap):Prop:=h.CodeRec (.ref c) q
def YC (f:Addr) (fd:FuncData) (h:Heap):Prop:=h.get? f = some { cls:=.type "function",data:=.func fd }
theorem ZbJ {q:Str} (x:Gx a q h):Z3 P w H h a (.ext (Gx a q)):=by
 obtain ⟨c,o,vs,t,e,h1,h2⟩:=id x;cases e;exact ⟨x,⟨_,h1⟩,λ _ _ ⟨c',o',vs',t',e',y,r⟩ k=>by cases e'; exact ⟨_,o',vs',t',rfl,k _ y,r⟩⟩
theorem Md (x:YC a fd h):Z3 P w H h a (.ext (YC a fd)):=⟨x,⟨_,x⟩,λ _ _ y k=>k _ y⟩
theorem HP (l:List (Pos × Addr)) (p:Pos) (c:Addr):KC (l ++ [(p,c)]) = KC l ++ #[rawInt p.line,rawInt p.col,.ref c]:=by
 unfold KC;rw [List.flatMap_append];simp
theorem B0:∀ l:List (Pos × Addr),TriplesOk (KC l).toList
 | []=>trivial
 | q :: l=>by
  have:=B0 l;show TriplesOk (rawInt q.1.line :: rawInt q.1.col :: .ref q.2 :: (KC l).toList);exact this
noncomputable abbrev Ds (X:Cx):Str:=X.env.qual ++ "<lambda>"
section
variable {params:Arguments} {body:Expr} {P:Addr} {YS:List (Str × Addr)}
theorem Zb9 (hcs:∀ q ∈ cl,X.env.cells.lookup q.1 = some q.2 /\ X.env.kindOf q.1 ≠ some .local /\ Vis X.env.scope q.1) (hcode:X.env.code = .ref c) (hC:codeHdIn X.K c P = true) (B:BmB X.base X.mg) (hdef:autoParam (defaultsOf params X.env = ([],[])) zz3._auto_1) (hcl:autoParam (closureFor scope X.env = pure YS) zz3._auto_1) :
  PE X (.Lambda params body scope pos) (λ _ H Q=>∃ l,H P = some (.ext (VA P l)) /\
   ((codeAmong pos (KC l).toList = none /\ ∀ c' f pm ct,H c' = none->H f = none->c' ≠ f->(∀ q ∈ cl,q.2 ≠ c' /\ q.2 ≠ f)->Q (.ref f) (upd (upd (upd H P (.ext (VA P (l ++ [(pos,c')])))) c' (.ext (Gx c' (Ds X)))) f (.ext (YC f (kla_fn "<lambda>" (Ds X) params body scope YS pm (.ref c') ct)))))
   \/ ∃ c',codeAmong pos (KC l).toList = some (.ref c') /\ ∀ f pm ct,H f = none->(∀ q ∈ cl,q.2 ≠ f)->Q (.ref f) (upd H f (.ext (YC f (kla_fn "<lambda>" (Ds X) params body scope YS pm (.ref c') ct)))))):=by
 intro pins s Z H Q I h;obtain ⟨l,hP,h⟩:=h;have xP:VA P l s.heap:=(show Z3 X.prog X.w H s.heap P (.ext _) from I.hok P _ hP).1;have hgs:s.heap.Ns mainGlobals X.mg:=I.mod.glob.keeps I.bk;have hgP:mainGlobals ≠ P:=λ q=>by
  obtain ⟨o,es,ep,e,hd,_⟩:=hgs;rw [q,xP] at e; cases e; cases hd
 have bat:s.heap.BuiltinsAt X.mg P:=by
  obtain ⟨bm,o,h1,h2,h4,h5,h6,h7⟩:=B;have e:=I.bk _ _ h4;refine ⟨bm,o,h1,h2,λ z=>?_,λ z=>?_,e,h5,h6,h7⟩
  ·obtain ⟨o',es,ep,e',hd,_⟩:=hgs;rw [z,e'] at e; cases e; rw [hd] at h7; cases h7
  ·rw [z,xP] at e; cases e; cases h5
 have low:∀ q ∈ cl,q.2 < s.heap.objs.size:=λ q hq=>by
  obtain ⟨v,o,ho,_⟩:=I.cell q.1 q.2 (hcs q hq).1;exact Heap.lt_size ho
 refine kla_eval hdef ?_
 rcases h with ⟨hn,h⟩ | ⟨c',hf,h⟩
 ·refine kla_makeFunction (mg:=X.mg) hcl I.ok.glob hgs hcode (codeHd_of_K I.kIn hC) xP (B0 l) hn hgP bat λ c' ctv h' tk hx hge hlt hrec htb=>?_;have hc1:H c' = none:=I.hok.fresh hge;have ncP:c' ≠ P:=λ z=>by rw [z,hP] at hc1; cases hc1
  have hf1:H h'.objs.size = none:=I.hok.fresh (Nat.le_trans hge (Nat.le_of_lt hlt));have e1:(s.heap.update P λ _=>tabObj (KC (l ++ [(pos,c')]))).get? P = some (tabObj (KC (l ++ [(pos,c')]))):=Heap.get?_update_self _ xP rfl;have I1:=I.write (x:=P) (e:=P) (o:=.ext (VA P (l ++ [(pos,c')]))) (h':=s.heap.update P λ _=>tabObj (KC (l ++ [(pos,c')]))) (t':=s.toks) (by rw [hP]; trivial) (.inl rfl) (λ b u nb e=>by rw [Heap.get?_update_other _ _ (Ne.symm nb)]; exact e) ⟨_,e1⟩ (F4 e1)
  have I2:=I1.laid (a:=c') (o:=.ext (Gx c' (Ds X))) (h':=h') (t':=tk) (λ b u e=>by
   by_cases nb:b = P
   ·subst nb;rw [show _ = _ from e1] at e;cases e;rw [htb,HP]
   ·rw [show ({ s with heap:=s.heap.update P λ _=>tabObj (KC (l ++ [(pos,c')])),toks:=s.toks }:Shared).heap.get? b = _ from Heap.get?_update_other _ _ (Ne.symm nb)] at e
    exact hx b u nb e) (by
   show (s.heap.update P _).objs.size <= c';rw [show (s.heap.update P λ _=>tabObj (KC (l ++ [(pos,c')]))).objs.size = s.heap.objs.size from Array.size_modify]
   exact hge) (ZbJ hrec)
  have I3:=I2.laid (a:=h'.objs.size) (o:=.ext (YC h'.objs.size (kla_fn "<lambda>" (Ds X) params body scope YS ((X.mg "__name__").getD .none) (.ref c') ctv))) (h':=h'.push (kla_obj "<lambda>" (Ds X) params body scope YS ((X.mg "__name__").getD .none) c' ctv)) (t':=tk) (λ b u e=>Heap.get?_push_of_some _ e) (Nat.le_refl _) (Md (Heap.get?_push_size _ rfl));exact ⟨.ref _,_,I3,rfl,h c' _ _ ctv hc1 hf1 (Nat.ne_of_lt hlt) λ q hq=>⟨Nat.ne_of_lt (Nat.lt_of_lt_of_le (low q hq) hge),Nat.ne_of_lt (Nat.lt_trans (Nat.lt_of_lt_of_le (low q hq) hge) hlt)⟩⟩
 ·refine kla_makeFunctionHit (mg:=X.mg) hcl I.ok.glob hgs hcode (codeHd_of_K I.kIn hC) xP (B0 l) hf bat λ ctv h' tk hk hsz=>?_;have I3:=I.laid (a:=h'.objs.size) (o:=.ext (YC h'.objs.size (kla_fn "<lambda>" (Ds X) params body scope YS ((X.mg "__name__").getD .none) (.ref c') ctv))) (h':=h'.push (kla_obj "<lambda>" (Ds X) params body scope YS ((X.mg "__name__").getD .none) c' ctv)) (t':=tk) (λ b u e=>Heap.get?_push_of_some _ (hk b u e)) hsz (Md (Heap.get?_push_size _ rfl));exact ⟨.ref _,_,I3,rfl,h _ _ ctv (I.hok.fresh hsz) λ q hq=>Nat.ne_of_lt (Nat.lt_of_lt_of_le (low q hq) hsz)⟩
end
def Zfq (c:Addr) (v:V) (h:Heap):Prop:=∃ u,h.IsCell c (some u) /\ RelV v u
def JT (c:Addr) (o:Obj) (h:Heap):Prop:=h.get? c = some o
def DH (o:Obj) (v:V):Prop:=∃ u,o.data = .cell (some u) /\ RelV v u
theorem O7 {o:Obj} (x:JT a o h):Z3 P w H h a (.ext (JT a o)):=⟨x,⟨_,x⟩,λ _ _ y k=>k _ y⟩
noncomputable def hole (H:Hp) (cs:List Addr):Hp:=λ b=>if b ∈ cs then none else H b
noncomputable def fill (H H':Hp) (cs:List Addr):Hp:=λ b=>if b ∈ cs then H b else H' b
theorem YL (h:b ∈ cs):hole H cs b = none:=if_pos h
theorem ZQ (h:b ∉ cs):hole H cs b = H b:=if_neg h
theorem L5 (h:b ∈ cs):fill H H' cs b = H b:=if_pos h
theorem Q6 (h:b ∉ cs):fill H H' cs b = H' b:=if_neg h
section
variable {base:Heap} {outer:List Env}
theorem FX (e0:Nn P w K mg base A outer s H) (hc:∀ c ∈ cs,∃ φ,H c = some (.ext φ)):Nn P w K mg base A outer s (hole H cs):=by
 have no:∀ b u,H b = some u->(∀ φ,u ≠ .ext φ)->b ∉ cs:=λ b u e n z=>by
  obtain ⟨φ,q⟩:=hc b z;rw [e] at q;exact n φ (Option.some.inj q)
 refine ⟨e0.frames,e0.mod,λ b o e=>⟨(e0.bs b o e).1,?_⟩,e0.bsz,e0.Cs,λ b hb=>?_,λ b u e=>?_,e0.bare⟩
 ·unfold hole
  split
  ·rfl
  ·exact (e0.bs b o e).2
 ·unfold hole
  split
  ·rfl
  ·exact e0.frf b hb
 ·have nb:b ∉ cs:=λ z=>by rw [YL z] at e; cases e
  rw [ZQ nb] at e;refine (e0.hok b u e).Fx (λ c v _ y=>y) (λ c y=>?_) λ c xs y=>?_
  ·rw [ZQ (no c _ y λ _ z=>nomatch z)]; exact y
  ·rw [ZQ (no c _ y λ _ z=>nomatch z)]; exact y
theorem To {fs:List Addr} (u:Un fs [] (hole H cs) H' h h') (hc:∀ c ∈ cs,(∃ φ,H c = some (.ext φ)) /\ c ∉ fs) (ok:HOk P w H h) (ok':HOk P w H' h'):Un fs [] H (fill H H' cs) h h' /\ HOk P w (fill H H' cs) h' /\ ∀ c ∈ cs,H' c = none:=by
 have no:∀ b u,H b = some u->(∀ φ,u ≠ .ext φ)->b ∉ cs:=λ b u e n z=>by
  obtain ⟨⟨φ,q⟩,_⟩:=hc b z;rw [e] at q;exact n φ (Option.some.inj q)
 have nn:∀ b,H b = none->b ∉ cs:=λ b e z=>by
  obtain ⟨⟨φ,q⟩,_⟩:=hc b z;rw [e] at q;cases q
 have free:∀ c ∈ cs,H' c = none:=λ c z=>by
  obtain ⟨⟨φ,q⟩,_⟩:=hc c z;obtain ⟨_,⟨o,e⟩,_⟩:=(show Z3 P w H h c (.ext φ) from ok c _ q)
  exact u.free c o e (YL z) (by simp)
 refine ⟨⟨λ b o e n hb hx=>u.keep b o e (by rw [ZQ (nn b n)]; exact n) hb hx,λ b o e n hb hx=>u.slot b o e (by rw [ZQ (nn b n)]; exact n) hb hx,λ b o e n hx=>?_,λ b o e hx=>u.there b o e hx,λ b xs q=>?_,λ b o v q=>?_,λ b ps q=>?_⟩,λ b v q=>?_,free⟩
 ·rw [Q6 (nn b n)];exact u.free b o e (by rw [ZQ (nn b n)]; exact n) hx
 ·have nb:=no b _ q λ _ z=>nomatch z;rw [Q6 nb];exact u.tups b xs (by rw [ZQ nb]; exact q)
 ·have nb:=no b _ q λ _ z=>nomatch z;rw [Q6 nb];exact u.frzs b o v (by rw [ZQ nb]; exact q)
 ·have nb:=no b _ q λ _ z=>nomatch z;rw [Q6 nb];exact u.tbls b ps (by rw [ZQ nb]; exact q)
 ·have back:∀ c v,H' c = some v->c ∉ cs:=λ c v y z=>by rw [free c z] at y; cases y
  by_cases z:b ∈ cs
  ·rw [L5 z] at q;obtain ⟨⟨φ,e⟩,nf⟩:=hc b z;rw [e] at q;cases q;obtain ⟨x1,⟨o,x2⟩,x3⟩:=(show Z3 P w H h b (.ext φ) from ok b _ e)
   have k:=u.keep b o x2 (YL z) nf (by simp);exact ⟨x3 h h' x1 λ o' e'=>by rw [x2] at e'; cases e'; exact k,⟨o,k⟩,x3⟩
  ·rw [Q6 z] at q;refine (ok' b v q).Fx (λ c v _ y=>y) (λ c y=>?_) λ c xs y=>?_
   ·rw [Q6 (back c _ y)]; exact y
   ·rw [Q6 (back c _ y)]; exact y
end
structure JJ (N ps fr:List Str) (sc:Scope):Prop where
 kind:sc.kind = .function
 co:sc.isCoroutine = false
 gen:sc.isGenerator = false
 nd:N.Nodup
 all:N = ps ++ fr
 par:∀ x ∈ ps,sc.names.lookup x = some .local
 fre:∀ x ∈ fr,sc.names.lookup x = some .free
 only:∀ y ∈ sc.names,y.2 = .free->y.1 ∈ fr
 nocell:∀ y ∈ sc.names,y.2 ≠ .cell
noncomputable def cxL (P:Program) (w:World) (K:Fk) (mg:Str->Option Value) (base:Heap) (N:List Str) (qual:Str) (scope:Scope) (f:Addr) (cd:Value) (cl:List (Str × Addr)) (A:Around) (outer:List Env) (s:Shared) (H:Hp):Cx where
 prog:=P
 w:=w
 K:=K
 mg:=mg
 base:=base
 A:=A.deeper (envX qual scope s.heap.objs.size f cd cl)
 N:=N
 s₀:=s
 H₀:=H
 env:=envX qual scope s.heap.objs.size f cd cl
 outer:=outer
 stack:=envX qual scope s.heap.objs.size f cd cl :: outer
 ex:=[]
 calm:=true
 fn:=λ _=>false
 pn:=[]
 xe:=λ _ _=>False
def Clo (h:Heap) (H:Hp) (fr:List Str) (cl:List (Str × Addr)) (cvs:List V):Prop:=cvs.length = fr.length /\ ∀ (i:Nat) (x:Str) (v:V),fr[i]? = some x->cvs[i]? = some v->∃ c,cl.lookup x = some c /\ H c = none /\ Zfq c v h
theorem Clo.at {fr:List Str} {cvs:List V} (C:Clo h H fr cl cvs) (hx:x ∈ fr):∃ v c,cl.lookup x = some c /\ H c = none /\ Zfq c v h:=by
 obtain ⟨i,hi,e⟩:=List.getElem_of_mem hx;have hj:i < cvs.length:=by rw [C.1]; exact hi
 obtain ⟨c,h1,h2,h3⟩:=C.2 i x cvs[i] (by rw [List.getElem?_eq_getElem hi,e]) (List.getElem?_eq_getElem hj);exact ⟨_,c,h1,h2,h3⟩
theorem Ec:∀ {ps:List Str} {us:List Value} {i:Nat},ps.Nodup->ps[i]? = some x->us[i]? = some u->(ps.zip us).reverse.lookup x = some u
 | [],_,_,_,h,_=>by simp at h
 | _ :: _,[],_,_,_,h=>by simp at h
 | p :: ps,w :: us,i,nd,h1,h2=>by
  rw [List.zip_cons_cons,List.reverse_cons,List.lookup_append];cases i with
  | zero=>
   simp at h1 h2;subst h1 h2;have n:(ps.zip us).reverse.lookup p = none:=by
    rw [List.lookup_eq_none_iff];intro q hq;have:=(List.of_mem_zip (a:=q.1) (b:=q.2) (List.mem_reverse.mp hq)).1;have ne:p ≠ q.1:=λ z=>(List.nodup_cons.mp nd).1 (z ▸ this)
    simpa using ne
   rw [n];simp
  | succ i=>
   rw [Ec (List.nodup_cons.mp nd).2 (by simpa using h1) (by simpa using h2)];rfl
section
variable {base:Heap} {ps fr:List Str} {cd:Value} {outer:List Env} {cvs:List V}
theorem EI {h':Heap} {tk:Nat} (S:JJ N ps fr scope) (hd:A.handled = none) (e0:Nn P w K mg base A outer s H) (hl:vs.length = ps.length) (r:Vals vs us) (C:Clo s.heap H fr cl cvs) (hinj:∀ x y c,cl.lookup x = some c->cl.lookup y = some c->x = y) (hfr:∀ x c,cl.lookup x = some c->x ∈ fr)
  (hns:h'.Ns s.heap.objs.size λ x=>(ps.zip us).reverse.lookup x) (hk:∀ b o,s.heap.get? b = some o->h'.get? b = some o):L2.Inv (cxL P w K mg base N qual scope f cd cl A outer s H) [] ((vs ++ cvs).map some) H { s with heap:=h',toks:=tk }:=by
 have noA:∀ b:Addr,b ∉ (cxL P w K mg base N qual scope f cd cl A outer s H).ex:=λ b z=>absurd (show b ∈ ([]:List Addr) from z) (by simp);have cell:∀ x c,cl.lookup x = some c->H c = none /\ ∃ v,s.heap.IsCell c v:=λ x c e=>by
  obtain ⟨v,c',h1,h2,u,h3,_⟩:=C.at (hfr x c e);rw [e] at h1;cases h1;exact ⟨h2,_,h3⟩
 refine ⟨⟨e0.mod,S.kind,rfl,rfl,Nat.le_refl _,hinj,λ y hy=>?_,λ y c z _=>(nomatch z),λ _=>hd,Around.frames_deeper e0.frames,.inr ⟨rfl,rfl⟩,λ b z=>absurd z (noA b),e0.bs,e0.bsz,λ b _ _=>noA b,λ b z=>absurd z (noA b),e0.Cs,e0.frf⟩,
  rfl,e0.bare,Un.kept hk,⟨_,hns,λ i y v h1 h2 h3=>?_⟩,λ y c e=>?_,e0.hok.fresh (Nat.le_refl _),λ y c e=>(cell y c e).1,λ p hp=>absurd (show p ∈ ([]:List (Addr × Obj)) from hp) (by simp),e0.hok.kept hk,?_⟩
 ·have hy:scope.names.lookup y = some .cell \/ scope.names.lookup y = some .free:=hy
  rcases hy with hy | hy
  ·exact absurd rfl (S.nocell _ (PySem.mem_of_lookup hy))
  ·obtain ⟨_,c,e,_⟩:=C.at (S.only _ (PySem.mem_of_lookup hy) rfl);exact ⟨c,e⟩
 ·have h1:N[i]? = some y:=h1;rw [S.all] at h1;have ndP:ps.Nodup:=(List.nodup_append.mp (S.all ▸ S.nd)).1
  by_cases hi:i < ps.length
  ·rw [List.getElem?_append_left hi] at h1;rw [List.map_append,List.getElem?_append_left (by rw [List.length_map]; lia),List.getElem?_map] at h2;have ha:vs[i]? = some v:=by
    cases e:vs[i]? with
    | none=>rw [e] at h2; cases h2
    | some a=>rw [e] at h2; cases h2; rfl
   obtain ⟨u,hu,rv⟩:=r.get ha;exact ⟨u,rv,.inl ⟨S.par y (List.mem_of_getElem? h1),Ec ndP h1 hu⟩⟩
  ·rw [List.getElem?_append_right (by lia)] at h1;rw [List.map_append,List.getElem?_append_right (by rw [List.length_map]; lia),List.getElem?_map,List.length_map,hl] at h2;have ha:cvs[i - ps.length]? = some v:=by
    cases e:cvs[i - ps.length]? with
    | none=>rw [e] at h2; cases h2
    | some a=>rw [e] at h2; cases h2; rfl
   obtain ⟨c,e,_,u,hc,rv⟩:=C.2 _ y v h1 ha;exact ⟨u,rv,.inr ⟨.inr (S.fre y (List.mem_of_getElem? h1)),c,e,hc.keeps hk⟩⟩
 ·obtain ⟨_,v,hv⟩:=cell y c e;exact ⟨v,hv.keeps hk⟩
 ·rw [List.length_map,List.length_append,hl,C.1];show _ = N.length;rw [S.all,List.length_append]
theorem ZcJ {k:Nat} {c':Addr} {params:Arguments} {body:Expr} {pm ct:Value} {sp:List V->List V->Hp->VK->Prop} (S:JJ N ps fr scope) (hinj:∀ x y c,cl.lookup x = some c->cl.lookup y = some c->x = y) (hfr:∀ x c,cl.lookup x = some c->x ∈ fr) (hnd:∀ q ∈ cl,cl.lookup q.1 = some q.2)
  (hbody:∀ (A:Around) (outer:List Env) (s:Shared) (H:Hp) (vs cvs:List V) (Q:VK),Jq k (A.deeper (envX qual scope s.heap.objs.size f (.ref c') cl))->sp vs cvs H Q ->
   ∃ t,PE (cxL P w K mg base N qual scope f (.ref c') cl A outer s H) body t /\ t ((vs ++ cvs).map some) H Q) :
  Qa P w K mg base CX0 (k + 1) f (kla_fn "<lambda>" qual params body scope cl pm (.ref c') ct) ps (λ vs H Q _=>vs.length = ps.length /\ H f = some (.ext (YC f (kla_fn "<lambda>" qual params body scope cl pm (.ref c') ct))) /\ H c' = some (.ext (Gx c' qual)) /\
   ∃ cvs:List V,cvs.length = fr.length /\ (∀ (i:Nat) (x:Str) (v:V),fr[i]? = some x->cvs[i]? = some v->∃ c o,cl.lookup x = some c /\ H c = some (.ext (JT c o)) /\ DH o v) /\ sp vs cvs (hole H (cl.map (·.2))) (λ v H'=>(∀ c ∈ cl.map (·.2),H' c = none)->Q v (fill H H' (cl.map (·.2))))):=by
 refine ⟨λ vs H Q E h=>h.1,λ A outer s H args us vs Q E hr e0 hb r hsp=>?_⟩;obtain ⟨hl,hF,hC,cvs,hcl,hcv,hsp⟩:=hsp;have KX:K.In s.heap:=e0.mod.kin.keeps λ b o e=>(e0.bs b o e).1;have lim:s.heap.NoLimit:=e0.mod.nolimit.keeps λ b o e=>(e0.bs b o e).1;have xF:YC f _ s.heap:=(show Z3 P w H s.heap f (.ext _) from e0.hok f _ hF).1;have xC:Gx c' qual s.heap:=(show Z3 P w H s.heap c' (.ext _) from e0.hok c' _ hC).1;have tr:∀ c ∈ cl.map (·.2),(∃ φ,H c = some (.ext φ)) /\ c ∉ frs outer:=λ c hc=>by
  obtain ⟨q,hq,rfl⟩:=List.mem_map.mp hc;have e:=hnd q hq;obtain ⟨i,hi,ei⟩:=List.getElem_of_mem (hfr _ _ e);obtain ⟨c,_,h1,h2,_⟩:=hcv i q.1 (cvs[i]'(by rw [hcl]; exact hi)) (by rw [List.getElem?_eq_getElem hi,ei]) (List.getElem?_eq_getElem _);rw [e] at h1;cases h1;exact ⟨⟨_,h2⟩,λ z=>by rw [e0.frf _ z] at h2; cases h2⟩
 have e1:=FX (cs:=cl.map (·.2)) e0 λ c hc=>(tr c hc).1
 have CL:Clo s.heap (hole H (cl.map (·.2))) fr cl cvs:=⟨hcl,λ i x v h1 h2=>by
  obtain ⟨c,o,e,hc,u,hu,ru⟩:=hcv i x v h1 h2
  exact ⟨c,e,YL (List.mem_map.mpr ⟨(x,c),PySem.mem_of_lookup e,rfl⟩),u,⟨o,(show Z3 P w H s.heap c (.ext _) from e0.hok c _ hc).1,hu⟩,ru⟩⟩
 refine kla_callFunE hr.depth xF rfl S.co S.gen rfl xC (hb _ _ _ _ ?_);refine wpAny_newFunctionEnv S.nocell (λ y hy=>S.par y.1 (List.of_mem_zip (a:=y.1) (b:=y.2) hy).1) (λ h1 hns hsb=>?_) S.kind;have hk:∀ b o,s.heap.get? b = some o->h1.get? b = some o:=λ b o e=>hsb.extBut b o (Nat.ne_of_lt (Heap.lt_size e)) (Heap.get?_push_of_some _ e);refine ⟨lim.keeps hk,?_⟩;obtain ⟨t,ht,hq⟩:=hbody A outer s (hole H (cl.map (·.2))) vs cvs _ (hr.deeper _) hsp;have I:=EI (P:=P) (w:=w) (qual:=qual) (f:=f) (cd:=.ref c') (tk:=s.toks + (ps.zip us).length) S hr.hd e1 hl r CL hinj hfr hns hk;refine kla_codeExpr (wpAny_mono (ht [] _ _ _ _ I hq) (λ u s' hs=>?_) λ e s' hs=>hs.elim);obtain ⟨v,H',J,rv,q⟩:=hs;obtain ⟨u1,u2,u3⟩:=To (P:=P) (w:=w) (cs:=cl.map (·.2)) J.base tr e0.hok J.hok;exact ⟨v,_,J.os,J.bare,u1,u2,rv,q u3⟩
end
end DL
namespace DL
open PySem.W PySem.Calls
theorem Lr {M:Model} (h:Heap) (x:∃ fd,YC f fd h):∃ k,(k = Keeper.frame \/ k = Keeper.machine \/ k = Keeper.boundFrame) /\ Looks M h (keeperOf (.ref f)) k:=by
 obtain ⟨fd,e⟩:=x;refine ⟨.frame,.inl rfl,?_⟩;intro A' Q' E' s' k q;unfold keeperOf;exact wpAny_bind (wpAny_load (k _ _ e) (wpAny_pure q))
section
variable {p:Pos} {tx:TE} {t:TA} {k0:Nat}
theorem NU (hv:PE X (.Name x p) tx) (ha:PA X (e :: es) t) (hr:Jq k0 X.A) (he:autoParam (starEach (e :: es) X.env = (false,eval e X.env) :: starEach es X.env) zz3._auto_1) (hpl:autoParam ((backTo pos (starEach es X.env)).any (·.1) = false) zz3._auto_1) :
  PE X (.Call (.Name x p) (e :: es) [] pos) (λ Z H Q=>tx Z H λ v H1=>∃ f fd ps sp k,v = .ref f /\ k <= k0 /\ Qa X.prog X.w X.K X.mg X.base CX0 k f fd ps sp /\ (∀ (s:Shared) (us:List Value),us.length = ps.length->BindsTo s fd ⟨us,[]⟩ (ps.zip us)) /\
   t Z H1 λ vs H2=>H2 f = some (.ext (YC f fd)) /\ sp vs H2 Q λ _ _ _=>False):=by
 intro pins s Z H Q I h;refine wpAny_Call_Name_kw (thn (hv pins s Z H _ I h) λ u s1 ⟨v,H1,I1,rv,f,fd,ps,sp,k,ev,hk,F,hb,h1⟩=>?_);subst ev;obtain rfl:u = Value.ref f:=rv;have ha':=ha pos pins s1 Z H1 _ I1 h1;rw [he] at ha' ⊢;refine callWith_of (P:=λ h=>∃ fd,YC f fd h) (by show ((false || (backTo pos (starEach es X.env)).any (·.1)) || false) = false; rw [hpl]; rfl) Lr (evalArgs_plain (thn ha' λ us s2 ⟨vs,H2,I2,r,hF,q⟩=>⟨⟨fd,(show Z3 X.prog X.w H2 s2.heap f (.ext _) from I2.hok f _ hF).1⟩,?_⟩));have hl:us.length = ps.length:=by rw [<- r.length]; exact F.len _ _ _ _ q
 refine wpAny_call (codeAny_mono (F.run X.A X.stack s2 H2 ⟨[] ++ us,[]⟩ us vs Q _ (hr.mono hk) I2.Zg5 (hb s2 us hl) r q) λ r s' hq=>?_);cases r with
 | error e=>exact False.elim hq
 | ok fl=>
  cases fl with
  | ret u=>exact I2.after hq
  | next=>exact False.elim hq
  | brk=>exact False.elim hq
  | cont=>exact False.elim hq
def Zdb (X:Cx) (k0:Nat) (tx:DTE) (t:DTA):DTE:=λ Δ M Φ=>tx Δ M λ y M1=>onO y λ f=>∃ fd ps S k,k <= k0 /\ Qa X.prog X.w X.K X.mg X.base CX0 k f fd ps (lift X.K S) /\ (∀ (s:Shared) (us:List Value),us.length = ps.length->BindsTo s fd ⟨us,[]⟩ (ps.zip us)) /\
 t Δ M1 λ xs M2=>M2 f = some (.ext (YC f fd)) /\ S xs M2 Φ
theorem N5 {tx:DTE} {t:DTA} (hv:DE X (.Name x p) tx) (ha:DA X (e :: es) t) (hr:Jq k0 X.A) (he:autoParam (starEach (e :: es) X.env = (false,eval e X.env) :: starEach es X.env) zz3._auto_1) (hpl:autoParam ((backTo pos (starEach es X.env)).any (·.1) = false) zz3._auto_1) :
  DE X (.Call (.Name x p) (e :: es) [] pos) (Zdb X k0 tx t):=by
 obtain ⟨t1,p1,q1⟩:=hv;obtain ⟨t2,p2,q2⟩:=ha;refine ⟨_,NU p1 p2 hr he hpl,λ Z H Δ M Φ Q r er h kk=>?_⟩;refine q1 Z H Δ M _ _ r er h λ v H1 y M1 r1 st rv hy=>?_;obtain ⟨f,rfl,fd,ps,S,k,hk,F,hb,hy⟩:=ZW hy;cases (show v = .ref f from rv);refine ⟨f,fd,ps,_,k,rfl,hk,F,hb,q2 Z H1 Δ M1 _ _ r1 (er.step st) hy λ vs H2 xs M2 r2 st2 rvs hx=>⟨r2.ok f _ hx.1,xs,M2,Φ,r2,rvs,hx.2,λ v' H' y' M' r' st' rv' hΦ=>kk v' H' y' M' r' ((st.trans st2).trans st') rv' hΦ⟩⟩
end
noncomputable def lend (H:Hp) (cs:List Addr) (ob:Addr->Obj):Hp:=λ b=>if b ∈ cs then some (.ext (JT b (ob b))) else H b
theorem Fj {ob:Addr->Obj} (h:b ∈ cs):lend H cs ob b = some (.ext (JT b (ob b))):=if_pos h
theorem Qj {ob:Addr->Obj} (h:b ∉ cs):lend H cs ob b = H b:=if_neg h
section
variable {base:Heap} {outer:List Env} {s':Shared} {ob:Addr->Obj}
theorem FA (e0:Nn P w K mg base A outer s H) (hc:∀ c ∈ cs,H c = none /\ base.get? c = none /\ c ∉ frs outer /\ s.heap.get? c = some (ob c)):Nn P w K mg base A outer s (lend H cs ob):=by
 have no:∀ b u,H b = some u->b ∉ cs:=λ b u e z=>by
  rw [(hc b z).1] at e; cases e
 refine ⟨e0.frames,e0.mod,λ b o e=>⟨(e0.bs b o e).1,?_⟩,e0.bsz,e0.Cs,λ b hb=>?_,λ b u e=>?_,e0.bare⟩
 ·rw [Qj λ z=>by rw [(hc b z).2.1] at e; cases e];exact (e0.bs b o e).2
 ·rw [Qj λ z=>(hc b z).2.2.1 hb];exact e0.frf b hb
 ·by_cases z:b ∈ cs
  ·rw [Fj z] at e;cases e;exact O7 (hc b z).2.2.2
  ·rw [Qj z] at e;refine (e0.hok b u e).Fx (λ c v _ y=>y) (λ c y=>?_) λ c xs y=>?_
   ·rw [Qj (no c _ y)]; exact y
   ·rw [Qj (no c _ y)]; exact y
theorem Zbf {Q:VK} {u:Value} (hc:∀ c ∈ cs,H c = none /\ base.get? c = none /\ c ∉ frs outer /\ s.heap.get? c = some (ob c))
  (h:CE outer P w (lend H cs ob) s (λ v H'=>(∀ c ∈ cs,H' c = some (.ext (JT c (ob c)))) /\ Q v (hole H' cs)) u s'):CE outer P w H s Q u s':=by
 obtain ⟨v,H',os,bare,un,hok,r,hb,q⟩:=h;have no:∀ b u,H b = some u->b ∉ cs:=λ b u e z=>by
  rw [(hc b z).1] at e; cases e
 have no':∀ b u,H' b = some u->(∀ φ,u ≠ .ext φ)->b ∉ cs:=λ b u e n z=>by
  rw [hb b z] at e;exact n _ (Option.some.inj e).symm
 refine ⟨v,hole H' cs,os,bare,⟨λ b o e n hf hx=>?_,λ b o e n hf hx=>?_,λ b o e n hx=>?_,λ b o e hx=>un.there b o e hx,λ b xs e=>?_,λ b o x e=>?_,λ b ps e=>?_⟩,λ b x e=>?_,r,q⟩
 ·by_cases z:b ∈ cs
  ·have k:JT b (ob b) s'.heap:=(show Z3 P w H' s'.heap b (.ext _) from hok b _ (hb b z)).1;rw [(hc b z).2.2.2] at e;cases e;exact k
  ·exact un.keep b o e (by rw [Qj z]; exact n) hf hx
 ·have z:b ∉ cs:=λ z=>(hc b z).2.2.1 hf;exact un.slot b o e (by rw [Qj z]; exact n) hf hx
 ·by_cases z:b ∈ cs
  ·exact YL z
  ·rw [ZQ z];exact un.free b o e (by rw [Qj z]; exact n) hx
 ·have z:=no b _ e;rw [ZQ z];exact un.tups b xs (by rw [Qj z]; exact e)
 ·have z:=no b _ e;rw [ZQ z];exact un.frzs b o x (by rw [Qj z]; exact e)
 ·have z:=no b _ e;rw [ZQ z];exact un.tbls b ps (by rw [Qj z]; exact e)
 ·have z:b ∉ cs:=λ z=>by rw [YL z] at e; cases e
  rw [ZQ z] at e;refine (hok b x e).Fx (λ c v _ y=>y) (λ c y=>?_) λ c xs y=>?_
  ·rw [ZQ (no' c _ y λ _ z=>nomatch z)]; exact y
  ·rw [ZQ (no' c _ y λ _ z=>nomatch z)]; exact y
end
section
variable {p:Pos} {t:TA} {k:Nat} {g:Addr} {ps:List Str} {sp:Sp}
theorem BV (F:Qa X.prog X.w X.K X.mg X.base CX0 k g fd ps sp) (hr:Jq k X.A) (hg:Gl X x) (hm:X.mg x = some (.ref g)) (hk:PySem.W.keepIn X.K (.ref g) = true) (hb:Binds X.K fd ps [])
  (hcl:∀ q ∈ cl,X.env.cells.lookup q.1 = some q.2 /\ X.env.kindOf q.1 ≠ some .local /\ Vis X.env.scope q.1) (ha:PA X (e :: es) t)
  (hdb:autoParam ((x == ("__debug__" : Str)) = false) zz1._auto_1) (he:autoParam (starEach (e :: es) X.env = (false,eval e X.env) :: starEach es X.env) zz3._auto_1) (hpl:autoParam ((backTo pos (starEach es X.env)).any (·.1) = false) zz3._auto_1) :
  PE X (.Call (.Name x p) (e :: es) [] pos) (λ Z H Q=>(∀ q ∈ cl,X.base.get? q.2 = none /\ q.2 ∉ frs X.stack) /\ t Z H λ vs H1=>∀ ob:Addr->Obj,(∀ c ∈ cl.map (·.2),H1 c = none)->(∀ q ∈ cl,∀ (i:Nat) (v:V),X.N[i]? = some q.1->Z[i]? = some (some v)->DH (ob q.2) v) ->
   sp vs (lend H1 (cl.map (·.2)) ob) (λ v H'=>(∀ c ∈ cl.map (·.2),H' c = some (.ext (JT c (ob c)))) /\ Q v (hole H' (cl.map (·.2)))) λ _ _ _=>False):=by
 intro pins s Z H Q I ⟨hob,h⟩;refine wpAny_Call_Name_kw (CH I hg hm ?_ hdb);refine PySem.W.callWith_K (h₀:=X.base) I.ok.mod.kin hk (thn (ha pos pins s Z H _ I h) λ us s1 ⟨vs,H1,I1,r,q⟩=>⟨I1.kIn,?_⟩) he hpl;have hc:∀ c ∈ cl.map (·.2),H1 c = none /\ X.base.get? c = none /\ c ∉ frs X.stack /\ s1.heap.get? c = some ((s1.heap.get? c).getD default):=λ c hc=>by
  obtain ⟨q',hq,rfl⟩:=List.mem_map.mp hc;obtain ⟨v,o,ho,_⟩:=I1.cell q'.1 q'.2 (hcl q' hq).1;exact ⟨I1.freeC _ _ (hcl q' hq).1,(hob q' hq).1,(hob q' hq).2,by rw [ho]; rfl⟩
 have q:=q (λ c=>(s1.heap.get? c).getD default) (λ c z=>(hc c z).1) λ q' hq i v h1 h2=>by
  obtain ⟨m,hn,hl⟩:=I1.loc;obtain ⟨u,ru,l⟩:=hl i q'.1 v h1 h2 (hcl q' hq).2.2
  rcases l with ⟨l,_⟩ | ⟨_,c,e1,o,e2,e3⟩
  ·exact absurd l (hcl q' hq).2.1
  ·rw [(hcl q' hq).1] at e1;cases e1;exact ⟨u,by rw [e2]; exact e3,ru⟩
 have hl:us.length = ps.length:=by rw [<- r.length]; exact F.len _ _ _ _ q
 refine wpAny_call (codeAny_mono (F.run X.A X.stack s1 _ ⟨us,[]⟩ us vs _ _ hr (FA I1.Zg5 hc) (by have:=hb s1 us I1.kIn (by simpa using hl); simpa using this) r q) λ r s' hq=>?_);cases r with
 | error e=>exact False.elim hq
 | ok fl=>
  cases fl with
  | ret u=>exact I1.after (Zbf (base:=X.base) hc hq)
  | next=>exact False.elim hq
  | brk=>exact False.elim hq
  | cont=>exact False.elim hq
end
def Under (base:Heap) (outer:List Env) (s:Shared):Prop:=base.objs.size <= s.heap.objs.size /\ ∀ b ∈ frs outer,b < s.heap.objs.size
theorem ZdU {CX:CXT} {P:Program} {w:World} {K:Fk} {mg:Str->Option Value} {base:Heap} {k:Nat} {f:Addr} {name qual:Str} {params:Arguments} {body:List Stmt} {scope:Scope} {dV kV doc pm cdv ct oc:Value} {an od:Option Addr}
  {osl:Array (Option Value)} {N ps:List Str} {sp:Sp} (lk:K.lookup f = some ⟨oc,od,.func (PySem.W.fnOf name qual params body scope dV kV doc pm an cdv ct),osl⟩) (hcd:PySem.W.codeIn K cdv qual = true) (S:Zm N ps scope)
  (len:∀ vs H Q E,sp vs H Q E->vs.length = ps.length)
  (hbody:∀ (A:Around) (outer:List Env) (s:Shared) (H:Hp) (vs:List V) (Q:VK) (E:XK),Jq k (A.deeper (envOfC qual scope s.heap.objs.size f cdv))->Under base outer s->sp vs H Q E ->
   ∃ t,PSs (Fc CX P w K mg base N qual scope f cdv A outer s H E) body t /\ t { nx:=λ _ H'=>Q .non H',rt:=Q } (start N vs) H) :
  Qa P w K mg base CX (k + 1) f (PySem.W.fnOf name qual params body scope dV kV doc pm an cdv ct) ps sp:=by
 refine ⟨len,λ A outer s H args us vs Q E hr e0 hb r hsp=>?_⟩;have hu:Under base outer s:=⟨e0.bsz,λ b hb=>let ⟨_,_,ho,_⟩:=e0.Cs.mem hb; Heap.lt_size ho⟩
 have hl:=len _ _ _ _ hsp;have KX:K.In s.heap:=e0.mod.kin.keeps λ b o e=>(e0.bs b o e).1;have lim:s.heap.NoLimit:=e0.mod.nolimit.keeps λ b o e=>(e0.bs b o e).1;have hkind:∀ y ∈ ps.zip us,scope.names.lookup y.1 = some .local \/ (scope.names.lookup y.1 = some .cell /\ ((cellsFrom (s.heap.objs.size + 1) scope.names []).lookup y.1).isSome = true):=λ ⟨n,v⟩ hy=>by
  rcases S.par n (List.of_mem_zip hy).1 with q | q
  ·exact .inl q
  ·exact .inr ⟨q,PySem.W.cellsFrom_some _ _ _ (.inl q)⟩
 refine codeAny_call_function hr.depth (KX _ _ lk) rfl S.co S.gen rfl (PySem.W.codeRec_of KX hcd) (hb _ _ _ _ ?_);refine wpAny_newFunctionEnv_cells S.kind hkind λ env he s1 x=>?_;subst he;refine ⟨lim.keeps x.toInCall.keep,codeAny_func ?_⟩;obtain ⟨t,ht,hq⟩:=hbody A outer s H vs Q E (hr.deeper _) hu hsp;have I:L2.Inv (Fc CX P w K mg base N qual scope f cdv A outer s H E) [] (start N vs) H s1:=Gr S hr.hd e0 hl r x;refine wpAny_mono (ht [] s1 (start N vs) H _ I hq) (λ fl s' hs=>?_) λ e s' hs=>hs;have fin:∀ {σ':L2.St} {H':Hp} {v:V} {u:Value},L2.Inv (Fc CX P w K mg base N qual scope f cdv A outer s H E) [] σ' H' s'->RelV v u->Q v H'->CE outer P w H s Q u s':=
  λ {σ' H' v u} J rv q=>⟨v,H',J.os,J.bare,J.base,J.hok,rv,q⟩
 cases fl with
 | ret u=>
  obtain ⟨v,σ',H',J,rv,q⟩:=hs;exact fin J rv q
 | next=>
  obtain ⟨σ',H',J,q⟩:=hs;exact fin (v:=V.non) (u:=Value.none) J rfl q
 | brk=>
  obtain ⟨_,_,_,q⟩:=hs;exact False.elim q
 | cont=>
  obtain ⟨_,_,_,q⟩:=hs;exact False.elim q
theorem okL {P:Program} {w:World} {mg:Str->Option Value} {base:Heap} {ps:List Str} {k:Nat} {S:DSp} (F:Fun K x qual st f fd) (Sc:Zm N ps (Zf st)) (len:∀ xs M Φ,S xs M Φ->xs.length = ps.length)
  (hbody:∀ (A:Around) (outer:List Env) (s:Shared) (H:Hp) (E:XK),Jq k (A.deeper (envOfC qual (Zf st) s.heap.objs.size f fd.code))->Under base outer s ->
   ∃ τ,DSs (Fc CX0 P w K mg base N qual (Zf st) f fd.code A outer s H E).nox (Qr st) τ /\ ∀ xs M Φ,S xs M Φ->τ { nx:=λ _ M'=>gc Φ (.dat .none) M',rt:=gc Φ } (J2 N xs) M):Qa P w K mg base CX0 (k + 1) f fd ps (lift K S):=by
 obtain ⟨oc,od,kV,doc,pm,an,cdv,ct,osl,rfl,lk,hcd⟩:=F.ex;refine ZdU lk hcd Sc (λ vs H Q E h=>?_) λ A outer s H vs Q E hr hu h=>?_
 ·obtain ⟨xs,M,Φ,_,rv,hs,_⟩:=h;rw [Paired.length rv];exact len xs M Φ hs
 ·obtain ⟨xs,M,Φ,r,rv,hs,kk⟩:=h;obtain ⟨τ,⟨t,p,q⟩,hτ⟩:=hbody A outer s H E hr hu;refine ⟨t,PSs.nox p,q (start N vs) H (J2 N xs) M _ _ r (QV.start rv) (hτ xs M Φ hs) ⟨λ σ' H' Δ' M' r' st' e' hn=>?_,DM kk,λ _ _ _ _ _ _ _ h=>h.elim,λ _ _ _ _ _ _ _ h=>h.elim⟩⟩;exact (DM kk).dat r' st' Dt.non hn
def JW (o:Obj):DV->Prop
 | .dat (.int n)=>∃ t,o.data = .cell (some (.int n t))
 | .dat (.str s)=>∃ t,o.data = .cell (some (.str s t))
 | .own a=>o.data = .cell (some (.ref a))
 | _=>False
noncomputable def dvV:DV->V
 | .dat (.int n)=>.int n
 | .dat (.str s)=>.str s
 | .own a=>.ref a
 | _=>.non
def SmD:DV->Prop
 | .dat (.int _)=>True
 | .dat (.str _)=>True
 | .own _=>True
 | _=>False
theorem Zau {o:Obj} {x:DV} (h:JW o x):DH o (dvV x):=by
 cases x with
 | own a=>exact ⟨_,h,rfl⟩
 | ty n=>exact h.elim
 | mix xs=>exact h.elim
 | dat d=>
  cases d with
  | int n=>obtain ⟨t,h⟩:=h; exact ⟨_,h,t,rfl⟩
  | str s=>obtain ⟨t,h⟩:=h; exact ⟨_,h,t,rfl⟩
  | _=>exact h.elim
theorem Pr {o:Obj} {x:DV} (h:JW o x):Ql K M H (dvV x) x:=by
 cases x with
 | own a=>rfl
 | ty n=>exact h.elim
 | mix xs=>exact h.elim
 | dat d=>
  cases d with
  | int n=>exact Dt.int n
  | str s=>exact Dt.str s
  | _=>exact h.elim
theorem TZ {o:Obj} {x:DV} (h:DH o v) (r:Ql K M H v x) (s:SmD x):JW o x:=by
 obtain ⟨u,e,ru⟩:=h;cases x with
 | own a=>cases (show v = .ref a from r); rw [show u = Value.ref a from ru] at e; exact e
 | ty n=>exact s.elim
 | mix xs=>exact s.elim
 | dat d=>
  cases d with
  | int n=>cases (show v = .int n from Ql.int r); obtain ⟨t,rfl⟩:=ru; exact ⟨t,e⟩
  | str z=>cases (show v = .str z from Ql.str r); obtain ⟨t,rfl⟩:=ru; exact ⟨t,e⟩
  | _=>exact s.elim
noncomputable def Ke (M:Mp) (cs:List Addr) (ob:Addr->Obj):Mp:=λ b=>if b ∈ cs then some (.ext (JT b (ob b))) else M b
noncomputable def JZ (M:Mp) (cs:List Addr):Mp:=λ b=>if b ∈ cs then none else M b
noncomputable def XM (M M':Mp) (cs:List Addr):Mp:=λ b=>if b ∈ cs then M b else M' b
theorem QA {ob:Addr->Obj} (h:b ∈ cs):Ke M cs ob b = some (.ext (JT b (ob b))):=if_pos h
theorem Qg {ob:Addr->Obj} (h:b ∉ cs):Ke M cs ob b = M b:=if_neg h
theorem Dh (h:b ∈ cs):JZ M cs b = none:=if_pos h
theorem Vi (h:b ∉ cs):JZ M cs b = M b:=if_neg h
theorem K0 {ob:Addr->Obj} (h:∀ c ∈ cs,M c = none):JZ (Ke M cs ob) cs = M:=by
 funext b
 by_cases z:b ∈ cs
 ·rw [Dh z,h b z]
 ·rw [Vi z,Qg z]
theorem Oc (h:b ∈ cs):XM M M' cs b = M b:=if_pos h
theorem GG (h:b ∉ cs):XM M M' cs b = M' b:=if_neg h
section
variable {ob:Addr->Obj}
theorem BS (hc:∀ c ∈ cs,H c = none):Step M H (Ke M cs ob) (lend H cs ob):=
 ⟨λ b o n e=>by rw [Qj λ z=>by rw [hc b z] at e; cases e]; exact e,λ b o n e=>by rw [Qg λ z=>by rw [hc b z] at e; cases e]; exact n⟩
theorem T8 (r:ZF K M H) (hc:∀ c ∈ cs,H c = none):ZF K (Ke M cs ob) (lend H cs ob):=⟨λ b o e=>by
 by_cases z:b ∈ cs
 ·rw [QA z] at e;cases e;exact Fj z
 ·rw [Qg z] at e
  exact (r.ok b o e).step (BS hc) λ u hu=>by rw [Qj z]; exact hu⟩
theorem Ki (hc:∀ c ∈ cs,M c ≠ none):Step M H (JZ M cs) (hole H cs):=
 ⟨λ b o n e=>by rw [ZQ λ z=>hc b z n]; exact e,λ b o n e=>by rw [Vi λ z=>hc b z n]; exact n⟩
theorem Lv (r:ZF K M H) (hc:∀ c ∈ cs,M c ≠ none):ZF K (JZ M cs) (hole H cs):=⟨λ b o e=>by
 have z:b ∉ cs:=λ z=>by rw [Dh z] at e; cases e
 rw [Vi z] at e
 exact (r.ok b o e).step (Ki hc) λ u hu=>by rw [ZQ z]; exact hu⟩
theorem Cm (hc:∀ c ∈ cs,H' c = none):Step M' H' (XM M M' cs) (fill H H' cs):=
 ⟨λ b o n e=>by rw [Q6 λ z=>by rw [hc b z] at e; cases e]; exact e,λ b o n e=>by rw [GG λ z=>by rw [hc b z] at e; cases e]; exact n⟩
theorem Zby (r:ZF K M' H') (hc:∀ c ∈ cs,H' c = none) (hm:∀ c ∈ cs,∃ φ,M c = some (.ext φ) /\ H c = some (.ext φ)):ZF K (XM M M' cs) (fill H H' cs):=⟨λ b o e=>by
 by_cases z:b ∈ cs
 ·rw [Oc z] at e;obtain ⟨φ,h1,h2⟩:=hm b z;rw [h1] at e;cases e;show fill H H' cs b = _;rw [L5 z];exact h2
 ·rw [GG z] at e
  exact (r.ok b o e).step (Cm hc) λ u hu=>by rw [Q6 z]; exact hu⟩
end
section
variable {p:Pos} {t:DTA} {k:Nat} {g:Addr} {ps:List Str} {S:DSp}
def Xz (base:Heap) (stack:List Env) (N:List Str) (cl:List (Str × Addr)) (S:DSp) (t:DTA):DTE:=λ Δ M Φ=>(∀ q ∈ cl,base.get? q.2 = none /\ q.2 ∉ frs stack) /\ t Δ M λ xs M1=>∀ ob:Addr->Obj,(∀ c ∈ cl.map (·.2),M1 c = none)->(∀ q ∈ cl,∀ (i:Nat) (y:DV),N[i]? = some q.1->Δ[i]? = some (some y)->SmD y->JW (ob q.2) y) ->
 S xs (Ke M1 (cl.map (·.2)) ob) λ y M'=>(∀ c ∈ cl.map (·.2),M' c = some (.ext (JT c (ob c)))) /\ Φ y (JZ M' (cl.map (·.2)))
theorem BE (F:Qa X.prog X.w X.K X.mg X.base CX0 k g fd ps (lift X.K S)) (hr:Jq k X.A) (hg:Gl X x) (hm:X.mg x = some (.ref g)) (hk:PySem.W.keepIn X.K (.ref g) = true) (hb:Binds X.K fd ps [])
  (hcl:∀ q ∈ cl,X.env.cells.lookup q.1 = some q.2 /\ X.env.kindOf q.1 ≠ some .local /\ Vis X.env.scope q.1) (ha:DA X (e :: es) t)
  (hdb:autoParam ((x == ("__debug__" : Str)) = false) zz1._auto_1) (he:autoParam (starEach (e :: es) X.env = (false,eval e X.env) :: starEach es X.env) zz3._auto_1) (hpl:autoParam ((backTo pos (starEach es X.env)).any (·.1) = false) zz3._auto_1) :
  DE X (.Call (.Name x p) (e :: es) [] pos) (Xz X.base X.stack X.N cl S t):=by
 obtain ⟨t1,p1,q1⟩:=ha;refine ⟨_,BV F hr hg hm hk hb hcl p1 hdb he hpl,λ Z H Δ M Φ Q r er h kk=>?_⟩;refine ⟨h.1,q1 Z H Δ M _ _ r er h.2 λ vs H1 xs M1 r1 st rv hx=>?_⟩;intro ob hn hob;refine ⟨xs,_,_,T8 r1 hn,rv.step (BS hn),hx ob (λ c hc=>r1.tracked (hn c hc)) λ q hq i y h1 h2 hs=>?_,λ v' H' y M' r' st' rv' hΦ=>?_⟩
 ·obtain ⟨v,e1,e2⟩:=er.at' i y h2;exact TZ (hob q hq i v h1 e1) e2 hs
 ·have ne:∀ c ∈ cl.map (·.2),M' c ≠ none:=λ c hc=>by rw [hΦ.1 c hc]; exact Option.some_ne_none _
  exact ⟨λ c hc=>r'.ok c _ (hΦ.1 c hc),kk v' _ y _ (Lv r' ne) (st.trans ((BS hn).trans (st'.trans (Ki ne)))) (rv'.step (Ki ne)) hΦ.2⟩
end
section
variable {params:Arguments} {body:Expr} {P:Addr} {YS:List (Str × Addr)}
def ZgA (cl:List (Str × Addr)) (P:Addr) (q:Str) (pos:Pos) (fd:Value->Value->Value->FuncData):DTE:=λ _ M Φ=>∃ l,M P = some (.ext (VA P l)) /\
 ((codeAmong pos (KC l).toList = none /\ ∀ c' f pm ct,M c' = none->M f = none->c' ≠ f->(∀ q ∈ cl,q.2 ≠ c' /\ q.2 ≠ f)->Φ (.own f) (Z0 (Z0 (Z0 M P (.ext (VA P (l ++ [(pos,c')])))) c' (.ext (Gx c' q))) f (.ext (YC f (fd pm (.ref c') ct)))))
 \/ ∃ c',codeAmong pos (KC l).toList = some (.ref c') /\ ∀ f pm ct,M f = none->(∀ q ∈ cl,q.2 ≠ f)->Φ (.own f) (Z0 M f (.ext (YC f (fd pm (.ref c') ct)))))
theorem Zcd (hcs:∀ q ∈ cl,X.env.cells.lookup q.1 = some q.2 /\ X.env.kindOf q.1 ≠ some .local /\ Vis X.env.scope q.1) (hcode:X.env.code = .ref c) (hC:codeHdIn X.K c P = true) (B:BmB X.base X.mg) (hdef:autoParam (defaultsOf params X.env = ([],[])) zz3._auto_1) (hcl:autoParam (closureFor scope X.env = pure YS) zz3._auto_1) :
  DE X (.Lambda params body scope pos) (ZgA cl P (Ds X) pos λ pm cd ct=>kla_fn "<lambda>" (Ds X) params body scope YS pm cd ct):=by
 refine ⟨_,Zb9 hcs hcode hC B hdef hcl,λ Z H Δ M Φ Q r er h kk=>?_⟩;obtain ⟨l,hP,h⟩:=h;refine ⟨l,r.ok P _ hP,?_⟩
 rcases h with ⟨hn,h⟩ | ⟨c',hf,h⟩
 ·refine .inl ⟨hn,λ c' f pm ct hc hf ne hcl'=>?_⟩;have nP:∀ {b:Addr},H b = none->b ≠ P:=λ e z=>by rw [z,r.ok P _ hP] at e; cases e
  have s1:Step M H (Z0 M P (.ext (VA P (l ++ [(pos,c')])))) (upd H P (.ext (VA P (l ++ [(pos,c')])))):=Step.UO hP;have r1:=r.Wo (o:=.ext (VA P (l ++ [(pos,c')]))) s1 (show upd H P _ P = _ from Qk);have hc1:upd H P (.ext (VA P (l ++ [(pos,c')]))) c' = none:=by rw [ZH (nP hc)]; exact hc
  have r2:=r1.Wo (o:=.ext (Gx c' (Ds X))) (Step.Jp hc1) (show upd (upd H P _) c' _ c' = _ from Qk);have hf1:upd (upd H P (.ext (VA P (l ++ [(pos,c')])))) c' (.ext (Gx c' (Ds X))) f = none:=by rw [ZH (Ne.symm ne),ZH (nP hf)]; exact hf
  have r3:=r2.Wo (o:=.ext (YC f (kla_fn "<lambda>" (Ds X) params body scope YS pm (.ref c') ct))) (Step.Jp hf1) (show upd (upd (upd H P _) c' _) f _ f = _ from Qk);exact kk _ _ (.own f) _ r3 (s1.trans ((Step.Jp hc1).trans (Step.Jp hf1))) rfl (h c' f pm ct (r.tracked hc) (r.tracked hf) ne hcl')
 ·refine .inr ⟨c',hf,λ f pm ct hf1 hcl'=>?_⟩;have r3:=r.Wo (o:=.ext (YC f (kla_fn "<lambda>" (Ds X) params body scope YS pm (.ref c') ct))) (Step.Jp hf1) (show upd H f _ f = _ from Qk);exact kk _ _ (.own f) _ r3 (Step.Jp hf1) rfl (h f pm ct (r.tracked hf1) hcl')
end
theorem RD {ws:List V} {ys:List DV}:∀ {vs:List V} {xs:List DV},JF K M H vs xs->JF K M H ws ys->JF K M H (vs ++ ws) (xs ++ ys)
 | _,_,.nil,h=>h
 | _,_,.cons a b,h=>.cons a (RD b h)
theorem SU:∀ {xs:List DV},(∀ y ∈ xs,Ql K M H (dvV y) y)->JF K M H (xs.map dvV) xs
 | [],_=>.nil
 | y :: xs,h=>.cons (h y (.head _)) (SU λ z hz=>h z (.tail _ hz))
section
variable {base:Heap} {ps fr:List Str}
def LU (f c':Addr) (fd:FuncData) (qual:Str) (n:Nat) (fr:List Str) (cl:List (Str × Addr)) (S:List DV->List DV->Mp->DK->Prop):DSp:=λ xs M Φ=>xs.length = n /\ M f = some (.ext (YC f fd)) /\ M c' = some (.ext (Gx c' qual)) /\
 ∃ cxs:List DV,cxs.length = fr.length /\ (∀ (i:Nat) (x:Str) (y:DV),fr[i]? = some x->cxs[i]? = some y->∃ c o,cl.lookup x = some c /\ M c = some (.ext (JT c o)) /\ JW o y) /\ S xs cxs (JZ M (cl.map (·.2))) λ y M'=>Φ y (XM M M' (cl.map (·.2)))
theorem Zgx {k:Nat} {c':Addr} {params:Arguments} {body:Expr} {pm ct:Value} {S:List DV->List DV->Mp->DK->Prop} (Sc:JJ N ps fr scope) (hinj:∀ x y c,cl.lookup x = some c->cl.lookup y = some c->x = y) (hfr:∀ x c,cl.lookup x = some c->x ∈ fr) (hnd:∀ q ∈ cl,cl.lookup q.1 = some q.2)
  (hbody:∀ (A:Around) (outer:List Env) (s:Shared) (H:Hp),Jq k (A.deeper (envX qual scope s.heap.objs.size f (.ref c') cl)) ->
   ∃ τ,DE (cxL P w K mg base N qual scope f (.ref c') cl A outer s H) body τ /\ ∀ xs cxs M Φ,S xs cxs M Φ->τ ((xs ++ cxs).map some) M Φ) :
  Qa P w K mg base CX0 (k + 1) f (kla_fn "<lambda>" qual params body scope cl pm (.ref c') ct) ps (lift K (LU f c' (kla_fn "<lambda>" qual params body scope cl pm (.ref c') ct) qual ps.length fr cl S)):=by
 refine Qa.imp (ZcJ (sp:=λ vs cvs H Q=>∃ xs cxs M Φ,ZF K M H /\ JF K M H vs xs /\ JF K M H cvs cxs /\ S xs cxs M Φ /\ Rch K M H Φ Q) Sc hinj hfr hnd λ A outer s H vs cvs Q hr h=>?_) λ vs H Q E h=>?_
 ·obtain ⟨xs,cxs,M,Φ,r,rv,rc,hs,kk⟩:=h;obtain ⟨τ,⟨t,p1,q1⟩,hτ⟩:=hbody A outer s H hr;refine ⟨t,p1,q1 _ H ((xs ++ cxs).map some) M _ _ r ?_ (hτ xs cxs M Φ hs) kk⟩;have ra:=RD rv rc;have z:=QV.start (N:=[]) ra;show QV K M H _ _
  simpa [L2.start,J2] using z
 ·obtain ⟨xs,M,Φ,r,rv,⟨hl,hF,hC,cxs,hcl,hcv,hs⟩,kk⟩:=h;have ext:∀ c ∈ cl.map (·.2),∃ φ,M c = some (.ext φ) /\ H c = some (.ext φ):=λ c hc=>by
   obtain ⟨q,hq,rfl⟩:=List.mem_map.mp hc;have e:=hnd q hq;obtain ⟨i,hi,ei⟩:=List.getElem_of_mem (hfr _ _ e);obtain ⟨c,o,h1,h2,_⟩:=hcv i q.1 (cxs[i]'(by rw [hcl]; exact hi)) (by rw [List.getElem?_eq_getElem hi,ei]) (List.getElem?_eq_getElem _);rw [e] at h1;cases h1;exact ⟨_,h2,r.ok _ _ h2⟩
  have ne:∀ c ∈ cl.map (·.2),M c ≠ none:=λ c hc=>by
   obtain ⟨φ,h1,_⟩:=ext c hc;rw [h1];exact Option.some_ne_none _
  refine ⟨by rw [Paired.length rv]; exact hl,r.ok _ _ hF,r.ok _ _ hC,cxs.map dvV,by rw [List.length_map]; exact hcl,λ i x v h1 h2=>?_,xs,cxs,_,_,Lv r ne,rv.step (Ki ne),?_,hs,λ v H' y M' r' st' rv' hΦ=>λ hn=>?_⟩
  ·rw [List.getElem?_map] at h2;cases e:cxs[i]? with
   | none=>rw [e] at h2; cases h2
   | some y=>
    rw [e] at h2;cases h2;obtain ⟨c,o,g1,g2,g3⟩:=hcv i x y h1 e;exact ⟨c,o,g1,r.ok _ _ g2,Zau g3⟩
  ·refine SU λ y hy=>?_;obtain ⟨i,hi,ei⟩:=List.getElem_of_mem hy;have hj:i < fr.length:=by rw [<- hcl]; exact hi
   obtain ⟨c,o,_,_,g3⟩:=hcv i _ y (List.getElem?_eq_getElem hj) (by rw [List.getElem?_eq_getElem hi,ei]);exact Pr g3
  ·exact kk v _ y _ (Zby r' hn ext) ((Ki ne).trans (st'.trans (Cm hn))) (rv'.step (Cm hn)) hΦ
end
theorem Vf:∀ q ∈ ([]:List (Str × Addr)),X.env.cells.lookup q.1 = some q.2 /\ X.env.kindOf q.1 ≠ some .local /\ Vis X.env.scope q.1:=λ _ h=>nomatch h
theorem Qq (x:Str) (t:∀ q ∈ cl,X.env.cells.lookup q.1 = some q.2 /\ X.env.kindOf q.1 ≠ some .local /\ Vis X.env.scope q.1) (h1:autoParam (X.env.cells.lookup x = some c) zz3._auto_1) (h2:autoParam (X.env.kindOf x = some .cell \/ X.env.kindOf x = some .free) zz11._auto_1) (h3:autoParam (Vis X.env.scope x) zz12._auto_1) :
  ∀ q ∈ (x,c) :: cl,X.env.cells.lookup q.1 = some q.2 /\ X.env.kindOf q.1 ≠ some .local /\ Vis X.env.scope q.1:=λ q hq=>by
 rcases List.mem_cons.mp hq with rfl | hq
 ·refine ⟨h1,λ e=>?_,h3⟩
  rcases h2 with h2 | h2
  ·rw [h2] at e; cases e
  ·rw [h2] at e; cases e
 ·exact t q hq
theorem cL {k:Nat} {ps:List Str} {S:DSp} {e:Expr} {es:List Expr} {t:DTA} {p pos:Pos} {cl:List (Str × Addr)} {base:Heap} {stack:List Env} {N:List Str} (O:Own X.K X.mg x st ps f fd) (F:Qa X.prog X.w X.K X.mg X.base CX0 k f fd ps (lift X.K S)) (hr:Jq k' X.A)
  (hcl:∀ q ∈ cl,X.env.cells.lookup q.1 = some q.2 /\ X.env.kindOf q.1 ≠ some .local /\ Vis X.env.scope q.1) (ha:DA X (e :: es) t)
  (hl:autoParam (k <= k') zz9._auto_1) (hg:autoParam (Gl X x) zz10._auto_1) (hdb:autoParam ((x == ("__debug__" : Str)) = false) zz1._auto_1) (he:autoParam (starEach (e :: es) X.env = (false,eval e X.env) :: starEach es X.env) zz3._auto_1) (hpl:autoParam ((backTo pos (starEach es X.env)).any (·.1) = false) zz3._auto_1)
  (hB:autoParam (X.base = base) zz3._auto_1) (hS:autoParam (X.stack = stack) zz3._auto_1) (hN:autoParam (X.N = N) zz3._auto_1):DE X (.Call (.Name x p) (e :: es) [] pos) (Xz base stack N cl S t):=by
 subst hB hS hN;exact BE F (hr.mono hl) hg O.m O.F.kp O.b hcl ha hdb he hpl
theorem WN {params:Arguments} {body:Expr} {pos:Pos} {P:Addr} {YS:List (Str × Addr)} {q:Str} (hcs:∀ q ∈ cl,X.env.cells.lookup q.1 = some q.2 /\ X.env.kindOf q.1 ≠ some .local /\ Vis X.env.scope q.1) (hcode:X.env.code = .ref c) (hC:codeHdIn X.K c P = true) (B:BmB X.base X.mg) (hdef:autoParam (defaultsOf params X.env = ([],[])) zz3._auto_1) (hcl:autoParam (closureFor scope X.env = pure YS) zz3._auto_1) (hq:autoParam (X.env.qual = q) zz3._auto_1) :
  DE X (.Lambda params body scope pos) (ZgA cl P (q ++ "<lambda>") pos λ pm cd ct=>kla_fn "<lambda>" (q ++ "<lambda>") params body scope YS pm cd ct):=by
 subst hq;exact Zcd hcs hcode hC B hdef hcl
theorem Ze8:type_of% @ZgA.eq_1:=λ _ _ _ _ _ _ _ _=>qI
theorem BK:type_of% @Xz.eq_1:=λ _ _ _ _ _ _ _ _ _=>qI
end DL
namespace DL
open PySem.W
section
variable {prog:Program} {E:Value->Shared->Prop} {κ:SortKind} {f:Nat->Keyed} {lt:Nat->Nat->Bool} {st:SortSt}
def Ans (prog:Program) (w:World) (A:Around) (s:Shared) (κ:SortKind) (f:Nat->Keyed) (lt:Nat->Nat->Bool) (n:Nat):Prop:=
 ∀ i j,i < n->j < n->∀ C:Bool->Shared->Prop,C (lt i j) s->wpAny (model prog w) A (keyLt' κ (f i).1 (f j).1) C (λ _ _=>False) s
theorem Gy (h:Ans prog w A s κ f lt n) (hk:kindOf st = κ) (hi:i < n) (hj:j < n) {Q:Option Bool->SortSt->Prop} (q:Q (some (lt i j)) st):wpS (model prog w) A E s (lt' (f i) (f j)) Q st:=by
 rw [lt'_eq];refine wpS_bind (wpS_get ?_);rw [hk];refine wpS_bind (wpS_lift (wpAny_attempt (wpAny_mono (h i j hi hj (λ b s'=>b = lt i j /\ s' = s) ⟨rfl,rfl⟩) (λ b s' z=>?_) λ _ _ z=>z.elim)));obtain ⟨rfl,rfl⟩:=z;exact ⟨rfl,wpS_pure q⟩
theorem ZM {arr:Array Keyed} {p:Array Nat} (e:arr = p.map f) (hi:i < p.size) {Q:Keyed->SortSt->Prop} (q:Q (f (at' p i)) st):wpS (model prog w) A E s (elem' arr i) Q st:=by
 rw [elem'_eq,e];have:(p.map f)[i]? = some (f (at' p i)):=by simp [at',hi]
 rw [this];exact wpS_pure q
theorem Zl {α:Type} {c:Prop} {dc:Decidable c} {x y:StateT SortSt Sem α} {Q:α->SortSt->Prop} (h1:c->wpS (model prog w) A E s x Q st) (h2:¬ c->wpS (model prog w) A E s y Q st):wpS (model prog w) A E s (if c then x else y) Q st:=by
 split
 ·exact h1 ‹_›
 ·exact h2 ‹_›
theorem Nk {γ:Type} {X:Nat->Nat->StateT SortSt Sem γ} {Q:γ->SortSt->Prop} (R:Nat->Nat->Prop) {goal:Prop} (k:(∀ x y,R x y->wpS (model prog w) A E s (X x y) Q st)->goal) (h:∀ x y,R x y->wpS (model prog w) A E s (X x y) Q st):goal:=k h
noncomputable def ZaP:Bool->Keyed->Array Keyed->Nat->Nat->Nat->StateT SortSt Sem (Option Nat):=sortPriv% PySem.Builtin.gallop
noncomputable def byd (lt:Nat->Nat->Bool) (left:Bool) (k:Nat) (p:Array Nat) (base i:Nat):Bool:=if left then lt (at' p (base + i)) k else !lt k (at' p (base + i))
theorem WL (h:Ans prog w A s κ f lt n) (hk:kindOf st = κ) {left:Bool} {k:Nat} {p:Array Nat} {arr:Array Keyed} (ea:arr = p.map f) (kn:k < n) (pn:∀ i,i < p.size->at' p i < n) (hi:base + i < p.size) {Q:Option Bool->SortSt->Prop} (q:Q (some (byd lt left k p base i)) st) :
  wpS (model prog w) A E s (do let x <- elem' arr (base + i); if left = true then lt' x (f k) else do let r <- lt' (f k) x; pure (r.map (!·))) Q st:=by
 refine wpS_bind (ZM ea hi ?_);unfold byd at q;cases left with
 | true=>rw [if_pos rfl] at q ⊢; exact Gy h hk (pn _ hi) kn q
 | false=>rw [if_neg Bool.false_ne_true] at q ⊢; exact wpS_bind (Gy h hk kn (pn _ hi) (wpS_pure q))
theorem Jc (h:Ans prog w A s κ f lt n) (hk:kindOf st = κ) {left:Bool} {k:Nat} {p:Array Nat} {arr:Array Keyed} (ea:arr = p.map f) {hint:Nat} (kn:k < n) (pn:∀ i,i < p.size->at' p i < n) (hb:base + m <= p.size) (hh:hint < m)
  (mono:∀ i j,i <= j->j < m->byd lt left k p base j = true->byd lt left k p base i = true) {Q:Option Nat->SortSt->Prop}
  (q:∀ r,r <= m->(∀ i,i < r->byd lt left k p base i = true)->(∀ i,r <= i->i < m->byd lt left k p base i = false)->Q (some r) st):wpS (model prog w) A E s (ZaP left (f k) arr base m hint) Q st:=by
 have anti:∀ i j,i <= j->j < m->byd lt left k p base i = false->byd lt left k p base j = false:=λ i j h1 h2 h3=>by
  cases e:byd lt left k p base j with
  | false=>rfl
  | true=>rw [mono i j h1 h2 e] at h3; cases h3
 refine wpS_bind (WL h hk ea kn pn (by lia) ?_);apply Nk (st:=st) λ lo hi=>lo <= hi /\ hi <= m /\ (∀ i,i < lo->byd lt left k p base i = true) /\ ∀ i,hi <= i->i < m->byd lt left k p base i = false
 ·intro go;dsimp only;cases hr:byd lt left k p base hint with
  | true=>
   rw [if_pos rfl]
   refine wpS_bind (wpS_mono (wpS_forRange (I:=λ x c st'=>st = st' /\ ∃ la ofs,c = (none,la,ofs) /\ x < ofs /\ la < ofs /\ hint + la < m /\ byd lt left k p base (hint + la) = true)
    (Q:=λ c st'=>st = st' /\ ∃ la ofs,c = (none,la,ofs) /\ la < ofs /\ hint + la < m /\ byd lt left k p base (hint + la) = true /\ (m - hint <= ofs \/ (hint + ofs < m /\ byd lt left k p base (hint + ofs) = false))) ?_ ?_ ⟨rfl,0,1,rfl,Nat.one_pos,Nat.one_pos,hh,hr⟩) ?_)
   ·rintro x _ _ _ hx ⟨rfl,la,ofs,rfl,h1,h2,h3,h4⟩
    by_cases g:ofs ≥ m - hint
    ·dsimp only;rw [if_pos g];exact wpS_pure ⟨rfl,la,ofs,rfl,h2,h3,h4,.inl g⟩
    ·have l:hint + ofs < m:=by lia
     dsimp only;rw [if_neg g];refine wpS_bind (WL h hk ea kn pn (by lia) ?_);dsimp only;cases hm:byd lt left k p base (hint + ofs) with
     | false=>exact wpS_pure ⟨rfl,la,ofs,rfl,h2,h3,h4,.inr ⟨l,hm⟩⟩
     | true=>exact wpS_pure ⟨rfl,ofs,2 * ofs + 1,rfl,by lia,by lia,l,hm⟩
   ·rintro _ _ ⟨rfl,la,ofs,rfl,h1,h2,h3,h4⟩;exact ⟨rfl,la,ofs,rfl,h2,h3,h4,.inl (by lia)⟩
   ·rintro _ _ ⟨rfl,la,ofs,rfl,h2,h3,h4,h5⟩;have z1:hint + la + 1 <= hint + min ofs (m - hint):=by lia
    have z2:hint + min ofs (m - hint) <= m:=by lia
    have z3:∀ i,i < hint + la + 1->byd lt left k p base i = true:=λ i hi=>mono _ _ (Nat.le_of_lt_succ hi) h3 h4;have z4:∀ i,hint + min ofs (m - hint) <= i->i < m->byd lt left k p base i = false:=λ i h6 h7=>by
     rcases h5 with z | ⟨z1,z2⟩
     ·lia
     ·exact anti (hint + ofs) i (by lia) h7 z2
    dsimp only;generalize hint + la + 1 = lo at z1 z3 ⊢;generalize hint + min ofs (m - hint) = hi at z1 z2 z4 ⊢;exact go lo hi ⟨z1,z2,z3,z4⟩
  | false=>
   rw [if_neg Bool.false_ne_true]
   refine wpS_bind (wpS_mono (wpS_forRange (I:=λ x c st'=>st = st' /\ ∃ la ofs,c = (none,la,ofs) /\ x < ofs /\ la < ofs /\ la <= hint /\ byd lt left k p base (hint - la) = false)
    (Q:=λ c st'=>st = st' /\ ∃ la ofs,c = (none,la,ofs) /\ la < ofs /\ la <= hint /\ byd lt left k p base (hint - la) = false /\ (hint + 1 <= ofs \/ (ofs <= hint /\ byd lt left k p base (hint - ofs) = true))) ?_ ?_ ⟨rfl,0,1,rfl,Nat.one_pos,Nat.one_pos,Nat.zero_le _,hr⟩) ?_)
   ·rintro x _ _ _ hx ⟨rfl,la,ofs,rfl,h1,h2,h3,h4⟩
    by_cases g:ofs ≥ hint + 1
    ·dsimp only;rw [if_pos g];exact wpS_pure ⟨rfl,la,ofs,rfl,h2,h3,h4,.inl g⟩
    ·have l:ofs <= hint:=by lia
     dsimp only;rw [if_neg g];refine wpS_bind (WL h hk ea kn pn (by lia) ?_);dsimp only;cases hm:byd lt left k p base (hint - ofs) with
     | true=>exact wpS_pure ⟨rfl,la,ofs,rfl,h2,h3,h4,.inr ⟨l,hm⟩⟩
     | false=>exact wpS_pure ⟨rfl,ofs,2 * ofs + 1,rfl,by lia,by lia,l,hm⟩
   ·rintro _ _ ⟨rfl,la,ofs,rfl,h1,h2,h3,h4⟩;exact ⟨rfl,la,ofs,rfl,h2,h3,h4,.inl (by lia)⟩
   ·rintro _ _ ⟨rfl,la,ofs,rfl,h2,h3,h4,h5⟩;refine go _ _ ⟨?_,?_,λ i hi=>?_,λ i h6 h7=>anti _ _ h6 h7 h4⟩
    ·show hint + 1 - min ofs (hint + 1) <= hint - la;lia
    ·show hint - la <= m;lia
    ·have hi:i < hint + 1 - min ofs (hint + 1):=hi
     rcases h5 with z | ⟨z1,z2⟩
     ·lia
     ·exact mono i (hint - ofs) (by lia) (by lia) z2
 rintro lo hi ⟨g1,g2,g4,g5⟩
 refine wpS_bind (wpS_mono (wpS_forRange (I:=λ x c st'=>st = st' /\ ∃ lo hi,c = (none,lo,hi) /\ lo <= hi /\ hi <= m /\ hi - lo + x <= m /\ (∀ i,i < lo->byd lt left k p base i = true) /\ (∀ i,hi <= i->i < m->byd lt left k p base i = false))
  (Q:=λ c st'=>st = st' /\ ∃ lo hi,c = (none,lo,hi) /\ hi <= lo /\ hi <= m /\ (∀ i,i < lo->byd lt left k p base i = true) /\ (∀ i,hi <= i->i < m->byd lt left k p base i = false)) ?_ ?_ ⟨rfl,lo,hi,rfl,g1,g2,by lia,g4,g5⟩) ?_)
 ·rintro x _ _ _ hx ⟨rfl,lo,hi,rfl,g1,g2,g3,g4,g5⟩;refine Zl (λ g=>wpS_pure ⟨rfl,lo,hi,rfl,g,g2,g4,g5⟩) λ g=>?_;have g6:lo < hi:=Nat.lt_of_not_le g;have l1:lo + (hi - lo) / 2 < hi:=by lia
  have l2:=Nat.lt_of_lt_of_le l1 g2;refine wpS_bind (WL h hk ea kn pn (by lia) ?_);dsimp only;cases hm:byd lt left k p base (lo + (hi - lo) / 2) with
  | true=>exact wpS_pure ⟨rfl,_,_,rfl,l1,g2,by lia,λ i hi=>mono _ _ (Nat.le_of_lt_succ hi) l2 hm,g5⟩
  | false=>exact wpS_pure ⟨rfl,_,_,rfl,Nat.le_add_right _ _,Nat.le_of_lt l2,by lia,g4,λ i h6 h7=>anti _ _ h6 h7 hm⟩
 ·rintro _ _ ⟨rfl,lo,hi,rfl,g1,g2,g3,g4,g5⟩;exact ⟨rfl,lo,hi,rfl,by lia,g2,g4,g5⟩
 ·rintro _ _ ⟨rfl,lo,hi,rfl,g2,g3,g4,g5⟩;exact wpS_pure (q hi g3 (λ i hi=>g4 i (Nat.lt_of_lt_of_le hi g2)) g5)
end
section
variable {lt:Nat->Nat->Bool}
structure Mg (lt:Nat->Nat->Bool) (po ra rb tot:List Nat):Prop where
 perm:(po ++ (ra ++ rb)).Perm tot
 up:po.Pairwise (Le lt)
 lo:∀ x ∈ po,∀ y,y ∈ ra \/ y ∈ rb->Le lt x y
variable {po ra rb tot:List Nat} {x:Nat}
theorem Mg.swap (h:Mg lt po ra rb tot):Mg lt po rb ra tot:=⟨(List.Perm.append_left po List.perm_append_comm).trans h.perm,h.up,λ x hx y hy=>h.lo x hx y hy.symm⟩
theorem Mg.take (o:Ord lt) (h:Mg lt po (x :: ra) rb tot) (ha:(x :: ra).Pairwise (Le lt)) (hb:rb.Pairwise (Le lt)) (hx:∀ z l,rb = z :: l->Le lt x z):Mg lt (po ++ [x]) ra rb tot:=by
 refine ⟨?_,?_,λ y hy z hz=>?_⟩
 ·have e:po ++ [x] ++ (ra ++ rb) = po ++ (x :: ra ++ rb):=by simp
  rw [e];exact h.perm
 ·rw [List.pairwise_append];refine ⟨h.up,List.pairwise_singleton _ _,λ a ha' b hb'=>?_⟩;rw [List.mem_singleton.mp hb'];exact h.lo a ha' x (.inl (.head _))
 ·rcases List.mem_append.mp hy with hy | hy
  ·exact h.lo y hy z (hz.imp (λ q=>.tail _ q) id)
  ·rw [List.mem_singleton.mp hy]
   rcases hz with hz | hz
   ·exact List.rel_of_pairwise_cons ha hz
   ·cases rb with
    | nil=>cases hz
    | cons c l=>
     have h1:=hx c l rfl
     rcases List.mem_cons.mp hz with rfl | hz
     ·exact h1
     ·exact o.tran _ _ _ h1 (List.rel_of_pairwise_cons hb hz)
theorem Mg.fin (h:Mg lt po ra [] tot) (ha:ra.Pairwise (Le lt)):(po ++ ra).Perm tot /\ (po ++ ra).Pairwise (Le lt):=by
 refine ⟨?_,?_⟩
 ·have:=h.perm
  rwa [List.append_nil] at this
 ·rw [List.pairwise_append];exact ⟨h.up,ha,λ a h1 b h2=>h.lo a h1 b (.inl h2)⟩
theorem Mg.last (h:Mg lt po [x] rb tot) (hb:rb.Pairwise (Le lt)) (hx:∀ y ∈ rb,Le lt y x):(po ++ rb ++ [x]).Perm tot /\ (po ++ rb ++ [x]).Pairwise (Le lt):=by
 refine ⟨?_,?_⟩
 ·rw [List.append_assoc];exact (List.Perm.append_left po List.perm_append_comm).trans h.perm
 ·rw [List.pairwise_append,List.pairwise_append];refine ⟨⟨h.up,hb,λ a h1 b h2=>h.lo a h1 b (.inr h2)⟩,List.pairwise_singleton _ _,λ a h1 b h2=>?_⟩;rw [List.mem_singleton.mp h2]
  rcases List.mem_append.mp h1 with h1 | h1
  ·exact h.lo a h1 x (.inl (.head _))
  ·exact hx a h1
theorem V0 {p:Array Nat} (h:i < p.size):p.toList.drop i = at' p i :: p.toList.drop (i + 1):=by
 rw [List.drop_eq_getElem_cons (by simpa using h)];simp [at',h]
theorem Zat (o:Ord lt) {p:Array Nat} (hp:p.toList.Pairwise (Le lt)) (hij:i <= j) (hj:j < p.size):Le lt (at' p i) (at' p j):=by
 by_cases e:i = j
 ·rw [e];exact o.refl _
 ·have:=List.pairwise_iff_getElem.mp hp i j (by simp; lia) (by simpa using hj) (by lia);have h1:i < p.size:=by lia
  simpa [at',h1,hj] using this
end
section
variable {f:Nat->Keyed} {lt:Nat->Nat->Bool} {pa pb:Array Nat} {out:Array Keyed} {ia ib k:Nat}
def ML (f:Nat->Keyed) (lt:Nat->Nat->Bool) (pa pb:Array Nat) (out:Array Keyed) (ia ib:Nat):Prop:=∃ po:Array Nat,out = po.map f /\ Mg lt po.toList (pa.toList.drop ia) (pb.toList.drop ib) (pa.toList ++ pb.toList)
def Mgd (f:Nat->Keyed) (lt:Nat->Nat->Bool) (pa pb:Array Nat) (r:Array Keyed):Prop:=∃ q:Array Nat,r = q.map f /\ q.toList.Perm (pa.toList ++ pb.toList) /\ q.toList.Pairwise (Le lt)
theorem Dj {p:Array Nat} {a:Array Keyed} (e:a = p.map f) (i j:Nat):a.extract i j = (p.extract i j).map f:=by
 rw [e];simp
theorem ML.E6 (o:Ord lt) (h:ML f lt pa pb out ia ib) (sa:pa.toList.Pairwise (Le lt)) (sb:pb.toList.Pairwise (Le lt)) (hi:ia < pa.size) (hx:ib < pb.size->Le lt (at' pa ia) (at' pb ib)):ML f lt pa pb (out.push (f (at' pa ia))) (ia + 1) ib:=by
 obtain ⟨po,rfl,g⟩:=h;rw [V0 hi] at g;refine ⟨po.push (at' pa ia),by simp,?_⟩;rw [Array.toList_push];refine g.take o (by rw [<- V0 hi]; exact sa.drop) sb.drop λ z l e=>?_
 by_cases hb:ib < pb.size
 ·rw [V0 hb] at e;cases e;exact hx hb
 ·rw [List.drop_eq_nil_of_le (by simpa using hb)] at e;cases e
theorem ML.Eh (o:Ord lt) (h:ML f lt pa pb out ia ib) (sa:pa.toList.Pairwise (Le lt)) (sb:pb.toList.Pairwise (Le lt)) (hi:ib < pb.size) (hx:ia < pa.size->Le lt (at' pb ib) (at' pa ia)):ML f lt pa pb (out.push (f (at' pb ib))) ia (ib + 1):=by
 obtain ⟨po,rfl,g⟩:=h;rw [V0 hi] at g;refine ⟨po.push (at' pb ib),by simp,?_⟩;rw [Array.toList_push];refine (g.swap.take o (by rw [<- V0 hi]; exact sb.drop) sa.drop λ z l e=>?_).swap
 by_cases hb:ia < pa.size
 ·rw [V0 hb] at e;cases e;exact hx hb
 ·rw [List.drop_eq_nil_of_le (by simpa using hb)] at e;cases e
theorem DF {p:Array Nat} {a:Array Keyed} (e:a = p.map f) {k:Nat} (h:i + k < p.size) (out:Array Keyed):out ++ a.extract i (i + (k + 1)) = (out ++ a.extract i (i + k)).push (f (at' p (i + k))):=by
 subst e;apply Array.toList_inj.mp;simp only [Array.toList_append,Array.toList_push,Array.toList_extract,Array.toList_map,List.append_assoc,List.extract_eq_take_drop]
 congr 1
 rw [show i + (k + 1) - i = k + 1 by lia,show i + k - i = k by lia,List.take_succ]
 congr 1
 simp [at',h]
theorem ML.FP (o:Ord lt) {a:Array Keyed} (ea:a = pa.map f) (h:ML f lt pa pb out ia ib) (sa:pa.toList.Pairwise (Le lt)) (sb:pb.toList.Pairwise (Le lt)) (hx:∀ i,i < k->ib < pb.size->Le lt (at' pa (ia + i)) (at' pb ib)):ia + k <= pa.size->ML f lt pa pb (out ++ a.extract ia (ia + k)) (ia + k) ib:=by
 induction k with
 | zero=>intro _; rw [show a.extract ia (ia + 0) = #[] by apply Array.toList_inj.mp; simp [List.extract_eq_take_drop],Array.append_empty]; exact h
 | succ k ih=>
  intro hk;rw [DF ea (by lia)];exact (ih (λ i hi=>hx i (by lia)) (by lia)).E6 o sa sb (by lia) (hx k (by lia))
theorem ML.LS (o:Ord lt) {b:Array Keyed} (eb:b = pb.map f) (h:ML f lt pa pb out ia ib) (sa:pa.toList.Pairwise (Le lt)) (sb:pb.toList.Pairwise (Le lt)) (hx:∀ i,i < k->ia < pa.size->Le lt (at' pb (ib + i)) (at' pa ia)):ib + k <= pb.size->ML f lt pa pb (out ++ b.extract ib (ib + k)) ia (ib + k):=by
 induction k with
 | zero=>intro _; rw [show b.extract ib (ib + 0) = #[] by apply Array.toList_inj.mp; simp [List.extract_eq_take_drop],Array.append_empty]; exact h
 | succ k ih=>
  intro hk;rw [DF eb (by lia)];exact (ih (λ i hi=>hx i (by lia)) (by lia)).Eh o sa sb (by lia) (hx k (by lia))
theorem Uk {p:Array Nat} {a:Array Keyed} (e:a = p.map f) (i:Nat):a.extract i a.size = (p.extract i p.size).map f /\ (p.extract i p.size).toList = p.toList.drop i:=by
 subst e;refine ⟨by simp,?_⟩;rw [Array.toList_extract,List.extract_eq_take_drop,List.take_of_length_le (by simp)]
theorem ML.done {a b:Array Keyed} (ea:a = pa.map f) (eb:b = pb.map f) (h:ML f lt pa pb out ia ib) (sa:pa.toList.Pairwise (Le lt)) (sb:pb.toList.Pairwise (Le lt)) (he:pb.size <= ib \/ pa.size <= ia):Mgd f lt pa pb (out ++ a.extract ia a.size ++ b.extract ib b.size):=by
 obtain ⟨po,rfl,g⟩:=h;obtain ⟨e1,e2⟩:=Uk ea ia;obtain ⟨e3,e4⟩:=Uk eb ib;refine ⟨po ++ pa.extract ia pa.size ++ pb.extract ib pb.size,by rw [e1,e3,Array.map_append,Array.map_append],?_⟩;rw [Array.toList_append,Array.toList_append,e2,e4]
 rcases he with he | he
 ·rw [List.drop_eq_nil_of_le (show pb.toList.length <= ib by simpa using he)] at g ⊢;rw [List.append_nil];exact g.fin sa.drop
 ·rw [List.drop_eq_nil_of_le (show pa.toList.length <= ia by simpa using he)] at g ⊢;rw [List.append_nil];exact g.swap.fin sb.drop
theorem ML.last {a b:Array Keyed} (ea:a = pa.map f) (eb:b = pb.map f) (h:ML f lt pa pb out ia ib) (sb:pb.toList.Pairwise (Le lt)) (hi:ia + 1 = pa.size) (hx:∀ y ∈ pb.toList,Le lt y (at' pa ia)):Mgd f lt pa pb (out ++ b.extract ib b.size ++ a.extract ia a.size):=by
 obtain ⟨po,rfl,g⟩:=h;obtain ⟨e1,e2⟩:=Uk ea ia;obtain ⟨e3,e4⟩:=Uk eb ib;refine ⟨po ++ pb.extract ib pb.size ++ pa.extract ia pa.size,by rw [e1,e3,Array.map_append,Array.map_append],?_⟩;have e5:pa.toList.drop ia = [at' pa ia]:=by rw [V0 (by lia),List.drop_eq_nil_of_le (show pa.toList.length <= ia + 1 by simp; lia)]
 rw [Array.toList_append,Array.toList_append,e2,e4,e5];rw [e5] at g;exact g.last sb.drop λ y hy=>hx y (List.mem_of_mem_drop hy)
end
section
variable {prog:Program} {E:Value->Shared->Prop} {κ:SortKind} {f:Nat->Keyed} {lt:Nat->Nat->Bool} {st:SortSt}
structure Sm (st st':SortSt):Prop where
 kd:kindOf st' = kindOf st
 ar:arrOf st' = arrOf st
 pd:pendingOf st' = pendingOf st
 fl:failedOf st' = failedOf st
theorem Sm.refl {st:SortSt}:Sm st st:=⟨rfl,rfl,rfl,rfl⟩
theorem Sm.trans {a b c:SortSt} (h:Sm a b) (k:Sm b c):Sm a c:=⟨k.kd.trans h.kd,k.ar.trans h.ar,k.pd.trans h.pd,k.fl.trans h.fl⟩
noncomputable def Zc6:Nat->StateT SortSt Sem Unit:=sortPriv% PySem.Builtin.setMinGallop
theorem Wl {g:Nat} {Q:Unit->SortSt->Prop} (q:∀ st',Sm st st'->Q () st'):wpS (model prog w) A E s (Zc6 g) Q st:=wpS_modify (q _ ⟨rfl,rfl,rfl,rfl⟩)
theorem Ee {γ:Type} {X:Nat->StateT SortSt Sem γ} {Q:γ->SortSt->Prop} {goal:Prop} (k:(∀ m st',Sm st st'->wpS (model prog w) A E s (X m) Q st')->goal) (h:∀ m st',Sm st st'->wpS (model prog w) A E s (X m) Q st'):goal:=k h
theorem Xf {γ:Type} {X:Array Keyed->Nat->StateT SortSt Sem γ} {Q:γ->SortSt->Prop} (R:Array Keyed->Nat->Prop) {goal:Prop} (k:(∀ o i,R o i->wpS (model prog w) A E s (X o i) Q st)->goal) (h:∀ o i,R o i->wpS (model prog w) A E s (X o i) Q st):goal:=k h
noncomputable def Nw:Array Keyed->Array Keyed->StateT SortSt Sem (Array Keyed):=sortPriv% PySem.Builtin.mergeLo
variable {pa pb:Array Nat}
theorem Zd6 (o:Ord lt) (sa:pa.toList.Pairwise (Le lt)) {k:Nat} (hb:base + m <= pa.size):∀ i j,i <= j->j < m->byd lt false k pa base j = true->byd lt false k pa base i = true:=λ i j h1 h2 h3=>by
 unfold byd at h3 ⊢;rw [if_neg (by decide)] at h3 ⊢;have e:Le lt (at' pa (base + j)) k:=by simpa [Le] using h3
 have:=o.tran _ _ _ (Zat o sa (i:=base + i) (j:=base + j) (Nat.add_le_add_left h1 _) (Nat.lt_of_lt_of_le (Nat.add_lt_add_left h2 _) hb)) e
 simpa [Le] using this
theorem ZdJ (o:Ord lt) (sb:pb.toList.Pairwise (Le lt)) {k:Nat} (hb:base + m <= pb.size):∀ i j,i <= j->j < m->byd lt true k pb base j = true->byd lt true k pb base i = true:=λ i j h1 h2 h3=>by
 unfold byd at h3 ⊢;rw [if_pos (by rfl)] at h3 ⊢;cases e:lt (at' pb (base + i)) k with
 | true=>rfl
 | false=>
  have e1:Le lt k (at' pb (base + i)):=e;have:=o.tran _ _ _ e1 (Zat o sb (i:=base + i) (j:=base + j) (Nat.add_le_add_left h1 _) (Nat.lt_of_lt_of_le (Nat.add_lt_add_left h2 _) hb));rw [show lt (at' pb (base + j)) k = false from this] at h3;cases h3
theorem Zbv {k:Nat} {p:Array Nat} (o:Ord lt) (h:byd lt true k p base i = true):Le lt (at' p (base + i)) k:=o.asym _ _ (by simpa [byd] using h)
theorem GU {k:Nat} {p:Array Nat} (h:byd lt true k p base i = false):Le lt k (at' p (base + i)):=by simpa [byd,Le] using h
theorem HR {k:Nat} {p:Array Nat} (h:byd lt false k p base i = true):Le lt (at' p (base + i)) k:=by simpa [byd,Le] using h
theorem LR {k:Nat} {p:Array Nat} (o:Ord lt) (h:byd lt false k p base i = false):Le lt k (at' p (base + i)):=o.asym _ _ (by simpa [byd] using h)
theorem Le.not {x y:Nat} (h:¬ lt x y = true):Le lt y x:=by simpa [Le] using h
theorem Fs (e:m = n) (h:i < n) (c:¬ (i + 1 == m) = true):i + 1 < n:=Nat.lt_of_le_of_ne h λ z=>c (beq_iff_eq.mpr (z.trans e.symm))
structure Mc (prog:Program) (w:World) (A:Around) (s:Shared) (κ:SortKind) (f:Nat->Keyed) (lt:Nat->Nat->Bool) (n:Nat) (pa pb:Array Nat) (a b:Array Keyed):Prop where
 h:Ans prog w A s κ f lt n
 o:Ord lt
 ea:a = pa.map f
 eb:b = pb.map f
 an:∀ i,i < pa.size->at' pa i < n
 bn:∀ i,i < pb.size->at' pb i < n
 sa:pa.toList.Pairwise (Le lt)
 sb:pb.toList.Pairwise (Le lt)
 a1:0 < pa.size
 b1:0 < pb.size
variable {a b out:Array Keyed} {ia ib z:Nat} {γ:Type} {X Y:Keyed->StateT SortSt Sem γ} {Q:γ->SortSt->Prop}
theorem Mc.za (M:Mc prog w A s κ f lt n pa pb a b):a.size = pa.size:=by rw [M.ea]; exact Array.size_map
theorem Mc.zb (M:Mc prog w A s κ f lt n pa pb a b):b.size = pb.size:=by rw [M.eb]; exact Array.size_map
def LoI (f:Nat->Keyed) (lt:Nat->Nat->Bool) (pa pb:Array Nat) (z:Nat) (out:Array Keyed) (ia ib:Nat):Prop:=ML f lt pa pb out ia ib /\ (ia + 1 < pa.size /\ ib < pb.size) /\ z <= ia + ib
theorem LoI.no {z:Nat} (h:LoI f lt pa pb z out ia ib):z < pa.size + pb.size:=Nat.lt_of_le_of_lt h.2.2 (Nat.add_lt_add (Nat.lt_of_succ_lt h.2.1.1) h.2.1.2)
theorem LoI.le {z z':Nat} (h:LoI f lt pa pb z out ia ib) (e:z' <= z):LoI f lt pa pb z' out ia ib:=⟨h.1,h.2.1,Nat.le_trans e h.2.2⟩
theorem Mc.Zd1 (M:Mc prog w A s κ f lt n pa pb a b) (i:LoI f lt pa pb z out ia ib) (hx:Le lt (at' pb ib) (at' pa ia)) (hX:Mgd f lt pa pb (out.push (f (at' pb ib)) ++ a.extract ia a.size ++ b.extract (ib + 1) b.size)->wpS (model prog w) A E s (X (f (at' pb ib))) Q st)
  (hY:LoI f lt pa pb (z + 1) (out.push (f (at' pb ib))) ia (ib + 1)->wpS (model prog w) A E s (Y (f (at' pb ib))) Q st):wpS (model prog w) A E s (elem' b ib >>= λ x=>if (ib + 1 == b.size) = true then X x else Y x) Q st:=by
 have m:=i.1.Eh M.o M.sa M.sb i.2.1.2 λ _=>hx;exact wpS_bind (ZM M.eb i.2.1.2 (Zl (λ c=>hX (m.done M.ea M.eb M.sa M.sb (.inl (by rw [beq_iff_eq.mp c,M.zb]; exact Nat.le_refl _)))) λ c=>hY ⟨m,⟨i.2.1.1,Fs M.zb i.2.1.2 c⟩,Nat.succ_le_succ i.2.2⟩))
theorem Mc.Zeh (M:Mc prog w A s κ f lt n pa pb a b) (hl:∀ y ∈ pb.toList,Le lt y (at' pa (pa.size - 1))) (i:LoI f lt pa pb z out ia ib) (hx:Le lt (at' pa ia) (at' pb ib)) (hX:Mgd f lt pa pb (out.push (f (at' pa ia)) ++ b.extract ib b.size ++ a.extract (ia + 1) a.size)->wpS (model prog w) A E s (X (f (at' pa ia))) Q st)
  (hY:LoI f lt pa pb (z + 1) (out.push (f (at' pa ia))) (ia + 1) ib->wpS (model prog w) A E s (Y (f (at' pa ia))) Q st):wpS (model prog w) A E s (elem' a ia >>= λ x=>if (ia + 1 + 1 == a.size) = true then X x else Y x) Q st:=by
 have l:=Nat.lt_of_succ_lt i.2.1.1;have m:=i.1.E6 M.o M.sa M.sb l λ _=>hx;refine wpS_bind (ZM M.ea l (Zl (λ c=>hX ?_) λ c=>hY ⟨m,⟨Fs M.za i.2.1.1 c,i.2.1.2⟩,by rw [Nat.add_right_comm]; exact Nat.succ_le_succ i.2.2⟩));have c:=(beq_iff_eq.mp c).trans M.za;exact m.last M.ea M.eb M.sb c (by rw [show ia + 1 = pa.size - 1 from Nat.eq_sub_of_add_eq c]; exact hl)
set_option maxHeartbeats 4000000 in
theorem BB (M:Mc prog w A s κ f lt n pa pb a b) (hk:kindOf st = κ) (hf:Le lt (at' pb 0) (at' pa 0)) (hl:∀ y ∈ pb.toList,Le lt y (at' pa (pa.size - 1))) {Q:Array Keyed->SortSt->Prop} (q:∀ r st',Sm st st'->Mgd f lt pa pb r->Q r st'):wpS (model prog w) A E s (Nw a b) Q st:=by
 have m0:ML f lt pa pb #[f (at' pb 0)] 0 1:=ML.Eh (out:=#[]) (ia:=0) (ib:=0) M.o ⟨#[],by simp,⟨by simp,by simp,λ x hx=>nomatch hx⟩⟩ M.sa M.sb M.b1 λ _=>hf;have za:=M.za;have zb:=M.zb;have zz:∀ {x:Nat} {o:Array Keyed} {i j:Nat},¬ LoI f lt pa pb (x + max 0 (a.size + b.size)) o i j:=λ h=>absurd (h.le (Nat.le_add_left _ _)).no (by lia);refine wpS_bind (wpS_lift (wpAny_rule ⟨rfl,wpS_bind (ZM M.eb M.b1 (Zl (λ c=>wpS_pure (q _ _ Sm.refl (m0.done M.ea M.eb M.sa M.sb (.inl (by rw [beq_iff_eq.mp c,zb]; exact Nat.le_refl _))))) λ c=>Zl (λ c2=>?_) λ c2=>wpS_bind (wpS_get (wpS_bind (wpS_mono (wpS_forRange (I:=λ x c st'=>Sm st st' /\ c.1 = none /\ LoI f lt pa pb (0 + x) c.2.1 c.2.2.1 c.2.2.2.1) (Q:=λ c st'=>Sm st st' /\ ∃ r,c.1 = some r /\ Mgd f lt pa pb r) ?_ ?_ ⟨Sm.refl,rfl,m0,⟨Fs za M.a1 c2,Fs zb M.b1 c⟩,Nat.zero_le _⟩) ?_)))))⟩))
 ·have c:=(beq_iff_eq.mp c2).trans za;exact wpS_pure (q _ _ Sm.refl (m0.last M.ea M.eb M.sb c (by rw [show 0 = pa.size - 1 from Nat.eq_sub_of_add_eq c]; exact hl)))
 ·rintro x c st1 _ hx ⟨hs,e1,i1⟩
  refine wpS_bind (wpS_mono (wpS_forRange (I:=λ y c st'=>st1 = st' /\ c.1 = none /\ LoI f lt pa pb (x + y) c.2.1 c.2.2.1 c.2.2.2.1)
   (Q:=λ c st'=>st1 = st' /\ ((∃ r,c.1 = some r /\ Mgd f lt pa pb r) \/ (c.1 = none /\ LoI f lt pa pb x c.2.1 c.2.2.1 c.2.2.2.1))) ?_ ?_ ⟨rfl,rfl,i1.le (by lia)⟩) ?_)
  ·rintro y c _ _ hy ⟨rfl,e2,i2⟩;have l:=Nat.lt_of_succ_lt i2.2.1.1;refine wpS_bind (ZM M.eb i2.2.1.2 (wpS_bind (ZM M.ea l (wpS_bind (Gy M.h (hs.kd.trans hk) (M.bn _ i2.2.1.2) (M.an _ l) (Zl (λ hw=>M.Zd1 i2 (M.o.asym _ _ hw) (λ m=>wpS_pure ⟨rfl,.inl ⟨_,rfl,m⟩⟩) λ i3=>?_) λ hw=>M.Zeh hl i2 (Le.not hw) (λ m=>wpS_pure ⟨rfl,.inl ⟨_,rfl,m⟩⟩) λ i3=>?_))))))
   all_goals exact Zl (λ _=>wpS_pure ⟨rfl,.inr ⟨rfl,i3.le (Nat.le_add_right x (y + 1))⟩⟩) λ _=>wpS_pure ⟨rfl,rfl,i3⟩
  ·rintro c _ ⟨rfl,e2,i2⟩;exact (zz i2).elim
  ·rintro ⟨c1,c⟩ _ ⟨rfl,⟨r,e2,hr⟩ | ⟨e2,i2⟩⟩
   ·cases (show c1 = _ from e2);exact wpS_pure ⟨hs,r,rfl,hr⟩
   ·cases (show c1 = _ from e2)
    refine wpS_bind (wpS_lift (wpAny_rule ⟨rfl,wpS_bind (wpS_mono (wpS_forRange (I:=λ y c st'=>Sm st st' /\ c.1 = none /\ LoI f lt pa pb (x + y) c.2.1 c.2.2.1 c.2.2.2.1)
     (Q:=λ c st'=>Sm st st' /\ ((∃ r,c.1 = some r /\ Mgd f lt pa pb r) \/ (c.1 = none /\ LoI f lt pa pb (0 + (x + 1)) c.2.1 c.2.2.1 c.2.2.2.1))) ?_ ?_ ⟨hs,rfl,i2⟩) ?_)⟩))
    ·rintro y ⟨_,out,ka,kb,mg2,ac,bc⟩ st2 _ hy ⟨hs2,e2,m2,⟨g1,g2⟩,g3⟩;dsimp only at m2 g1 g2 g3 ⊢;clear i2 hs e2 i1 e1;apply Ee (st:=st2)
     ·intro go;refine Zl (λ _=>wpS_bind (Wl λ st3 hs3=>?_)) λ _=>wpS_bind (Wl λ st3 hs3=>?_)
      ·generalize mg2 - 1 = m;exact go m st3 hs3
      ·exact go mg2 st3 hs3
     intro mg3 st3 hs3;have hk3:=hs3.kd.trans (hs2.kd.trans hk);have hs4:=hs2.trans hs3;refine wpS_bind (ZM M.eb g2 (wpS_bind (Jc M.h hk3 M.ea (M.bn _ g2) M.an (by lia) (by lia) (Zd6 M.o M.sa (by lia)) λ k k1 k2 k3=>?_)));have m4:=m2.FP (k:=k) M.o M.ea M.sa M.sb (λ i hi _=>HR (k2 i hi)) (by lia);have aft:ka + k < pa.size->Le lt (at' pb kb) (at' pa (ka + k)):=λ z=>LR M.o (k3 k (Nat.le_refl _) (by lia));apply Xf (st:=st3) (λ o i=>LoI f lt pa pb (x + y) o i kb /\ Le lt (at' pb kb) (at' pa i))
     ·intro go;refine Zl (λ c3=>Zl (λ c4=>?_) λ c4=>Zl (λ c5=>?_) λ c5=>?_) λ c3=>?_
      ·have c:=(beq_iff_eq.mp c4).trans za;exact wpS_pure ⟨hs4,.inl ⟨_,rfl,m4.last M.ea M.eb M.sb c (by rw [show ka + k = pa.size - 1 from Nat.eq_sub_of_add_eq c]; exact hl)⟩⟩
      ·exact wpS_pure ⟨hs4,.inl ⟨_,rfl,m4.done M.ea M.eb M.sa M.sb (.inr (by rw [beq_iff_eq.mp c5,za]; exact Nat.le_refl _))⟩⟩
      ·have c5:ka + k < pa.size:=Nat.lt_of_le_of_ne (by lia) λ z=>c5 (beq_iff_eq.mpr (z.trans za.symm));have aT:=aft c5;have iT:LoI f lt pa pb (x + y) (out ++ a.extract ka (ka + k)) (ka + k) kb:=⟨m4,⟨Fs za c5 c4,g2⟩,Nat.le_trans g3 (Nat.add_le_add_right (Nat.le_add_right ka k) kb)⟩
       generalize out ++ a.extract ka (ka + k) = o2 at iT ⊢;generalize ka + k = i2 at iT aT ⊢;exact go o2 i2 ⟨iT,aT⟩
      ·cases Nat.eq_zero_of_not_pos c3;exact go out ka ⟨⟨m2,⟨g1,g2⟩,g3⟩,aft (Nat.lt_of_succ_lt g1)⟩
     clear m2 g1 g2 g3 k1 k2 k3 m4 aft;rintro o2 k4 ⟨iT,aT⟩;refine M.Zd1 iT aT (λ m=>wpS_pure ⟨hs4,.inl ⟨_,rfl,m⟩⟩) λ ⟨m5,⟨g1,g2⟩,g3⟩=>wpS_bind (ZM M.ea (Nat.lt_of_succ_lt g1) (wpS_bind (Jc M.h hk3 M.eb (M.an _ (Nat.lt_of_succ_lt g1)) M.bn (by lia) (by lia) (ZdJ M.o M.sb (by lia)) λ j j1 j2 j3=>?_)));have m6:=m5.LS (k:=j) M.o M.eb M.sa M.sb (λ i hi _=>Zbv M.o (j2 i hi)) (by lia);have b6:=λ z:kb + 1 + j < pb.size=>GU (j3 j (Nat.le_refl _) (by lia));apply Xf (st:=st3) (λ o i=>LoI f lt pa pb (x + y + 1) o k4 i /\ Le lt (at' pa k4) (at' pb i))
     ·intro go;refine Zl (λ c3=>Zl (λ c4=>?_) λ c4=>?_) λ c3=>?_
      ·exact wpS_pure ⟨hs4,.inl ⟨_,rfl,m6.done M.ea M.eb M.sa M.sb (.inl (by rw [beq_iff_eq.mp c4,zb]; exact Nat.le_refl _))⟩⟩
      ·have c5:kb + 1 + j < pb.size:=Nat.lt_of_le_of_ne (by lia) λ z=>c4 (beq_iff_eq.mpr (z.trans zb.symm));have aT:=b6 c5;have iT:LoI f lt pa pb (x + y + 1) (o2.push (f (at' pb kb)) ++ b.extract (kb + 1) (kb + 1 + j)) k4 (kb + 1 + j):=⟨m6,⟨g1,c5⟩,Nat.le_trans g3 (Nat.add_le_add_left (Nat.le_add_right (kb + 1) j) k4)⟩
       generalize o2.push (f (at' pb kb)) ++ b.extract (kb + 1) (kb + 1 + j) = o3 at iT ⊢;generalize kb + 1 + j = i2 at iT aT ⊢;exact go o3 i2 ⟨iT,aT⟩
      ·cases Nat.eq_zero_of_not_pos c3;exact go _ _ ⟨⟨m5,⟨g1,g2⟩,g3⟩,b6 g2⟩
     rintro o3 j4 ⟨i6,a6⟩;exact M.Zeh hl i6 a6 (λ m=>wpS_pure ⟨hs4,.inl ⟨_,rfl,m⟩⟩) λ i7=>Zl (λ _=>wpS_pure ⟨hs4,.inr ⟨rfl,i7.le (by lia)⟩⟩) λ _=>wpS_pure ⟨hs4,rfl,i7.le (Nat.le_succ _)⟩
    ·rintro c _ ⟨_,e2,i2⟩;exact (zz i2).elim
    ·rintro ⟨c1,c⟩ st2 ⟨hs2,⟨r,e2,hr⟩ | ⟨e2,i2⟩⟩
     ·cases (show c1 = _ from e2);exact wpS_pure ⟨hs2,r,rfl,hr⟩
     ·cases (show c1 = _ from e2);exact wpS_bind (Wl λ st3 hs3=>wpS_pure ⟨hs2.trans hs3,rfl,i2⟩)
 ·rintro c st1 ⟨hs,e1,i1⟩;exact (zz i1).elim
 ·rintro ⟨c1,c⟩ st1 ⟨hs,r,e1,hr⟩;cases (show c1 = _ from e1);exact wpS_pure (q r st1 hs hr)
end
noncomputable def flp (lt:Nat->Nat->Bool) (x y:Nat):Bool:=lt y x
theorem Ord.flp {lt:Nat->Nat->Bool} (o:Ord lt):Ord (flp lt):=⟨λ a b h=>o.asym b a h,λ a b c h1 h2=>o.tran c b a h2 h1⟩
section
variable {f:Nat->Keyed} {lt:Nat->Nat->Bool} {pa pb:Array Nat} {out:Array Keyed} {na nb k:Nat}
theorem XE {l:List Nat} (h:l.Pairwise (Le lt)):l.reverse.Pairwise (Le (flp lt)):=by
 rw [List.pairwise_reverse];exact h
theorem Fo {l:List Nat} (h:l.Pairwise (Le (flp lt))):l.reverse.Pairwise (Le lt):=by
 rw [List.pairwise_reverse];exact h
theorem Ku {p:Array Nat} (h:i < p.size):(p.toList.take (i + 1)).reverse = at' p i :: (p.toList.take i).reverse:=by
 rw [List.take_succ];simp [at',h]
def MH (f:Nat->Keyed) (lt:Nat->Nat->Bool) (pa pb:Array Nat) (out:Array Keyed) (na nb:Nat):Prop:=∃ po:Array Nat,out = po.map f /\ Mg (flp lt) po.toList (pa.toList.take na).reverse (pb.toList.take nb).reverse (pa.toList ++ pb.toList)
theorem MH.E6 (o:Ord lt) (h:MH f lt pa pb out (na + 1) nb) (sa:pa.toList.Pairwise (Le lt)) (sb:pb.toList.Pairwise (Le lt)) (hi:na < pa.size) (hz:nb <= pb.size) (hx:0 < nb->Le lt (at' pb (nb - 1)) (at' pa na)):MH f lt pa pb (out.push (f (at' pa na))) na nb:=by
 obtain ⟨po,rfl,g⟩:=h;rw [Ku hi] at g;refine ⟨po.push (at' pa na),by simp,?_⟩;rw [Array.toList_push];refine g.take o.flp (by rw [<- Ku hi]; exact XE sa.take) (XE sb.take) λ z l e=>?_;cases nb with
 | zero=>cases e
 | succ nb=>
  rw [Ku (by lia)] at e;cases e;exact hx (by lia)
theorem MH.Eh (o:Ord lt) (h:MH f lt pa pb out na (nb + 1)) (sa:pa.toList.Pairwise (Le lt)) (sb:pb.toList.Pairwise (Le lt)) (hi:nb < pb.size) (hz:na <= pa.size) (hx:0 < na->Le lt (at' pa (na - 1)) (at' pb nb)):MH f lt pa pb (out.push (f (at' pb nb))) na nb:=by
 obtain ⟨po,rfl,g⟩:=h;rw [Ku hi] at g;refine ⟨po.push (at' pb nb),by simp,?_⟩;rw [Array.toList_push];refine (g.swap.take o.flp (by rw [<- Ku hi]; exact XE sb.take) (XE sa.take) λ z l e=>?_).swap;cases na with
 | zero=>cases e
 | succ na=>
  rw [Ku (by lia)] at e;cases e;exact hx (by lia)
theorem MH.Zgn (o:Ord lt) (h:MH f lt pa pb out na nb) (sa:pa.toList.Pairwise (Le lt)) (sb:pb.toList.Pairwise (Le lt)) (h0:1 <= na) (hi:na <= pa.size) (hz:nb <= pb.size) (hx:0 < nb->Le lt (at' pb (nb - 1)) (at' pa (na - 1))):MH f lt pa pb (out.push (f (at' pa (na - 1)))) (na - 1) nb:=by
 obtain ⟨z,rfl⟩:∃ z,na = z + 1:=⟨na - 1,by lia⟩
 exact h.E6 o sa sb (by lia) hz hx
theorem MH.Zgw (o:Ord lt) (h:MH f lt pa pb out na nb) (sa:pa.toList.Pairwise (Le lt)) (sb:pb.toList.Pairwise (Le lt)) (h0:1 <= nb) (hi:nb <= pb.size) (hz:na <= pa.size) (hx:0 < na->Le lt (at' pa (na - 1)) (at' pb (nb - 1))):MH f lt pa pb (out.push (f (at' pb (nb - 1)))) na (nb - 1):=by
 obtain ⟨z,rfl⟩:∃ z,nb = z + 1:=⟨nb - 1,by lia⟩
 exact h.Eh o sa sb (by lia) hz hx
theorem LJ {p:Array Nat} {a:Array Keyed} (e:a = p.map f) {k:Nat} (h:i + k < p.size + 1) (hk:0 < k) (out:Array Keyed):out ++ (a.extract i (i + k)).reverse = (out ++ (a.extract (i + 1) (i + k)).reverse).push (f (at' p i)):=by
 subst e;apply Array.toList_inj.mp;simp only [Array.toList_append,Array.toList_push,Array.toList_extract,Array.toList_map,Array.toList_reverse,List.append_assoc,List.extract_eq_take_drop]
 congr 1
 rw [show i + k - i = (i + k - (i + 1)) + 1 by lia,List.drop_eq_getElem_cons (show i < (List.map f p.toList).length by simp; lia),List.take_succ_cons,List.reverse_cons];have h1:i < p.size:=by lia
 simp [at',h1]
theorem DJ {a:Array Keyed} (out:Array Keyed):out ++ (a.extract i i).reverse = out:=by
 apply Array.toList_inj.mp;simp [List.extract_eq_take_drop]
theorem MH.FP (o:Ord lt) {a:Array Keyed} (ea:a = pa.map f) (sa:pa.toList.Pairwise (Le lt)) (sb:pb.toList.Pairwise (Le lt)) (hz:nb <= pb.size) {r:Nat} (h:MH f lt pa pb out (r + k) nb):(∀ i,r <= i->i < r + k->0 < nb->Le lt (at' pb (nb - 1)) (at' pa i))->r + k <= pa.size->MH f lt pa pb (out ++ (a.extract r (r + k)).reverse) r nb:=by
 induction k generalizing r with
 | zero=>intro _ _; rw [Nat.add_zero,DJ]; exact h
 | succ k ih=>
  intro hx hk;rw [LJ ea (by lia) (by lia)];refine MH.E6 o ?_ sa sb (by lia) hz (hx r (by lia) (by lia));have:=ih (r:=r + 1) (by rw [show r + 1 + k = r + (k + 1) by lia]; exact h) (λ i h1 h2=>hx i (by lia) (by lia)) (by lia)
  rwa [show r + 1 + k = r + (k + 1) by lia] at this
theorem MH.LS (o:Ord lt) {b:Array Keyed} (eb:b = pb.map f) (sa:pa.toList.Pairwise (Le lt)) (sb:pb.toList.Pairwise (Le lt)) (hz:na <= pa.size) {r:Nat} (h:MH f lt pa pb out na (r + k)):(∀ i,r <= i->i < r + k->0 < na->Le lt (at' pa (na - 1)) (at' pb i))->r + k <= pb.size->MH f lt pa pb (out ++ (b.extract r (r + k)).reverse) na r:=by
 induction k generalizing r with
 | zero=>intro _ _; rw [Nat.add_zero,DJ]; exact h
 | succ k ih=>
  intro hx hk;rw [LJ eb (by lia) (by lia)];refine MH.Eh o ?_ sa sb (by lia) hz (hx r (by lia) (by lia));have:=ih (r:=r + 1) (by rw [show r + 1 + k = r + (k + 1) by lia]; exact h) (λ i h1 h2=>hx i (by lia) (by lia)) (by lia)
  rwa [show r + 1 + k = r + (k + 1) by lia] at this
theorem MH.bA (o:Ord lt) {a:Array Keyed} (ea:a = pa.map f) (h:MH f lt pa pb out na nb) (sa:pa.toList.Pairwise (Le lt)) (sb:pb.toList.Pairwise (Le lt)) (hz:nb <= pb.size) {r:Nat} (hr:r <= na) (hn:na <= pa.size) (hx:∀ i,r <= i->i < na->0 < nb->Le lt (at' pb (nb - 1)) (at' pa i)):MH f lt pa pb (out ++ (a.extract r na).reverse) r nb:=by
 obtain ⟨k,rfl⟩:∃ k,na = r + k:=⟨na - r,by lia⟩
 exact MH.FP o ea sa sb hz h hx hn
theorem MH.bB (o:Ord lt) {b:Array Keyed} (eb:b = pb.map f) (h:MH f lt pa pb out na nb) (sa:pa.toList.Pairwise (Le lt)) (sb:pb.toList.Pairwise (Le lt)) (hz:na <= pa.size) {r:Nat} (hr:r <= nb) (hn:nb <= pb.size) (hx:∀ i,r <= i->i < nb->0 < na->Le lt (at' pa (na - 1)) (at' pb i)):MH f lt pa pb (out ++ (b.extract r nb).reverse) na r:=by
 obtain ⟨k,rfl⟩:∃ k,nb = r + k:=⟨nb - r,by lia⟩
 exact MH.LS o eb sa sb hz h hx hn
theorem Ub {p:Array Nat} {a:Array Keyed} (e:a = p.map f) (i:Nat):a.extract 0 i = (p.extract 0 i).map f /\ (p.extract 0 i).toList = p.toList.take i:=by
 subst e;refine ⟨by simp,?_⟩;rw [Array.toList_extract,List.extract_eq_take_drop];simp
theorem MH.done {a b:Array Keyed} (ea:a = pa.map f) (eb:b = pb.map f) (h:MH f lt pa pb out na nb) (sa:pa.toList.Pairwise (Le lt)) (sb:pb.toList.Pairwise (Le lt)) (he:na = 0 \/ nb = 0):Mgd f lt pa pb (a.extract 0 na ++ b.extract 0 nb ++ out.reverse):=by
 obtain ⟨po,rfl,g⟩:=h;obtain ⟨e1,e2⟩:=Ub ea na;obtain ⟨e3,e4⟩:=Ub eb nb;refine ⟨pa.extract 0 na ++ pb.extract 0 nb ++ po.reverse,by rw [e1,e3,Array.map_append,Array.map_append,Array.map_reverse],?_⟩;rw [Array.toList_append,Array.toList_append,e2,e4,Array.toList_reverse]
 rcases he with rfl | rfl
 ·have k:=g.swap.fin (XE sb.take);have e:List.take 0 pa.toList ++ List.take nb pb.toList ++ po.toList.reverse = (po.toList ++ (List.take nb pb.toList).reverse).reverse:=by simp
  rw [e];exact ⟨(List.reverse_perm _).trans k.1,Fo k.2⟩
 ·have k:=g.fin (XE sa.take);have e:List.take na pa.toList ++ List.take 0 pb.toList ++ po.toList.reverse = (po.toList ++ (List.take na pa.toList).reverse).reverse:=by simp
  rw [e];exact ⟨(List.reverse_perm _).trans k.1,Fo k.2⟩
theorem MH.first {a b:Array Keyed} (ea:a = pa.map f) (eb:b = pb.map f) (h:MH f lt pa pb out na 1) (sa:pa.toList.Pairwise (Le lt)) (b1:0 < pb.size) (hx:∀ y ∈ pa.toList,Le lt (at' pb 0) y):Mgd f lt pa pb (b.extract 0 1 ++ a.extract 0 na ++ out.reverse):=by
 obtain ⟨po,rfl,g⟩:=h;obtain ⟨e1,e2⟩:=Ub ea na;obtain ⟨e3,e4⟩:=Ub eb 1;refine ⟨pb.extract 0 1 ++ pa.extract 0 na ++ po.reverse,by rw [e1,e3,Array.map_append,Array.map_append,Array.map_reverse],?_⟩;rw [Array.toList_append,Array.toList_append,e2,e4,Array.toList_reverse];have e5:(pb.toList.take 1).reverse = [at' pb 0]:=by rw [Ku b1]; simp
 rw [e5] at g;have k:=g.swap.last (XE sa.take) λ y hy=>hx y (List.mem_of_mem_take (List.mem_reverse.mp hy));have e:List.take 1 pb.toList ++ List.take na pa.toList ++ po.toList.reverse = (po.toList ++ (List.take na pa.toList).reverse ++ [at' pb 0]).reverse:=by
  rw [<- e5];simp
 rw [e];exact ⟨(List.reverse_perm _).trans k.1,Fo k.2⟩
end
section
variable {prog:Program} {E:Value->Shared->Prop} {κ:SortKind} {f:Nat->Keyed} {lt:Nat->Nat->Bool} {st:SortSt} {pa pb:Array Nat}
noncomputable def PC:Array Keyed->Array Keyed->StateT SortSt Sem (Array Keyed):=sortPriv% PySem.Builtin.mergeHi
variable {a b out:Array Keyed} {na nb z:Nat} {γ:Type} {X Y:Keyed->StateT SortSt Sem γ} {Q:γ->SortSt->Prop}
def HiI (f:Nat->Keyed) (lt:Nat->Nat->Bool) (pa pb:Array Nat) (z:Nat) (out:Array Keyed) (na nb:Nat):Prop:=MH f lt pa pb out na nb /\ ((1 <= na /\ na <= pa.size) /\ 2 <= nb /\ nb <= pb.size) /\ z + (na + nb) <= pa.size + pb.size
theorem HiI.le {z':Nat} (h:HiI f lt pa pb z out na nb) (e:z' <= z):HiI f lt pa pb z' out na nb:=⟨h.1,h.2.1,Nat.le_trans (Nat.add_le_add_right e _) h.2.2⟩
theorem HiI.no (h:HiI f lt pa pb z out na nb):z < pa.size + pb.size:=Nat.lt_of_lt_of_le (Nat.lt_add_of_pos_right (Nat.lt_of_lt_of_le h.2.1.1.1 (Nat.le_add_right _ _))) h.2.2
theorem ps {x:Nat} (c:¬ (x == 0) = true):1 <= x:=Nat.pos_of_ne_zero λ z=>c (beq_iff_eq.mpr z)
theorem Mc.Zgn (M:Mc prog w A s κ f lt n pa pb a b) (i:HiI f lt pa pb z out na nb) (hx:Le lt (at' pb (nb - 1)) (at' pa (na - 1))) (hX:Mgd f lt pa pb (a.extract 0 (na - 1) ++ b.extract 0 nb ++ (out.push (f (at' pa (na - 1)))).reverse)->wpS (model prog w) A E s (X (f (at' pa (na - 1)))) Q st)
  (hY:HiI f lt pa pb (z + 1) (out.push (f (at' pa (na - 1)))) (na - 1) nb->wpS (model prog w) A E s (Y (f (at' pa (na - 1)))) Q st):wpS (model prog w) A E s (elem' a (na - 1) >>= λ x=>if (na - 1 == 0) = true then X x else Y x) Q st:=by
 obtain ⟨m,⟨⟨a1,a2⟩,b1,b2⟩,g⟩:=i;have m:=m.Zgn M.o M.sa M.sb a1 a2 b2 λ _=>hx;exact wpS_bind (ZM M.ea (Nat.sub_one_lt_of_le a1 a2) (Zl (λ c=>hX (m.done M.ea M.eb M.sa M.sb (.inl (beq_iff_eq.mp c)))) λ c=>hY ⟨m,⟨⟨ps c,Nat.le_trans (Nat.sub_le _ _) a2⟩,b1,b2⟩,by lia⟩))
theorem Mc.Zgw (M:Mc prog w A s κ f lt n pa pb a b) (hf:∀ y ∈ pa.toList,Le lt (at' pb 0) y) (i:HiI f lt pa pb z out na nb) (hx:Le lt (at' pa (na - 1)) (at' pb (nb - 1))) (hX:Mgd f lt pa pb (b.extract 0 (nb - 1) ++ a.extract 0 na ++ (out.push (f (at' pb (nb - 1)))).reverse)->wpS (model prog w) A E s (X (f (at' pb (nb - 1)))) Q st)
  (hY:HiI f lt pa pb (z + 1) (out.push (f (at' pb (nb - 1)))) na (nb - 1)->wpS (model prog w) A E s (Y (f (at' pb (nb - 1)))) Q st):wpS (model prog w) A E s (elem' b (nb - 1) >>= λ x=>if (nb - 1 == 1) = true then X x else Y x) Q st:=by
 obtain ⟨m,⟨⟨a1,a2⟩,b1,b2⟩,g⟩:=i;have m:=m.Zgw M.o M.sa M.sb (Nat.le_of_succ_le b1) b2 a2 λ _=>hx;refine wpS_bind (ZM M.eb (Nat.sub_one_lt_of_le (Nat.le_of_succ_le b1) b2) (Zl (λ c=>hX ?_) λ c=>hY ⟨m,⟨⟨a1,a2⟩,?_,Nat.le_trans (Nat.sub_le _ _) b2⟩,by lia⟩))
 ·rw [beq_iff_eq.mp c] at m ⊢;exact m.first M.ea M.eb M.sa M.b1 hf
 ·have c:¬ nb - 1 = 1:=λ z=>c (beq_iff_eq.mpr z);lia
set_option maxHeartbeats 4000000 in
theorem Bp (M:Mc prog w A s κ f lt n pa pb a b) (hk:kindOf st = κ) (hf:∀ y ∈ pa.toList,Le lt (at' pb 0) y) (hl:Le lt (at' pb (pb.size - 1)) (at' pa (pa.size - 1))) {Q:Array Keyed->SortSt->Prop} (q:∀ r st',Sm st st'->Mgd f lt pa pb r->Q r st'):wpS (model prog w) A E s (PC a b) Q st:=by
 have a1:=M.a1;have za:=M.za;have zb:=M.zb;have m0:MH f lt pa pb #[f (at' pa (a.size - 1))] (a.size - 1) b.size:=by
  rw [za,zb];exact MH.E6 (out:=#[]) M.o ⟨#[],by simp,⟨by rw [Nat.sub_add_cancel a1,List.take_of_length_le (by simp),List.take_of_length_le (by simp)]; exact (List.reverse_perm pa.toList).append (List.reverse_perm pb.toList),by simp,λ x hx=>nomatch hx⟩⟩ M.sa M.sb (Nat.sub_one_lt_of_le a1 (Nat.le_refl _)) (Nat.le_refl _) λ _=>hl
 have zz:∀ {x:Nat} {o:Array Keyed} {i j:Nat},¬ HiI f lt pa pb (x + max 0 (a.size + b.size)) o i j:=λ h=>absurd (h.le (Nat.le_add_left _ _)).no (by lia);have b1:=M.b1;refine wpS_bind (wpS_lift (wpAny_rule ⟨rfl,wpS_bind (ZM M.ea (by lia) (Zl (λ c=>wpS_pure (q _ _ Sm.refl (m0.done M.ea M.eb M.sa M.sb (.inl (beq_iff_eq.mp c))))) λ c=>Zl (λ c2=>?_) λ c2=>wpS_bind (wpS_get (wpS_bind (wpS_mono (wpS_forRange (I:=λ x c st'=>Sm st st' /\ c.1 = none /\ HiI f lt pa pb (0 + x) c.2.2.2.1 c.2.1 c.2.2.1) (Q:=λ c st'=>Sm st st' /\ ∃ r,c.1 = some r /\ Mgd f lt pa pb r) ?_ ?_ ⟨Sm.refl,rfl,m0,⟨⟨ps c,?_⟩,?_⟩,?_⟩) ?_)))))⟩))
 ·have c:=beq_iff_eq.mp c2;rw [c] at m0;exact wpS_pure (q _ _ Sm.refl (c.symm ▸ m0.first M.ea M.eb M.sa b1 hf))
 ·rintro x c st1 _ hx ⟨hs,e1,i1⟩
  refine wpS_bind (wpS_mono (wpS_forRange (I:=λ y c st'=>st1 = st' /\ c.1 = none /\ HiI f lt pa pb (x + y) c.2.2.2.1 c.2.1 c.2.2.1)
   (Q:=λ c st'=>st1 = st' /\ ((∃ r,c.1 = some r /\ Mgd f lt pa pb r) \/ (c.1 = none /\ HiI f lt pa pb x c.2.2.2.1 c.2.1 c.2.2.1))) ?_ ?_ ⟨rfl,rfl,i1.le (by lia)⟩) ?_)
  ·rintro y c _ _ hy ⟨rfl,e2,i2⟩;have l1:=Nat.sub_one_lt_of_le i2.2.1.1.1 i2.2.1.1.2;have l2:=Nat.sub_one_lt_of_le (Nat.le_of_succ_le i2.2.1.2.1) i2.2.1.2.2;refine wpS_bind (ZM M.eb l2 (wpS_bind (ZM M.ea l1 (wpS_bind (Gy M.h (hs.kd.trans hk) (M.bn _ l2) (M.an _ l1) (Zl (λ hw=>M.Zgn i2 (M.o.asym _ _ hw) (λ m=>wpS_pure ⟨rfl,.inl ⟨_,rfl,m⟩⟩) λ i3=>?_) λ hw=>M.Zgw hf i2 (Le.not hw) (λ m=>wpS_pure ⟨rfl,.inl ⟨_,rfl,m⟩⟩) λ i3=>?_))))))
   all_goals exact Zl (λ _=>wpS_pure ⟨rfl,.inr ⟨rfl,i3.le (Nat.le_add_right x (y + 1))⟩⟩) λ _=>wpS_pure ⟨rfl,rfl,i3⟩
  ·rintro c _ ⟨rfl,e2,i2⟩;exact (zz i2).elim
  ·rintro ⟨c1,c⟩ _ ⟨rfl,⟨r,e2,hr⟩ | ⟨e2,i2⟩⟩
   ·cases (show c1 = _ from e2);exact wpS_pure ⟨hs,r,rfl,hr⟩
   ·cases (show c1 = _ from e2)
    refine wpS_bind (wpS_lift (wpAny_rule ⟨rfl,wpS_bind (wpS_mono (wpS_forRange (I:=λ y c st'=>Sm st st' /\ c.1 = none /\ HiI f lt pa pb (x + y) c.2.2.2.1 c.2.1 c.2.2.1)
     (Q:=λ c st'=>Sm st st' /\ ((∃ r,c.1 = some r /\ Mgd f lt pa pb r) \/ (c.1 = none /\ HiI f lt pa pb (0 + (x + 1)) c.2.2.2.1 c.2.1 c.2.2.1))) ?_ ?_ ⟨hs,rfl,i2⟩) ?_)⟩))
    ·rintro y ⟨_,ka,kb,out,mg2,ac,bc⟩ st2 _ hy ⟨hs2,e2,m2,⟨⟨a2,a3⟩,b3,b2⟩,g5⟩;dsimp only at m2 a2 a3 b2 b3 g5 ⊢;clear i2 hs e2 i1 e1;apply Ee (st:=st2)
     ·intro go;refine Zl (λ _=>wpS_bind (Wl λ st3 hs3=>?_)) λ _=>wpS_bind (Wl λ st3 hs3=>?_)
      ·generalize mg2 - 1 = m;exact go m st3 hs3
      ·exact go mg2 st3 hs3
     intro mg3 st3 hs3;have hk3:=hs3.kd.trans (hs2.kd.trans hk);have hs4:=hs2.trans hs3;have l2:=Nat.sub_one_lt_of_le (Nat.le_of_succ_le b3) b2;refine wpS_bind (ZM M.eb l2 (wpS_bind (Jc M.h hk3 M.ea (M.bn _ l2) M.an (by lia) (by lia) (Zd6 M.o M.sa (by lia)) λ k k1 k2 k3=>?_)));have m4:=m2.bA (r:=k) M.o M.ea M.sa M.sb b2 k1 a3 λ i h1 h2 _=>Nat.zero_add i ▸ LR M.o (k3 i h1 h2);have aft:=λ z:1 <= k=>HR (k2 (k - 1) (Nat.sub_one_lt_of_le z (Nat.le_refl _)));rw [Nat.zero_add] at aft;apply Xf (st:=st3) (λ o i=>HiI f lt pa pb (x + y) o i kb /\ Le lt (at' pa (i - 1)) (at' pb (kb - 1)))
     ·intro go;refine Zl (λ c3=>Zl (λ c4=>?_) λ c4=>?_) λ c3=>?_
      ·exact wpS_pure ⟨hs4,.inl ⟨_,rfl,m4.done M.ea M.eb M.sa M.sb (.inl (beq_iff_eq.mp c4))⟩⟩
      ·have iT:HiI f lt pa pb (x + y) (out ++ (a.extract k ka).reverse) k kb:=⟨m4,⟨⟨ps c4,Nat.le_trans k1 a3⟩,b3,b2⟩,Nat.le_trans (Nat.add_le_add_left (Nat.add_le_add_right k1 _) _) g5⟩
       have aT:=aft (ps c4);generalize out ++ (a.extract k ka).reverse = o2 at iT ⊢;generalize k = i2 at iT aT ⊢;exact go o2 i2 ⟨iT,aT⟩
      ·have kz:k = ka:=Nat.le_antisymm k1 (Nat.le_of_sub_eq_zero (Nat.eq_zero_of_not_pos c3));subst kz;exact go out k ⟨⟨m2,⟨⟨a2,a3⟩,b3,b2⟩,g5⟩,aft a2⟩
     clear m2 a2 a3 b2 b3 g5 k1 k2 k3 m4 aft l2;rintro o2 k4 ⟨iT,aT⟩;refine M.Zgw hf iT aT (λ m=>wpS_pure ⟨hs4,.inl ⟨_,rfl,m⟩⟩) λ ⟨m5,⟨⟨a2,a3⟩,b3,b2⟩,g5⟩=>wpS_bind (ZM M.ea (Nat.sub_one_lt_of_le a2 a3) (wpS_bind (Jc M.h hk3 M.eb (M.an _ (Nat.sub_one_lt_of_le a2 a3)) M.bn (by lia) (by lia) (ZdJ M.o M.sb (by lia)) λ j j1 j2 j3=>?_)));have m6:=m5.bB (r:=j) M.o M.eb M.sa M.sb a3 j1 b2 λ i h1 h2 _=>Nat.zero_add i ▸ GU (j3 i h1 h2);have b6:=λ z:1 <= j=>Zbv M.o (j2 (j - 1) (Nat.sub_one_lt_of_le z (Nat.le_refl _)));rw [Nat.zero_add] at b6;apply Xf (st:=st3) (λ o i=>HiI f lt pa pb (x + y + 1) o k4 i /\ Le lt (at' pb (i - 1)) (at' pa (k4 - 1)))
     ·intro go;refine Zl (λ c3=>Zl (λ c4=>?_) λ c4=>Zl (λ c5=>?_) λ c5=>?_) λ c3=>?_
      ·cases beq_iff_eq.mp c4;exact wpS_pure ⟨hs4,.inl ⟨_,rfl,m6.first M.ea M.eb M.sa b1 hf⟩⟩
      ·exact wpS_pure ⟨hs4,.inl ⟨_,rfl,m6.done M.ea M.eb M.sa M.sb (.inr (beq_iff_eq.mp c5))⟩⟩
      ·have c4:¬ j = 1:=λ z=>c4 (beq_iff_eq.mpr z);have iT:HiI f lt pa pb (x + y + 1) (o2.push (f (at' pb (kb - 1))) ++ (b.extract j (kb - 1)).reverse) k4 j:=⟨m6,⟨⟨a2,a3⟩,Nat.lt_of_le_of_ne (ps c5) (Ne.symm c4),Nat.le_trans j1 b2⟩,Nat.le_trans (Nat.add_le_add_left (Nat.add_le_add_left j1 _) _) g5⟩
       have aT:=b6 (ps c5);generalize o2.push (f (at' pb (kb - 1))) ++ (b.extract j (kb - 1)).reverse = o3 at iT ⊢;generalize j = i2 at iT aT ⊢;exact go o3 i2 ⟨iT,aT⟩
      ·have kz:j = kb - 1:=Nat.le_antisymm j1 (Nat.le_of_sub_eq_zero (Nat.eq_zero_of_not_pos c3));subst kz;exact go _ _ ⟨⟨m5,⟨⟨a2,a3⟩,b3,b2⟩,g5⟩,b6 (Nat.le_of_succ_le b3)⟩
     rintro o3 j4 ⟨i6,a6⟩;exact M.Zgn i6 a6 (λ m=>wpS_pure ⟨hs4,.inl ⟨_,rfl,m⟩⟩) λ i7=>Zl (λ _=>wpS_pure ⟨hs4,.inr ⟨rfl,i7.le (by lia)⟩⟩) λ _=>wpS_pure ⟨hs4,rfl,i7.le (Nat.le_succ _)⟩
    ·rintro c _ ⟨_,e2,i2⟩;exact (zz i2).elim
    ·rintro ⟨c1,c⟩ st2 ⟨hs2,⟨r,e2,hr⟩ | ⟨e2,i2⟩⟩
     ·cases (show c1 = _ from e2);exact wpS_pure ⟨hs2,r,rfl,hr⟩
     ·cases (show c1 = _ from e2);exact wpS_bind (Wl λ st3 hs3=>wpS_pure ⟨hs2.trans hs3,rfl,i2⟩)
 ·rintro c st1 ⟨hs,e1,i1⟩;exact (zz i1).elim
 ·show a.size - 1 <= pa.size;lia
 ·have c2:¬ b.size = 1:=λ z=>c2 (beq_iff_eq.mpr z);show 2 <= b.size /\ b.size <= pb.size;lia
 ·show 0 + 0 + (a.size - 1 + b.size) <= _;lia
 ·rintro ⟨c1,c⟩ st1 ⟨hs,r,e1,hr⟩;cases (show c1 = _ from e1);exact wpS_pure (q r st1 hs hr)
end
section
variable {lt:Nat->Nat->Bool} {p:Array Nat} {lo:Nat}
def Sg (lt:Nat->Nat->Bool) (p:Array Nat) (lo m:Nat):Prop:=∀ i j,i <= j->j < m->Le lt (at' p (lo + i)) (at' p (lo + j))
abbrev Dg (lt:Nat->Nat->Bool) (p:Array Nat) (lo m:Nat):Prop:=Sg (flp lt) p lo m
def Bk (lt:Nat->Nat->Bool) (p:Array Nat) (lo a b:Nat):Prop:=∀ i j,a <= i->i < b->a <= j->j < b->Le lt (at' p (lo + i)) (at' p (lo + j))
theorem Sg.one (o:Ord lt):Sg lt p lo 1:=λ i j h1 h2=>by
 rw [show i = j by lia];exact o.refl _
theorem Sg.snoc (o:Ord lt) (h:Sg lt p lo m) (h1:1 <= m) (hl:Le lt (at' p (lo + m - 1)) (at' p (lo + m))):Sg lt p lo (m + 1):=λ i j hij hj=>by
 by_cases e:j = m
 ·subst e
  by_cases e2:i = j
  ·rw [e2];exact o.refl _
  ·have:=h i (j - 1) (by lia) (by lia);rw [show lo + (j - 1) = lo + j - 1 by lia] at this;exact o.tran _ _ _ this hl
 ·exact h i j hij (by lia)
theorem Sg.congr {p':Array Nat} (h:Sg lt p lo m) (e:∀ k,k < m->at' p' (lo + k) = at' p (lo + k)):Sg lt p' lo m:=λ i j hij hj=>by
 rw [e i (by lia),e j hj];exact h i j hij hj
theorem Sg.rev (h:Sg lt p lo m) (hz:lo + m <= p.size):Sg (flp lt) (kas_rev p lo (lo + m)) lo m:=λ i j hij hj=>by
 rw [KU hz,KU hz,if_pos (by lia),if_pos (by lia)];have:=h (m - 1 - j) (m - 1 - i) (by lia) (by lia)
 rwa [show lo + (m - 1 - i) = lo + (lo + m) - 1 - (lo + i) by lia,show lo + (m - 1 - j) = lo + (lo + m) - 1 - (lo + j) by lia] at this
theorem Dg.blk {a b:Nat} (h:Dg lt p lo m) (hb:Bk lt p lo a b) (hm:b <= m) (hab:a <= b) (hz:lo + m <= p.size):Dg lt (kas_rev p (lo + a) (lo + b)) lo m:=λ i j hij hj=>by
 have key:∀ k,k < m->∃ k',at' (kas_rev p (lo + a) (lo + b)) (lo + k) = at' p (lo + k') /\ k' < m /\ ((a <= k /\ k < b /\ a <= k' /\ k' < b) \/ (k' = k /\ ¬ (a <= k /\ k < b))):=λ k hk=>by
  rw [KU (by lia)]
  by_cases c:a <= k /\ k < b
  ·rw [if_pos (by lia)];exact ⟨a + b - 1 - k,by rw [show lo + a + (lo + b) - 1 - (lo + k) = lo + (a + b - 1 - k) by lia],by lia,.inl (by lia)⟩
  ·rw [if_neg (by lia)];exact ⟨k,rfl,hk,.inr ⟨rfl,c⟩⟩
 obtain ⟨i',e1,h1,h2⟩:=key i (by lia);obtain ⟨j',e2,h3,h4⟩:=key j hj;rw [e1,e2]
 by_cases c:i' <= j'
 ·exact h i' j' c h3
 ·exact hb j' i' (by lia) (by lia) (by lia) (by lia)
def Out (p p':Array Nat) (lo nrem:Nat):Prop:=∀ k,(k < lo \/ lo + nrem <= k)->at' p' k = at' p k
theorem Out.refl {nrem:Nat}:Out p p lo nrem:=λ _ _=>rfl
theorem Out.rev {p1:Array Nat} {nrem a b:Nat} (h:Out p p1 lo nrem) (ha:lo <= a) (hb:b <= lo + nrem) (hz:b <= p1.size):Out p (kas_rev p1 a b) lo nrem:=λ k hk=>by
 rw [KU hz,if_neg (by lia)];exact h k hk
end
section
variable {prog:Program} {E:Value->Shared->Prop} {κ:SortKind} {f:Nat->Keyed} {lt:Nat->Nat->Bool} {p:Array Nat} {pd:Array (Nat × Nat × Nat)} {g lo nrem:Nat}
noncomputable abbrev SS (κ:SortKind) (f:Nat->Keyed) (p:Array Nat) (pd:Array (Nat × Nat × Nat)) (g:Nat):SortSt:=SortSt.mk' κ (p.map f) pd g none
theorem WC (h:Ans prog w A s κ f lt n) (hp:Pm n p) (hi:i < n) (hj:j < n) {Q:Option Bool->SortSt->Prop} (q:Q (some (lt (at' p i) (at' p j))) (SS κ f p pd g)):wpS (model prog w) A E s (ltAt' i j) Q (SS κ f p pd g):=by
 rw [ltAt'_eq];have hz:=hp.size;refine wpS_bind (wpS_get ?_);exact wpS_bind (ZM (p:=p) rfl (by lia) (wpS_bind (ZM (p:=p) rfl (by lia) (Gy h rfl (hp.below hi) (hp.below hj) q))))
theorem WQ {Q:Unit->SortSt->Prop} (q:Q () (SS κ f (kas_rev p i j) pd g)):wpS (model prog w) A E s (reverseSlice' i j) Q (SS κ f p pd g):=by
 rw [reverseSlice'_eq];refine wpS_modify ?_;have e1:mirror (p.map f) i j ((j - i) / 2) = (mirror p i j ((j - i) / 2)).map f:=kas_swaps_map f (λ k=>i + k) (λ k=>j - 1 - k) _ p;show Q () (SortSt.mk' κ (mirror (p.map f) i j ((j - i) / 2)) pd g none);rw [e1];exact q
theorem OB {k l:Nat} {Q:Unit->SortSt->Prop} (q:Q () (SS κ f (bubble p k (k - l)) pd g)):wpS (model prog w) A E s (moveDown' k l) Q (SS κ f p pd g):=by
 rw [moveDown'_eq];refine wpS_modify ?_;have e1:bubble (p.map f) k (k - l) = (bubble p k (k - l)).map f:=kas_swaps_map f (λ i=>k - i) (λ i=>k - i - 1) _ p;show Q () (SortSt.mk' κ (bubble (p.map f) k (k - l)) pd g none);rw [e1];exact q
theorem CY {γ:Type} {X:StateT SortSt Sem γ} {Q:γ->SortSt->Prop} (R:Array Nat->Prop) {goal:Prop} (k:(∀ p',R p'->wpS (model prog w) A E s X Q (SS κ f p' pd g))->goal) (h:∀ p',R p'->wpS (model prog w) A E s X Q (SS κ f p' pd g)):goal:=k h
def CI (lt:Nat->Nat->Bool) (n:Nat) (p:Array Nat) (lo nrem:Nat) (p2:Array Nat) (x k:Nat):Prop:=Pm n p2 /\ Out p p2 lo nrem /\ (k + 1 <= x /\ x <= nrem) /\ Dg lt p2 lo x /\ Bk lt p2 lo (x - (k + 1)) x
theorem bk1 (o:Ord lt) {x:Nat}:Bk lt p lo (x - (0 + 1)) x:=λ i j _ _ _ _=>by
 rw [show i = j by lia];exact o.refl _
variable {p2:Array Nat} {x k:Nat}
theorem CI.flat (o:Ord lt) (hz:lo + nrem <= n) (hx:x <= m) (hm:m <= nrem) (d:Dg lt p2 lo m) (h:CI lt n p lo nrem p2 x k):CI lt n p lo nrem (kas_rev p2 (lo + x - (k + 1)) (lo + x)) m 0:=by
 obtain ⟨e1,e2,⟨e3,e4⟩,e5,e6⟩:=h;have z2:=e1.size;have e:lo + (x - (k + 1)) = lo + x - (k + 1):=by lia
 exact ⟨e1.rev _ _,e2.rev (by lia) (Nat.add_le_add_left e4 _) (by lia),⟨by lia,hm⟩,e ▸ Dg.blk d e6 hx (Nat.sub_le _ _) (by lia),bk1 o⟩
theorem CI.down (o:Ord lt) (h:CI lt n p lo nrem p2 x k) (l:x < nrem) (c:lt (at' p2 (lo + x)) (at' p2 (lo + x - 1)) = true):CI lt n p lo nrem p2 (x + 1) 0:=
 ⟨h.1,h.2.1,⟨Nat.succ_le_succ (Nat.zero_le _),l⟩,Sg.snoc o.flp h.2.2.2.1 (Nat.le_trans (Nat.le_add_left _ _) h.2.2.1.1) (o.asym _ _ c),bk1 o⟩
theorem CI.same (o:Ord lt) (h:CI lt n p lo nrem p2 x k) (l:x < nrem) (c:¬ lt (at' p2 (lo + x)) (at' p2 (lo + x - 1)) = true) (c2:¬ lt (at' p2 (lo + x - 1)) (at' p2 (lo + x)) = true):CI lt n p lo nrem p2 (x + 1) (k + 1):=by
 obtain ⟨e1,e2,⟨e3,e4⟩,e5,e6⟩:=h;refine ⟨e1,e2,⟨Nat.succ_le_succ e3,l⟩,Sg.snoc o.flp e5 (Nat.le_trans (Nat.le_add_left _ _) e3) (Le.not c2),λ i j a1 a2 a3 a4=>?_⟩;rw [Nat.add_sub_add_right] at a1 a3;have e:lo + x - 1 = lo + (x - 1):=by lia
 have le1:=e ▸ Le.not c;have le2:=e ▸ Le.not c2;have l1:x - (k + 1) <= x - 1:=by lia
 have l2:x - 1 < x:=by lia
 by_cases ci:i = x
 ·subst ci
  by_cases cj:j = i
  ·rw [cj];exact o.refl _
  ·exact o.tran _ _ _ le2 (e6 _ j l1 l2 a3 (by lia))
 ·by_cases cj:j = x
  ·subst cj;exact o.tran _ _ _ (e6 i _ a1 (by lia) l1 l2) le1
  ·exact e6 i j a1 (by lia) a3 (by lia)
theorem RZ (h:Ans prog w A s κ f lt n) (o:Ord lt) (hp:Pm n p) (h1:1 <= m) (hm:m <= nrem) (hz:lo + nrem <= n) (sg:Sg lt p lo m) {F:Nat->Option (Option Nat) × Nat->StateT SortSt Sem (ForInStep (Option (Option Nat) × Nat))} {Q:Option (Option Nat) × Nat->SortSt->Prop}
  (hF:∀ x,x < nrem->∀ {R:ForInStep (Option (Option Nat) × Nat)->SortSt->Prop},(lt (at' p (lo + x)) (at' p (lo + x - 1)) = true->R (.done (none,x)) (SS κ f p pd g))->(¬ lt (at' p (lo + x)) (at' p (lo + x - 1)) = true->R (.yield (none,x + 1)) (SS κ f p pd g))->wpS (model prog w) A E s (F x (none,x)) R (SS κ f p pd g))
  (q:∀ m,1 <= m->m <= nrem->Sg lt p lo m->(m = nrem \/ lt (at' p (lo + m)) (at' p (lo + m - 1)) = true)->Q (none,m) (SS κ f p pd g)):wpS (model prog w) A E s (forIn [m:nrem] (none,m) F) Q (SS κ f p pd g):=by
 refine wpS_forRange (I:=λ x c st'=>SS κ f p pd g = st' /\ c = (none,x) /\ 1 <= x /\ x <= nrem /\ Sg lt p lo x) ?_ ?_ ⟨rfl,rfl,h1,hm,sg⟩
 ·rintro x _ _ _ hx ⟨rfl,rfl,x1,x2,x3⟩;exact hF x hx (λ c=>q x x1 x2 x3 (.inr c)) λ c=>⟨rfl,rfl,Nat.le_succ_of_le x1,hx,x3.snoc o x1 (Le.not c)⟩
 ·rintro _ _ ⟨rfl,rfl,x1,x2,x3⟩;exact q _ x1 x2 x3 (.inl (Nat.le_antisymm x2 (Nat.le_max_right _ _)))
set_option maxHeartbeats 4000000 in
theorem Lh (h:Ans prog w A s κ f lt n) (o:Ord lt) (hp:Pm n p) (h1:1 <= nrem) (hz:lo + nrem <= n) {Q:Option Nat->SortSt->Prop}
  (q:∀ m p',1 <= m->m <= nrem->Pm n p'->Out p p' lo nrem->Sg lt p' lo m->Q (some m) (SS κ f p' pd g)):wpS (model prog w) A E s (countRun' lo nrem) Q (SS κ f p pd g):=by
 have l1:∀ {x},x < nrem->lo + x < n:=λ h=>Nat.lt_of_lt_of_le (Nat.add_lt_add_left h _) hz;have l2:∀ {x},x < nrem->lo + x - 1 < n:=λ h=>Nat.lt_of_le_of_lt (Nat.sub_le _ _) (l1 h);refine wpS_bind (RZ h o hp (Nat.le_refl 1) h1 hz (Sg.one o) (λ x hx _ r1 r2=>wpS_bind (WC h hp (l1 hx) (l2 hx) (Zl (λ c=>wpS_pure (r1 c)) λ c=>wpS_pure (r2 c)))) λ m m1 m2 m3 m4=>Zl (λ c=>wpS_pure (q m p m1 m2 hp Out.refl m3)) λ c=>?_);have c:¬ m = nrem:=λ z=>c (beq_iff_eq.mpr z);have m5:lt (at' p (lo + m)) (at' p (lo + m - 1)) = true:=m4.resolve_left c;have m6:m < nrem:=Nat.lt_of_le_of_ne m2 c;have z1:=hp.size;clear m4;apply CY (pd:=pd) (g:=g) λ p'=>CI lt n p lo nrem p' (m + 1) 0
 ·intro go;refine Zl (λ c2=>wpS_bind (WC h hp (by lia) (l2 m6) (Zl (λ c3=>wpS_pure (q m p m1 m2 hp Out.refl m3)) λ c3=>wpS_bind (WQ (go _ ?_))))) λ c2=>go _ ?_
  ·refine ⟨hp.rev _ _,Out.refl.rev (Nat.le_refl _) (Nat.add_le_add_left m2 _) (by lia),⟨Nat.succ_le_succ (Nat.zero_le _),m6⟩,Sg.snoc o.flp (m3.rev (by lia)) m1 ?_,bk1 o⟩;show Le lt _ _;rw [KU (by lia),KU (by lia),if_neg (by lia),if_pos (by lia),show lo + (lo + m) - 1 - (lo + m - 1) = lo by lia];exact o.tran _ _ _ (o.asym _ _ m5) (Le.not c3)
  ·cases (show m = 1 by lia);exact CI.down o (k:=0) ⟨hp,Out.refl,⟨Nat.le_refl _,h1⟩,Sg.one o.flp,bk1 o⟩ m6 m5
 intro p1 i1;refine wpS_bind (wpS_lift (wpAny_rule ⟨rfl,wpS_bind (wpS_mono (wpS_forRange (I:=λ x c st'=>∃ p2 k,SS κ f p2 pd g = st' /\ c = (none,x,k) /\ CI lt n p lo nrem p2 x k) (Q:=λ c st'=>∃ p2 x k,SS κ f p2 pd g = st' /\ c = (none,x,k) /\ CI lt n p lo nrem p2 x k) ?_ ?_ ⟨p1,0,rfl,rfl,i1⟩) ?_)⟩))
 ·rintro x _ _ _ hx ⟨p2,k,rfl,rfl,i2⟩;refine wpS_bind (WC h i2.1 (l1 hx) (l2 hx) (Zl (λ c=>?_) λ c=>wpS_bind (WC h i2.1 (l2 hx) (l1 hx) (Zl (λ c2=>wpS_pure ⟨p2,x,k,rfl,rfl,i2⟩) λ c2=>wpS_pure ⟨p2,k + 1,rfl,rfl,i2.same o hx c c2⟩))));have i3:=i2.down o hx c;exact Zl (λ c2=>wpS_bind (WQ (wpS_pure ⟨_,0,rfl,rfl,i2.flat o hz (Nat.le_succ _) hx i3.2.2.2.1⟩))) λ c2=>wpS_pure ⟨p2,0,rfl,rfl,i3⟩
 ·rintro _ _ ⟨p2,k,rfl,rfl,i2⟩;exact ⟨p2,_,k,rfl,rfl,i2⟩
 ·rintro _ _ ⟨p2,m5,k,rfl,rfl,i2⟩;apply CY (pd:=pd) (g:=g) λ p'=>∃ k,CI lt n p lo nrem p' m5 k
  ·intro go;exact Zl (λ c2=>wpS_bind (WQ (go _ ⟨_,i2.flat o hz (Nat.le_refl _) i2.2.2.1.2 i2.2.2.2.1⟩))) λ c2=>go _ ⟨_,i2⟩
  rintro p3 ⟨k3,e1,e2,⟨e3,e4⟩,e5,e6⟩;have z2:=e1.size;have n1:=Nat.le_trans (Nat.le_add_left _ _) e3;exact wpS_bind (WQ (wpS_bind (RZ h o (e1.rev _ _) n1 e4 hz (e5.rev (by lia)) (λ x hx _ r1 r2=>wpS_bind (WC h (e1.rev _ _) (l1 hx) (l2 hx) (Zl (λ c=>wpS_pure (r1 c)) λ c=>wpS_pure (r2 c)))) λ mm n1 n2 n3 _=>wpS_pure (q mm _ n1 n2 (e1.rev _ _) (e2.rev (Nat.le_refl _) (Nat.add_le_add_left e4 _) (by lia)) n3))))
end
section
variable {prog:Program} {E:Value->Shared->Prop} {κ:SortKind} {f:Nat->Keyed} {lt:Nat->Nat->Bool} {p:Array Nat} {pd:Array (Nat × Nat × Nat)} {g lo nrem:Nat}
set_option maxHeartbeats 4000000 in
theorem Ey (h:Ans prog w A s κ f lt n) (o:Ord lt) (hp:Pm n p) {ok:Nat} (h1:1 <= ok) (h2:ok <= nrem) (hz:lo + nrem <= n) (hs:Sg lt p lo ok) {Q:Bool->SortSt->Prop}
  (q:∀ p',Pm n p'->Out p p' lo nrem->Sg lt p' lo nrem->Q true (SS κ f p' pd g)):wpS (model prog w) A E s (binarySort' lo nrem ok) Q (SS κ f p pd g):=by
 refine wpS_bind (wpS_mono (wpS_forRange (I:=λ x c st'=>∃ p2,SS κ f p2 pd g = st' /\ c.1 = none /\ Pm n p2 /\ Out p p2 lo nrem /\ (1 <= x /\ x <= nrem) /\ Sg lt p2 lo x)
  (Q:=λ c st'=>∃ p2,SS κ f p2 pd g = st' /\ c.1 = none /\ Pm n p2 /\ Out p p2 lo nrem /\ Sg lt p2 lo nrem) ?_ ?_ ⟨p,rfl,rfl,hp,Out.refl,⟨by lia,by lia⟩,by rw [show max ok 1 = ok by lia]; exact hs⟩) ?_)
 ·rintro k ⟨c1,c2⟩ _ k0 hk ⟨p2,rfl,e0,e1,e2,⟨e3,e4⟩,e5⟩;have z2:=e1.size;dsimp only at e0 ⊢
  refine wpS_bind (wpS_mono (wpS_forRange (I:=λ x c st'=>SS κ f p2 pd g = st' /\ ∃ l r,c = (none,l,r) /\ l <= r /\ r <= k /\ r - l + x <= k /\ (∀ i,i < l->Le lt (at' p2 (lo + i)) (at' p2 (lo + k))) /\ (∀ i,r <= i->i < k->Le lt (at' p2 (lo + k)) (at' p2 (lo + i))))
   (Q:=λ c st'=>SS κ f p2 pd g = st' /\ ∃ l r,c = (none,l,r) /\ l <= k /\ (∀ i,i < l->Le lt (at' p2 (lo + i)) (at' p2 (lo + k))) /\ (∀ i,l <= i->i < k->Le lt (at' p2 (lo + k)) (at' p2 (lo + i)))) ?_ ?_ ⟨rfl,0,k,rfl,by lia,by lia,by lia,λ i z=>absurd z (by lia),λ i z1 z2=>absurd z1 (by lia)⟩) ?_)
  ·rintro x c _ _ hx ⟨rfl,l,r,rfl,g1,g2,g3,g4,g5⟩;dsimp only;refine Zl (λ c=>wpS_pure ⟨rfl,l,r,rfl,by lia,g4,λ i z1 z2=>g5 i (by lia) z2⟩) λ c=>wpS_bind (WC h e1 (by lia) (by lia) ?_);dsimp only;refine Zl (λ c2=>wpS_pure ⟨rfl,_,_,rfl,by lia,by lia,by lia,g4,λ i z1 z2=>?_⟩) λ c2=>wpS_pure ⟨rfl,_,_,rfl,by lia,by lia,by lia,λ i z1=>?_,g5⟩
   ·exact o.tran _ _ _ (o.asym _ _ c2) (e5 _ _ z1 z2)
   ·exact o.tran _ _ _ (e5 _ _ (show i <= (l + r) / 2 by lia) (by lia)) (show Le lt _ _ by simpa [Le] using c2)
  ·rintro c _ ⟨rfl,l,r,rfl,g1,g2,g3,g4,g5⟩;exact ⟨rfl,l,r,rfl,by lia,g4,λ i z1 z2=>g5 i (by lia) z2⟩
  ·rintro c _ ⟨rfl,l,r,rfl,g1,g4,g5⟩;dsimp only;refine wpS_bind (OB (wpS_pure ⟨_,rfl,rfl,e1.bub _ _,λ u hu=>?_,⟨by lia,by lia⟩,λ i j hij hj=>?_⟩))
   ·rw [MG (by lia) (by lia),if_neg (by lia),if_neg (by lia)];exact e2 u hu
   ·rw [MG (by lia) (by lia),MG (by lia) (by lia)]
    by_cases c1:i = l
    ·rw [if_pos (by lia)]
     by_cases c2:j = l
     ·rw [if_pos (by lia)];exact o.refl _
     ·rw [if_neg (by lia),if_pos (by lia),show lo + j - 1 = lo + (j - 1) by lia];exact g5 _ (by lia) (by lia)
    ·rw [if_neg (by lia)]
     by_cases c3:l < i
     ·rw [if_pos (by lia),if_neg (by lia),if_pos (by lia),show lo + i - 1 = lo + (i - 1) by lia,show lo + j - 1 = lo + (j - 1) by lia];exact e5 _ _ (by lia) (by lia)
     ·rw [if_neg (by lia)]
      by_cases c2:j = l
      ·rw [if_pos (by lia)];exact g4 _ (by lia)
      ·rw [if_neg (by lia)]
       by_cases c4:l < j
       ·rw [if_pos (by lia),show lo + j - 1 = lo + (j - 1) by lia];exact e5 _ _ (by lia) (by lia)
       ·rw [if_neg (by lia)];exact e5 _ _ (by lia) (by lia)
 ·rintro ⟨c1,c2⟩ _ ⟨p2,rfl,e0,e1,e2,⟨e3,e4⟩,e5⟩;rw [show max (max ok 1) nrem = nrem by lia] at e5;exact ⟨p2,rfl,e0,e1,e2,e5⟩
 ·rintro ⟨c1,c2⟩ _ ⟨p2,rfl,e0,e1,e2,e5⟩;dsimp only at e0 ⊢;subst e0;exact wpS_pure (q p2 e1 e2 e5)
end
theorem DY {α:Type} (b:Nat):∀ (L:List α) (k:Nat) (arr:Array α),b + k + L.length <= arr.size->((L.zipIdx k).foldl (λ a x=>a.setIfInBounds (b + x.2) x.1) arr).toList = arr.toList.take (b + k) ++ L ++ arr.toList.drop (b + k + L.length)
 | [],k,arr,_=>by simp
 | x :: L,k,arr,h=>by
  have h:b + k + (L.length + 1) <= arr.size:=h;rw [List.zipIdx_cons,List.foldl_cons,DY b L (k + 1) _ (by simp; lia)];dsimp only;rw [Array.toList_setIfInBounds,List.take_set,List.drop_set_of_lt (by lia),show b + (k + 1) = b + k + 1 by lia,List.length_cons,show b + k + 1 + L.length = b + k + (L.length + 1) by lia];have e:(arr.toList.take (b + k + 1)).set (b + k) x = arr.toList.take (b + k) ++ [x]:=by
   rw [List.take_succ,List.getElem?_eq_getElem (by simp; lia),Option.toList_some];rw [List.set_append_right _ _ (by simp; lia)];simp [show min (b + k) arr.size = b + k by lia]
  rw [e];simp
section
variable {lt:Nat->Nat->Bool} {p q:Array Nat} {a b:Nat}
theorem JV (hb:b <= p.size) (hi:a + i < b):at' (p.extract a b) i = at' p (a + i):=by
 have h1:a + i < p.size:=by lia
 show (p.extract a b).getD i 0 = p.getD (a + i) 0;rw [Array.getD_eq_getD_getElem?,Array.getD_eq_getD_getElem?,Array.getElem?_extract,if_pos (by lia)]
theorem Sj (o:Ord lt) {lo:Nat} (h:Sg lt p lo m) (hz:lo + m <= p.size) (ha:lo <= a) (hb:b <= lo + m):(p.extract a b).toList.Pairwise (Le lt):=by
 rw [List.pairwise_iff_getElem];intro i j hi hj hij;have hi:i < min (b - a) (p.size - a):=by simpa using hi
 have hj:j < min (b - a) (p.size - a):=by simpa using hj
 have e:∀ k (hk:k < min (b - a) (p.size - a)),(p.extract a b).toList[k]'(by simpa using hk) = at' p (lo + (a - lo + k)):=λ k hk=>by
  have h1:a + k < p.size:=by lia
  rw [show lo + (a - lo + k) = a + k by lia];simp [at',h1]
 rw [e i hi,e j hj];exact h _ _ (by lia) (by lia)
noncomputable def TL (p q:Array Nat) (a:Nat):Array Nat:=(p.toList.take a ++ q.toList ++ p.toList.drop (a + q.size)).toArray
theorem X3 (h:a + q.size <= p.size) (x:Nat):at' (TL p q a) x = if x < a then at' p x else if x < a + q.size then at' q (x - a) else at' p x:=by
 have l1:(p.toList.take a).length = a:=by simp; lia
 unfold TL;have e:∀ (l:List Nat),at' l.toArray x = (l[x]?).getD 0:=λ l=>by simp [at']
 have e2:∀ (r:Array Nat) (y:Nat),at' r y = (r.toList[y]?).getD 0:=λ r y=>by simp [at']
 rw [e,e2 p,e2 q,List.append_assoc]
 by_cases c1:x < a
 ·rw [if_pos c1,List.getElem?_append_left (by lia),List.getElem?_take,if_pos c1]
 ·rw [if_neg c1,List.getElem?_append_right (by lia),l1]
  by_cases c2:x < a + q.size
  ·rw [if_pos c2,List.getElem?_append_left (by simp; lia)]
  ·rw [if_neg c2,List.getElem?_append_right (by simp; lia),List.getElem?_drop,Array.length_toList,show a + q.size + (x - a - q.size) = x by lia]
theorem MD (hm:a <= m) (hb:m <= b) (hz:b <= p.size) (hq:q.toList.Perm ((p.extract a m).toList ++ (p.extract m b).toList)) (hp:Pm n p):Pm n (TL p q a):=by
 have hl:q.size = b - a:=by
  have:=hq.length_eq;simp at this;lia
 refine Array.Perm.trans ?_ hp;rw [Array.perm_iff_toList_perm];unfold TL;have e1:(p.extract a m).toList ++ (p.extract m b).toList = (p.toList.drop a).take (b - a):=by
  rw [Array.toList_extract,Array.toList_extract,List.extract_eq_take_drop,List.extract_eq_take_drop,show b - a = (m - a) + (b - m) by lia,List.take_add,List.drop_drop,show a + (m - a) = m by lia]
 have e2:p.toList = p.toList.take a ++ ((p.toList.drop a).take (b - a) ++ p.toList.drop (a + (b - a))):=by
  rw [<- List.drop_drop,List.take_append_drop,List.take_append_drop]
 rw [hl]
 conv=>rhs; rw [e2]
 rw [List.append_assoc];rw [e1] at hq;exact List.Perm.append_left _ (List.Perm.append_right _ hq)
end
section
variable {lt:Nat->Nat->Bool} {p:Array Nat}
def Runs (lt:Nat->Nat->Bool) (p:Array Nat):List (Nat × Nat × Nat)->Nat->Nat->Prop
 | [],a,b=>a = b
 | x :: r,a,b=>x.1 = a /\ 1 <= x.2.1 /\ Sg lt p a x.2.1 /\ Runs lt p r (a + x.2.1) b
theorem Runs.app:∀ {l r:List (Nat × Nat × Nat)} {a c:Nat},Runs lt p (l ++ r) a c ↔ ∃ b,Runs lt p l a b /\ Runs lt p r b c
 | [],r,a,c=>⟨λ h=>⟨a,rfl,h⟩,λ ⟨b,h1,h2⟩=>by cases h1; exact h2⟩
 | x :: l,r,a,c=>by
  constructor
  ·rintro ⟨h1,h2,h3,h4⟩;obtain ⟨b,k1,k2⟩:=Runs.app.mp h4;exact ⟨b,⟨h1,h2,h3,k1⟩,k2⟩
  ·rintro ⟨b,⟨h1,h2,h3,h4⟩,k⟩;exact ⟨h1,h2,h3,Runs.app.mpr ⟨b,h4,k⟩⟩
theorem Runs.le:∀ {l:List (Nat × Nat × Nat)} {a b:Nat},Runs lt p l a b->a + l.length <= b
 | [],a,b,h=>by cases h; exact Nat.le_refl _
 | x :: l,a,b,h=>by
  have:=h.2.2.2.le;have:=h.2.1;rw [List.length_cons];lia
theorem Bw {r:Array Nat} {u:Nat} (hu:u < r.toList.length):r.toList[u] = at' r u:=by
 have h:u < r.size:=by simpa using hu
 simp [at',h]
theorem Sg.join (o:Ord lt) {a m1 m2:Nat} (h1:Sg lt p a m1) (h2:Sg lt p (a + m1) m2) (hl:1 <= m1->Le lt (at' p (a + (m1 - 1))) (at' p (a + m1))):Sg lt p a (m1 + m2):=λ i j hij hj=>by
 by_cases c1:j < m1
 ·exact h1 i j hij c1
 ·by_cases c2:i < m1
  ·have e1:=h1 i (m1 - 1) (by lia) (by lia);have e2:=h2 0 (j - m1) (by lia) (by lia);rw [show a + m1 + (j - m1) = a + j by lia,Nat.add_zero] at e2;exact o.tran _ _ _ (o.tran _ _ _ e1 (hl (by lia))) e2
  ·have e2:=h2 (i - m1) (j - m1) (by lia) (by lia)
   rwa [show a + m1 + (j - m1) = a + j by lia,show a + m1 + (i - m1) = a + i by lia] at e2
theorem ZfI (o:Ord lt) {k:Nat} (sg:Sg lt p base m):∀ i j,i <= j->j < m->byd lt false k p base j = true->byd lt false k p base i = true:=λ i j h1 h2 h3=>by
 have:=o.tran _ _ _ (sg i j h1 h2) (HR h3)
 simpa [byd,Le] using this
theorem Zde (o:Ord lt) {k:Nat} (sg:Sg lt p base m):∀ i j,i <= j->j < m->byd lt true k p base j = true->byd lt true k p base i = true:=λ i j h1 h2 h3=>by
 cases e:byd lt true k p base i with
 | true=>rfl
 | false=>
  have:=o.tran _ _ _ (GU e) (sg i j h1 h2);have e2:lt (at' p (base + j)) k = true:=by simpa [byd] using h3
  rw [show lt (at' p (base + j)) k = false from this] at e2;cases e2
theorem Sg.mrg (o:Ord lt) {sa na nb k:Nat} {q:Array Nat} (h1:Sg lt p sa na) (h2:Sg lt p (sa + na) nb) (hz:sa + na + nb <= p.size) (hk:k < na) (hj:1 <= j) (hj2:j <= nb) (k2:∀ i,i < k->Le lt (at' p (sa + i)) (at' p (sa + na))) (j3:∀ i,j <= i->i < nb->Le lt (at' p (sa + (na - 1))) (at' p (sa + na + i)))
  (hq:q.toList.Perm ((p.extract (sa + k) (sa + na)).toList ++ (p.extract (sa + na) (sa + na + j)).toList)) (sq:q.toList.Pairwise (Le lt)):Sg lt (TL p q (sa + k)) sa (na + nb):=by
 have zq:q.size = na - k + j:=by
  have:=hq.length_eq;simp at this;lia
 have mem:∀ t,t < q.size->(∃ u,k <= u /\ u < na /\ at' q t = at' p (sa + u)) \/ ∃ u,u < j /\ at' q t = at' p (sa + na + u):=λ t ht=>by
  have m1:at' q t ∈ q.toList:=by simp [at',ht]
  rcases List.mem_append.mp (hq.mem_iff.mp m1) with m2 | m2
  ·obtain ⟨u,hu,e⟩:=List.getElem_of_mem m2;have hu':u < na - k:=by simp at hu; lia
   refine .inl ⟨k + u,by lia,by lia,?_⟩;rw [<- e,Bw,JV (by lia) (by lia),Nat.add_assoc]
  ·obtain ⟨u,hu,e⟩:=List.getElem_of_mem m2;have hu':u < j:=by simp at hu; lia
   refine .inr ⟨u,by lia,?_⟩;rw [<- e,Bw,JV (by lia) (by lia)]
 have b0:∀ i u,i < k->u < nb->Le lt (at' p (sa + i)) (at' p (sa + na + u)):=λ i u hi hu=>o.tran _ _ _ (k2 i hi) (by have:=h2 0 u (by lia) hu; rwa [Nat.add_zero] at this);intro x y hxy hy;rw [X3 (by lia),X3 (by lia)]
 by_cases x1:x < k
 ·rw [if_pos (by lia)]
  by_cases y1:y < k
  ·rw [if_pos (by lia)];exact h1 x y hxy (by lia)
  ·rw [if_neg (by lia)]
   by_cases y2:sa + y < sa + k + q.size
   ·rw [if_pos y2]
    rcases mem (sa + y - (sa + k)) (by lia) with ⟨u,u1,u2,e⟩ | ⟨u,u1,e⟩
    ·rw [e];exact h1 x u (by lia) u2
    ·rw [e];exact b0 x u x1 (by lia)
   ·rw [if_neg y2];have:=b0 x (y - na) x1 (by lia)
    rwa [show sa + na + (y - na) = sa + y by lia] at this
 ·rw [if_neg (by lia)];have y1:¬ sa + y < sa + k:=by lia
  by_cases x2:sa + x < sa + k + q.size
  ·rw [if_pos x2,if_neg y1]
   by_cases y2:sa + y < sa + k + q.size
   ·rw [if_pos y2];exact Zat o sq (by lia) (by lia)
   ·rw [if_neg y2]
    rcases mem (sa + x - (sa + k)) (by lia) with ⟨u,u1,u2,e⟩ | ⟨u,u1,e⟩
    ·rw [e];have:=o.tran _ _ _ (h1 u (na - 1) (by lia) (by lia)) (j3 (y - na) (by lia) (by lia))
     rwa [show sa + na + (y - na) = sa + y by lia] at this
    ·rw [e];have:=h2 u (y - na) (by lia) (by lia)
     rwa [show sa + na + (y - na) = sa + y by lia] at this
  ·rw [if_neg x2,if_neg y1,if_neg (by lia)];have:=h2 (x - na) (y - na) (by lia) (by lia)
   rwa [show sa + na + (y - na) = sa + y by lia,show sa + na + (x - na) = sa + x by lia] at this
theorem Runs.congr {p':Array Nat}:∀ {l:List (Nat × Nat × Nat)} {a b:Nat},Runs lt p l a b->(∀ k,a <= k->k < b->at' p' k = at' p k)->Runs lt p' l a b
 | [],a,b,h,_=>h
 | x :: l,a,b,h,e=>by
  have hl:=h.2.2.2.le;exact ⟨h.1,h.2.1,h.2.2.1.congr λ k hk=>e _ (by lia) (by lia),h.2.2.2.congr λ k h1 h2=>e k (by lia) h2⟩
end
section
variable {prog:Program} {E:Value->Shared->Prop} {κ:SortKind} {f:Nat->Keyed} {lt:Nat->Nat->Bool} {p:Array Nat} {pd:Array (Nat × Nat × Nat)} {g:Nat}
theorem Za0 {x:SortSt} {st:SortSt} {Q:PUnit->SortSt->Prop} (q:Q ⟨⟩ x):wpS (model prog w) A E s (set x:StateT SortSt Sem PUnit) Q st:=by
 unfold wpS;rw [StateT.run_set];exact wpAny_pure ⟨rfl,q⟩
theorem NI {l1 l2:List (Nat × Nat × Nat)} {x y z:Nat × Nat × Nat} (ep:pd.toList = l1 ++ x :: y :: l2):((pd.setIfInBounds l1.length z).eraseIdxIfInBounds (l1.length + 1)).toList = l1 ++ z :: l2:=by
 have hz:pd.size = l1.length + (l2.length + 1 + 1):=by rw [<- Array.length_toList,ep]; simp
 unfold Array.eraseIdxIfInBounds;rw [dif_pos (by simp; lia),Array.toList_eraseIdx,Array.toList_setIfInBounds,ep,List.set_append_right _ _ (Nat.le_refl _),Nat.sub_self,List.set_cons_zero,List.eraseIdx_append_of_length_le (by lia)];simp
theorem NT {p q:Array Nat} {a:Nat} (h:a + q.size <= p.size):List.foldl (λ r x=>r.setIfInBounds (a + x.2) x.1) (p.map f) (q.map f).toList.zipIdx = (TL p q a).map f:=by
 apply Array.toList_inj.mp;rw [DY a _ 0 _ (by simpa using h)];unfold TL;simp
set_option maxHeartbeats 4000000 in
theorem X7 (h:Ans prog w A s κ f lt n) (o:Ord lt) (hp:Pm n p) {l1 l2:List (Nat × Nat × Nat)} {sa na pa sb nb pb hi:Nat} (ep:pd.toList = l1 ++ (sa,na,pa) :: (sb,nb,pb) :: l2) (hr:Runs lt p pd.toList 0 hi) (hn:hi <= n) {Q:Bool->SortSt->Prop}
  (q:∀ p' pd' g',Pm n p'->(∀ k,hi <= k->at' p' k = at' p k)->Runs lt p' pd'.toList 0 hi->pd'.toList = l1 ++ (sa,na + nb,pa) :: l2->Q true (SS κ f p' pd' g')):wpS (model prog w) A E s (mergeAt' l1.length) Q (SS κ f p pd g):=by
 have e1:pd[l1.length]? = some (sa,na,pa):=by rw [<- Array.getElem?_toList,ep]; simp
 have e2:pd[l1.length + 1]? = some (sb,nb,pb):=by rw [<- Array.getElem?_toList,ep]; simp
 have epd:=NI (z:=(sa,na + nb,pa)) ep;have hz:=hp.size;rw [ep] at hr;obtain ⟨b1,r1,e3,n1,g1,e4,n2,g2,r2⟩:=Runs.app.mp hr;dsimp only at e3 n1 g1 e4 n2 g2 r2;subst e3;subst e4;have hl:=r2.le;refine wpS_bind (wpS_get ?_);dsimp only;rw [e1,e2];dsimp only;refine wpS_bind (Za0 ?_);generalize (pd.setIfInBounds l1.length (sa,na + nb,pa)).eraseIdxIfInBounds (l1.length + 1) = pd' at epd ⊢;refine wpS_bind (ZM rfl (by lia) (wpS_bind (Jc h rfl rfl (hp.below (by lia)) (λ i hi=>hp.below (by lia)) (by lia) (by lia) (ZfI o g1) λ k k1 k2 k3=>?_)));dsimp only;have same:∀ {g'},Sg lt p sa (na + nb)->Q true (SS κ f p pd' g'):=λ {g'} sg=>q p pd' g' hp (λ _ _=>rfl) (by rw [epd]; exact Runs.app.mpr ⟨sa,r1,rfl,by dsimp only; lia,sg,by dsimp only; rw [<- Nat.add_assoc]; exact r2⟩) epd;refine Zl (λ c=>?_) λ c=>?_
 ·have c:=beq_iff_eq.mp c;exact wpS_pure (same (g1.join o g2 λ _=>HR (k2 (na - 1) (by lia))))
 have c:¬ na - k = 0:=λ z=>c (beq_iff_eq.mpr z);refine wpS_bind (ZM rfl (by lia) (wpS_bind (Jc h rfl rfl (hp.below (by lia)) (λ i hi=>hp.below (by lia)) (by lia) (by lia) (Zde o g2) λ j j1 j2 j3=>?_)));dsimp only;refine Zl (λ c2=>?_) λ c2=>?_
 ·have c2:=beq_iff_eq.mp c2;refine wpS_pure (same (g1.join o g2 λ _=>?_));have:=GU (j3 0 (by lia) (by lia))
  rwa [show sa + k + (na - k) - 1 = sa + (na - 1) by lia] at this
 have c2:¬ j = 0:=λ z=>c2 (beq_iff_eq.mpr z);have zx:(p.extract (sa + k) (sa + na)).size = na - k:=by simp; lia
 have zy:(p.extract (sa + na) (sa + na + j)).size = j:=by simp; lia
 have lo1:∀ i,k + i < na->Le lt (at' p (sa + na + 0)) (at' p (sa + k + i)):=λ i hi=>by
  have:=LR o (k3 (k + i) (by lia) hi)
  rwa [show sa + (k + i) = sa + k + i by lia] at this
 have lo2:∀ y ∈ (p.extract (sa + k) (sa + na)).toList,Le lt (at' p (sa + na + 0)) y:=λ y hy=>by
  obtain ⟨u,hu,rfl⟩:=List.getElem_of_mem hy;have hu':u < na - k:=by rw [Array.length_toList,zx] at hu; exact hu
  rw [Bw,JV (by lia) (by lia)];exact lo1 u (by lia)
 have byd_t':∀ {u},u < j->Le lt (at' p (sa + na + u)) (at' p (sa + (na - 1))):=λ {u} hu=>by
  have:=Zbv o (j2 u hu)
  rwa [show sa + k + (na - k) - 1 = sa + (na - 1) by lia] at this
 have hi1:∀ y ∈ (p.extract (sa + na) (sa + na + j)).toList,Le lt y (at' p (sa + (na - 1))):=λ y hy=>by
  obtain ⟨u,hu,rfl⟩:=List.getElem_of_mem hy;have hu':u < j:=by rw [Array.length_toList,zy] at hu; exact hu
  rw [Bw,JV (by lia) (by lia)];exact byd_t' hu'
 have M:Mc prog w A s κ f lt n (p.extract (sa + k) (sa + na)) (p.extract (sa + na) (sa + na + j)) ((p.map f).extract (sa + k) (sa + na)) ((p.map f).extract (sa + na) (sa + na + j)):=
  ⟨h,o,Dj rfl _ _,Dj rfl _ _,λ i hi=>by rw [zx] at hi; rw [JV (by lia) (by lia)]; exact hp.below (by lia),λ i hi=>by rw [zy] at hi; rw [JV (by lia) (by lia)]; exact hp.below (by lia),Sj o g1 (by lia) (by lia) (by lia),Sj o g2 (by lia) (by lia) (by lia),by lia,by lia⟩
 have fin:∀ r st',Sm (SS κ f p pd' g) st'->Mgd f lt (p.extract (sa + k) (sa + na)) (p.extract (sa + na) (sa + na + j)) r->Q true (SortSt.mk' (kindOf st') (List.foldl (λ r x=>r.setIfInBounds (sa + k + x.2) x.1) (arrOf st') r.toList.zipIdx) (pendingOf st') (gallopOf st') (failedOf st')):=by
  rintro _ st' hs ⟨q',rfl,hq1,hq2⟩;have zq:q'.size = na - k + j:=by
   have:=hq1.length_eq;rw [List.length_append,Array.length_toList,Array.length_toList,Array.length_toList,zx,zy] at this;exact this
  rw [hs.kd,hs.ar,hs.pd,hs.fl];show Q true (SortSt.mk' κ (List.foldl (λ r x=>r.setIfInBounds (sa + k + x.2) x.1) (p.map f) (q'.map f).toList.zipIdx) pd' (gallopOf st') none);rw [NT (by lia)];refine q _ pd' _ (MD (by lia) (by lia) (by lia) hq1 hp) (λ u hu=>?_) ?_ epd
  ·rw [X3 (by lia),if_neg (by lia),if_neg (by lia)]
  ·rw [epd];refine Runs.app.mpr ⟨sa,r1.congr λ u u1 u2=>?_,rfl,by dsimp only; lia,Sg.mrg o g1 g2 (by lia) (by lia) (by lia) j1 (λ i hi=>HR (k2 i hi)) (λ i h1 h2=>?_) hq1 hq2,(show Runs lt _ l2 (sa + (na + nb)) hi from (Nat.add_assoc sa na nb ▸ r2).congr λ u u1 u2=>?_)⟩
   ·rw [X3 (by lia),if_pos (by lia)]
   ·have:=GU (j3 i h1 h2)
    rwa [show sa + k + (na - k) - 1 = sa + (na - 1) by lia] at this
   ·rw [X3 (by lia),if_neg (by lia),if_neg (by lia)]
 refine Zl (λ c3=>wpS_bind (BB M rfl ?_ ?_ λ r st' hs hr'=>?_)) λ c3=>wpS_bind (Bp M rfl ?_ ?_ λ r st' hs hr'=>?_)
 ·rw [JV (by lia) (by lia),JV (by lia) (by lia)];exact lo1 0 (by lia)
 ·intro y hy;rw [zx,JV (by lia) (by lia),show sa + k + (na - k - 1) = sa + (na - 1) by lia];exact hi1 y hy
 rotate_left
 ·intro y hy;rw [JV (by lia) (by lia)];exact lo2 y hy
 ·rw [zx,zy,JV (by lia) (by lia),JV (by lia) (by lia),show sa + k + (na - k - 1) = sa + (na - 1) by lia];exact byd_t' (by lia)
 all_goals
  refine wpS_bind (wpS_modify (wpS_bind (wpS_get (wpS_pure ?_))));have e:(failedOf st').isNone = true:=by rw [hs.fl]; rfl
  have:=fin r st' hs hr';rw [<- e] at this;exact this
end
theorem Runs.mod {lt:Nat->Nat->Bool} {p:Array Nat} {c:Nat}:∀ {l:List (Nat × Nat × Nat)} {i a b:Nat},Runs lt p l a b->Runs lt p (l.modify i λ x=>(x.1,x.2.1,c)) a b
 | [],i,a,b,h=>by simpa using h
 | x :: l,0,a,b,h=>h
 | x :: l,i + 1,a,b,h=>⟨h.1,h.2.1,h.2.2.1,Runs.mod h.2.2.2⟩
theorem YY {α:Type} {l:List α} {i:Nat} (h:i + 1 < l.length):∃ l1 x y l2,l = l1 ++ x :: y :: l2 /\ l1.length = i:=by
 refine ⟨l.take i,l[i],l[i + 1],l.drop (i + 2),?_,by simp; lia⟩;rw [<- List.drop_eq_getElem_cons,<- List.drop_eq_getElem_cons,List.take_append_drop]
theorem Zid {lt:Nat->Nat->Bool} {p:Array Nat} (h:Sg lt p 0 n) (hz:p.size = n):p.toList.Pairwise (Le lt):=by
 rw [List.pairwise_iff_getElem];intro i j hi hj hij;rw [Bw,Bw];have:=h i j (by lia) (by rw [Array.length_toList] at hj; lia)
 rwa [Nat.zero_add,Nat.zero_add] at this
section
variable {prog:Program} {E:Value->Shared->Prop} {κ:SortKind} {f:Nat->Keyed} {lt:Nat->Nat->Bool} {p:Array Nat} {g:Nat}
theorem NH {pd:Array (Nat × Nat × Nat)} {γ:Type} {X:Nat->StateT SortSt Sem γ} {Q:γ->SortSt->Prop} (R:Nat->Array Nat->Prop) {goal:Prop} (k:(∀ m p',R m p'->wpS (model prog w) A E s (X m) Q (SS κ f p' pd g))->goal) (h:∀ m p',R m p'->wpS (model prog w) A E s (X m) Q (SS κ f p' pd g)):goal:=k h
def Wt (κ:SortKind) (f:Nat->Keyed) (lt:Nat->Nat->Bool) (n hi:Nat) (st:SortSt):Prop:=∃ p pd g,SS κ f p pd g = st /\ Pm n p /\ Runs lt p pd.toList 0 hi /\ hi <= n
set_option maxHeartbeats 4000000 in
theorem OY (h:Ans prog w A s κ f lt n) (o:Ord lt) (hp:Pm n p) (h2:2 <= n) {Q:Unit->SortSt->Prop} (q:∀ p' pd' g',Pm n p'->p'.toList.Pairwise (Le lt)->Q () (SS κ f p' pd' g')):wpS (model prog w) A E s sortRuns' Q (SS κ f p #[] g):=by
 have hz:(arrOf (SS κ f p #[] g)).size = n:=by
  show (p.map f).size = n;rw [Array.size_map,hp.size]
 refine wpS_bind (wpS_get ?_);dsimp only;rw [show (p.map f).size = n from hz];refine wpS_bind (wpS_mono (wpS_forRange (I:=λ x c st'=>c.1 = none /\ x <= c.2 /\ Wt κ f lt n c.2 st') (Q:=λ c st'=>c.1 = none /\ Wt κ f lt n n st') ?_ ?_ ⟨rfl,Nat.le_refl _,p,#[],g,rfl,hp,(by exact (rfl:(0:Nat) = 0)),Nat.zero_le _⟩) ?_)
 ·rintro x ⟨c1,lo⟩ _ _ hx ⟨e1,l1,p,pd,g,rfl,hp,hr,hl⟩;dsimp only at e1 l1 hl hr ⊢;have push:∀ {p:Array Nat} {pd:Array (Nat × Nat × Nat)} {g mm:Nat},Runs lt p pd.toList 0 lo->Pm n p->Sg lt p lo mm->1 <= mm->lo + mm <= n->Wt κ f lt n (lo + mm) (SortSt.mk' κ (p.map f) (pd.push (lo,mm,0)) g none):=λ {p pd g mm} r q s m1 m2=>
   ⟨p,_,g,rfl,q,by rw [Array.toList_push]; exact Runs.app.mpr ⟨lo,r,rfl,m1,s,rfl⟩,m2⟩
  refine Zl (λ c=>?_) λ c=>?_
  ·have e:lo = n:=by lia
   exact wpS_pure ⟨rfl,p,pd,g,rfl,hp,by rw [<- e]; exact hr,Nat.le_refl _⟩
  refine wpS_bind (Lh h o hp (by lia) (by lia) λ m p2 m1 m2 p2p o2 s2=>?_);have r2:Runs lt p2 pd.toList 0 lo:=hr.congr λ k _ hk=>o2 k (.inl hk);dsimp only;apply NH (pd:=pd) (g:=g) λ mm p6=>Pm n p6 /\ Runs lt p6 pd.toList 0 lo /\ Sg lt p6 lo mm /\ 1 <= mm /\ lo + mm <= n
  ·intro go;refine Zl (λ c2=>wpS_bind (wpS_lift (wpAny_rule ⟨rfl,?_⟩))) λ c2=>?_;have c3:m < minRun' n n 0:=c2;generalize emm:min (n - lo) (minRun' n n 0) = mm;have emm':min (n - lo) ((sortPriv% PySem.Builtin.minRun) n n 0) = mm:=emm;rw [emm'];exact wpS_bind (Ey h o p2p m1 (by lia) (by lia) s2 λ p6 q6 o6 s6=>Zl (λ z=>absurd z (by decide)) λ _=>go mm p6 ⟨q6,r2.congr λ k _ hk=>o6 k (.inl hk),s6,by lia,by lia⟩);exact go m p2 ⟨p2p,r2,s2,m1,by lia⟩
  clear r2 s2 p2p o2 m1 m2;rintro mm p6 ⟨p2,r2,s2,m1,m2⟩;refine wpS_bind (wpS_get ?_);dsimp only;cases eb:pd.back? with
  | none=>exact wpS_bind (wpS_modify (wpS_pure ⟨rfl,by dsimp only; lia,push r2 p2 s2 m1 (by lia)⟩))
  | some z=>
   obtain ⟨s1,n1,z1⟩:=z;dsimp only;refine wpS_bind (wpS_mono (wpS_forRange (I:=λ x c st'=>c.1 = none /\ ∃ p pd g,SS κ f p pd g = st' /\ Pm n p /\ Runs lt p pd.toList 0 lo /\ Sg lt p lo mm) (Q:=λ c st'=>c.1 = none /\ ∃ p pd g,SS κ f p pd g = st' /\ Pm n p /\ Runs lt p pd.toList 0 lo /\ Sg lt p lo mm) ?_ (λ _ _ z=>z) ⟨rfl,_,_,_,rfl,p2,r2,s2⟩) ?_)
   ·rintro y ⟨d1,d2⟩ _ _ hy ⟨f1,p3,pd3,g3,rfl,p4,r4,s4⟩;dsimp only at f1 ⊢;refine wpS_bind (wpS_get ?_);dsimp only
    by_cases two:pd3.size > 1
    ·rw [if_pos two];obtain ⟨l1,⟨sa,na,pa⟩,⟨sb,nb,pb⟩,l2,e5,e6⟩:=YY (l:=pd3.toList) (i:=pd3.size - 2) (by rw [Array.length_toList]; lia);have e7:pd3[pd3.size - 2]? = some (sa,na,pa):=by rw [<- e6,<- Array.getElem?_toList,e5]; simp
     rw [e7];dsimp only;refine Zl (λ _=>wpS_pure ⟨rfl,_,_,_,rfl,p4,r4,s4⟩) λ _=>wpS_bind ?_;rw [<- e6];refine X7 h o p4 e5 r4 hl λ p5 pd5 g5 a1 a2 a3 _=>?_;refine Zl (λ z=>absurd z (by decide)) λ _=>wpS_pure ⟨rfl,_,_,_,rfl,a1,a3,s4.congr λ k _=>a2 _ (by lia)⟩
    ·rw [if_neg two];exact wpS_pure ⟨rfl,_,_,_,rfl,p4,r4,s4⟩
   ·rintro ⟨d1,d2⟩ _ ⟨f1,p3,pd3,g3,rfl,p4,r4,s4⟩;dsimp only at f1 ⊢;subst f1;dsimp only;refine wpS_bind (wpS_modify (wpS_bind (wpS_modify (wpS_pure ⟨rfl,by dsimp only; lia,push (pd:=pd3.modify (pd3.size - 1) λ x=>(x.1,x.2.1,_)) ?_ p4 s4 m1 (by lia)⟩))));rw [Array.toList_modify];exact r4.mod
 ·rintro ⟨c1,lo⟩ _ ⟨e1,l1,p,pd,g,rfl,hp,hr,hl⟩;dsimp only at e1 l1 hl hr ⊢;have e:lo = n:=by lia
  exact ⟨e1,p,pd,g,rfl,hp,by rw [<- e]; exact hr,Nat.le_refl _⟩
 ·rintro ⟨c1,lo⟩ _ ⟨e1,p,pd,g,rfl,hp,hr,hl⟩;dsimp only at e1 ⊢;subst e1;dsimp only;refine wpS_bind (wpS_mono (wpS_forRange (I:=λ x c st'=>c.1 = none /\ ∃ p pd g,SS κ f p pd g = st' /\ Pm n p /\ Runs lt p pd.toList 0 n /\ pd.size + x <= n) (Q:=λ c st'=>c.1 = none /\ ∃ p pd g,SS κ f p pd g = st' /\ Pm n p /\ Runs lt p pd.toList 0 n /\ pd.size <= 1) ?_ ?_ ⟨rfl,p,pd,g,rfl,hp,hr,by have:=hr.le; rw [Array.length_toList] at this; lia⟩) ?_)
  ·rintro y ⟨d1,d2⟩ _ _ hy ⟨f1,p3,pd3,g3,rfl,p4,r4,s4⟩;dsimp only at f1 ⊢;refine wpS_bind (wpS_get ?_);dsimp only;refine Zl (λ c=>wpS_pure ⟨rfl,p3,pd3,g3,rfl,p4,r4,c⟩) λ c=>?_;have go:∀ i,i + 1 < pd3.size->wpS (model prog w) A E s (mergeAt' i) (λ b st'=>b = true /\ ∃ p pd g,SS κ f p pd g = st' /\ Pm n p /\ Runs lt p pd.toList 0 n /\ pd.size + (y + 1) <= n) (SS κ f p3 pd3 g3):=λ i hi=>by
    obtain ⟨l1,⟨sa,na,pa⟩,⟨sb,nb,pb⟩,l2,e5,e6⟩:=YY (l:=pd3.toList) (i:=i) (by rw [Array.length_toList]; lia);rw [<- e6];refine X7 h o p4 e5 r4 (Nat.le_refl _) λ p5 pd5 g5 a1 a2 a3 a4=>⟨rfl,p5,pd5,g5,rfl,a1,a3,?_⟩;have z1:=congrArg List.length a4;have z2:=congrArg List.length e5;simp at z1 z2;lia
   refine wpS_bind (wpS_mono (go _ ?_) λ b st' hb=>?_)
   ·repeat' split
    all_goals lia
   ·obtain ⟨rfl,hb⟩:=hb;exact Zl (λ z=>absurd z (by decide)) λ _=>wpS_pure ⟨rfl,hb⟩
  ·rintro ⟨d1,d2⟩ _ ⟨f1,p3,pd3,g3,rfl,p4,r4,s4⟩;exact ⟨f1,p3,pd3,g3,rfl,p4,r4,by lia⟩
  ·rintro ⟨d1,d2⟩ _ ⟨f1,p3,pd3,g3,rfl,p4,r4,s4⟩;dsimp only at f1 ⊢;subst f1;dsimp only;refine wpS_pure (q _ _ _ p4 ?_);rw [<- Array.length_toList] at s4;generalize pd3.toList = L at r4 s4
   match L,r4,s4 with
   | [],r4,_=>exact absurd (show (0:Nat) = n from r4) (by lia)
   | [x],r4,_=>
    obtain ⟨_,_,sg,e⟩:=r4;have e:0 + x.2.1 = n:=e;rw [Nat.zero_add] at e;rw [e] at sg;exact Zid sg p4.size
   | _ :: _ :: _,_,z=>exact absurd z (by simp)
end
mutual
noncomputable def pln:PyData->Bool
 | .int _=>true
 | .str _=>true
 | .tuple l=>Bm l
 | _=>false
noncomputable def Bm:List PyData->Bool
 | []=>true
 | d :: l=>pln d && Bm l
end
mutual
noncomputable def Qx:PyData->PyData->Bool
 | .int _,.int _=>true
 | .str _,.str _=>true
 | .tuple a,.tuple b=>Q1 a b
 | _,_=>false
noncomputable def Q1:List PyData->List PyData->Bool
 | a :: l,b :: r=>if PyData.eqv a b then Q1 l r else Qx a b
 | _,_=>true
end
mutual
noncomputable def ltD:PyData->PyData->Bool
 | .int i,.int j=>decide (i < j)
 | .str s,.str t=>decide (s.cps.toList < t.cps.toList)
 | .tuple a,.tuple b=>VL a b
 | _,_=>false
noncomputable def VL:List PyData->List PyData->Bool
 | a :: l,b :: r=>if PyData.eqv a b then VL l r else ltD a b
 | [],_ :: _=>true
 | _,[]=>false
end
theorem Z1 (h:Bm (d :: l) = true):pln d = true /\ Bm l = true:=by
 rw [Bm,Bool.and_eq_true] at h;exact h
theorem LF {s t:Str} (h:s.cps.toList = t.cps.toList):s = t:=by
 obtain ⟨⟨a⟩⟩:=s;obtain ⟨⟨b⟩⟩:=t;cases h;rfl
mutual
theorem L9:∀ (a b:PyData),pln a = true->pln b = true->PyData.eqv a b = true->a = b
 | .int i,b,_,hb,h=>by
  cases b with
  | int j=>rw [PyData.eqv] at h; rw [beq_iff_eq.mp h]
  | bool _=>simp [pln] at hb
  | _=>rw [PyData.eqv] at h; cases h
 | .str s,b,_,hb,h=>by
  cases b with
  | str t=>rw [PyData.eqv] at h; rw [beq_iff_eq.mp h]
  | _=>rw [PyData.eqv] at h; cases h
 | .tuple l,b,ha,hb,h=>by
  cases b with
  | tuple r=>
   rw [pln] at ha hb;rw [PyData.eqv] at h;rw [Ea l r ha hb h]
  | _=>rw [PyData.eqv] at h; cases h
 | .none,_,ha,_,_=>by simp [pln] at ha
 | .bool _,_,ha,_,_=>by simp [pln] at ha
 | .list _,_,ha,_,_=>by simp [pln] at ha
 | .dict _,_,ha,_,_=>by simp [pln] at ha
theorem Ea:∀ (l r:List PyData),Bm l = true->Bm r = true->PyData.eqvAll l r = true->l = r
 | [],[],_,_,_=>rfl
 | [],_ :: _,_,_,h=>by rw [PyData.eqvAll] at h; cases h
 | _ :: _,[],_,_,h=>by rw [PyData.eqvAll] at h; cases h
 | a :: l,b :: r,ha,hb,h=>by
  rw [PyData.eqvAll,Bool.and_eq_true] at h;rw [L9 a b (Z1 ha).1 (Z1 hb).1 h.1,Ea l r (Z1 ha).2 (Z1 hb).2 h.2]
end
mutual
theorem Uc:∀ (a:PyData),pln a = true->PyData.eqv a a = true
 | .int i,_=>by rw [PyData.eqv]; exact beq_self_eq_true i
 | .str s,_=>by rw [PyData.eqv]; exact beq_self_eq_true s
 | .tuple l,h=>by rw [pln] at h; rw [PyData.eqv]; exact U8 l h
 | .none,h=>by simp [pln] at h
 | .bool _,h=>by simp [pln] at h
 | .list _,h=>by simp [pln] at h
 | .dict _,h=>by simp [pln] at h
theorem U8:∀ (l:List PyData),Bm l = true->PyData.eqvAll l l = true
 | [],_=>by rw [PyData.eqvAll]
 | a :: l,h=>by rw [PyData.eqvAll,Uc a (Z1 h).1,U8 l (Z1 h).2]; rfl
end
theorem RA {a b:PyData} (ha:pln a = true) (hb:pln b = true) (h:a ≠ b):PyData.eqv a b = false:=by
 cases e:PyData.eqv a b with
 | false=>rfl
 | true=>exact absurd (L9 a b ha hb e) h
theorem W9 {a:PyData} {r:List PyData} (ha:pln a = true):VL (a :: l) (a :: r) = VL l r:=by rw [VL,Uc a ha,if_pos rfl]
theorem JI {a b:PyData} {r:List PyData} (ha:pln a = true) (hb:pln b = true) (h:a ≠ b):VL (a :: l) (b :: r) = ltD a b:=by rw [VL,RA ha hb h,if_neg (by decide)]
theorem Km {a:PyData} {r:List PyData} (ha:pln a = true):Q1 (a :: l) (a :: r) = Q1 l r:=by rw [Q1,Uc a ha,if_pos rfl]
theorem Yj {a b:PyData} {r:List PyData} (ha:pln a = true) (hb:pln b = true) (h:a ≠ b):Q1 (a :: l) (b :: r) = Qx a b:=by rw [Q1,RA ha hb h,if_neg (by decide)]
mutual
theorem CW:∀ (a b:PyData),pln a = true->pln b = true->ltD a b = true->ltD b a = false
 | .int i,b,_,_,h=>by
  cases b with
  | int j=>rw [ltD] at h ⊢; have:=of_decide_eq_true h; exact decide_eq_false (by lia)
  | _=>simp [ltD] at h
 | .str s,b,_,_,h=>by
  cases b with
  | str t=>rw [ltD] at h ⊢; have:=of_decide_eq_true h; exact decide_eq_false λ z=>absurd (List.lt_trans this z) (List.lt_irrefl _)
  | _=>simp [ltD] at h
 | .tuple l,b,ha,hb,h=>by
  cases b with
  | tuple r=>
   rw [pln] at ha hb;rw [ltD] at h ⊢;exact Be l r ha hb h
  | _=>simp [ltD] at h
 | .none,_,ha,_,_=>by simp [pln] at ha
 | .bool _,_,ha,_,_=>by simp [pln] at ha
 | .list _,_,ha,_,_=>by simp [pln] at ha
 | .dict _,_,ha,_,_=>by simp [pln] at ha
theorem Be:∀ (l r:List PyData),Bm l = true->Bm r = true->VL l r = true->VL r l = false
 | [],[],_,_,h=>by rw [VL] at h; cases h
 | [],_ :: _,_,_,_=>by rw [VL]
 | _ :: _,[],_,_,h=>by rw [VL] at h; cases h
 | a :: l,b :: r,ha,hb,h=>by
  have a1:=Z1 ha;have b1:=Z1 hb
  by_cases e:a = b
  ·subst e;rw [W9 a1.1] at h ⊢;exact Be l r a1.2 b1.2 h
  ·rw [JI a1.1 b1.1 e] at h;rw [JI b1.1 a1.1 (Ne.symm e)];exact CW a b a1.1 b1.1 h
end
mutual
theorem Mi:∀ (a b:PyData),pln a = true->pln b = true->Qx a b = true->ltD a b = false->ltD b a = false->a = b
 | .int i,b,_,_,c,h,k=>by
  cases b with
  | int j=>
   rw [ltD] at h k;have:=of_decide_eq_false h;have:=of_decide_eq_false k;rw [show i = j by lia]
  | _=>simp [Qx] at c
 | .str s,b,_,_,c,h,k=>by
  cases b with
  | str t=>
   rw [ltD] at h k;rw [LF (List.le_antisymm (List.not_lt.mp (of_decide_eq_false k)) (List.not_lt.mp (of_decide_eq_false h)))]
  | _=>simp [Qx] at c
 | .tuple l,b,ha,hb,c,h,k=>by
  cases b with
  | tuple r=>
   rw [pln] at ha hb;rw [ltD] at h k;rw [Qx] at c;rw [DN l r ha hb c h k]
  | _=>simp [Qx] at c
 | .none,_,ha,_,_,_,_=>by simp [pln] at ha
 | .bool _,_,ha,_,_,_,_=>by simp [pln] at ha
 | .list _,_,ha,_,_,_,_=>by simp [pln] at ha
 | .dict _,_,ha,_,_,_,_=>by simp [pln] at ha
theorem DN:∀ (l r:List PyData),Bm l = true->Bm r = true->Q1 l r = true->VL l r = false->VL r l = false->l = r
 | [],[],_,_,_,_,_=>rfl
 | [],_ :: _,_,_,_,h,_=>by rw [VL] at h; cases h
 | _ :: _,[],_,_,_,_,h=>by rw [VL] at h; cases h
 | a :: l,b :: r,ha,hb,c,h,k=>by
  have a1:=Z1 ha;have b1:=Z1 hb
  by_cases e:a = b
  ·subst e;rw [W9 a1.1] at h k;rw [Km a1.1] at c;rw [DN l r a1.2 b1.2 c h k]
  ·rw [JI a1.1 b1.1 e] at h;rw [JI b1.1 a1.1 (Ne.symm e)] at k;rw [Yj a1.1 b1.1 e] at c;exact absurd (Mi a b a1.1 b1.1 c h k) e
end
mutual
theorem Dp:∀ (a b c:PyData),pln a = true->pln b = true->pln c = true->Qx a b = true->Qx b c = true->Qx a c = true->ltD b a = false->ltD c b = false->ltD c a = false
 | .int i,b,c,_,_,_,k1,k2,_,h1,h2=>by
  cases b with
  | int j=>
   cases c with
   | int k=>
    rw [ltD] at h1 h2 ⊢;have:=of_decide_eq_false h1;have:=of_decide_eq_false h2;exact decide_eq_false (by lia)
   | _=>simp [Qx] at k2
  | _=>simp [Qx] at k1
 | .str s,b,c,_,_,_,k1,k2,_,h1,h2=>by
  cases b with
  | str t=>
   cases c with
   | str u=>
    rw [ltD] at h1 h2 ⊢;exact decide_eq_false (List.not_lt.mpr (List.le_trans (List.not_lt.mp (of_decide_eq_false h1)) (List.not_lt.mp (of_decide_eq_false h2))))
   | _=>simp [Qx] at k2
  | _=>simp [Qx] at k1
 | .tuple x,b,c,ha,hb,hc,k1,k2,k3,h1,h2=>by
  cases b with
  | tuple y=>
   cases c with
   | tuple z=>
    rw [pln] at ha hb hc;rw [Qx] at k1 k2 k3;rw [ltD] at h1 h2 ⊢;exact G9 x y z ha hb hc k1 k2 k3 h1 h2
   | _=>simp [Qx] at k2
  | _=>simp [Qx] at k1
 | .none,_,_,ha,_,_,_,_,_,_,_=>by simp [pln] at ha
 | .bool _,_,_,ha,_,_,_,_,_,_,_=>by simp [pln] at ha
 | .list _,_,_,ha,_,_,_,_,_,_,_=>by simp [pln] at ha
 | .dict _,_,_,ha,_,_,_,_,_,_,_=>by simp [pln] at ha
theorem G9:∀ (x y z:List PyData),Bm x = true->Bm y = true->Bm z = true->Q1 x y = true->Q1 y z = true->Q1 x z = true->VL y x = false->VL z y = false->VL z x = false
 | [],_,z,_,_,_,_,_,_,_,_=>by cases z <;> rw [VL]
 | _ :: _,[],_,_,_,_,_,_,_,h,_=>by rw [VL] at h; cases h
 | _ :: _,_ :: _,[],_,_,_,_,_,_,_,h=>by rw [VL] at h; cases h
 | a :: x,b :: y,c :: z,ha,hb,hc,k1,k2,k3,h1,h2=>by
  have a1:=Z1 ha;have b1:=Z1 hb;have c1:=Z1 hc
  by_cases e1:a = b
  ·subst e1;rw [W9 a1.1] at h1;rw [Km a1.1] at k1
   by_cases e2:a = c
   ·subst e2;rw [W9 a1.1] at h2 ⊢;rw [Km a1.1] at k2 k3;exact G9 x y z a1.2 b1.2 c1.2 k1 k2 k3 h1 h2
   ·rw [JI c1.1 a1.1 (Ne.symm e2)] at h2 ⊢;exact h2
  ·rw [JI b1.1 a1.1 (Ne.symm e1)] at h1;rw [Yj a1.1 b1.1 e1] at k1
   by_cases e2:b = c
   ·subst e2;rw [JI b1.1 a1.1 (Ne.symm e1)];exact h1
   ·rw [JI c1.1 b1.1 (Ne.symm e2)] at h2;rw [Yj b1.1 c1.1 e2] at k2
    by_cases e3:a = c
    ·subst e3;exact absurd (Mi a b a1.1 b1.1 k1 h2 h1) e1
    ·rw [JI c1.1 a1.1 (Ne.symm e3)];rw [Yj a1.1 c1.1 e3] at k3;exact Dp a b c a1.1 b1.1 c1.1 k1 k2 k3 h1 h2
end
def LtA (A:Around) (s:Shared) (y x:Value) (b:Bool):Prop:=∀ (prog:Program) (w:World) (E:Value->Shared->Prop) (Q:Value->Shared->Prop),Q (.bool b) s->wpAny (model prog w) A (richCompare .Lt y x) Q E s
inductive MO (A:Around) (s:Shared):List Value->List Value->Bool->Prop
 | nn:MO A s [] [] false
 | nc {x:Value} {ws:List Value}:MO A s [] (x :: ws) true
 | cn {y:Value} {vs:List Value}:MO A s (y :: vs) [] false
 | eq {y x:Value} {vs ws:List Value} {b:Bool}:SeqAt.EqAt A s y x true->MO A s vs ws b->MO A s (y :: vs) (x :: ws) b
 | ne {y x:Value} {vs ws:List Value} {b:Bool}:SeqAt.EqAt A s y x false->LtA A s y x b->MO A s (y :: vs) (x :: ws) b
section
open PySem.SeqAt
open PySem.AutoSeq1 (wpAny_loadPart')
open PySem.MeetsSeq PySem.MeetsSeq2 PySem.MeetsSeq3
theorem Uz (l b:Addr) (items items2:Array Value) (n n2:Nat) (dd dd2:Option Addr) (sl sl2:Array (Option Value)) (k:Bool) :
  Meets (Builtin.«tuple.__lt__» ⟨[.ref l,.ref b],[]⟩)
   (λ A R s=>s.heap.get? l = some { cls:=.type "tuple",dict:=dd,data:=.seq items n,slots:=sl } /\ s.heap.get? b = some { cls:=.type "tuple",dict:=dd2,data:=.seq items2 n2,slots:=sl2 } /\
    MO A.in1 s items.toList items2.toList k /\ R (.ok (.ret (.bool k))) s):=
 .of_wp λ prog w A R s h=>by
  obtain ⟨hp,g,d,tk,os⟩:=s; obtain ⟨hl,hb,hx,h⟩:=h;have f2:=AutoSeq1.sub_tuple_tuple
  wp_walk using wpAny_loadPart' hl,wpAny_loadPart' hb,wpAny_forIn_list _ (λ rest b s'=>b.1 = none /\ s' = ⟨hp,g,d,tk,os⟩ /\ ∃ (vs ws:List Value),rest = vs.zip ws /\ MO A.in1 ⟨hp,g,d,tk,os⟩ vs ws k /\ vs.length + items2.size = ws.length + items.size) _
  case turn=>
   rintro ⟨y,x⟩ rest b s' ⟨hb',rfl,vs,ws,hz,hvw,hlen⟩;cases hvw with
   | nn=>cases hz
   | nc=>cases hz
   | cn=>cases hz
   | eq he hr=>
    rw [List.zip_cons_cons] at hz
    injection hz with hyx hrest
    injection hyx with hy hx
    subst hy hx;refine wpAny_bind (he prog w _ _ ?_)
    wp_walk
    exact ⟨rfl,rfl,_,_,hrest,hr,by simp only [List.length_cons] at hlen; lia⟩
   | ne he hr=>
    rw [List.zip_cons_cons] at hz
    injection hz with hyx hrest
    injection hyx with hy hx
    subst hy hx;refine wpAny_bind (he prog w _ _ ?_);have hri:=hr prog w
    wp_walk using hri
    exact ⟨_,rfl,by simpa using h⟩
  case fin=>
   rintro ⟨b1,b2⟩ s' ⟨hb',rfl,vs,ws,hz,hvw,hlen⟩;simp only at hb';subst hb';have hv:k = decide (items.size < items2.size):=by
    cases hvw with
    | nn=>exact (decide_eq_false (by simp only [List.length_nil] at hlen; lia)).symm
    | nc=>exact (decide_eq_true (by simp only [List.length_nil,List.length_cons] at hlen; lia)).symm
    | cn=>exact (decide_eq_false (by simp only [List.length_nil,List.length_cons] at hlen; lia)).symm
    | eq _ _=>rw [List.zip_cons_cons] at hz; cases hz
    | ne _ _=>rw [List.zip_cons_cons] at hz; cases hz
   rw [hv] at h
   wp_walk
   exact ⟨_,rfl,by simpa [Builtin.Tuple.tupleCompareSizes] using h⟩
  case h=>
   exact ⟨rfl,rfl,items.toList,items2.toList,rfl,hx,by simp; lia⟩
end
theorem LtA.tup {l:Addr} {items items2:Array Value} {k:Bool} (hl:IsTup s.heap l items) (hb:IsTup s.heap b items2) (hx:MO A.in1 s items.toList items2.toList k) (hu:A.units < cLine):LtA A s (.ref l) (.ref b) k:=λ prog w E Q h=>by
 obtain ⟨⟨cls,dd,data,sl⟩,ho,hc,n,hd⟩:=id hl;obtain ⟨⟨cls2,dd2,data2,sl2⟩,ho2,hc2,n2,hd2⟩:=id hb;simp only at hc hd hc2 hd2;subst hc hd hc2 hd2;exact richCompare_meets_room (op:=.Lt) ⟨_,ho,rfl⟩ ⟨_,ho2,rfl⟩ PySem.F.slot_tuple_lt PySem.F.entry_tuple_lt (PySem.F.args_tuple_lt_2 _ _) (Uz l b items items2 n n2 dd dd2 sl sl2 k)
  ⟨ho,ho2,hx,show Value.bool k ≠ Value.notImplemented /\ Q (.bool k) s from ⟨(λ x=>nomatch x),h⟩⟩ hu
theorem in1_units (A:Around):A.in1.units = A.units + 1:=rfl
mutual
theorem Ld:∀ (da db:PyData) (A:Around) (s:Shared) (a b:Value) (as bs:List Addr),Reads s.heap a da as->Reads s.heap b db bs->da.canLay0 = true->db.canLay0 = true->Qx da db = true->A.units + min da.depth db.depth < cLine->LtA A s a b (ltD da db)
 | .int i,db,A,s,a,b,as,bs,ra,rb,_,_,c,hu=>by
  cases db with
  | int j=>
   cases ra;cases rb;rw [ltD];exact λ prog w E Q h=>lt_int h
  | _=>simp [Qx] at c
 | .str x,db,A,s,a,b,as,bs,ra,rb,_,_,c,hu=>by
  cases db with
  | str j=>
   cases ra;cases rb;rw [ltD];exact λ prog w E Q h=>lt_str h
  | _=>simp [Qx] at c
 | .tuple xs,db,A,s,a,b,as,bs,ra,rb,ca,cb,c,hu=>by
  cases db with
  | tuple ys=>
   cases ra with
   | tuple ho hc hd hr=>
    cases rb with
    | tuple ho2 hc2 hd2 hr2=>
     rw [PyData.canLay0] at ca cb;rw [PyData.depth,PyData.depth] at hu;rw [Qx] at c;rw [ltD];refine LtA.tup ⟨_,ho,hc,_,hd⟩ ⟨_,ho2,hc2,_,hd2⟩ (Vy xs ys A.in1 s _ _ _ _ hr hr2 ca cb c ?_) (by lia);rw [in1_units];lia
  | _=>simp [Qx] at c
 | .none,_,_,_,_,_,_,_,_,_,_,_,c,_=>by simp [Qx] at c
 | .bool _,_,_,_,_,_,_,_,_,_,_,_,c,_=>by simp [Qx] at c
 | .list _,_,_,_,_,_,_,_,_,_,_,_,c,_=>by simp [Qx] at c
 | .dict _,_,_,_,_,_,_,_,_,_,_,_,c,_=>by simp [Qx] at c
theorem Vy:∀ (xs ys:List PyData) (A:Around) (s:Shared) (vs ws:List Value) (as bs:List Addr),ReadsAll s.heap vs xs as->ReadsAll s.heap ws ys bs->PyData.canLayAll0 xs = true->PyData.canLayAll0 ys = true->Q1 xs ys = true->A.units + min (PyData.depthAll xs) (PyData.depthAll ys) < cLine->MO A s vs ws (VL xs ys)
 | [],[],A,s,vs,ws,as,bs,ra,rb,_,_,_,_=>by
  cases ra;cases rb;rw [VL];exact .nn
 | [],y :: ys,A,s,vs,ws,as,bs,ra,rb,_,_,_,_=>by
  cases ra;cases rb;rw [VL];exact .nc
 | x :: xs,[],A,s,vs,ws,as,bs,ra,rb,_,_,_,_=>by
  cases ra;cases rb;rw [VL];exact .cn
 | x :: xs,y :: ys,A,s,vs,ws,as,bs,ra,rb,ca,cb,c,hu=>by
  cases ra with
  | cons r1 r2=>
   cases rb with
   | cons q1 q2=>
    rw [PyData.canLayAll0,Bool.and_eq_true] at ca cb;rw [PyData.depthAll,PyData.depthAll] at hu;rw [Q1] at c;have he:=SeqAt.eqAt_reads x y A s _ _ _ _ r1 q1 ca.1 cb.1 (by omega);rw [VL];cases e:PyData.eqv x y with
    | true=>
     rw [e] at he;rw [e,if_pos rfl] at c;rw [if_pos rfl];exact .eq he (Vy xs ys A s _ _ _ _ r2 q2 ca.2 cb.2 c (by omega))
    | false=>
     rw [e] at he;rw [e,if_neg (by decide)] at c;rw [if_neg (by decide)];exact .ne he (Ld x y A s _ _ _ _ r1 q1 ca.1 cb.1 c (by omega))
end
section
variable {prog:Program} {E:Value->Shared->Prop} {lt:Nat->Nat->Bool}
theorem Cb {kd:SortKind} (o:Ord lt) {vs:List Value} {c:Nat} {P:PySem.Fin->Shared->Prop} (gx:s.heap.get? a = some (seqObj "list" vs.toArray c)) (few:vs.length <= sizeLine)
  (kind:2 <= vs.length->∀ h1:Heap,(∀ b u,b ≠ a->s.heap.get? b = some u->h1.get? b = some u)->∀ R:SortKind->Shared->Prop,R kd { s with heap:=h1 }->wpAny (model prog w) A (keyKind' vs.toArray) R E { s with heap:=h1 })
  (ask:∀ h1:Heap,(∀ b u,b ≠ a->s.heap.get? b = some u->h1.get? b = some u)->∀ i j,i < vs.length->j < vs.length->∀ C:Bool->Shared->Prop,C (lt i j) { s with heap:=h1 } ->
   wpAny (model prog w) A (keyLt' kd (vs.getD i Value.none) (vs.getD j Value.none)) C (λ _ _=>False) { s with heap:=h1 })
  (fin:∀ q:Array Nat,Pm vs.length q->q.toList.Pairwise (Le lt)->P (.done (.ret .none)) { s with heap:=sortedHeap s.heap a vs (EU vs q) }):wpAny (model prog w) A (Builtin.«list.sort» ⟨[.ref a],[]⟩) P E s:=by
 rw [list_sort_plain];have la:a < s.heap.objs.size:=Heap.lt_size gx;have line:vs.toArray.size <= sizeLine:=by rw [List.size_toArray]; exact few
 obtain ⟨e1,g1⟩:∃ e1,(s.heap.update a (Obj.mapSeq λ _=>(#[]:Array Value))).get? a = some (seqObj "list" #[] e1):=⟨_,get?_update_seq gx λ _=>#[]⟩
 have g6:(((s.heap.update a (Obj.mapSeq λ _=>(#[]:Array Value))).push (seqObj "tuple" vs.toArray 0)).push (seqObj "list" #[] 0)).get? a = some (seqObj "list" #[] e1):=Heap.get?_push_of_some _ (Heap.get?_push_of_some _ g1);have keep:∀ b u,b ≠ a->s.heap.get? b = some u->(((s.heap.update a (Obj.mapSeq λ _=>(#[]:Array Value))).push (seqObj "tuple" vs.toArray 0)).push (seqObj "list" #[] 0)).get? b = some u:=λ b u hb e=>
  Heap.get?_push_of_some _ (Heap.get?_push_of_some _ (by rw [Heap.get?_update_ne _ _ _ _ hb]; exact e))
 refine wpAny_bind (listItems_at gx rfl (wpAny_bind (listUpdate_at gx rfl (wpAny_bind (seqEpoch_at g1 rfl (wpAny_bind (wpAny_newTuple (wpAny_bind (wpAny_newList (wpAny_holding ?_) (Nat.zero_le _))) (by simpa using line))))) line (Nat.zero_le _))));show wpAny (model prog w) A _ P E { s with heap:=((s.heap.update a (Obj.mapSeq λ _=>(#[]:Array Value))).push (seqObj "tuple" vs.toArray 0)).push (seqObj "list" #[] 0) };dsimp only;have osz:∀ q,Pm vs.length q->(EU vs q).size <= sizeLine + 1:=λ q hq=>by
  have:=hq.size;rw [List.size_toArray,List.length_map,Array.length_toList];lia
 by_cases two:vs.toArray.size < 2
 ·have pm:Pm vs.length (List.range vs.length).toArray:=Array.Perm.refl _
  have f:=fin _ pm (by
   have z:(List.range vs.length).length < 2:=by simpa using two
   show (List.range vs.length).Pairwise (Le lt);generalize List.range vs.length = L at z
   match L,z with
   | [],_=>exact .nil
   | [x],_=>exact List.pairwise_singleton _ _
   | _ :: _ :: _,z=>exact absurd z (by simp))
  rw [FJ] at f;have es:(vs.toArray.zip vs.toArray).map (·.2) = vs.toArray:=by
   apply Array.toList_inj.mp;rw [Array.toList_map,Array.toList_zip];exact List.map_snd_zip (Nat.le_refl _)
  rw [if_pos two,if_pos two]
  refine wpAny_bind (wpAny_pure (by
   rw [StateT.run_pure];refine wpAny_bind (wpAny_pure ?_);dsimp only;refine wpAny_bind (seqEpoch_at g6 rfl (wpAny_bind (listUpdate_at g6 rfl ?_ (Nat.zero_le _) ?_)))
   ·simp only [bne_self_eq_false,Bool.false_eq_true,if_false];refine wpAny_pure ?_;show P _ { s with heap:=sortedHeap s.heap a vs ((vs.toArray.zip vs.toArray).map (·.2)) };rw [es];exact f
   ·show ((vs.toArray.zip vs.toArray).map (·.2)).size <= _;rw [es]
    exact Nat.le_succ_of_le line))
 ·rw [if_neg two,if_neg two];have two':2 <= vs.length:=by simpa using two
  refine wpAny_bind (kind two' _ keep _ ?_);have ans:Ans prog w A { s with heap:=((s.heap.update a (Obj.mapSeq λ _=>(#[]:Array Value))).push (seqObj "tuple" vs.toArray 0)).push (seqObj "list" #[] 0) } kd (kas_item (vs.toArray.zip vs.toArray)) lt vs.length:=λ i j hi hj C hC=>by
   have ei:=kat_item (ks:=vs) (vs:=vs) rfl i;have ej:=kat_item (ks:=vs) (vs:=vs) rfl j;rw [ei,ej];exact ask _ keep i j hi hj C hC
  have run:=OY (E:=E) (p:=(List.range vs.length).toArray) (g:=7) ans o (Array.Perm.refl _) two' (Q:=λ _ st'=>∃ p:Array Nat,Pm vs.length p /\ p.toList.Pairwise (Le lt) /\ arrOf st' = p.map (kas_item (vs.toArray.zip vs.toArray)) /\ failedOf st' = none) λ p' pd' g' a b=>⟨p',a,b,rfl,rfl⟩;have est:SS kd (kas_item (vs.toArray.zip vs.toArray)) (List.range vs.length).toArray #[] 7 = SortSt.mk' kd (vs.toArray.zip vs.toArray) #[] 7 none:=by
   have e:=kas_range (vs.toArray.zip vs.toArray);rw [show (vs.toArray.zip vs.toArray).size = vs.length by simp] at e;show SortSt.mk' kd ((List.toArray (List.range vs.length)).map (kas_item (vs.toArray.zip vs.toArray))) #[] 7 none = _;rw [e]
  rw [est] at run;refine wpAny_bind (wpAny_mono run ?_ λ _ _ z=>z);rintro ⟨⟨⟩,st'⟩ s' ⟨rfl,p,pm,pu,har,hf⟩;dsimp only at har hf ⊢;have es:(arrOf st').map (·.2) = EU vs p:=kat_snds rfl har;refine wpAny_bind (seqEpoch_at g6 rfl (wpAny_bind (listUpdate_at g6 rfl ?_ (Nat.zero_le _) ?_)))
  ·rw [hf];simp only [bne_self_eq_false,Bool.false_eq_true,if_false];refine wpAny_pure ?_;show P _ { s with heap:=sortedHeap s.heap a vs ((arrOf st').map (·.2)) };rw [es];exact fin p pm pu
  ·show ((arrOf st').map (·.2)).size <= _;rw [es];exact osz p pm
theorem NR {kd:SortKind} (o:Ord lt) {l:Addr} {vs:List Value} {Q:Value->Shared->Prop} (gl:s.heap.IsList l vs.toArray) (few:vs.length <= sizeLine)
  (kind:2 <= vs.length->∀ h1:Heap,(∀ b u,s.heap.get? b = some u->h1.get? b = some u)->∀ (E':Value->Shared->Prop) (R:SortKind->Shared->Prop),R kd { s with heap:=h1 }->wpAny (model prog w) A.in1.in1 (keyKind' vs.toArray) R E' { s with heap:=h1 })
  (ask:∀ h1:Heap,(∀ b u,s.heap.get? b = some u->h1.get? b = some u)->∀ i j,i < vs.length->j < vs.length->∀ C:Bool->Shared->Prop,C (lt i j) { s with heap:=h1 } ->
   wpAny (model prog w) A.in1.in1 (keyLt' kd (vs.getD i Value.none) (vs.getD j Value.none)) C (λ _ _=>False) { s with heap:=h1 })
  (fin:∀ q:Array Nat,Pm vs.length q->q.toList.Pairwise (Le lt)->Q (.ref (s.heap.objs.size + 1)) { s with heap:=sortedAll s.heap vs (EU vs q) }):wpAny (model prog w) A (call (.builtin "sorted") [.ref l]) Q E s:=by
 have line:=few;have hz:((s.heap.push (seqObj "list" #[] 0)).update s.heap.objs.size (Obj.mapSeq (· ++ vs.toArray))).objs.size = s.heap.objs.size + 1:=(Heap.size_update _ _ _).trans (size_push' _ _);have g0:(((s.heap.push (seqObj "list" #[] 0)).update s.heap.objs.size (Obj.mapSeq (· ++ vs.toArray))).push (seqObj "list" vs.toArray 0)).get? (s.heap.objs.size + 1) = some (seqObj "list" vs.toArray 0):=hz ▸ Heap.get?_push_size _ rfl;have old:∀ b u,s.heap.get? b = some u->b ≠ s.heap.objs.size + 1 /\ (((s.heap.push (seqObj "list" #[] 0)).update s.heap.objs.size (Obj.mapSeq (· ++ vs.toArray))).push (seqObj "list" vs.toArray 0)).get? b = some u:=λ b u e=>by
  have hb:=Heap.lt_size e;refine ⟨Nat.ne_of_lt (Nat.lt_succ_of_lt hb),Heap.get?_push_of_some _ ?_⟩;rw [Heap.get?_update_ne _ _ _ _ (Nat.ne_of_lt hb)];exact Heap.get?_push_of_some _ e
 refine Calls.call_function_entry kind_sorted plain_sorted entry_sorted (args_sorted1 _) ?_;unfold Builtin.«sorted»;refine wpAny_bind (m:=checkCount "sorted" 1 1 _) (wpAny_pure (wpAny_bind (collect_list gl (wpAny_bind (wpAny_newList ?_ line)) line)));show wpAny _ _ _ _ _ { s with heap:=((s.heap.push (seqObj "list" #[] 0)).update s.heap.objs.size (Obj.mapSeq (· ++ vs.toArray))).push (seqObj "list" vs.toArray 0) };rw [hz];refine wpAny_bind (wpAny_holding (wpAny_call_entry slot_list_sort ⟨_,g0,rfl⟩ entry_list_sort ?_ (args_list_sort _)));refine Cb (kd:=kd) (s:={ s with heap:=((s.heap.push (seqObj "list" #[] 0)).update s.heap.objs.size (Obj.mapSeq (· ++ vs.toArray))).push (seqObj "list" vs.toArray 0) }) o g0 few (λ h2 h1 k R hR=>?_) (λ h1 k i j hi hj C hC=>?_) λ q pm pu=>⟨_,rfl,wpAny_pure ⟨_,rfl,fin q pm pu⟩⟩
 ·exact kind h2 h1 (λ b u e=>k b u (old b u e).1 (old b u e).2) _ R hR
 ·exact ask h1 (λ b u e=>k b u (old b u e).1 (old b u e).2) i j hi hj C hC
end
inductive Kn:List PyData->Prop
 | int {ds:List PyData}:(∀ d ∈ ds,∃ i,d = .int i)->Kn ds
 | str {ds:List PyData}:(∀ d ∈ ds,∃ s,d = .str s)->Kn ds
 | tint {ds:List PyData}:(∀ d ∈ ds,∃ i l,d = .tuple (.int i :: l))->Kn ds
 | tstr {ds:List PyData}:(∀ d ∈ ds,∃ s l,d = .tuple (.str s :: l))->Kn ds
 | ttup {ds:List PyData}:(∀ d ∈ ds,∃ m l,d = .tuple (.tuple m :: l))->Kn ds
structure Wq (ds:List PyData):Prop where
 few:ds.length <= sizeLine
 kn:Kn ds
 pl:∀ d ∈ ds,pln d = true /\ d.canLay0 = true /\ d.depth <= 64
 cm:∀ d ∈ ds,∀ e ∈ ds,Qx d e = true
noncomputable def ltI (ds:List PyData) (i j:Nat):Bool:=match ds[i]?,ds[j]? with
 | some a,some b=>ltD a b
 | some _,none=>true
 | _,_=>false
theorem Mb {a b:PyData} (ha:ds[i]? = some a) (hb:ds[j]? = some b):ltI ds i j = ltD a b:=by
 unfold ltI;rw [ha,hb]
theorem Zaq (h:Wq ds):Ord (ltI ds):=by
 refine ⟨λ a b k=>?_,λ a b c h1 h2=>?_⟩
 ·unfold ltI at k ⊢;cases ea:ds[a]? with
  | none=>rw [ea] at k; cases eb:ds[b]? <;> rw [eb] at k <;> cases k
  | some x=>
   cases eb:ds[b]? with
   | none=>rfl
   | some y=>
    rw [ea,eb] at k;exact CW x y (h.pl x (List.mem_of_getElem? ea)).1 (h.pl y (List.mem_of_getElem? eb)).1 k
 ·unfold Le ltI at h1 h2 ⊢;cases ea:ds[a]? with
  | none=>
   cases eb:ds[b]? with
   | none=>cases ec:ds[c]? with
    | none=>rfl
    | some z=>rw [eb,ec] at h2; cases h2
   | some y=>rw [ea,eb] at h1; cases h1
  | some x=>
   cases ec:ds[c]? with
   | none=>rfl
   | some z=>
    cases eb:ds[b]? with
    | none=>rw [eb,ec] at h2; cases h2
    | some y=>
     rw [ea,eb] at h1;rw [eb,ec] at h2;have mx:=List.mem_of_getElem? ea;have my:=List.mem_of_getElem? eb;have mz:=List.mem_of_getElem? ec;exact Dp x y z (h.pl x mx).1 (h.pl y my).1 (h.pl z mz).1 (h.cm x mx y my) (h.cm y my z mz) (h.cm x mx z mz) h1 h2
section
variable {prog:Program} {E:Value->Shared->Prop}
theorem Ca {b fin k:Bool} {Q:Bool->Shared->Prop}:∀ {vs ws:List Value} {i:Nat},MO A s vs ws k->(b && i == 0) = false->(vs.length < ws.length ↔ fin = true)->Q k s->KatLex prog w A b fin Q (vs.zip ws) i s
 | _,_,i,.nn,hb,hf,q=>by
  have e:fin = false:=by cases fin with | false=>rfl | true=>exact absurd (hf.mpr rfl) (by simp)
  rw [e];exact kat_nil q
 | _,_,i,.nc,hb,hf,q=>by
  have e:fin = true:=hf.mp (by simp);rw [e];exact kat_nil q
 | _,_,i,.cn,hb,hf,q=>by
  have e:fin = false:=by cases fin with | false=>rfl | true=>exact absurd (hf.mpr rfl) (by simp)
  rw [e];exact kat_nil q
 | _,_,i,.eq he hr,hb,hf,q=>kat_cons (he prog w _ _ (kat_yes (Ca hr (by cases b <;> simp) (by simpa using hf) q)))
 | _,_,i,.ne he hr,hb,hf,q=>by
  refine kat_cons (he prog w _ _ (kat_no ?_));rw [hb];exact kat_one _ _ (hr prog w _ _ q)
theorem Mf {fin:Bool} {Q:Bool->Shared->Prop} {v:Value} {vs ws:List Value} {x y:PyData} {xs ys:List PyData} {as bs ds:List Addr} (hxy:(∃ i j,x = .int i /\ y = .int j) \/ ∃ a b,x = .str a /\ y = .str b) (r1:Reads s.heap v x as) (q1:Reads s.heap u y bs) (r2:ReadsAll s.heap vs xs cs) (q2:ReadsAll s.heap ws ys ds)
  (ca:PyData.canLayAll0 (x :: xs) = true) (cb:PyData.canLayAll0 (y :: ys) = true) (c:Q1 (x :: xs) (y :: ys) = true) (hu:A.units + min (PyData.depthAll (x :: xs)) (PyData.depthAll (y :: ys)) < cLine) (hf:(v :: vs).length < (u :: ws).length ↔ fin = true) (q:Q (VL (x :: xs) (y :: ys)) s) :
  KatLex prog w A true fin Q ((v :: vs).zip (u :: ws)) 0 s:=by
 rw [PyData.canLayAll0,Bool.and_eq_true] at ca cb;rw [PyData.depthAll,PyData.depthAll] at hu;rw [Q1] at c;rw [VL] at q;have he:=SeqAt.eqAt_reads x y A s _ _ _ _ r1 q1 ca.1 cb.1 (by lia);refine kat_cons (he prog w _ _ ?_);cases e:PyData.eqv x y with
 | true=>
  rw [e,if_pos rfl] at c q;exact kat_yes (Ca (Vy xs ys A s _ _ _ _ r2 q2 ca.2 cb.2 c (by lia)) (by simp) (by simpa using hf) q)
 | false=>
  rw [e,if_neg (by decide)] at q;refine kat_no ?_
  rcases hxy with ⟨i,j,rfl,rfl⟩ | ⟨a,b,rfl,rfl⟩
  ·cases r1;cases q1;rw [ltD] at q;exact oneLt_int q
  ·cases r1;cases q1;rw [ltD] at q;exact oneLt_str q
end
theorem ReadsAll.at:∀ {vs:List Value} {ds:List PyData} {as:List Addr},ReadsAll h vs ds as->∀ {i:Nat} {d:PyData},ds[i]? = some d->∃ bs,Reads h (vs.getD i Value.none) d bs
 | _,_,_,.nil,i,d,e=>by simp at e
 | _,_,_,.cons r1 r2,0,d,e=>by
  cases e;exact ⟨_,r1⟩
 | _,_,_,.cons r1 r2,i + 1,d,e=>by
  obtain ⟨bs,q⟩:=ReadsAll.at r2 (i:=i) (d:=d) (by simpa using e);exact ⟨bs,by simpa using q⟩
theorem V6 {v:Value} {as:List Addr} (r:Reads h v (.tuple l) as):∃ (a:Addr) (o:Obj) (xs:Array Value) (n:Nat) (bs:List Addr),v = .ref a /\ h.get? a = some o /\ o.cls = .type "tuple" /\ o.data = .seq xs n /\ ReadsAll h xs.toList l bs:=by
 cases r with
 | tuple h1 h2 h3 h4=>exact ⟨_,_,_,_,_,rfl,h1,h2,h3,h4⟩
theorem Yz {xs:Array Value} {x:PyData} {bs:List Addr} (r:ReadsAll h xs.toList (x :: l) bs):∃ v vs as cs,xs.toList = v :: vs /\ xs[0]? = some v /\ Reads h v x as /\ ReadsAll h vs l cs:=by
 generalize e:xs.toList = L at r;cases r with
 | cons r1 r2=>exact ⟨_,_,_,_,rfl,by rw [<- Array.getElem?_toList,e]; rfl,r1,r2⟩
theorem kat_tups {T:Value} {P:PyData->Prop} (hP:∀ v x as,Reads h v x as->P x->∀ M:Model,Looks M h (typeOf v) T):∀ {vs:List Value} {ds:List PyData} {as:List Addr},ReadsAll h vs ds as->(∀ d ∈ ds,∃ x l,d = .tuple (x :: l) /\ P x)->∃ fs,KatTups h vs fs /\ fs.length = vs.length /\ ∀ v ∈ fs,∀ M:Model,Looks M h (typeOf v) T
 | _,_,_,.nil,_=>⟨[],.nil,rfl,λ v hv=>nomatch hv⟩
 | _,_,_,.cons r1 r2,hd=>by
  obtain ⟨fs,i1,i2,i3⟩:=kat_tups hP r2 λ d hm=>hd d (List.mem_cons_of_mem _ hm);obtain ⟨x,l,rfl,hx⟩:=hd _ List.mem_cons_self;obtain ⟨a,o,xs,n,bs,rfl,h1,h2,h3,h4⟩:=V6 r1;obtain ⟨v,vs',as',cs,e1,e2,e3,e4⟩:=Yz h4;refine ⟨v :: fs,.cons h1 h2 h3 e2 i1,by simp [i2],λ u hu=>?_⟩
  rcases List.mem_cons.mp hu with rfl | hu
  ·exact hP _ _ _ e3 hx
  ·exact i3 u hu
section
variable {prog:Program}
theorem Gv {vs:List Value} {as:List Addr} (r:ReadsAll h vs ds as) (hi:i < vs.length):∃ d bs,ds[i]? = some d /\ Reads h (vs.getD i Value.none) d bs:=by
 have n:=SeqAt.ReadsAll.length _ _ _ r;obtain ⟨bs,q⟩:=ReadsAll.at r (i:=i) (d:=ds[i]) (by simp [show i < ds.length by omega]);exact ⟨_,bs,by simp [show i < ds.length by omega],q⟩
theorem Zg2 (h:Wq ds) {vs:List Value} (hu:A.units + 64 < cLine) :
  ∃ kd:SortKind,∀ (s:Shared) (as:List Addr),ReadsAll s.heap vs ds as->(2 <= vs.length->∀ (E':Value->Shared->Prop) (R:SortKind->Shared->Prop),R kd s->wpAny (model prog w) A (keyKind' vs.toArray) R E' s) /\
   ∀ i j,i < vs.length->j < vs.length->∀ C:Bool->Shared->Prop,C (ltI ds i j) s->wpAny (model prog w) A (keyLt' kd (vs.getD i Value.none) (vs.getD j Value.none)) C (λ _ _=>False) s:=by
 have one:∀ (T:Value) (P:PyData->Prop),(T != Value.type "tuple") = true->(T == T) = true->(∀ d ∈ ds,P d)->(∀ h v x as,Reads h v x as->P x->∀ M:Model,Looks M h (typeOf v) T)->(∀ (s:Shared) v u x y as bs (C:Bool->Shared->Prop),Reads s.heap v x as->Reads s.heap u y bs->P x->P y->C (ltD x y) s->wpAny (model prog w) A (keyLt' oneType' v u) C (λ _ _=>False) s) ->
   ∃ kd:SortKind,∀ (s:Shared) (as:List Addr),ReadsAll s.heap vs ds as->(2 <= vs.length->∀ (E':Value->Shared->Prop) (R:SortKind->Shared->Prop),R kd s->wpAny (model prog w) A (keyKind' vs.toArray) R E' s) /\
    ∀ i j,i < vs.length->j < vs.length->∀ C:Bool->Shared->Prop,C (ltI ds i j) s->wpAny (model prog w) A (keyLt' kd (vs.getD i Value.none) (vs.getD j Value.none)) C (λ _ _=>False) s:=by
  intro T P t1 t2 hd hP hl;refine ⟨oneType',λ s as r=>⟨λ h2 E' R hR=>kas_kind (T:=T) h2 (λ v hv=>?_) t1 t2 hR,λ i j hi hj C hC=>?_⟩⟩
  ·obtain ⟨i,hi,rfl⟩:=List.getElem_of_mem hv;obtain ⟨d,bs,e1,e2⟩:=Gv r hi;have e3:vs.getD i Value.none = vs[i]:=by simp [hi]
   rw [e3] at e2;exact hP _ _ _ _ e2 (hd d (List.mem_of_getElem? e1)) _
  ·obtain ⟨d,bs,e1,e2⟩:=Gv r hi;obtain ⟨d',bs',e1',e2'⟩:=Gv r hj;rw [Mb e1 e1'] at hC;exact hl s _ _ _ _ _ _ C e2 e2' (hd d (List.mem_of_getElem? e1)) (hd d' (List.mem_of_getElem? e1')) hC
 have tup:∀ (T:Value) (P:PyData->Prop),(T == T) = true->(∀ d ∈ ds,∃ x l,d = .tuple (x :: l) /\ P x)->(∀ h v x as,Reads h v x as->P x->∀ M:Model,Looks M h (typeOf v) T) ->
   ((T != Value.type "tuple") = true->∀ x y,P x->P y->(∃ i j,x = PyData.int i /\ y = .int j) \/ ∃ a b,x = .str a /\ y = .str b) ->
   ∃ kd:SortKind,∀ (s:Shared) (as:List Addr),ReadsAll s.heap vs ds as->(2 <= vs.length->∀ (E':Value->Shared->Prop) (R:SortKind->Shared->Prop),R kd s->wpAny (model prog w) A (keyKind' vs.toArray) R E' s) /\
    ∀ i j,i < vs.length->j < vs.length->∀ C:Bool->Shared->Prop,C (ltI ds i j) s->wpAny (model prog w) A (keyLt' kd (vs.getD i Value.none) (vs.getD j Value.none)) C (λ _ _=>False) s:=by
  intro T P t2 hd hP hxy;refine ⟨tuples' (T != Value.type "tuple"),λ s as r=>⟨λ h2 E' R hR=>?_,λ i j hi hj C hC=>?_⟩⟩
  ·obtain ⟨fs,k1,k2,k3⟩:=kat_tups (hP s.heap) r hd;exact kat_kind (T:=T) k1 (by omega) (λ v hv=>k3 v hv _) t2 hR
  ·obtain ⟨d,bs,e1,e2⟩:=Gv r hi;obtain ⟨d',bs',e1',e2'⟩:=Gv r hj;rw [Mb e1 e1'] at hC;have m1:=List.mem_of_getElem? e1;have m2:=List.mem_of_getElem? e1';obtain ⟨x,l,rfl,px⟩:=hd d m1;obtain ⟨y,l',rfl,py⟩:=hd d' m2;have c:=h.cm _ m1 _ m2;have p1:=h.pl _ m1;have p2:=h.pl _ m2;rw [PyData.canLay0,PyData.depth] at p1 p2;rw [Qx] at c;rw [ltD] at hC;obtain ⟨a,o,xs,nn,cs,ea,h1,h2,h3,h4⟩:=V6 e2;obtain ⟨a',o',xs',nn',cs',ea',h1',h2',h3',h4'⟩:=V6 e2';rw [ea,ea'];have z1:=SeqAt.ReadsAll.length _ _ _ h4;have z2:=SeqAt.ReadsAll.length _ _ _ h4';refine kat_lt h1 h3 h1' h3' ?_;have fz:xs.toList.length < xs'.toList.length ↔ decide (xs.size < xs'.size) = true:=by rw [decide_eq_true_eq,Array.length_toList,Array.length_toList]
   cases et:(T != Value.type "tuple") with
   | false=>exact Ca (Vy _ _ A s _ _ _ _ h4 h4' p1.2.1 p2.2.1 c (by omega)) rfl fz hC
   | true=>
    obtain ⟨v,vs1,as1,cs1,f1,f2,f3,f4⟩:=Yz h4;obtain ⟨v',vs1',as1',cs1',f1',f2',f3',f4'⟩:=Yz h4';rw [f1,f1'] at fz ⊢;exact Mf (hxy et x y px py) f3 f3' f4 f4' p1.2.1 p2.2.1 c (by omega) fz hC
 rcases h.kn with hd | hd | hd | hd | hd
 ·refine one (.type "int") (λ d=>∃ i,d = .int i) rfl rfl hd (λ h v x as r ⟨i,e⟩ M=>?_) λ s v u x y as bs C r1 r2 ⟨i,e⟩ ⟨j,e'⟩ hC=>?_
  ·subst e;cases r;exact .now
  ·subst e e';cases r1;cases r2;rw [ltD] at hC;exact kat_lt_int hC
 ·refine one (.type "str") (λ d=>∃ i,d = .str i) rfl rfl hd (λ h v x as r ⟨i,e⟩ M=>?_) λ s v u x y as bs C r1 r2 ⟨i,e⟩ ⟨j,e'⟩ hC=>?_
  ·subst e;cases r;exact .now
  ·subst e e';cases r1;cases r2;rw [ltD] at hC;exact kas_lt_str hC
 ·refine tup (.type "int") (λ d=>∃ i,d = .int i) rfl (λ d m=>by obtain ⟨i,l,e⟩:=hd d m; exact ⟨_,l,e,i,rfl⟩) (λ h v x as r ⟨i,e⟩ M=>?_) λ _ x y ⟨i,e⟩ ⟨j,e'⟩=>.inl ⟨i,j,e,e'⟩;subst e;cases r;exact .now
 ·refine tup (.type "str") (λ d=>∃ i,d = .str i) rfl (λ d m=>by obtain ⟨i,l,e⟩:=hd d m; exact ⟨_,l,e,i,rfl⟩) (λ h v x as r ⟨i,e⟩ M=>?_) λ _ x y ⟨i,e⟩ ⟨j,e'⟩=>.inr ⟨i,j,e,e'⟩;subst e;cases r;exact .now
 ·refine tup (.type "tuple") (λ d=>∃ i,d = .tuple i) rfl (λ d m=>by obtain ⟨i,l,e⟩:=hd d m; exact ⟨_,l,e,i,rfl⟩) (λ h v x as r ⟨i,e⟩ M=>?_) λ z=>absurd z (by decide);subst e;obtain ⟨a,o,xs,nn,cs,rfl,h1,h2,h3,h4⟩:=V6 r;exact h2 ▸ (Looks.ld h1).andThen .now
end
def Zfy (K:Fk):List V->Hp->VK->Prop:=λ xs H Q=>∃ (p:Addr) (M:Mp) (vs:List V) (ds:List PyData),xs = [.ref p] /\ SqL K H p vs /\ Dts K M H vs ds /\ Wq ds /\
 ∀ q:Array Nat,Pm ds.length q->q.toList.Pairwise (Le (ltI ds))->∀ l,H l = none->Q (.ref l) (upd H l (.lst (q.toList.map λ i=>vs.getD i .non)))
theorem UN {kk:Nat} (hr:Jq kk X.A):JB X (.builtin "sorted") (Zfy X.K):=by
 intro pins s Z H xs us Q I r h;obtain ⟨p,M,vs,ds,rfl,hq,hd,ok,q⟩:=h;obtain ⟨u,rfl,rx⟩:=vals1 r;cases rx;obtain ⟨its,rv,pl,_⟩:=I.list hq;have n1:=rv.length;have n2:=hd.length;obtain ⟨as,ra,_⟩:=Dts.reads I hd rv;have hu:X.A.in1.in1.units + 64 < cLine:=by
  have:=hr.un;rw [in1_units,in1_units];lia
 obtain ⟨kd,ask⟩:=Zg2 (prog:=X.prog) (w:=X.w) (A:=X.A.in1.in1) ok (vs:=its) hu;have some_:∀ i,i < its.length->its[i]? = some (its.getD i Value.none):=λ i hi=>by simp [hi]
 refine NR (kd:=kd) (Zaq ok) pl.isList (by have:=ok.few; lia) (λ two h1 kp E' R hR=>?_) (λ h1 kp i j hi hj C hC=>?_) λ q' pm pu=>?_
 ·exact (ask { s with heap:=h1 } as (ReadsAll.keeps kp ra)).1 two E' R hR
 ·exact (ask { s with heap:=h1 } as (ReadsAll.keeps kp ra)).2 i j hi hj C hC
 ·obtain ⟨e,he⟩:=sortedAll_at s.heap its (EU its q');have hn:H (s.heap.objs.size + 1) = none:=I.hok.fresh (Nat.le_succ _);have el:its.length = ds.length:=by lia
  rw [el] at pm;have hz:=pm.size;refine ⟨.ref (s.heap.objs.size + 1),_,I.laid (t':=s.toks) (a:=s.heap.objs.size + 1) (o:=.lst (q'.toList.map λ i=>vs.getD i .non)) (λ _ _=>sortedAll_old) (Nat.le_succ _) ?_,rfl,q q' pm pu _ hn⟩;refine ⟨?_,q'.toList.map λ i=>its.getD i Value.none,e,?_,he⟩
  ·rw [List.length_map,Array.length_toList];have:=ok.few;lia
  ·have go:∀ l:List Nat,(∀ i ∈ l,i < its.length)->Vals (l.map λ i=>vs.getD i V.non) (l.map λ i=>its.getD i Value.none):=λ l=>by
    induction l with
    | nil=>intro _; exact .nil
    | cons i l ih=>
     intro hl;have hi:=hl i List.mem_cons_self;have hi1:i < vs.length:=by lia
     obtain ⟨u,eu,ru⟩:=rv.get (i:=i) (x:=vs[i]) (by simp [hi1]);refine .cons ?_ (ih λ j hj=>hl j (List.mem_cons_of_mem _ hj));have x1:vs.getD i V.non = vs[i]:=by simp [hi1]
     have x2:its.getD i Value.none = u:=by have:=some_ i hi; rw [eu] at this; exact (Option.some.inj this).symm
     show L2.RelV (vs.getD i V.non) (its.getD i Value.none);rw [x1,x2];exact ru
   refine go _ λ i hi=>?_;obtain ⟨k,hk,rfl⟩:=List.getElem_of_mem hi;rw [Bw,el];exact pm.below (by rw [Array.length_toList] at hk; lia)
def leD (a b:PyData):Prop:=ltD b a = false
def Mq:D1:=λ xs M Φ=>on1 xs λ x=>onK x M λ ds=>Wq ds /\ ∀ ds':List PyData,ds'.Perm ds->ds'.Pairwise leD->Φ (.dat (.list ds')) M
theorem Hc:type_of% @Mq.eq_1:=λ _ _ _=>qI
theorem Wy {kk:Nat} (hr:Jq kk X.A):J0 X (.builtin "sorted") Mq:=by
 refine ⟨_,UN hr,λ vs H xs M Φ Q r rv h k=>?_⟩;replace h:=Zu h;obtain ⟨x,rfl,h⟩:=h;replace h:=We h;obtain ⟨ds,hx,ok,q⟩:=h;replace hx:RI x M ds:=hx;obtain ⟨v,rfl,h1⟩:=Paired.one rv;obtain ⟨a,ys,rfl,g1,g2⟩:=hx.sq r h1;refine ⟨a,M,ys,ds,rfl,g1,g2,ok,λ p pm pu l hl=>?_⟩;have hz:=pm.size;have pl:p.toList.Perm (List.range ds.length):=by
  have:=Array.perm_iff_toList_perm.mp pm
  simpa using this
 have go:∀ l:List Nat,(∀ i ∈ l,i < ds.length)->Dts X.K M H (l.map λ i=>ys.getD i V.non) (l.map λ i=>ds.getD i PyData.none):=λ l=>by
  induction l with
  | nil=>intro _; exact .nil
  | cons i l ih=>
   intro hl;have hi:=hl i List.mem_cons_self;obtain ⟨v,ev,dv⟩:=g2.get (i:=i) (d:=ds[i]) (by simp [hi]);refine .cons ?_ (ih λ j hj=>hl j (List.mem_cons_of_mem _ hj));show Dt X.K M H (ys.getD i V.non) (ds.getD i PyData.none);rw [List.getD_eq_getElem?_getD,List.getD_eq_getElem?_getD,ev,List.getElem?_eq_getElem hi];exact dv
 have mem:∀ i ∈ p.toList,i < ds.length:=λ i hi=>by
  have:=pl.mem_iff.mp hi
  simpa using this
 refine k.dat (r.new hl) (Step.new hl) (Dt.Xx r hl (go _ mem)) (q _ ?_ ?_)
 ·have:=pl.map λ i=>ds.getD i PyData.none
  rwa [map_range] at this
 ·rw [List.pairwise_map];refine List.Pairwise.imp_of_mem ?_ pu;intro i j hi hj hij;have i1:=mem i hi;have j1:=mem j hj;have e:=Mb (ds:=ds) (i:=j) (j:=i) (a:=ds.getD j PyData.none) (b:=ds.getD i PyData.none) (by simp [j1]) (by simp [i1]);unfold leD;rw [<- e];exact hij
end DL
namespace DL
open PySem.W PySem.Calls
theorem FV:OpD X (binaryOp .BitAnd) (δI0 λ i j=>.int (Builtin.bitAnd i j)):=T6 ZfW
def dNz (τ:DTE):DTT:=λ Δ M Φ=>τ Δ M λ x M1=>onI x λ n=>Φ (n != 0) M1
theorem ZgW:type_of% @dNz.eq_1:=λ _ _ _ _=>qI
theorem Tg {τ:DTE} (h:DE X e τ) (he:autoParam (∀ whole,isTrue e X.env whole = (do let v <- whole; standAt e.pos; holding [v] (truthy v))) zz2._auto_1):DT X e (dNz τ):=by
 obtain ⟨t,p,q⟩:=h;refine ⟨_,OG p he,λ Z H Δ M Φ Q dr e h k=>?_⟩;refine q Z H Δ M _ _ dr e h λ v H1 x M1 r1 st rv hx=>?_;replace hx:=Zt hx;obtain ⟨n,rfl,hx⟩:=hx;cases (show v = .int n from Ql.int rv);exact ⟨n != 0,rfl,k _ _ _ r1 st hx⟩
def Sy (P:Program) (w:World) (K:Fk) (mg:Str->Option Value) (base:Heap) (k0:Nat) (tx:DTE) (t:DTA):DTE:=λ Δ M Φ=>tx Δ M λ y M1=>onO y λ f=>∃ fd ps S k,k <= k0 /\ Qa P w K mg base CX0 k f fd ps (lift K S) /\ (∀ (s:Shared) (us:List Value),us.length = ps.length->BindsTo s fd ⟨us,[]⟩ (ps.zip us)) /\ t Δ M1 λ xs M2=>M2 f = some (.ext (YC f fd)) /\ S xs M2 Φ
theorem O5:type_of% @Sy.eq_1:=λ _ _ _ _ _ _ _ _ _ _ _=>qI
theorem Vv {P:Program} {w:World} {K:Fk} {mg:Str->Option Value} {base:Heap} {p:Pos} {k0:Nat} {tx:DTE} {t:DTA} (hv:DE X (.Name x p) tx) (ha:DA X (e :: es) t) (hr:Jq k0 X.A) (he:autoParam (starEach (e :: es) X.env = (false,eval e X.env) :: starEach es X.env) zz3._auto_1) (hpl:autoParam ((backTo pos (starEach es X.env)).any (·.1) = false) zz3._auto_1)
  (h1:autoParam (X.prog = P) zz3._auto_1) (h2:autoParam (X.w = w) zz3._auto_1) (h3:autoParam (X.K = K) zz3._auto_1) (h4:autoParam (X.mg = mg) zz3._auto_1) (h5:autoParam (X.base = base) zz3._auto_1):DE X (.Call (.Name x p) (e :: es) [] pos) (Sy P w K mg base k0 tx t):=by
 subst h1 h2 h3 h4 h5;exact N5 hv ha hr he hpl
noncomputable def Wh (M:Mp):Mp:=λ a=>match M a with | some (.ext φ)=>some (.ext φ) | _=>none
noncomputable def Xy (M M':Mp):Mp:=λ a=>match M' a with | some (.ext φ)=>some (.ext φ) | _=>M a
theorem Vw {φ} (h:M a = some (.ext φ)):Wh M a = some (.ext φ):=by unfold Wh; rw [h]
theorem JH (h:∀ φ,M a ≠ some (.ext φ)):Wh M a = none:=by
 unfold Wh
 split
 ·rename_i φ e; exact absurd e (h φ)
 ·rfl
theorem TY (h:Wh M a = some o):M a = some o /\ ∃ φ,o = .ext φ:=by
 unfold Wh at h
 split at h
 ·rename_i φ e; cases h; exact ⟨e,φ,rfl⟩
 ·cases h
theorem WS (h:M a = none):Wh M a = none:=JH λ φ e=>by rw [h] at e; cases e
theorem Yw {φ} (h:M' a = some (.ext φ)):Xy M M' a = some (.ext φ):=by unfold Xy; rw [h]
theorem Ys (h:∀ φ,M' a ≠ some (.ext φ)):Xy M M' a = M a:=by
 unfold Xy
 split
 ·rename_i φ e; exact absurd e (h φ)
 ·rfl
theorem Step.ext:Step M H (Wh M) H:=⟨λ _ _ _ e=>e,λ _ _ n _=>WS n⟩
theorem TF (r:ZF K M H) {ps:List (Key × PyData)} (hm:M a = some (.dkv ps)):Dt K (Wh M) H (.ref a) (.dict (ps.map λ q=>(kD q.1,q.2))):=by
 obtain ⟨kvs,g1,g2,g3⟩:=(show OOk K M H a (.dkv ps) from r.ok a _ hm)
 have e:(kvs.map λ kv=>kD kv.1) = ps.map λ q=>kD q.1:=by
  have:=congrArg (List.map kD) g2
  rwa [List.map_map,List.map_map] at this
 have z:=Dt.dK (K:=K) (M:=Wh M) (H:=H) (a:=a) (JH λ φ e=>by rw [hm] at e; cases e) g1 (g3.step Step.ext);rw [e,List.zip_map'] at z;exact z
mutual
theorem AsD.dtE (r:ZF K M H):∀ {x:DV} {d:PyData},AsD M x d->∀ {v:V},VR0 K M H v x->Dt K (Wh M) H v d
 | _,_,.dat _,_,h=>Dt.step Step.ext h
 | _,_,.lsv hm hs,_,h=>by
  cases (show _ = V.ref _ from h);exact .lst (.inl ⟨JH (λ φ e=>by rw [hm] at e; cases e),.inl (r.lv hm).choose_spec.1⟩) (Cy.dtE r hs (r.lv hm).choose_spec.2)
 | _,_,.mix hs,_,h=>by
  cases (show Mx K M H _ _ from h) with
  | mk h1 h2 h3=>exact .tup (.inl ⟨WS (Hr r (.inl h2)),.inl h2⟩) (Cy.dtE r hs h3.vr)
 | _,_,.lst hm,_,h=>by
  cases (show _ = V.ref _ from h);exact .lst (.inl ⟨JH (λ φ e=>by rw [hm] at e; cases e),.inl (r.ls _ _ hm).choose_spec.1⟩) ((r.ls _ _ hm).choose_spec.2.step Step.ext)
 | _,_,.dkv hm,_,h=>by
  cases (show _ = V.ref _ from h);exact TF r hm
theorem Cy.dtE (r:ZF K M H):∀ {xs:List DV} {ds:List PyData},Cy M xs ds->∀ {vs:List V},Paired (VR0 K M H) vs xs->Dts K (Wh M) H vs ds
 | _,_,.nil,_,h=>by cases h; exact .nil
 | _,_,.cons h1 h2,_,h=>by
  cases h with
  | cons a b=>exact .cons (AsD.dtE r h1 a) (Cy.dtE r h2 b)
end
theorem ZcK (r:ZF K M H):ZF K (Wh M) H:=⟨λ a o e=>by
 obtain ⟨e,φ,rfl⟩:=TY e
 exact r.ok a _ e⟩
def HI (te:DTE) (Δ:DSt) (M:Mp) (Φ:DK):List Nat->DSt->Prop
 | [],Δ0=>te Δ0 (Wh M) λ y M'=>(∀ a o,M a = some o->(∀ φ,o ≠ .ext φ)->M' a = none)->onD y λ c=>Xt c = true /\ (∀ a φ,M a = some (.ext φ)->∃ ψ,M' a = some (.ext ψ)) /\ Φ (.dat c) (Xy M M')
 | n :: ns,Δ0=>onV Δ[n]? λ x=>∃ d,AsD M x d /\ HI te Δ M Φ ns (Δ0.set n (some (.dat d)))
theorem ZcX (te:DTE) (Δ:DSt) (M:Mp) (Φ:DK) (Δ0:DSt):HI te Δ M Φ [] Δ0 = (te Δ0 (Wh M) λ y M'=>(∀ a o,M a = some o->(∀ φ,o ≠ .ext φ)->M' a = none)->onD y λ c=>Xt c = true /\ (∀ a φ,M a = some (.ext φ)->∃ ψ,M' a = some (.ext ψ)) /\ Φ (.dat c) (Xy M M')):=by rw [HI]
theorem ZcB (te:DTE) (Δ:DSt) (M:Mp) (Φ:DK) (n:Nat) (ns:List Nat) (Δ0:DSt):HI te Δ M Φ (n :: ns) Δ0 = (onV Δ[n]? λ x=>∃ d,AsD M x d /\ HI te Δ M Φ ns (Δ0.set n (some (.dat d)))):=by rw [HI]
def ZeP (ns:List Nat) (te:DTE):DTE:=λ Δ M Φ=>HI te Δ M Φ ns (Q2 Δ)
theorem Zbn (ns:List Nat) (te:DTE) (Δ:DSt) (M:Mp) (Φ:DK):ZeP ns te Δ M Φ = HI te Δ M Φ ns (Q2 Δ):=qI
theorem Fu (ns:List Nat) (h:DE X e te):DE X e (ZeP ns te):=by
 obtain ⟨u,p,q⟩:=h;refine ⟨u,p,λ Z H Δ M Φ Q r er h k=>?_⟩;have go:∀ (ns:List Nat) (Δ0:DSt),QV X.K (Wh M) H Z Δ0->HI te Δ M Φ ns Δ0->u Z H Q:=λ ns=>by
  induction ns with
  | nil=>
   intro Δ0 e0 h;rw [HI] at h;refine q Z H _ _ _ _ (ZcK r) e0 h λ w H' y M' r' st' rw' hy=>?_
   replace hy:=ZR (hy λ a o e n=>by
    cases z:H a with
    | none=>rw [r.tracked z] at e; cases e
    | some u=>exact st'.free a u (JH λ φ e'=>by rw [e] at e'; cases e'; exact n φ rfl) z)
   obtain ⟨c,rfl,lf,ke,f⟩:=hy;have out:∀ b o,H b = some o->Wh M b = none->Xy M M' b = M b:=λ b o z n=>Ys λ φ e=>by rw [st'.free b o n z] at e; cases e
   have st:Step M H (Xy M M') H':=⟨λ b o n z=>st'.keep b o (WS n) z,λ b o n z=>by rw [out b o z (WS n)]; exact n⟩
   have r2:ZF X.K (Xy M M') H':=⟨λ a o e=>by
    by_cases hx:∃ φ,M' a = some (.ext φ)
    ·obtain ⟨φ,hx⟩:=hx;rw [Yw hx] at e;cases e;exact r'.ok a _ hx
    ·rw [Ys λ φ z=>hx ⟨φ,z⟩] at e;have nx:Wh M a = none:=JH λ φ z=>hx (ke a φ z)
     exact (r.ok a o e).step st λ u hu=>st'.keep a u nx hu⟩
   exact k _ _ (.dat c) _ r2 st (Dt.back r2 rw' lf) f
  | cons n ns ih=>
   intro Δ0 e0 h;rw [HI] at h;replace h:=UU h;obtain ⟨x,ex,d,hd,h⟩:=h;obtain ⟨v,ev,rv⟩:=er.at' n x ex;exact ih _ (e0.putD ev (AsD.dtE r hd (rv.Zcq hd))) h
 exact go ns _ ⟨by rw [YQ]; exact er.len,λ j y z=>absurd z (YN Δ j y)⟩ h
noncomputable abbrev zu1 (h:Heap) (l:Addr):Heap:=h.push { cls:=.type "tuple_iterator",data:=.fields #[.ref l,.int 0 0] }
noncomputable abbrev zu2 (h:Heap) (l m:Addr):Heap:=(zu1 h l).push { cls:=.type "tuple_iterator",data:=.fields #[.ref m,.int 0 0] }
noncomputable abbrev zu3 (h:Heap) (l m:Addr):Heap:=(zu2 h l m).push { cls:=.type "tuple",data:=.seq #[.ref h.objs.size,.ref (zu1 h l).objs.size] }
noncomputable abbrev zu4 (h:Heap) (l m:Addr):Heap:=(zu3 h l m).push { cls:=.type "tuple",data:=.seq #[.none,.none] }
noncomputable abbrev zu5 (h:Heap) (l m:Addr):Heap:=(zu4 h l m).push { cls:=.type "zip",data:=.fields #[.none,.bool false,.bool false,.ref (zu2 h l m).objs.size,.ref (zu3 h l m).objs.size] }
theorem Ei (l m:Addr) (xs ys:Array Value):Meets (Builtin.«zip.__new__» ⟨[.type "zip",.ref l,.ref m],[]⟩) (λ _ R s=>s.heap.IsTuple l xs /\ s.heap.IsTuple m ys /\ R (.ok (.ret (.ref (zu4 s.heap l m).objs.size))) { s with heap:=zu5 s.heap l m }):=
 .of_wp λ prog w A R s h=>by
  obtain ⟨hp,g,d,tk,os⟩:=s;obtain ⟨hl,hm,h⟩:=h;have hsub:=sub_zip;have tl:Heap.IsTuple (Shared.heap ⟨hp,g,d,tk,os⟩) l xs:=hl;have tm:Heap.IsTuple (Shared.heap ⟨hp.push { cls:=.type "tuple_iterator",data:=.fields #[.ref l,.int 0 0] },g,d,tk,os⟩) m ys:=let ⟨o,ho,r⟩:=hm; ⟨o,Heap.get?_push_of_some _ ho,r⟩
  wp_walk using wpAny_pyIter_tuple tl,wpAny_pyIter_tuple tm
  exact ⟨_,rfl,h⟩
section
variable {prog:Program} {E:Value->Shared->Prop}
theorem Lk {l m:Addr} {xs ys:Array Value} {Q:Value->Shared->Prop} (hl:s.heap.IsTuple l xs) (hm:s.heap.IsTuple m ys)
  (h:∀ (h':Heap) (n:Nat),n = s.heap.objs.size->IsZip h' (n + 4) (n + 2) (n + 3) .none->IsPair h' (n + 2) (.ref n) (.ref (n + 1))->IsPair h' (n + 3) .none .none->h'.IsTupleIter n l 0->h'.IsTupleIter (n + 1) m 0 ->
   (∀ c o,s.heap.get? c = some o->h'.get? c = some o)->Q (.ref (n + 4)) { s with heap:=h' }):wpAny (model prog w) A (call (.type "zip") [.ref l,.ref m]) Q E s:=by
 refine callType_new F.called_zip (by decide) (F.typeCall_zip_2 _ _) (F.newCall_zip_2 _ _) (λ obj=>F.args_object_init_3 obj _ _) F.entry_zip_new (Ei l m xs ys) ⟨hl,hm,?_⟩;have a1:(zu1 s.heap l).objs.size = s.heap.objs.size + 1:=Heap.size_push ..;have a2:(zu2 s.heap l m).objs.size = s.heap.objs.size + 2:=by rw [Heap.size_push,a1]
 have a3:(zu3 s.heap l m).objs.size = s.heap.objs.size + 3:=by rw [Heap.size_push,a2]
 have a4:(zu4 s.heap l m).objs.size = s.heap.objs.size + 4:=by rw [Heap.size_push,a3]
 have up:∀ c o,(zu2 s.heap l m).get? c = some o->(zu5 s.heap l m).get? c = some o:=λ c o e=>Heap.get?_push_of_some _ (Heap.get?_push_of_some _ (Heap.get?_push_of_some _ e));have b5:(zu5 s.heap l m).get? (zu4 s.heap l m).objs.size = some _:=Heap.get?_push_size _ rfl;have b4:(zu5 s.heap l m).get? (zu3 s.heap l m).objs.size = some _:=Heap.get?_push_of_some _ (Heap.get?_push_size _ rfl);have b3:(zu5 s.heap l m).get? (zu2 s.heap l m).objs.size = some _:=Heap.get?_push_of_some _ (Heap.get?_push_of_some _ (Heap.get?_push_size _ rfl));have b2:(zu5 s.heap l m).get? (zu1 s.heap l).objs.size = some _:=up _ _ (Heap.get?_push_size _ rfl);have b1:(zu5 s.heap l m).get? s.heap.objs.size = some _:=up _ _ (Heap.get?_push_of_some _ (Heap.get?_push_size _ rfl));show _ /\ _;rw [a2,a3,a4] at b5;rw [a1,a2] at b3;rw [a3] at b4;rw [a1] at b2;rw [a4];exact ⟨⟨_,b5,rfl⟩,h _ _ rfl b5 b3 b4 ⟨_,b1,rfl,rfl⟩ ⟨_,b2,rfl,rfl⟩ λ c o x=>up c o (Heap.get?_push_of_some _ (Heap.get?_push_of_some _ x))⟩
end
noncomputable def Zja (K:Fk) (a b:Addr):It:=
  ⟨λ i H=>∃ xs ys x y,SqT K H a xs /\ xs[i]? = some x /\ SqT K H b ys /\ ys[i]? = some y,
   λ i H v H'=>∃ T x y,(∀ xs,SqT K H a xs->xs[i]? = some x) /\ (∀ ys,SqT K H b ys->ys[i]? = some y) /\ H T = none /\ v = .ref T /\ H' = upd H T (.tup [x,y]),
   λ i H=>∃ xs ys,SqT K H a xs /\ SqT K H b ys /\ (xs.length <= i \/ ys.length <= i)⟩
def ZjM (a b:Addr) (n:Nat) (i:Nat) (h:Heap):Prop:=
 IsZip h (n + 4) (n + 2) (n + 3) .none /\ IsPair h (n + 2) (.ref n) (.ref (n + 1)) /\ (∃ u v,IsPair h (n + 3) u v) /\ h.IsTupleIter n a i /\ h.IsTupleIter (n + 1) b i
theorem FU (ha:a < n) (hb:b < n):Turn P w K (.Tuple elts x1 pos) (Zja K a b) [n + 4,n + 2,n + 3,n,n + 1] (n + 4) (ZjM a b n) where
 mem:=by simp
 obj:=λ i h st c hc=>by
  obtain ⟨hz,h2,⟨u,v,h3⟩,⟨o0,h0,_,d0⟩,⟨o1,h1,_,d1⟩⟩:=st;simp only [List.mem_cons,List.not_mem_nil,or_false] at hc
  rcases hc with rfl | rfl | rfl | rfl | rfl
  ·exact ⟨_,hz,λ v z=>nomatch z⟩
  ·exact ⟨_,h2,λ v z=>nomatch z⟩
  ·exact ⟨_,h3,λ v z=>nomatch z⟩
  ·exact ⟨_,h0,λ v z=>by rw [d0] at z; cases z⟩
  ·exact ⟨_,h1,λ v z=>by rw [d1] at z; cases z⟩
 keep:=λ i h h' st k=>by
  obtain ⟨hz,h2,⟨u,v,h3⟩,⟨o0,h0,r0⟩,⟨o1,h1,r1⟩⟩:=st;exact ⟨k _ (by simp) _ hz,k _ (by simp) _ h2,⟨u,v,k _ (by simp) _ h3⟩,⟨o0,k _ (by simp) _ h0,r0⟩,⟨o1,k _ (by simp) _ h1,r1⟩⟩
 item:=by
  intro X hP hw hK hc i pins s Z H E I hf st hg;subst hP hw hK;obtain ⟨xs,ys,x,y,hq,hx,hr,hy⟩:=hg;obtain ⟨its,rv,p,hz⟩:=I.tuple hq;obtain ⟨jts,rw',p',hz'⟩:=I.tuple hr;obtain ⟨u,hu,ru⟩:=rv.get hx;obtain ⟨v,hv,rv2⟩:=rw'.get hy;have hA:s.heap.IsTuple a its.toArray:=p;have hB:s.heap.IsTuple b jts.toArray:=p';obtain ⟨tz,t2,⟨c,d,t3⟩,t0,t1⟩:=st;have D:=D9 ha hb;refine Xc D (Ya D.l1i1 its.toArray) (Ya D.l2i2 jts.toArray) tz t2 t3 ⟨t0,hA⟩ ⟨t1,hB⟩ (x:=u) (y:=v) (by simpa using hu) (by simpa using hv) λ h' z1 z2 z3 z4 z5 z6 z7=>⟨_,rfl,?_⟩;refine wpAny_letOwnedTupleGo_zip z1 λ h2 hz2 hs2=>?_;have zl:n + 4 < s.heap.objs.size:=Heap.lt_size tz;have hTn:H s.heap.objs.size = none:=I.hok.fresh (Nat.le_refl _);have g2:h2.get? s.heap.objs.size = some { cls:=.type "tuple",data:=.seq #[u,v] }:=(hs2.2 _ (Nat.ne_of_gt zl)).trans z5;have IA:L2.Inv X pins Z (upd H s.heap.objs.size (.tup [x,y])) { s with heap:=s.heap.push { cls:=.type "tuple",data:=.seq #[u,v] },toks:=s.toks }:=
   I.laid (t':=s.toks) (o:=.tup [x,y]) (λ b ob q=>Heap.get?_push_of_some _ q) (Nat.le_refl _) ⟨by rw [sizeLine_eq]; exact (by decide:2 <= 16777216),[u,v],.cons ru (.cons rv2 .nil),IsTup.new _ _⟩
  have fN:∀ c ∈ [n + 4,n + 2,n + 3,n,n + 1],CQ X pins (upd H s.heap.objs.size (.tup [x,y])) c:=λ c hc=>by
   have f:=hf c hc;refine ⟨?_,f.2⟩;have hlt:c < s.heap.objs.size:=by
    simp only [List.mem_cons,List.not_mem_nil,or_false] at hc
    rcases hc with rfl | rfl | rfl | rfl | rfl <;> lia
   rw [ZH (Nat.ne_of_lt hlt)];exact f.1
  have I2:L2.Inv X pins Z (upd H s.heap.objs.size (.tup [x,y])) { s with heap:=h2,toks:=s.toks }:=Xl (s:={ s with heap:=s.heap.push { cls:=.type "tuple",data:=.seq #[u,v] },toks:=s.toks }) (t':=s.toks) (ch:=[n + 4,n + 2,n + 3,n,n + 1]) IA (λ c o hc q=>by
   have q':(s.heap.push { cls:=.type "tuple",data:=.seq #[u,v] }).get? c = some o:=q;have n4:c ≠ n + 4:=λ z=>hc (by simp [z])
   by_cases hT:c = s.heap.objs.size
   ·rw [hT,Heap.get?_push_size _ rfl] at q';rw [hT,g2];exact q'
   ·have q2:s.heap.get? c = some o:=by
     rw [<- q'];exact (Heap.get?_push_ne _ _ _ hT).symm
    exact (hs2.2 c n4).trans (z7 c o n4 (λ z=>hc (by simp [z])) (λ z=>hc (by simp [z])) (λ z=>hc (by simp [z])) q2)) fN
  refine ⟨.ref s.heap.objs.size,_,I2,rfl,⟨_,x,y,λ zs hy=>by rw [I.XU hy hq]; exact hx,λ zs hx=>by rw [I.XU hx hr]; exact hy,hTn,rfl,rfl⟩,?_,λ b hb=>(fN b hb).1⟩;have e2:h'.get? (n + 2) = _:=z7 (n + 2) _ (zn (by decide)) (zn (by decide)) (zn0 (by decide)) (zn (by decide)) t2;obtain ⟨o0,y0,r0⟩:=z3.1;obtain ⟨o1,y1,r1⟩:=z4.1;exact ⟨hz2,(hs2.2 _ (zn (by decide))).trans e2,⟨u,v,(hs2.2 _ (zn (by decide))).trans z2⟩,⟨o0,(hs2.2 _ (zn0 (by decide)).symm).trans y0,r0⟩,⟨o1,(hs2.2 _ (zn (by decide))).trans y1,r1⟩⟩
 done:=by
  intro X hP hw hK hc i pins s Z H E I hf st hg;subst hP hw hK;obtain ⟨xs,ys,hq,hr,hl⟩:=hg;obtain ⟨its,rv,p,hz⟩:=I.tuple hq;obtain ⟨jts,rw',p',hz'⟩:=I.tuple hr;have hA:s.heap.IsTuple a its.toArray:=p;have hB:s.heap.IsTuple b jts.toArray:=p';obtain ⟨tz,t2,⟨c,d,t3⟩,t0,t1⟩:=st;have D:=D9 ha hb;have l1:=rv.length;have l2:=rw'.length;refine Kf (show X.A.handled = none from I.ok.hd hc) D (Ya D.l1i1 its.toArray) (Ya D.l2i2 jts.toArray) tz t2 t3 ⟨t0,hA⟩ ⟨t1,hB⟩ (hl.imp (λ h=>by simp; lia) λ h=>by simp; lia) λ h' hk=>?_;exact ⟨rfl,Xl (t':=s.toks) (ch:=[n + 4,n + 2,n + 3,n,n + 1]) I (λ c o hb q=>hk c o (λ z=>hb (by simp [z])) (λ z=>hb (by simp [z])) (λ z=>hb (by simp [z])) (λ z=>hb (by simp [z])) q) λ b hb=>hf b hb⟩
 self:=λ _ _ _ _ _ st h=>wpAny_pyIter_zip st.1 h
def Zh9 (K:Fk) (ta:TA):TI:=λ Z H R=>ta Z H λ vs H1=>∃ a b,vs = [.ref a,.ref b] /\ (∃ xs,SqT K H1 a xs) /\ (∃ ys,SqT K H1 b ys) /\ R (Zja K a b) H1
theorem Ts {a b:Expr} {tp:Pos} {ta:TA} {p:Pos} (hg:Gl X "zip") (hm:X.mg "zip" = none) (ha:PA X [a,b] ta) (hs:autoParam (starEach [a,b] X.env = [(false,eval a X.env),(false,eval b X.env)]) zz3._auto_1) (hs2:autoParam (starEach [b] X.env = [(false,eval b X.env)]) zz3._auto_1):PI X (.Tuple elts x1 tp) (.Call (.Name "zip" p) [a,b] [] pos) (Zh9 X.K ta):=by
 intro pins s Z H R I h;refine Call_ (X9 I hg hm boot_zip (PyProof.Rows.callWith_type1 (thn (ha pos pins s Z H _ I h) λ us s1 ⟨vs,H1,I1,r1,q1⟩=>?_) (by rw [hs,hs2]) (by rw [hs2]; rfl)));obtain ⟨l,m,e,⟨xs,hq⟩,⟨ys,hr⟩,q⟩:=q1;subst e;cases r1 with
 | cons r rr=>
  cases rr with
  | cons r' rr=>
   cases rr;cases r;cases r';obtain ⟨its,rv,pt,hz⟩:=I1.tuple hq;obtain ⟨jts,rw',pt',hz'⟩:=I1.tuple hr;have hA:s1.heap.IsTuple l its.toArray:=pt;refine Lk hA (show s1.heap.IsTuple m jts.toArray from pt') λ h' n en z1 z2 z3 z4 z5 hk=>?_;have I2:L2.Inv X pins Z H1 { s1 with heap:=h' }:=I1.kept (t':=s1.toks) hk;refine wpAny_pyIter_zip z1 ?_;refine ⟨n + 4,[n + 4,n + 2,n + 3,n,n + 1],_,_,H1,rfl,I2,FU (a:=l) (b:=m) (n:=n) ?_ ?_,⟨z1,z2,⟨_,_,z3⟩,z4,z5⟩,λ c hc=>?_,q⟩
   ·obtain ⟨o,ho,_⟩:=hA;rw [en];exact Heap.lt_size ho
   ·obtain ⟨o,ho,_⟩:=(show s1.heap.IsTuple m jts.toArray from pt')
    rw [en];exact Heap.lt_size ho
   ·have hle:s1.heap.objs.size <= c:=by
     simp only [List.mem_cons,List.not_mem_nil,or_false] at hc
     rcases hc with rfl | rfl | rfl | rfl | rfl <;> lia
    exact I1.Rk hle (I1.hok.fresh hle)
def ZeX (ta:DTA):YF:=λ Δ M Ψ=>ta Δ M λ xs M1=>on2 xs λ x y=>onT x λ as=>onT y λ bs=>Ψ (Ff as bs) M1
theorem Zbq:type_of% @ZeX.eq_1:=λ _ _ _ _=>qI
theorem S6 {a b:Expr} {elts:List Expr} {x1:Nat} {tp:Pos} {p p2:Pos} (hg0:Gl X "zip") (hm:X.mg "zip" = none) (ha:DA X [a,b] ta) (hs:autoParam (starEach [a,b] X.env = [(false,eval a X.env),(false,eval b X.env)]) zz3._auto_1) (hs2:autoParam (starEach [b] X.env = [(false,eval b X.env)]) zz3._auto_1) :
  DI X (.Tuple elts x1 tp) (.Call (.Name "zip" p) [a,b] [] p2) (ZeX ta):=by
 obtain ⟨t1,p1,q1⟩:=ha;refine ⟨_,Ts hg0 hm p1 hs hs2,λ Z H Δ M Ψ R dr er h k=>?_⟩;refine q1 Z H Δ M _ _ dr er h λ vs H1 xs M1 r1 st rv hx=>?_;replace hx:=ZK hx;obtain ⟨x,y,rfl,hx⟩:=hx;replace hx:=Yv hx;obtain ⟨as,rfl,hx⟩:=hx;replace hx:=Yv hx;obtain ⟨bs,rfl,hΨ⟩:=hx;obtain ⟨v,u,rfl,hv,hu⟩:=Paired.two rv;obtain ⟨a,ys,rfl,h1,h2⟩:=hv.tup;obtain ⟨b,zs,rfl,h3,h4⟩:=hu.tup;have el:(Ff as bs).length = min as.length bs.length:=by unfold Ff; rw [List.length_zipWith]
 refine ⟨a,b,rfl,⟨ys,h1.sq⟩,⟨zs,h3.sq⟩,k _ H1 M1 _ r1 st (λ M2 H2 st2 i=>⟨λ hi=>?_,λ hi=>?_⟩) hΨ⟩
 ·rw [el] at hi;have hx:i < ys.length:=by rw [h2.length]; lia
  have hy:i < zs.length:=by rw [h4.length]; lia
  refine ⟨⟨ys,zs,ys[i],zs[i],(h1.step st2).sq,by simp [hx],(h3.step st2).sq,by simp [hy]⟩,λ y H' z=>?_⟩;obtain ⟨T,u,v,hu,hv,hT,rfl,rfl⟩:=z;intro r;obtain ⟨d,hd,hy⟩:=(h2.step st2).Pa (hu ys (h1.step st2).sq);obtain ⟨d',hd',hy'⟩:=(h4.step st2).Pa (hv zs (h3.step st2).sq);exact ⟨r.new hT,Step.new hT,_,D8 hd hd',Dt.Kr r hT (.cons hy (.cons hy' .nil))⟩
 ·rw [el] at hi;exact ⟨ys,zs,(h1.step st2).sq,(h3.step st2).sq,by rw [h2.length,h4.length]; lia⟩
end DL
namespace My
open DL
set_option maxHeartbeats 8000000
noncomputable def top (i:Nat):Stmt:=PySem.Challenge.pw_landsentered_k41_moved_and_turned.main.body.getD i (.Pass ⟨0,0,0,0⟩)
noncomputable abbrev YD:Stmt:=top 6
noncomputable abbrev YG:Stmt:=top 7
noncomputable abbrev JQ:Stmt:=top 9
noncomputable abbrev X5:Stmt:=top 10
noncomputable abbrev Up:Stmt:=top 11
noncomputable abbrev VU:Stmt:=top 12
noncomputable abbrev Jd:Stmt:=top 13
noncomputable abbrev Zap:Stmt:=top 14
noncomputable abbrev Vo:Stmt:=top 17
noncomputable abbrev Vu:Stmt:=top 18
noncomputable abbrev Yr:Stmt:=top 22
noncomputable abbrev Xu:Stmt:=top 23
noncomputable abbrev J9:Stmt:=top 24
noncomputable abbrev Qz:Stmt:=top 25
noncomputable abbrev VS:Stmt:=top 26
noncomputable abbrev Kg:Stmt:=top 32
noncomputable abbrev V8:Stmt:=top 33
noncomputable abbrev Ye:Stmt:=top 34
noncomputable abbrev Jt:Stmt:=top 35
noncomputable abbrev Jv:Stmt:=top 36
noncomputable abbrev JK:Stmt:=top 37
noncomputable abbrev HS:Stmt:=top 39
noncomputable abbrev MI:Stmt:=top 40
noncomputable abbrev s_same:Stmt:=top 41
noncomputable abbrev Uv:Stmt:=top 42
noncomputable abbrev VT:Stmt:=top 43
noncomputable abbrev XI:Stmt:=top 44
noncomputable abbrev Vl:Stmt:=top 45
noncomputable abbrev B3:Stmt:=top 46
noncomputable abbrev Ed:Stmt:=top 47
noncomputable abbrev L7:Stmt:=top 48
noncomputable abbrev X4:Stmt:=top 49
noncomputable abbrev D5:Stmt:=top 50
noncomputable abbrev Yg:Stmt:=top 51
noncomputable abbrev Ji:Stmt:=top 52
noncomputable abbrev Xm:Stmt:=top 53
noncomputable abbrev Q8:Stmt:=top 54
noncomputable abbrev Q4:Stmt:=top 55
noncomputable abbrev QK:Stmt:=top 56
noncomputable abbrev ZaZ:Stmt:=top 57
theorem Cr:Zm ["thing"] ["thing"] (Zf YD):=by walk_at "s"
theorem BG:Zm ["thing"] ["thing"] (Zf YG):=by walk_at "s"
theorem KG:Zm ["thing"] ["thing"] (Zf JQ):=by walk_at "s"
theorem ES:Zm ["thing"] ["thing"] (Zf X5):=by walk_at "s"
theorem FK:Zm ["thing"] ["thing"] (Zf Up):=by walk_at "s"
theorem U0:Zm ["box"] ["box"] (Zf VU):=by walk_at "s"
theorem Y7:Zm ["one", "other"] ["one", "other"] (Zf Jd):=by walk_at "s"
theorem ZfG:Zm ["one", "other", "way"] ["one", "other", "way"] (Zf Zap):=by walk_at "s"
theorem CM:Zm ["thing"] ["thing"] (Zf Vo):=by walk_at "s"
theorem CK:Zm ["boxes"] ["boxes"] (Zf Vu):=by walk_at "s"
theorem El:Zm ["thing"] ["thing"] (Zf Yr):=by walk_at "s"
theorem Er:Zm ["thing"] ["thing"] (Zf Xu):=by walk_at "s"
theorem Ug:Zm ["thing"] ["thing"] (Zf J9):=by walk_at "s"
theorem VW:Zm ["thing"] ["thing"] (Zf Qz):=by walk_at "s"
theorem UK:Zm ["thing"] ["thing"] (Zf VS):=by walk_at "s"
theorem Oa:Zm ["tellings", "dx", "dy"] ["tellings", "dx", "dy"] (Zf Kg):=by walk_at "s"
theorem Lm:Zm ["tellings", "number"] ["tellings", "number"] (Zf V8):=by walk_at "s"
theorem EN:Zm ["tellings"] ["tellings"] (Zf Ye):=by walk_at "s"
theorem Uq:Zm ["telling", "change"] ["telling", "change"] (Zf Jt):=by walk_at "s"
theorem Qc:Zm ["box", "change", "one", "other", "low", "high"] ["box", "change"] (Zf Jv):=by walk_at "s"
theorem Jz:Zm ["spot", "number", "x", "y"] ["spot", "number"] (Zf JK):=by walk_at "s"
theorem VN:Zm ["_law_pen", "_law_many", "_law_at", "_law_cell", "_law_one", "_law_two", "_law_digit"] ["_law_pen", "_law_many"] (Zf HS):=by walk_at "s"
theorem WK:Zm ["_law_pen", "_law_many", "_law_found", "_law_k"] ["_law_pen", "_law_many"] (Zf MI):=by walk_at "s"
theorem TQ:Zm ["_law_found", "_law_due"] ["_law_found", "_law_due"] (Zf s_same):=by walk_at "s"
theorem Jo:Zm ["_law_pen", "_law_most", "_law_low", "_law_found", "_law_k", "_law_wide_here", "_law_first", "_law_last"] ["_law_pen", "_law_most"] (Zf Uv):=by walk_at "s"
theorem QN:Zm ["_law_boxes_here", "_law_by", "_law_off", "_law_found", "_law_low", "_law_high", "_law_first"] ["_law_boxes_here", "_law_by", "_law_off"] (Zf VT):=by walk_at "s"
theorem Vp:Zm ["_law_pen", "_law_by", "_law_off"] ["_law_pen"] (Zf XI):=by walk_at "s"
theorem Q5:Zm ["_law_pen", "_law_many", "_law_letters", "_law_words", "_law_base", "_law_start", "_law_manner", "_law_long", "_law_at", "_law_signs"] ["_law_pen", "_law_many"] (Zf Vl):=by walk_at "s"
theorem Jn:Zm ["_law_pen", "_law_far", "_law_begin", "_law_span", "_law_things", "_law_lands", "_law_by", "_law_off"] ["_law_pen"] (Zf B3):=by walk_at "s"
theorem Hm:Zm ["_law_pen", "_law_world_here", "_law_by"] ["_law_pen", "_law_world_here"] (Zf Ed):=by walk_at "s"
theorem VM:Zm ["_law_pen", "_law_world_here", "_law_time", "_law_lands", "_law_by", "_law_outer", "_law_boxes_here", "_law_wobble", "_law_name"] ["_law_pen", "_law_world_here", "_law_time"] (Zf L7):=by walk_at "s"
theorem Vx:Zm ["_law_pen", "_law_world_here", "_law_kind", "_law_time", "_law_thing"] ["_law_pen", "_law_world_here"] (Zf X4):=by walk_at "s"
theorem ZbK:Zm ["_law_pen", "_law_world_here", "_law_most"] ["_law_pen", "_law_world_here", "_law_most"] (Zf D5):=by walk_at "s"
theorem ZY:Zm ["_law_tellings", "_law_change", "_law_found", "_law_one", "_law_boxes_here", "_law_low", "_law_high", "_law_ways", "_law_first", "_law_last"] ["_law_tellings", "_law_change"] (Zf Yg):=by walk_at "s"
theorem Z6:Zm ["_law_spot_here", "_law_number", "_law_x", "_law_y"] ["_law_spot_here", "_law_number"] (Zf Ji):=by walk_at "s"
theorem XW:Zm ["_law_box", "_law_found", "_law_x"] ["_law_box"] (Zf Xm):=by walk_at "s"
theorem Qo:Zm ["_law_tellings", "_law_told", "_law_number", "_law_one", "_law_other", "_law_box", "_law_there"] ["_law_tellings", "_law_told", "_law_number"] (Zf Q8):=by walk_at "s"
theorem Qn:Zm ["_law_tellings", "_law_dx", "_law_dy", "_law_due", "_law_kept", "_law_again", "_law_found"] ["_law_tellings", "_law_dx", "_law_dy"] (Zf Q4):=by walk_at "s"
theorem Z2:Zm ["_law_tellings", "_law_number", "_law_is_small", "_law_undone", "_law_due", "_law_kept", "_law_again", "_law_found"] ["_law_tellings", "_law_number", "_law_is_small"] (Zf QK):=by walk_at "s"
theorem YU:Zm ["_law_script", "_law_pen", "_law_world_here", "_law_tellings", "_law_far", "_law_menu", "_law_k", "_law_number"] ["_law_script"] (Zf ZaZ):=by walk_at "s"
theorem Hs:bootBuiltins "abs" = some (.builtin "abs"):=by walk_at "k"
theorem Dk:bootBuiltins "all" = some (.builtin "all"):=by walk_at "k"
theorem Zbs:bootBuiltins "bool" = some (.type "bool"):=by walk_at "k"
theorem Sk:bootBuiltins "int" = some (.type "int"):=by walk_at "k"
theorem Z5:bootBuiltins "isinstance" = some (.builtin "isinstance"):=by walk_at "k"
theorem Qv:bootBuiltins "len" = some (.builtin "len"):=by walk_at "k"
theorem D7:bootBuiltins "max" = some (.builtin "max"):=by walk_at "k"
theorem Sq:bootBuiltins "min" = some (.builtin "min"):=by walk_at "k"
theorem YA:bootBuiltins "repr" = some (.builtin "repr"):=by walk_at "k"
theorem Kw:bootBuiltins "sorted" = some (.builtin "sorted"):=by walk_at "k"
theorem Ry:bootBuiltins "str" = some (.type "str"):=by walk_at "k"
theorem QJ:bootBuiltins "tuple" = some (.type "tuple"):=by walk_at "k"
set_option genInjectivity false in
structure Tx (K:Fk) (mg:Str->Option Value) (base:Heap) where
 bm:BmB base mg
 K1:Addr
 Ws:FuncData
 Jb:Own K mg "is_whole" YD ["thing"] K1 Ws
 KR:Addr
 KW:FuncData
 Vm:Own K mg "is_short" YG ["thing"] KR KW
 V5:Addr
 V9:FuncData
 Yh:Own K mg "is_any_spot" JQ ["thing"] V5 V9
 UI:Addr
 UE:FuncData
 Yo:Own K mg "is_spot" X5 ["thing"] UI UE
 CU:Addr
 Dd:FuncData
 Df:Own K mg "is_box" Up ["thing"] CU Dd
 XR:Addr
 Ka:FuncData
 XS:Own K mg "has_spots" VU ["box"] XR Ka
 J7:Addr
 Vj:FuncData
 J6:Own K mg "steps_between" Jd ["one", "other"] J7 Vj
 ZcS:Addr
 ZcO:FuncData
 ZbC:Own K mg "gap" Zap ["one", "other", "way"] ZcS ZcO
 KY:Addr
 Wg:FuncData
 WD:Own K mg "is_shape" Vo ["thing"] KY Wg
 Wu:Addr
 Wn:FuncData
 K2:Own K mg "is_chain" Vu ["boxes"] Wu Wn
 Bd:Addr
 G5:FuncData
 X6:Own K mg "is_name" Yr ["thing"] Bd G5
 GY:Addr
 Gn:FuncData
 Gu:Own K mg "is_time" Xu ["thing"] GY Gn
 Y3:Addr
 YX:FuncData
 Y0:Own K mg "is_telling" J9 ["thing"] Y3 YX
 Js:Addr
 Jr:FuncData
 Ju:Own K mg "is_name_or_empty" Qz ["thing"] Js Jr
 XC:Addr
 Xr:FuncData
 XG:Own K mg "is_wobble" VS ["thing"] XC Xr
 Mn:Addr
 Cw:FuncData
 Ul:Own K mg "moved" Kg ["tellings", "dx", "dy"] Mn Cw
 C0:Addr
 Um:FuncData
 Xk:Own K mg "turned" V8 ["tellings", "number"] C0 Um
 GS:Addr
 GL:FuncData
 U3:Own K mg "checked" Ye ["tellings"] GS GL
 YV:Addr
 YZ:FuncData
 J8:Own K mg "with_spots" Jt ["telling", "change"] YV YZ
 VJ:Addr
 VE:FuncData
 VI:Own K mg "with_corners" Jv ["box", "change"] VJ VE
 V4:Addr
 Yk:FuncData
 Yf:Own K mg "turned_spot" JK ["spot", "number"] V4 Yk
 RM:Addr
 Sd:FuncData
 Zz:Own K mg "_law_take" HS ["_law_pen", "_law_many"] RM Sd
 Su:Addr
 RR:FuncData
 Wk:Own K mg "_law_wide" MI ["_law_pen", "_law_many"] Su RR
 R9:Addr
 Sl:FuncData
 UC:Own K mg "_law_same" s_same ["_law_found", "_law_due"] R9 Sl
 Fh:Addr
 L3:FuncData
 Hk:Own K mg "_law_boxes" Uv ["_law_pen", "_law_most"] Fh L3
 Xw:Addr
 X8:FuncData
 XT:Own K mg "_law_stretched" VT ["_law_boxes_here", "_law_by", "_law_off"] Xw X8
 Bc:Addr
 Bj:FuncData
 UH:Own K mg "_law_stretch" XI ["_law_pen"] Bc Bj
 Li:Addr
 Lw:FuncData
 Ci:Own K mg "_law_names" Vl ["_law_pen", "_law_many"] Li Lw
 Mr:Addr
 HE:FuncData
 HN:Own K mg "_law_world" B3 ["_law_pen"] Mr HE
 Sf:Addr
 RK:FuncData
 RL:Own K mg "_law_spot" Ed ["_law_pen", "_law_world_here"] Sf RK
 RX:Addr
 RN:FuncData
 RO:Own K mg "_law_land" L7 ["_law_pen", "_law_world_here", "_law_time"] RX RN
 US:Addr
 G6:FuncData
 GZ:Own K mg "_law_telling" X4 ["_law_pen", "_law_world_here"] US G6
 SO:Addr
 Ro:FuncData
 SD:Own K mg "_law_some" D5 ["_law_pen", "_law_world_here", "_law_most"] SO Ro
 UP:Addr
 GO:FuncData
 Kq:Own K mg "_law_changed" Yg ["_law_tellings", "_law_change"] UP GO
 Vk:Addr
 J3:FuncData
 Je:Own K mg "_law_turned_spot" Ji ["_law_spot_here", "_law_number"] Vk J3
 Ef:Addr
 CS:FuncData
 Ut:Own K mg "_law_inside" Xm ["_law_box"] Ef CS
 V7:Addr
 Yt:FuncData
 Yn:Own K mg "_law_boxes_right" Q8 ["_law_tellings", "_law_told", "_law_number"] V7 Yt
 Yp:Addr
 JS:FuncData
 Yi:Own K mg "_law_moved_right" Q4 ["_law_tellings", "_law_dx", "_law_dy"] Yp JS
 VG:Addr
 JA:FuncData
 VB:Own K mg "_law_turned_right" QK ["_law_tellings", "_law_number", "_law_is_small"] VG JA
 ZfK:Addr
 Zdz:FuncData
 o_law:Own K mg "law" ZaZ ["_law_script"] ZfK Zdz
 DZ:Addr
 JO:Addr
 Xi:Cw.code = .ref DZ
 Xg:PySem.W.codeHdIn K DZ JO = true
 Bf:Addr
 Jh:Addr
 Ym:Um.code = .ref Bf
 V2:PySem.W.codeHdIn K Bf Jh = true
 VC:Addr
 ZS:Addr
 QM:JS.code = .ref VC
 QL:PySem.W.codeHdIn K VC ZS = true
 J4:Addr
 ZP:Addr
 Qy:JA.code = .ref J4
 Qu:PySem.W.codeHdIn K J4 ZP = true
 kd:([JO,Jh,ZS,ZP]:List Addr).Nodup
 TJ:mg "abs" = none
 NP:mg "all" = none
 ZfL:mg "bool" = none
 ZdY:mg "int" = none
 Qb:mg "isinstance" = none
 JL:mg "len" = none
 Nt:mg "max" = none
 Zet:mg "min" = none
 Qh:mg "range" = none
 Wj:mg "repr" = none
 W6:mg "sorted" = none
 Zdy:mg "str" = none
 JC:mg "tuple" = none
 Zcp:mg "zip" = none
 Zc3:Tok
 RE:mg "MOST" = some (.int 999999999999 Zc3)
 UY:Tok
 U6:mg "MOST_BOXES" = some (.int 6 UY)
 KI:Tok
 KL:mg "MOST_LETTERS" = some (.int 8 KI)
 Bt:Tok
 By:mg "LAST_TIME" = some (.int 1000000000000 Bt)
 NQ:Tok
 OV:mg "X_SIGN" = some (.int 1 NQ)
 P5:Tok
 Pp:mg "Y_SIGN" = some (.int 2 P5)
 Cq:Tok
 BY:mg "EXCHANGED" = some (.int 4 Cq)
 CC:Tok
 BZ:mg "LAST_TURN" = some (.int 7 CC)
local macro_rules | `(tactic| walk_at "hd")=>`(tactic| (subst_vars; (try dsimp only); refine DL.Jm λ R hR=>?_))
local macro_rules | `(tactic| walk_at "h")=>`(tactic| (walk_at "hd"; walk_at "rk"))
noncomputable def gp (a b a' b':Int):Int:=max 0 (max (a' - b) (a - b'))
noncomputable def btw (x y X Y x' y' X' Y':Int):Int:=max (gp x X x' X') (gp y Y y' Y')
structure B4 where
 x:Int
 y:Int
 X:Int
 Y:Int
noncomputable def bD (b:B4):PyData:=.tuple [.tuple [.int b.x,.int b.y],.tuple [.int b.X,.int b.Y]]
noncomputable def ZU (a b:B4):Int:=btw a.x a.y a.X a.Y b.x b.y b.X b.Y
noncomputable def okB (b:B4):Bool:=decide (b.x <= b.X) && decide (b.y <= b.Y)
noncomputable def UL (f ox oy:Int) (b:B4):B4:=⟨b.x * f + ox,b.y * f + oy,b.X * f + f - 1 + ox,b.Y * f + f - 1 + oy⟩
noncomputable def toB:PyData->B4
 | .tuple [.tuple [.int x,.int y],.tuple [.int X,.int Y]]=>⟨x,y,X,Y⟩
 | _=>⟨0,0,0,0⟩
def onX (x:DV) (P:B4->Prop):Prop:=∃ b,x = .dat (bD b) /\ P b
theorem D6 (b:B4) (P:B4->Prop):onX (.dat (bD b)) P = P b:=propext ⟨λ ⟨c,e,h⟩=>by
 rw [DV.dat.injEq] at e;rw [show b = c from congrArg toB e]
 exact h,λ h=>⟨b,rfl,h⟩⟩
theorem PM (x y X Y:Int) (P:B4->Prop):onX (.dat (.tuple [.tuple [.int x,.int y],.tuple [.int X,.int Y]])) P = P ⟨x,y,X,Y⟩:=D6 ⟨x,y,X,Y⟩ P
theorem Kd {x:DV} {P:B4->Prop} (h:onX x P):∃ b,x = .dat (bD b) /\ P b:=h
theorem PD (b:B4) (M:Mp) (P:List PyData->Prop):onQ (.dat (bD b)) M P = P [.tuple [.int b.x,.int b.y],.tuple [.int b.X,.int b.Y]]:=qI
theorem OK (b:B4) (P:List PyData->Prop):onT (.dat (bD b)) P = P [.tuple [.int b.x,.int b.y],.tuple [.int b.X,.int b.Y]]:=qI
theorem XJ:∀ bs:List B4,(bs.map bD).map toB = bs
 | []=>rfl
 | b :: bs=>by rw [List.map_cons,List.map_cons,XJ bs]; rfl
def Zgr (x:DV) (P:List B4->Prop):Prop:=∃ bs,x = .dat (.tuple (bs.map bD)) /\ P bs
def Zgk (x:DV) (P:List B4->Prop):Prop:=∃ bs,x = .dat (.list (bs.map bD)) /\ P bs
theorem Zbr {x:DV} {P:List B4->Prop} (h:Zgr x P):∃ bs,x = .dat (.tuple (bs.map bD)) /\ P bs:=h
theorem ZaS {x:DV} {P:List B4->Prop} (h:Zgk x P):∃ bs,x = .dat (.list (bs.map bD)) /\ P bs:=h
theorem K5 {as bs:List B4} (h:as.map bD = bs.map bD):as = bs:=by
 rw [<- XJ as,h,XJ]
theorem ZaF (bs:List B4) (P:List B4->Prop):Zgr (.dat (.tuple (bs.map bD))) P = P bs:=propext ⟨λ ⟨cs,e,h⟩=>by
 rw [DV.dat.injEq,PyData.tuple.injEq] at e;rw [K5 e]
 exact h,λ h=>⟨bs,rfl,h⟩⟩
theorem Za6 (bs:List B4) (P:List B4->Prop):Zgk (.dat (.list (bs.map bD))) P = P bs:=propext ⟨λ ⟨cs,e,h⟩=>by
 rw [DV.dat.injEq,PyData.list.injEq] at e;rw [K5 e]
 exact h,λ h=>⟨bs,rfl,h⟩⟩
noncomputable def ZN:PyData->Bool
 | .int _=>true
 | _=>false
noncomputable def ZC:PyData->Bool
 | .int i=>decide (-999999999999 <= i) && decide (i <= 999999999999)
 | _=>false
noncomputable def VH:PyData->Bool
 | .tuple [a,b]=>ZN a && ZN b
 | _=>false
noncomputable def QB:PyData->Bool
 | .tuple [a,b]=>ZC a && ZC b
 | _=>false
noncomputable def JY:PyData->Bool
 | .tuple [a,b]=>QB a && (QB b && okB (toB (.tuple [a,b])))
 | _=>false
noncomputable def chB:List B4->Bool
 | a :: b :: l=>decide (ZU a b <= 1) && chB (b :: l)
 | _=>true
noncomputable def Q9:PyData->Bool
 | .tuple ds=>(decide (1 <= ds.length) && decide (ds.length <= 6)) && (ds.all JY && chB (ds.map toB))
 | _=>false
noncomputable def NZ (c:Nat):Bool:=decide (97 <= c) && decide (c <= 122)
noncomputable def Qd:PyData->Bool
 | .str s=>(decide (1 <= s.length) && decide (s.length <= 8)) && s.cps.toList.all NZ
 | _=>false
noncomputable def KA:PyData->Bool
 | .str s=>decide (s.length <= 2000000)
 | _=>true
noncomputable def Jy:PyData->Bool
 | .int i=>decide (0 <= i) && decide (i <= 1000000000000)
 | _=>false
noncomputable def DQ:PyData->Bool
 | .int i=>decide (0 <= i) && decide (i <= 999999999999)
 | _=>false
noncomputable def Zbi:List PyData->Bool
 | [o,s,v]=>(isS o (Str.ofString "") || Qd o) && (Q9 s && DQ v)
 | _=>false
noncomputable def T7:List PyData->Bool
 | [s]=>QB s
 | _=>false
noncomputable def VO (k:PyData) (l:List PyData):Bool:=
 if isS k (Str.ofString "land") = true then Zbi l else if isS k (Str.ofString "spot") = true then T7 l else l.isEmpty && (isS k (Str.ofString "drop") || isS k (Str.ofString "free"))
noncomputable def Qi:PyData->Bool
 | .tuple (k :: t :: n :: l)=>Jy t && (Qd n && VO k l)
 | _=>false
noncomputable def Zgz:PyData->Bool
 | .tuple ds=>ds.all KA
 | _=>true
def spW:DSp:=λ xs M Φ=>on1 xs λ x=>onD x λ d=>Φ (.dat (.bool (ZN d))) M
theorem Zij:type_of% @spW.eq_1:=λ _ _ _=>qI
def ZiL:DSp:=λ xs M Φ=>on1 xs λ x=>onD x λ d=>Φ (.dat (.bool (ZC d))) M
theorem Zc9:type_of% @ZiL.eq_1:=λ _ _ _=>qI
def Zjb:DSp:=λ xs M Φ=>on1 xs λ x=>onD x λ d=>Φ (.dat (.bool (VH d))) M
theorem ZfY:type_of% @Zjb.eq_1:=λ _ _ _=>qI
def Zik:DSp:=λ xs M Φ=>on1 xs λ x=>onD x λ d=>Φ (.dat (.bool (QB d))) M
theorem Zcl:type_of% @Zik.eq_1:=λ _ _ _=>qI
def ZiI:DSp:=λ xs M Φ=>on1 xs λ x=>onD x λ d=>Φ (.dat (.bool (JY d))) M
theorem ZfQ:type_of% @ZiI.eq_1:=λ _ _ _=>qI
def Ma:DSp:=λ xs M Φ=>on1 xs λ x=>onD x λ d=>Φ (.dat (.bool (Q9 d))) M
theorem Mm:type_of% @Ma.eq_1:=λ _ _ _=>qI
def spT:DSp:=λ xs M Φ=>on1 xs λ x=>onD x λ d=>Φ (.dat (.bool (Jy d))) M
theorem Zh7:type_of% @spT.eq_1:=λ _ _ _=>qI
def Zey:DSp:=λ xs M Φ=>on1 xs λ x=>onD x λ d=>Φ (.dat (.bool (DQ d))) M
theorem Tc:type_of% @Zey.eq_1:=λ _ _ _=>qI
def spN:DSp:=λ xs M Φ=>on1 xs λ x=>onD x λ d=>KA d = true /\ Φ (.dat (.bool (Qd d))) M
theorem ZhZ:type_of% @spN.eq_1:=λ _ _ _=>qI
def Zi8:DSp:=λ xs M Φ=>on1 xs λ x=>onD x λ d=>KA d = true /\ Φ (.dat (.bool (isS d (Str.ofString "") || Qd d))) M
theorem Zdt:type_of% @Zi8.eq_1:=λ _ _ _=>qI
def SG:DSp:=λ xs M Φ=>on1 xs λ x=>onD x λ d=>Zgz d = true /\ Φ (.dat (.bool (Qi d))) M
theorem Pg:type_of% @SG.eq_1:=λ _ _ _=>qI
def ZdZ:DSp:=λ xs M Φ=>on1 xs λ x=>onX x λ b=>Φ (.dat (.bool (okB b))) M
theorem Zaz:type_of% @ZdZ.eq_1:=λ _ _ _=>qI
def Zgg:DSp:=λ xs M Φ=>on3 xs λ x y z=>onX x λ a=>onX y λ b=>onI z λ i=>(i = 0 \/ i = 1) /\ Φ (.dat (.int (if i = 0 then gp a.x a.X b.x b.X else gp a.y a.Y b.y b.Y))) M
theorem Zbh:type_of% @Zgg.eq_1:=λ _ _ _=>qI
def Gd:DSp:=λ xs M Φ=>on2 xs λ x y=>onX x λ a=>onX y λ b=>Φ (.dat (.int (ZU a b))) M
theorem BA:type_of% @Gd.eq_1:=λ _ _ _=>qI
def Fi:DSp:=λ xs M Φ=>on1 xs λ x=>Zgr x λ bs=>bs.length <= 6 /\ Φ (.dat (.bool (chB bs))) M
theorem LV:type_of% @Fi.eq_1:=λ _ _ _=>qI
section
variable {base:Heap}
theorem ZZ {t:DTT} {a b:DTS} {D:Z9} (h:∀ A B:DTS,A = a->B = b->Zgp t A B D Δ M):Zgp t a b D Δ M:=h a b rfl rfl
theorem YY {α:Type} {ds:List α} (h:ds.length = 2):∃ a b,ds = [a,b]:=by
 match ds,h with
 | [a,b],_=>exact ⟨a,b,rfl⟩
theorem G4 (h:ds.length ≠ 2):VH (.tuple ds) = false /\ QB (.tuple ds) = false /\ JY (.tuple ds) = false:=by
 match ds,h with
 | [],_=>exact ⟨rfl,rfl,rfl⟩
 | [_],_=>exact ⟨rfl,rfl,rfl⟩
 | [_,_],h=>exact absurd rfl h
 | _ :: _ :: _ :: _,_=>exact ⟨rfl,rfl,rfl⟩
theorem C6 (h:ZN d = true):∃ i,d = .int i:=by
 cases d <;> first | exact ⟨_,rfl⟩ | cases h
theorem XX (h:ZN d = false):ZC d = false:=by
 cases d <;> first | rfl | cases h
theorem Zi7 (n:Nat):decide ((n:Int) = 2) = decide (n = 2):=decide_eq_decide.mpr (by lia)
theorem Sa (h:VH d = true):∃ x y,d = .tuple [.int x,.int y]:=by
 cases d with
 | tuple ds=>
  by_cases hl:ds.length = 2
  ·obtain ⟨a,b,rfl⟩:=YY hl;have h':ZN a = true /\ ZN b = true:=by simpa [VH] using h
   obtain ⟨x,rfl⟩:=C6 h'.1;obtain ⟨y,rfl⟩:=C6 h'.2;exact ⟨x,y,rfl⟩
  ·rw [(G4 hl).1] at h;cases h
 | _=>cases h
theorem Eb (h:VH d = false):QB d = false:=by
 cases d with
 | tuple ds=>
  by_cases hl:ds.length = 2
  ·obtain ⟨a,b,rfl⟩:=YY hl;have h':ZN a = false \/ ZN b = false:=by
    have:(ZN a && ZN b) = false:=h;exact Bool.and_eq_false_iff.mp this
   show (ZC a && ZC b) = false
   rcases h' with h' | h'
   ·rw [XX h'];rfl
   ·rw [XX h',Bool.and_false]
  ·exact (G4 hl).2.1
 | _=>rfl
theorem WI (h:QB d = true):∃ x y:Int,d = .tuple [.int x,.int y] /\ ZC (.int x) = true /\ ZC (.int y) = true:=by
 cases q:VH d with
 | false=>rw [Eb q] at h; cases h
 | true=>
  obtain ⟨x,y,rfl⟩:=Sa q;exact ⟨x,y,rfl,Bool.and_eq_true_iff.mp h⟩
theorem Zdv (h:JY d = true):∃ b,d = bD b /\ okB b = true:=by
 cases d with
 | tuple ds=>
  by_cases hl:ds.length = 2
  ·obtain ⟨a,b,rfl⟩:=YY hl;have h':QB a = true /\ QB b = true /\ okB (toB (.tuple [a,b])) = true:=by simpa [JY] using h
   obtain ⟨x,y,rfl,_⟩:=WI h'.1;obtain ⟨x',y',rfl,_⟩:=WI h'.2.1;exact ⟨⟨x,y,x',y'⟩,rfl,h'.2.2⟩
  ·rw [(G4 hl).2.2] at h;cases h
 | _=>cases h
noncomputable def stB (bs:List B4) (j:Nat):Bool:=match bs[j]?,bs[j + 1]? with
 | some a,some b=>decide (ZU a b <= 1)
 | _,_=>true
theorem Mo:∀ bs:List B4,chB bs = (List.range (bs.length - 1)).all (stB bs)
 | []=>rfl
 | [_]=>rfl
 | a :: b :: l=>by
  have ih:=Mo (b :: l);show (decide (ZU a b <= 1) && chB (b :: l)) = (List.range (l.length + 1)).all (stB (a :: b :: l));rw [ih,List.range_succ_eq_map,List.all_cons,List.all_map];rfl
theorem Gm {p:Prop} [Decidable p] {A B:Prop} (h1:¬ p->A) (h2:p->B):if (!decide p) = true then A else B:=by
 by_cases h:p
 ·rw [decide_eq_true h,if_neg (by decide)];exact h2 h
 ·rw [decide_eq_false h,if_pos (by decide)];exact h1 h
theorem C7:∀ {ds:List PyData},ds.all JY = true->∃ bs:List B4,ds = bs.map bD
 | [],_=>⟨[],rfl⟩
 | d :: ds,h=>by
  rw [List.all_cons,Bool.and_eq_true] at h;obtain ⟨b,rfl,_⟩:=Zdv h.1;obtain ⟨bs,rfl⟩:=C7 h.2;exact ⟨b :: bs,rfl⟩
theorem GR (h:¬ 1 <= (ds.length:Int) \/ ¬ (ds.length:Int) <= 6):Q9 (.tuple ds) = false:=by
 show ((decide (1 <= ds.length) && decide (ds.length <= 6)) && _) = false
 rcases h with h | h
 ·rw [decide_eq_false (show ¬ 1 <= ds.length by lia)];rfl
 ·rw [decide_eq_false (show ¬ ds.length <= 6 by lia),Bool.and_false];rfl
theorem ZgK (c:Nat):(!decide ((⟨#[c]⟩:Str).cps.toList < (Str.ofString "a").cps.toList)) = decide (97 <= c):=by
 rw [Xj,show (Str.ofString "a").cps.toList = [97] by decide +kernel]
 by_cases h:97 <= c
 ·rw [decide_eq_true h,decide_eq_false (λ z=>by simp [List.cons_lt_cons_iff] at z; lia)];rfl
 ·rw [decide_eq_false h,decide_eq_true (by simp [List.cons_lt_cons_iff]; lia)];rfl
theorem ZhT (c:Nat):(!decide ((Str.ofString "z").cps.toList < (⟨#[c]⟩:Str).cps.toList)) = decide (c <= 122):=by
 rw [Xj,show (Str.ofString "z").cps.toList = [122] by decide +kernel]
 by_cases h:c <= 122
 ·rw [decide_eq_true h,decide_eq_false (λ z=>by simp [List.cons_lt_cons_iff] at z; lia)];rfl
 ·rw [decide_eq_false h,decide_eq_true (by simp [List.cons_lt_cons_iff]; lia)];rfl
theorem UJ {s:Str} (h:¬ 1 <= (s.length:Int) \/ ¬ (s.length:Int) <= 8):Qd (.str s) = false:=by
 show ((decide (1 <= s.length) && decide (s.length <= 8)) && s.cps.toList.all NZ) = false
 rcases h with h | h
 ·rw [decide_eq_false (show ¬ 1 <= s.length by lia)];rfl
 ·rw [decide_eq_false (show ¬ s.length <= 8 by lia),Bool.and_false];rfl
theorem LM (h:ds.length < 3):Qi (.tuple ds) = false:=by
 match ds,h with
 | [],_=>rfl
 | [_],_=>rfl
 | [_,_],_=>rfl
theorem Ob {α:Type} {ds:List α} (h:¬ ds.length < 3):∃ a b c l,ds = a :: b :: c :: l:=by
 match ds,h with
 | [],h=>exact absurd (by simp) h
 | [_],h=>exact absurd (by simp) h
 | [_,_],h=>exact absurd (by simp) h
 | a :: b :: c :: l,_=>exact ⟨a,b,c,l,rfl⟩
theorem Ri {α:Type} {ds:List α} (h:ds.length = 3):∃ a b c,ds = [a,b,c]:=by
 match ds,h with
 | [a,b,c],_=>exact ⟨a,b,c,rfl⟩
theorem ZcU {α:Type} {ds:List α} (h:ds.length = 1):∃ a,ds = [a]:=by
 match ds,h with
 | [a],_=>exact ⟨a,rfl⟩
theorem Zah (h:l.length ≠ 3):Zbi l = false:=by
 match l,h with
 | [],_=>rfl
 | [_],_=>rfl
 | [_,_],_=>rfl
 | [_,_,_],h=>exact absurd rfl h
 | _ :: _ :: _ :: _ :: _,_=>rfl
theorem TC (h:l.length ≠ 1):T7 l = false:=by
 match l,h with
 | [],_=>rfl
 | [_],h=>exact absurd rfl h
 | _ :: _ :: _,_=>rfl
def ZhP (o:OO):Prop:=∃ (ns:List Int) (i b:Int),0 <= i /\ o = .lst [.list (ns.map PyData.int),.int i,.int b]
def Pen (M:Mp) (p:Addr):Prop:=∃ o,ZhP o /\ M p = some o
theorem Pen.Z0 (h:ZhP o):Pen (Z0 M p o) p:=⟨o,h,Zq⟩
theorem Pen.ne (h:Pen M p) (hq:M q = none):p ≠ q:=λ e=>by
 obtain ⟨o,_,ho⟩:=h;rw [e,hq] at ho;cases ho
theorem Pen.put (h:Pen M p) (hq:p ≠ q):Pen (DL.Z0 M q o) p:=by
 obtain ⟨o',h1,h2⟩:=h;exact ⟨o',h1,by rw [Zs hq]; exact h2⟩
theorem Pen.del (h:Pen M p) (hq:p ≠ q):Pen (DL.V1 M q) p:=by
 obtain ⟨o',h1,h2⟩:=h;exact ⟨o',h1,by rw [Jj hq]; exact h2⟩
def Zi2 (x:DV) (P:List Int->Prop):Prop:=∃ ns,x = .dat (.list (ns.map PyData.int)) /\ P ns
theorem Kl:∀ {as bs:List Int},as.map PyData.int = bs.map PyData.int->as = bs
 | [],[],_=>rfl
 | [],_ :: _,h=>by simp at h
 | _ :: _,[],h=>by simp at h
 | a :: as,b :: bs,h=>by
  rw [List.map_cons,List.map_cons,List.cons.injEq,PyData.int.injEq] at h;rw [h.1,Kl h.2]
theorem ZaB (bs:List Int) (P:List Int->Prop):Zi2 (.dat (.list (bs.map PyData.int))) P = P bs:=propext ⟨λ ⟨cs,e,h⟩=>by
 rw [DV.dat.injEq,PyData.list.injEq] at e;rw [Kl e]
 exact h,λ h=>⟨bs,rfl,h⟩⟩
theorem tab {l:List Int} {r:Int} (P:Int->Prop) (h0:0 <= r) (h1:r < l.length) (hl:∀ w ∈ l,P w) {Q:PyData->Prop} (k:∀ w,P w->Q (.int w)):Ky (l.map PyData.int) r Q:=by
 obtain ⟨w,hw,e⟩:=ZaL h0 h1;exact YR e (k w (hl w hw))
def Fr (p:Addr) (M M':Mp):Prop:=Pen M' p /\ ∀ a,a ≠ p->M a ≠ none->M' a = M a
theorem Fr.refl (h:Pen M p):Fr p M M:=⟨h,λ _ _ _=>rfl⟩
theorem Fr.trans {M1 M2:Mp} (h:Fr p M M1) (k:Fr p M1 M2):Fr p M M2:=⟨k.1,λ a ha hn=>by
 have e:=h.2 a ha hn;rw [<- e]
 exact k.2 a ha (by rw [e]; exact hn)⟩
theorem Fr.Z0 (h:ZhP o):Fr p M (Z0 M p o):=⟨Pen.Z0 h,λ a ha _=>Zs ha⟩
theorem Fr.own (h:Fr p M M') (hq:M q = some o) (hne:q ≠ p):M' q = some o:=by
 rw [h.2 q hne (by rw [hq]; exact Option.some_ne_none _)];exact hq
theorem Fr.new (h:Fr p M M') (hq:M q = none) (hne:q ≠ p):Fr p M (DL.Z0 M' q o):=⟨h.1.put (Ne.symm hne),λ a ha hn=>by
 rw [Zs (λ e=>hn (by rw [e]; exact hq))]
 exact h.2 a ha hn⟩
def SH:DSp:=λ xs M Φ=>on2 xs λ x y=>onO x λ p=>onI y λ m=>(0 < m /\ m < 10 ^ 60) /\ Pen M p /\ ∀ r M',0 <= r->r < m->Fr p M M'->Φ (.dat (.int r)) M'
theorem PR:type_of% @SH.eq_1:=λ _ _ _=>qI
theorem Pen.get (h:Pen M p):∃ (ns:List Int) (i b:Int),0 <= i /\ M p = some (.lst [.list (ns.map PyData.int),.int i,.int b]):=by
 obtain ⟨o,⟨ns,i,b,hi,eo⟩,hp⟩:=h;exact ⟨ns,i,b,hi,by rw [hp,eo]⟩
def SA:DSp:=λ xs M Φ=>on2 xs λ x y=>onO x λ p=>onI y λ m=>(0 < m /\ m < 10 ^ 60) /\ Pen M p /\ ∀ r M',0 <= r->r < m->Fr p M M'->Φ (.dat (.int r)) M'
theorem Og:type_of% @SA.eq_1:=λ _ _ _=>qI
def Jk (s:Str):Prop:=(1 <= s.length /\ s.length <= 8) /\ ∀ c ∈ s.cps.toList,97 <= c /\ c <= 122
def Nml (n:Nat) (ss:List Str):Prop:=(1 <= ss.length /\ ss.length <= n) /\ ∀ s ∈ ss,Jk s
def Grb (n:Int) (b:B4):Prop:=(b.x <= b.X /\ b.y <= b.Y) /\ (-(4 * n) <= b.x /\ b.X <= 15 + 4 * n) /\ (-(4 * n) <= b.y /\ b.Y <= 15 + 4 * n /\ (b.X <= b.x + 8 /\ b.Y <= b.y + 8))
def Grd (bs:List B4):Prop:=(1 <= bs.length /\ bs.length <= 6) /\ chB bs = true /\ ∀ b ∈ bs,Grb 5 b
def Frm (f ox oy:Int):Prop:=(1 <= f /\ f <= 10000000000) /\ (-100000000000 <= ox /\ ox <= 100000000000) /\ (-100000000000 <= oy /\ oy <= 100000000000)
noncomputable def UQ (f ox oy bg sp:Int) (ts ls:List Str):OO:=.dkv [(.inr (Str.ofString "by"),.int f),(.inr (Str.ofString "off"),.tuple [.int ox,.int oy]),(.inr (Str.ofString "begin"),.int bg),(.inr (Str.ofString "span"),.int sp),(.inr (Str.ofString "things"),.list (ts.map PyData.str)),(.inr (Str.ofString "lands"),.list (ls.map PyData.str))]
def Wd (M:Mp) (q:Addr):Prop:=∃ f ox oy bg sp ts ls,M q = some (UQ f ox oy bg sp ts ls) /\ Frm f ox oy /\ (0 <= bg /\ bg <= 999999999992) /\ (1 <= sp /\ sp <= 9) /\ Nml 4 ts /\ Nml 5 ls
def LsW (M:Mp) (q:Addr) (P:Int->Prop):Prop:=∀ f ox oy bg sp ts ls,M q = some (UQ f ox oy bg sp ts ls)->P f
theorem LsW.of {f ox oy bg sp:Int} {ts ls:List Str} {P:Int->Prop} (h:M q = some (UQ f ox oy bg sp ts ls)) (k:P f):LsW M q P:=λ f' ox' oy' bg' sp' ts' ls' h'=>by
 rw [h,Option.some.injEq] at h';unfold UQ at h';simp only [OO.dkv.injEq,List.cons.injEq,Prod.mk.injEq,PyData.int.injEq,true_and,and_true] at h';rw [<- h'.1];exact k
theorem LsW.imp {P Q:Int->Prop} (h:LsW M q P) (k:∀ f,P f->Q f):LsW M q Q:=λ f ox oy bg sp ts ls e=>k f (h f ox oy bg sp ts ls e)
theorem LsW.fr {P:Int->Prop} (h:LsW M' q P) (k:Fr p M M') (hne:q ≠ p):LsW M q P:=λ f ox oy bg sp ts ls e=>h f ox oy bg sp ts ls (k.own e hne)
theorem Wd.fr (h:Wd M q) (k:Fr p M M') (hne:q ≠ p):Wd M' q:=by
 obtain ⟨f,ox,oy,bg,sp,ts,ls,hq,hh⟩:=h;exact ⟨f,ox,oy,bg,sp,ts,ls,k.own hq hne,hh⟩
def Nr (x:Int):Prop:=-600000000000 <= x /\ x <= 600000000000
def Sh (x:Int):Prop:=-999999999999 <= x /\ x <= 999999999999
def LK:DSp:=λ xs M Φ=>on2 xs λ x y=>onO x λ p=>onI y λ m=>(1 <= m /\ m <= 8) /\ Pen M p /\ ∀ (ss:List Str) (M':Mp),ss.length = m.toNat->(∀ s ∈ ss,Jk s)->Fr p M M'->Φ (.dat (.list (ss.map PyData.str))) M'
theorem Lb:type_of% @LK.eq_1:=λ _ _ _=>qI
def LG:DSp:=λ xs M Φ=>on2 xs λ x y=>onO x λ p=>onI y λ m=>(1 <= m /\ m <= 6) /\ Pen M p /\ ∀ bs M',Grd bs->Fr p M M'->Φ (.dat (.list (bs.map bD))) M'
theorem Ho:type_of% @LG.eq_1:=λ _ _ _=>qI
def Kt:DSp:=λ xs M Φ=>on3 xs λ x y z=>Zgk x λ bs=>onI y λ f=>onP z λ ox oy=>Grd bs /\ Φ (.dat (.tuple ((bs.map (UL f ox oy)).map bD))) M
theorem W4:type_of% @Kt.eq_1:=λ _ _ _=>qI
def U9:DSp:=λ xs M Φ=>on1 xs λ x=>onO x λ p=>Pen M p /\ ∀ f ox oy M',Frm f ox oy->Fr p M M'->Φ (.dat (.tuple [.int f,.tuple [.int ox,.int oy]])) M'
theorem B5:type_of% @U9.eq_1:=λ _ _ _=>qI
def HK:DSp:=λ xs M Φ=>on1 xs λ x=>onO x λ p=>Pen M p /\ ∀ q M',Wd M' q->q ≠ p->Fr p M M'->Φ (.own q) M'
theorem MC:type_of% @HK.eq_1:=λ _ _ _=>qI
def Rp:DSp:=λ xs M Φ=>on2 xs λ x y=>onO x λ p=>onO y λ q=>Wd M q /\ q ≠ p /\ Pen M p /\ ∀ u v M',Nr u->Nr v->Fr p M M'->Φ (.dat (.tuple [.int u,.int v])) M'
theorem PK:type_of% @Rp.eq_1:=λ _ _ _=>qI
noncomputable def Zfs (t:Int) (nm ou:Str) (bs:List B4) (wb:Int):PyData:=.tuple [.str (Str.ofString "land"),.int t,.str nm,.str ou,.tuple (bs.map bD),.int wb]
def R8:DSp:=λ xs M Φ=>on3 xs λ x y z=>onO x λ p=>onO y λ q=>onI z λ t=>Wd M q /\ q ≠ p /\ Pen M p /\
 ∀ nm ou bs f ox oy wb M',Jk nm->(ou = Str.ofString "" \/ Jk ou)->LsW M q (λ g=>g = f)->Grd bs->Frm f ox oy->(0 <= wb /\ wb <= 30000000000)->Fr p M M'->Φ (.dat (Zfs t nm ou (bs.map (UL f ox oy)) wb)) M'
theorem OJ:type_of% @R8.eq_1:=λ _ _ _=>qI
theorem Jk.is {s:Str} (h:Jk s):Qd (.str s) = true:=by
 show ((decide (1 <= s.length) && decide (s.length <= 8)) && s.cps.toList.all NZ) = true;rw [decide_eq_true h.1.1,decide_eq_true h.1.2];exact List.all_eq_true.mpr λ c hc=>by unfold NZ; rw [decide_eq_true (h.2 c hc).1,decide_eq_true (h.2 c hc).2]; rfl
def Zgl (s:Str):Prop:=∃ c,s = ⟨#[c]⟩ /\ 97 <= c /\ c <= 122
theorem abc:(Str.ofString "abcdefghijklmnopqrstuvwxyz").cps.toList = (List.range 26).map λ k=>97 + k:=by walk_at "k"
theorem Ls:(Str.ofString "abcdefghijklmnopqrstuvwxyz").length = 26:=by walk_at "k"
theorem SF {i:Int} (h0:0 <= i) (h1:i < 26):∃ c,L2.atI (Str.ofString "abcdefghijklmnopqrstuvwxyz").cps.toList i = some c /\ 97 <= c /\ c <= 122:=by
 obtain ⟨k,rfl⟩:=Int.eq_ofNat_of_zero_le h0;refine ⟨97 + k,?_,by lia,by lia⟩;rw [abc];refine VX ?_;rw [List.getElem?_map,List.getElem?_range (by lia)];rfl
theorem Bg:∀ {ss:List Str},(∀ s ∈ ss,Zgl s)->((ss.map (·.cps.toList)).flatten).length = ss.length /\ ∀ c ∈ (ss.map (·.cps.toList)).flatten,97 <= c /\ c <= 122
 | [],_=>⟨rfl,λ c hc=>(nomatch hc)⟩
 | s :: ss,h=>by
  obtain ⟨c,rfl,hc⟩:=h s List.mem_cons_self;obtain ⟨i1,i2⟩:=Bg λ t ht=>h t (List.mem_cons_of_mem _ ht);rw [List.map_cons,List.flatten_cons,Xj];refine ⟨by rw [List.length_append,i1,List.length_cons]; simp; lia,λ d hd=>?_⟩
  rcases List.mem_append.mp hd with hd | hd
  ·rw [List.mem_singleton.mp hd];exact hc
  ·exact i2 d hd
theorem Mv {ss:List Str} (h8:ss.length = 8) (h:∀ s ∈ ss,Zgl s):(Txt.join (Str.ofString "") ss).length = 8 /\ ∀ c ∈ (Txt.join (Str.ofString "") ss).cps.toList,97 <= c /\ c <= 122:=by
 obtain ⟨i1,i2⟩:=Bg h;rw [<- str_len,DL.join_list];exact ⟨by lia,i2⟩
theorem tabS {l:List Str} {r:Int} (P:Str->Prop) (h0:0 <= r) (h1:r < l.length) (hl:∀ s ∈ l,P s) {Q:PyData->Prop} (k:∀ s,P s->Q (.str s)):Ky (l.map PyData.str) r Q:=by
 obtain ⟨n,rfl⟩:=Int.eq_ofNat_of_zero_le h0;have hn:n < l.length:=by lia
 refine YR (d:=.str l[n]) (VX (by rw [List.getElem?_map,List.getElem?_eq_getElem hn]; rfl)) (k _ (hl _ (List.getElem_mem hn)))
theorem HY:∀ s ∈ (["land", "drop", "free", "spot", "comes", "goes", "in", "out", "stays", "wait", "none", "a", "z"]:List Str),Jk s:=by
 unfold Jk
 decide +kernel
def Nms (i:Nat) (acc:List PyData):Prop:=∃ ss:List Str,acc = ss.map PyData.str /\ ss.length = i /\ ∀ s ∈ ss,Jk s
theorem Nms.snoc {acc:List PyData} {s:Str} (h:Nms i acc) (hs:Jk s):Nms (i + 1) (acc ++ [.str s]):=by
 obtain ⟨ss,rfl,hl,ha⟩:=h;refine ⟨ss ++ [s],by rw [List.map_append]; rfl,by rw [List.length_append,hl]; rfl,λ t ht=>?_⟩
 rcases List.mem_append.mp ht with ht | ht
 ·exact ha t ht
 ·rw [List.mem_singleton.mp ht];exact hs
theorem Fr.fresh (h:Fr p M M') (hq:M' q = none):M q = none:=by
 cases e:M q with
 | none=>rfl
 | some o=>
  have hn:q ≠ p:=Ne.symm (h.1.ne hq);rw [h.own e hn] at hq;cases hq
theorem Fr.gone (h:Fr p M M') (hq:M q = none) (hne:q ≠ p):Fr p M (DL.V1 M' q):=⟨h.1.del (Ne.symm hne),λ a ha hn=>by
 rw [Jj (λ e=>hn (by rw [e]; exact hq))]
 exact h.2 a ha hn⟩
theorem CP:∀ (l:List B4) (b c:B4),chB (l ++ [b,c]) = (chB (l ++ [b]) && decide (ZU b c <= 1))
 | [],b,c=>by
  show (decide (ZU b c <= 1) && true) = (true && decide (ZU b c <= 1))
  rw [Bool.and_true,Bool.true_and]
 | [a],b,c=>by
  show (decide (ZU a b <= 1) && (decide (ZU b c <= 1) && true)) = ((decide (ZU a b <= 1) && true) && decide (ZU b c <= 1))
  rw [Bool.and_true,Bool.and_true]
 | a :: a' :: l,b,c=>by
  have ih:=CP (a' :: l) b c;show (decide (ZU a a' <= 1) && chB (a' :: l ++ [b,c])) = ((decide (ZU a a' <= 1) && chB (a' :: l ++ [b])) && decide (ZU b c <= 1))
  rw [ih,Bool.and_assoc]
theorem ZaE {a b a' b':Int} (h1:a' - b <= 1) (h2:a - b' <= 1):gp a b a' b' <= 1:=by
 unfold gp;lia
theorem QH {a b:B4} (h1:b.x - a.X <= 1) (h2:a.x - b.X <= 1) (h3:b.y - a.Y <= 1) (h4:a.y - b.Y <= 1):ZU a b <= 1:=Int.max_le.mpr ⟨ZaE h1 h2,ZaE h3 h4⟩
theorem RB {n m:Int} {b:B4} (h:n <= m) (g:Grb n b):Grb m b:=⟨g.1,⟨by have:=g.2.1.1; lia,by have:=g.2.1.2; lia⟩,by have:=g.2.2.1; lia,by have:=g.2.2.2.1; lia,g.2.2.2.2⟩
theorem Zf0 {n x w u:Int} (a:-(4 * n) <= x) (hw:w < 4) (hu:0 <= u):-(4 * (n + 1)) <= x - w - 1 + u:=by lia
theorem Zda {n x X w u:Int} (a:X <= 15 + 4 * n) (hw:w < 4) (hu:u < X - x + w + 3):x - w - 1 + u + w <= 15 + 4 * (n + 1):=by lia
theorem Zdk {x X w u:Int} (hu:u < X - x + w + 3):x - w - 1 + u - X <= 1:=by lia
theorem Zf5 {x w u:Int} (hu:0 <= u):x - (x - w - 1 + u + w) <= 1:=by lia
theorem ZjR {m:Int} (h:1 <= m /\ m <= 6):0 < m /\ m < 10 ^ 60:=by lia
theorem ZiX {x w:Int} (h:w < 4):x + w <= x + 8:=by lia
theorem Zjj {m r:Int} (h:1 <= m /\ m <= 6) (h0:0 <= r) (h1:r < m):InR r:=⟨by lia,by lia⟩
theorem Zjn {m r:Int} (h:1 <= m /\ m <= 6) (h1:r < m):(r.toNat:Int) <= 5:=by lia
theorem Zb6 {x w:Int} (h0:0 <= x) (h:x < 8) (h1:w < 9):(-(4 * ((0:Nat):Int)) <= x) /\ (x + w <= 15 + 4 * ((0:Nat):Int)) /\ x + w <= x + 8:=by lia
theorem ZjJ {m r:Int} {k:Nat} (h:1 <= m /\ m <= 6) (h1:r < m) (hi:k < r.toNat):k + 1 < 16777216:=by lia
theorem Zfo {x X f:Int} (h1:-(4 * 5) <= x) (h2:x <= X) (h3:X <= 15 + 4 * 5):Zb3 x f:=.inl (by lia)
theorem ZcG {x X f:Int} (h1:-(4 * 5) <= x) (h2:x <= X) (h3:X <= 15 + 4 * 5):Zb3 X f:=.inl (by lia)
theorem Rt {x X w:Int} (h:x <= X) (d:X <= x + 8) (h0:0 <= w) (h1:w < 4):0 < X - x + w + 3 /\ X - x + w + 3 < 10 ^ 60:=by lia
theorem Ve {tb:DTS} {D:Z9} (h:∀ E:Z9,(True->E = D)->tb E Δ M):tb D Δ M:=h D λ _=>rfl
theorem Ew {g:DTG} {v:DV} {tb:DTS} {D:Z9} (h:∀ E:Z9,(True->E = D)->g v Δ M λ Δ2 M2=>tb E Δ2 M2):g v Δ M λ Δ2 M2=>tb D Δ2 M2:=h D λ _=>rfl
theorem Ez (k:Key) (d:PyData) (ps:List (Key × PyData)):JP ((k,d) :: ps) k = some d:=by
 unfold JP;rw [List.find?_cons_of_pos (by simp)];rfl
theorem VQ {k k':Key} (d:PyData) (ps:List (Key × PyData)) (h:k' ≠ k):JP ((k',d) :: ps) k = JP ps k:=by
 unfold JP;rw [List.find?_cons_of_neg (by simpa using h)]
theorem Yy {ps:List (Key × PyData)} {k:Key} (e:JP ps k = some d) (Q:PyData->Prop):(Me (some (.dkv ps)) λ ps=>∃ d,JP ps k = some d /\ Q d) = Q d:=propext ⟨λ ⟨d',e',h⟩=>by
 rw [e,Option.some.injEq] at e';rw [e']
 exact h,λ h=>⟨d,e,h⟩⟩
theorem ZgQ (f ox oy bg sp:Int) (ts ls:List Str) (Q:PyData->Prop):(Me (some (UQ f ox oy bg sp ts ls)) λ ps=>∃ d,JP ps (.inr (Str.ofString "by")) = some d /\ Q d) = Q (.int f):=Yy (Ez _ _ _) Q
theorem ZbV (f ox oy bg sp:Int) (ts ls:List Str) (Q:PyData->Prop):(Me (some (UQ f ox oy bg sp ts ls)) λ ps=>∃ d,JP ps (.inr (Str.ofString "off")) = some d /\ Q d) = Q (.tuple [.int ox,.int oy]):=Yy ((VQ _ _ (by walk_at "k")).trans (Ez _ _ _)) Q
theorem T5 (f ox oy bg sp:Int) (ts ls:List Str) (Q:PyData->Prop):(Me (some (UQ f ox oy bg sp ts ls)) λ ps=>∃ d,JP ps (.inr (Str.ofString "begin")) = some d /\ Q d) = Q (.int bg):=Yy ((VQ _ _ (by walk_at "k")).trans ((VQ _ _ (by walk_at "k")).trans (Ez _ _ _))) Q
theorem ZfD (f ox oy bg sp:Int) (ts ls:List Str) (Q:PyData->Prop):(Me (some (UQ f ox oy bg sp ts ls)) λ ps=>∃ d,JP ps (.inr (Str.ofString "span")) = some d /\ Q d) = Q (.int sp):=Yy ((VQ _ _ (by walk_at "k")).trans ((VQ _ _ (by walk_at "k")).trans ((VQ _ _ (by walk_at "k")).trans (Ez _ _ _)))) Q
theorem Nh (f ox oy bg sp:Int) (ts ls:List Str) (Q:PyData->Prop):(Me (some (UQ f ox oy bg sp ts ls)) λ ps=>∃ d,JP ps (.inr (Str.ofString "things")) = some d /\ Q d) = Q (.list (ts.map PyData.str)):=Yy ((VQ _ _ (by walk_at "k")).trans ((VQ _ _ (by walk_at "k")).trans ((VQ _ _ (by walk_at "k")).trans ((VQ _ _ (by walk_at "k")).trans (Ez _ _ _))))) Q
theorem MF (f ox oy bg sp:Int) (ts ls:List Str) (Q:PyData->Prop):(Me (some (UQ f ox oy bg sp ts ls)) λ ps=>∃ d,JP ps (.inr (Str.ofString "lands")) = some d /\ Q d) = Q (.list (ls.map PyData.str)):=Yy ((VQ _ _ (by walk_at "k")).trans ((VQ _ _ (by walk_at "k")).trans ((VQ _ _ (by walk_at "k")).trans ((VQ _ _ (by walk_at "k")).trans ((VQ _ _ (by walk_at "k")).trans (Ez _ _ _)))))) Q
theorem Kv {a f lo hi:Int} (h1:lo <= a) (h2:a <= hi) (hf:1 <= f):lo * f <= a * f /\ a * f <= hi * f:=⟨Int.mul_le_mul_of_nonneg_right h1 (by lia),Int.mul_le_mul_of_nonneg_right h2 (by lia)⟩
theorem SI (n:Nat) (ls:List Str):(List.replicate n [PyData.str (Str.ofString "")]).flatten ++ ls.map PyData.str = (List.replicate n (Str.ofString "") ++ ls).map PyData.str:=by
 rw [List.map_append,List.map_replicate]
 congr 1
 induction n with
 | zero=>rfl
 | succ n ih=>rw [List.replicate_succ,List.flatten_cons,ih]; rfl
theorem Zfk {x f r2:Int} (h0:0 <= x) (h3:x <= 3) (hf:1 <= f /\ f <= 10000000000) (hr:r2 = 1 \/ r2 = 2):0 <= x * f / r2 /\ x * f / r2 <= 30000000000:=by
 have e:=Kv h0 h3 hf.1
 rcases hr with rfl | rfl <;> lia
structure Pl (k n:Nat) (d:PyData):Prop where
 s:d.showable = true
 nd:d.hasDict = false
 nl:ZX d = false
 dp:d.depth <= k
 z:cost d <= n
structure Pls (k n:Nat) (l:List PyData):Prop where
 s:PyData.showableAll l = true
 nd:PyData.hasDictAll l = false
 nl:ZD l = false
 dp:PyData.depthAll l <= k
 z:Qw l <= n
structure Od (k n:Nat) (d:PyData):Prop where
 s:d.showable = true
 m:(d.hasDict && ZX d) = false
 dp:d.depth <= k
 z:cost d <= n
theorem Pl.od {k:Nat} (h:Pl k n d):Od k n d:=⟨h.s,by rw [h.nd]; rfl,h.dp,h.z⟩
theorem Od.le {k n':Nat} (h:Od k n d) (hk:k <= k') (hn:n <= n'):Od k' n' d:=⟨h.s,h.m,Nat.le_trans h.dp hk,Nat.le_trans h.z hn⟩
theorem Pl.le {k n':Nat} (h:Pl k n d) (hk:k <= k') (hn:n <= n'):Pl k' n' d:=⟨h.s,h.nd,h.nl,Nat.le_trans h.dp hk,Nat.le_trans h.z hn⟩
theorem Pls.nil:Pls 0 0 []:=⟨by simp [PyData.showableAll],by simp [PyData.hasDictAll],by simp [ZD],by simp [PyData.depthAll],by simp [Qw]⟩
theorem Pls.cons {k:Nat} (h:Pl k n d) (t:Pls k' m l):Pls (max k k') (n + 2 + m) (d :: l):=
 ⟨by simp only [PyData.showableAll,h.s,t.s,Bool.and_self],by simp only [PyData.hasDictAll,h.nd,t.nd,Bool.or_self],by simp only [ZD,h.nl,t.nl,Bool.or_self],
  by simp only [PyData.depthAll]; have:=h.dp; have:=t.dp; lia,by simp only [Qw]; have:=h.z; have:=t.z; lia⟩
theorem Pls.le {k n':Nat} (h:Pls k n l) (hk:k <= k') (hn:n <= n'):Pls k' n' l:=⟨h.s,h.nd,h.nl,Nat.le_trans h.dp hk,Nat.le_trans h.z hn⟩
theorem Pls.all {k n m:Nat}:∀ {l:List PyData},l.length <= m->(∀ d ∈ l,Pl k n d)->Pls k ((n + 2) * m) l
 | [],_,_=>Pls.nil.le (Nat.zero_le _) (Nat.zero_le _)
 | d :: l,hm,h=>by
  obtain ⟨m,rfl⟩:∃ m',m = m' + 1:=⟨m - 1,by rw [List.length_cons] at hm; lia⟩
  refine (Pls.cons (h d List.mem_cons_self) (Pls.all (m:=m) (by rw [List.length_cons] at hm; lia) λ e he=>h e (List.mem_cons_of_mem _ he))).le (by lia) ?_;rw [Nat.mul_succ];lia
theorem Pls.app {k n m:Nat}:∀ {l l':List PyData},Pls k n l->Pls k m l'->Pls k (n + m) (l ++ l')
 | [],l',_,h=>h.le (Nat.le_refl _) (by lia)
 | d :: l,l',g,h=>by
  have gs:=g.s;have gd:=g.nd;have gl:=g.nl;have gp:=g.dp;have gz:=g.z;simp only [PyData.showableAll,Bool.and_eq_true] at gs;simp only [PyData.hasDictAll,Bool.or_eq_false_iff] at gd;simp only [ZD,Bool.or_eq_false_iff] at gl;simp only [PyData.depthAll] at gp;simp only [Qw] at gz;have t:=Pls.app (k:=k) (l:=l) (n:=n - (cost d + 2)) ⟨gs.2,gd.2,gl.2,by lia,by lia⟩ h;exact (Pls.cons (k:=k) (d:=d) ⟨gs.1,gd.1,gl.1,by lia,Nat.le_refl _⟩ t).le (by lia) (by lia)
theorem Pl.tup {k:Nat} (h:Pls k n l):Pl (k + 1) (n + 3) (.tuple l):=
 ⟨by simp only [PyData.showable.eq_6,h.s],by simp only [PyData.hasDict,h.nd],by simp only [ZX,h.nl],by simp only [PyData.depth]; have:=h.dp; lia,by simp only [cost]; have:=h.z; lia⟩
theorem Od.lst {k:Nat} (h:Pls k n l):Od (k + 1) (n + 2) (.list l):=
 ⟨by simp only [PyData.showable,h.s],by simp only [PyData.hasDict,h.nd]; rfl,by simp only [PyData.depth]; have:=h.dp; lia,by simp only [cost]; have:=h.z; lia⟩
theorem Od.dct:Od 1 2 (.dict []):=⟨by simp [PyData.showable,PyData.showableKv],by simp [ZX,JU],by simp [PyData.depth,PyData.depthKv],by simp [cost,K8]⟩
theorem Od.tup {k a b:Nat} {e:PyData}:∀ {l l':List PyData},Pls k a l->Od k n e->Pls k b l'->PyData.showableAll (l ++ e :: l') = true /\ PyData.hasDictAll (l ++ e :: l') = e.hasDict /\ ZD (l ++ e :: l') = ZX e /\ PyData.depthAll (l ++ e :: l') <= k /\ Qw (l ++ e :: l') <= a + (n + 2 + b)
 | [],l',g,h,g'=>by
  have:=g'.dp;have:=h.dp;have:=g'.z;have:=h.z;refine ⟨?_,?_,?_,?_,?_⟩
  ·simp only [List.nil_append,PyData.showableAll,h.s,g'.s,Bool.and_self]
  ·simp only [List.nil_append,PyData.hasDictAll,g'.nd,Bool.or_false]
  ·simp only [List.nil_append,ZD,g'.nl,Bool.or_false]
  ·simp only [List.nil_append,PyData.depthAll]; lia
  ·simp only [List.nil_append,Qw]; lia
 | d :: l,l',g,h,g'=>by
  have gs:=g.s;have gd:=g.nd;have gl:=g.nl;have gp:=g.dp;have gz:=g.z;simp only [PyData.showableAll,Bool.and_eq_true] at gs;simp only [PyData.hasDictAll,Bool.or_eq_false_iff] at gd;simp only [ZD,Bool.or_eq_false_iff] at gl;simp only [PyData.depthAll] at gp;simp only [Qw] at gz;obtain ⟨t1,t2,t3,t4,t5⟩:=Od.tup (l:=l) (a:=a - (cost d + 2)) ⟨gs.2,gd.2,gl.2,by lia,by lia⟩ h g';refine ⟨?_,?_,?_,?_,?_⟩
  ·simp only [List.cons_append,PyData.showableAll,gs.1,t1,Bool.and_self]
  ·simp only [List.cons_append,PyData.hasDictAll,gd.1,t2,Bool.false_or]
  ·simp only [List.cons_append,ZD,gl.1,t3,Bool.false_or]
  ·simp only [List.cons_append,PyData.depthAll]; lia
  ·simp only [List.cons_append,Qw]; lia
theorem Od.put {k a b:Nat} {e:PyData} {l':List PyData} (g:Pls k a l) (h:Od k n e) (g':Pls k b l'):Od (k + 1) (a + (n + 2 + b) + 3) (.tuple (l ++ e :: l')):=by
 obtain ⟨t1,t2,t3,t4,t5⟩:=Od.tup g h g';exact ⟨by simp only [PyData.showable.eq_6,t1],by simp only [PyData.hasDict,ZX,t2,t3,h.m],by simp only [PyData.depth]; lia,by simp only [cost]; lia⟩
theorem Zeo {i:Int} (h:-(10 ^ 60) <= i /\ i <= 10 ^ 60):Pl 0 1921 (.int i):=⟨Mid.show ⟨by lia,by lia⟩,by simp [PyData.hasDict],by simp [ZX],by simp [PyData.depth],by simp [cost]⟩
theorem Zjd {s:Str} (h:∀ c ∈ s.cps.toList,c < 16 ^ 8) (hn:s.length <= n):Pl 0 (10 * n + 2) (.str s):=⟨by simp [PyData.showable],by simp [PyData.hasDict],by simp [ZX],by simp [PyData.depth],by
 simp only [cost];have:=StrLaws.reprText_len s h
 lia⟩
theorem N7 (t:String):∀ c ∈ (Str.ofString t).cps.toList,c < 16 ^ 8:=by
 intro c hc;rw [PySem.Str.ofString_eq_toList] at hc;simp at hc;obtain ⟨a,_,rfl⟩:=hc;have h:=a.valid;show a.val.toNat < 16 ^ 8;unfold UInt32.isValidChar Nat.isValidChar at h;lia
theorem ZdN (t:String) (hn:(Str.ofString t).length <= n):Pl 0 (10 * n + 2) (.str (Str.ofString t)):=Zjd (N7 t) hn
theorem pNm {s:Str} (h:Jk s):Pl 0 82 (.str s):=Zjd (n:=8) (λ c hc=>by have:=h.2 c hc; lia) h.1.2
theorem pSp {x y:Int} (hx:Sh x) (hy:Sh y):Pl 1 3849 (.tuple [.int x,.int y]):=
 (Pl.tup (Pls.cons (Zeo (by unfold Sh at hx; lia)) (Pls.cons (Zeo (by unfold Sh at hy; lia)) Pls.nil))).le (by decide) (by decide)
theorem fn {Q:PyData->Prop}:∀ d ∈ ([]:List PyData),Q d:=λ _ h=>(nomatch h)
structure Thg (d:PyData):Prop where
 t:KA d = true
 o:Od 20 90000 d
theorem Od.th {k:Nat} (h:Od k n d) (t:KA d = true) (hk:autoParam (k <= 20) zz1._auto_1) (hn:autoParam (n <= 90000) zz1._auto_1):Thg d:=⟨t,h.le hk hn⟩
theorem Pl.th {k:Nat} (h:Pl k n d) (t:KA d = true) (hk:autoParam (k <= 20) zz1._auto_1) (hn:autoParam (n <= 90000) zz1._auto_1):Thg d:=h.od.th t hk hn
def Tf (bs:List B4):Prop:=(1 <= bs.length /\ bs.length <= 6) /\ chB bs = true /\ ∀ b ∈ bs,okB b = true /\ (Sh b.x /\ Sh b.y) /\ (Sh b.X /\ Sh b.Y)
def ZeG (w:Str) (l:List PyData):Prop:=w = Str.ofString "land" /\ ∃ (ou:Str) (bs:List B4) (wb:Int),l = [.str ou,.tuple (bs.map bD),.int wb] /\ (ou = Str.ofString "" \/ Jk ou) /\ Tf bs /\ (0 <= wb /\ wb <= 30000000000)
def Zfz (w:Str) (l:List PyData):Prop:=w = Str.ofString "spot" /\ ∃ u v:Int,l = [.tuple [.int u,.int v]] /\ Sh u /\ Sh v
def ZeF (w:Str) (l:List PyData):Prop:=(w = Str.ofString "drop" \/ w = Str.ofString "free") /\ l = []
def Tel (ds:List PyData):Prop:=∃ (w:Str) (t:Int) (nm:Str) (l:List PyData),ds = .str w :: .int t :: .str nm :: l /\ (0 <= t /\ t <= 1000000000000) /\ Jk nm /\ (ZeG w l \/ Zfz w l \/ ZeF w l)
def Gw (M M':Mp):Prop:=∀ a,M a ≠ none->M' a = M a
theorem Gw.refl:Gw M M:=λ _ _=>rfl
theorem Gw.trans {M1 M2:Mp} (h:Gw M M1) (k:Gw M1 M2):Gw M M2:=λ a ha=>by
 rw [k a (by rw [h a ha]; exact ha),h a ha]
theorem Gw.new (h:Gw M M') (hq:M' q = none):Gw M (Z0 M' q o):=λ a ha=>by
 have e:=h a ha;rw [Zs (λ z=>ha (by rw [<- e,z]; exact hq)),e]
theorem Gw.pen (h:Gw M M') (hp:Pen M p):Pen M' p:=by
 obtain ⟨o,h1,h2⟩:=hp;exact ⟨o,h1,by rw [h p (by rw [h2]; exact Option.some_ne_none _)]; exact h2⟩
theorem Gw.wd (h:Gw M M') (hw:Wd M q):Wd M' q:=by
 obtain ⟨f,ox,oy,bg,sp,ts,ls,hq,hh⟩:=hw;exact ⟨f,ox,oy,bg,sp,ts,ls,by rw [h q (by rw [hq]; exact Option.some_ne_none _)]; exact hq,hh⟩
def Knd (w:Str) (l:List PyData):Prop:=ZeG w l \/ Zfz w l \/ ZeF w l
theorem Zcu {s:Str} (h:Jk s):KA (.str s) = true:=decide_eq_true (by have:=h.1; lia)
theorem HC {bs:List B4} (hs:Tf bs):Pl 3 46245 (.tuple (bs.map bD)):=by
 refine (Pl.tup (Pls.all (k:=2) (n:=7705) (m:=6) (by rw [List.length_map]; exact hs.1.2) λ d hd=>?_)).le (by decide) (by decide);obtain ⟨c,hc,rfl⟩:=List.mem_map.mp hd;have hc:=hs.2.2 c hc;exact (Pl.tup (Pls.cons (pSp hc.2.1.1 hc.2.1.2) (Pls.cons (pSp hc.2.2.1 hc.2.2.2) Pls.nil))).le (by decide) (by decide)
theorem Cf {w:Str} (h:Knd w l):Pls 19 60000 l /\ l.all KA = true /\ l.length <= 3 /\ Pl 0 102 (.str w) /\ KA (.str w) = true:=by
 rcases h with ⟨rfl,ou,bs,wb,rfl,ho,hs,hw⟩ | ⟨rfl,u,v,rfl,hu,hv⟩ | ⟨hw,rfl⟩
 ·have po:Pl 0 102 (.str ou) /\ KA (.str ou) = true:=by
   rcases ho with rfl | ho
   ·exact ⟨ZdN "" (n:=10) (by walk_at "k"),by walk_at "k"⟩
   ·exact ⟨(pNm ho).le (by decide) (by decide),Zcu ho⟩
  refine ⟨(Pls.cons po.1 (Pls.cons (HC hs) (Pls.cons (Zeo (by lia)) Pls.nil))).le (by decide) (by decide),?_,by simp,ZdN "land" (n:=10) (by walk_at "k"),by walk_at "k"⟩;show (KA (.str ou) && _) = true;rw [po.2];rfl
 ·exact ⟨(Pls.cons (pSp hu hv) Pls.nil).le (by decide) (by decide),rfl,by simp,ZdN "spot" (n:=10) (by walk_at "k"),by walk_at "k"⟩
 ·refine ⟨Pls.nil.le (by decide) (by decide),rfl,by simp,?_⟩
  rcases hw with rfl | rfl
  ·exact ⟨ZdN "drop" (n:=10) (by walk_at "k"),by walk_at "k"⟩
  ·exact ⟨ZdN "free" (n:=10) (by walk_at "k"),by walk_at "k"⟩
theorem Zgi:isS (.str (Str.ofString "land")) (Str.ofString "land") = true:=by walk_at "k"
theorem ZiF:isS (.str (Str.ofString "spot")) (Str.ofString "land") = false:=by walk_at "k"
theorem ZhU:isS (.str (Str.ofString "spot")) (Str.ofString "spot") = true:=by walk_at "k"
theorem Zf7:isS (.str (Str.ofString "drop")) (Str.ofString "land") = false /\ isS (.str (Str.ofString "drop")) (Str.ofString "spot") = false:=by walk_at "k"
theorem ZdM:isS (.str (Str.ofString "free")) (Str.ofString "land") = false /\ isS (.str (Str.ofString "free")) (Str.ofString "spot") = false:=by walk_at "k"
theorem Zi4:isS (.str (Str.ofString "land")) (Str.ofString "spot") = false /\ isS (.str (Str.ofString "land")) (Str.ofString "drop") = false /\ isS (.str (Str.ofString "land")) (Str.ofString "free") = false:=by walk_at "k"
theorem ZdQ (l:List PyData):VO (.str (Str.ofString "land")) l = Zbi l:=by unfold VO; rw [if_pos Zgi]
theorem ZcA (l:List PyData):VO (.str (Str.ofString "spot")) l = T7 l:=by unfold VO; rw [ZiF,if_neg (by decide),if_pos ZhU]
theorem E9 {x:Int} (h:Sh x):ZC (.int x) = true:=by
 show (decide (-999999999999 <= x) && decide (x <= 999999999999)) = true;rw [decide_eq_true h.1,decide_eq_true h.2];rfl
theorem Ot {bs:List B4} (h:Tf bs):Q9 (.tuple (bs.map bD)) = true:=by
 show ((decide (1 <= (bs.map bD).length) && decide ((bs.map bD).length <= 6)) && ((bs.map bD).all JY && chB ((bs.map bD).map toB))) = true;rw [XJ,h.2.1,List.length_map,decide_eq_true h.1.1,decide_eq_true h.1.2,List.all_eq_true.mpr λ d hd=>?_]
 ·rfl
 ·obtain ⟨b,hb,rfl⟩:=List.mem_map.mp hd;obtain ⟨h1,⟨h2,h3⟩,h4,h5⟩:=h.2.2 b hb;show ((ZC (.int b.x) && ZC (.int b.y)) && ((ZC (.int b.X) && ZC (.int b.Y)) && okB b)) = true;rw [E9 h2,E9 h3,E9 h4,E9 h5,h1];rfl
theorem ZeE {w:Str} (h:Knd w l):VO (.str w) l = true:=by
 rcases h with ⟨rfl,ou,bs,wb,rfl,ho,hs,hw⟩ | ⟨rfl,u,v,rfl,hu,hv⟩ | ⟨hw,rfl⟩
 ·rw [ZdQ];show ((isS (.str ou) (Str.ofString "") || Qd (.str ou)) && (Q9 (.tuple (bs.map bD)) && (decide (0 <= wb) && decide (wb <= 999999999999)))) = true;rw [Ot hs,decide_eq_true hw.1,decide_eq_true (show wb <= 999999999999 by lia)]
  rcases ho with rfl | ho
  ·decide +kernel
  ·rw [ho.is,Bool.or_true];rfl
 ·rw [ZcA];show (ZC (.int u) && ZC (.int v)) = true;rw [E9 hu,E9 hv];rfl
 ·rcases hw with rfl | rfl <;> decide +kernel
theorem Zfv {D:List PyData} (h:Tel D):Qi (.tuple D) = true /\ Zgz (.tuple D) = true:=by
 obtain ⟨w,t,nm,l,rfl,ht,hn,hk⟩:=h;obtain ⟨_,lt,_,_,wt⟩:=Cf hk;constructor
 ·show ((decide (0 <= t) && decide (t <= 1000000000000)) && (Qd (.str nm) && VO (.str w) l)) = true;rw [decide_eq_true ht.1,decide_eq_true ht.2,hn.is,ZeE hk];rfl
 ·show (KA (.str w) && (true && (KA (.str nm) && l.all KA))) = true;rw [wt,Zcu hn,lt];rfl
theorem RG {a b a' b' f o:Int} (hf:1 <= f) (h:gp a b a' b' <= 1):gp (a * f + o) (b * f + f - 1 + o) (a' * f + o) (b' * f + f - 1 + o) <= 1:=by
 have h1:a' - b <= 1:=by unfold gp at h; lia
 have h2:a - b' <= 1:=by unfold gp at h; lia
 have e1:a' * f <= (b + 1) * f:=Int.mul_le_mul_of_nonneg_right (by lia) (by lia);have e2:a * f <= (b' + 1) * f:=Int.mul_le_mul_of_nonneg_right (by lia) (by lia);rw [Int.add_mul,Int.one_mul] at e1 e2;exact ZaE (by lia) (by lia)
theorem RW {f ox oy:Int} (hf:1 <= f):∀ bs:List B4,chB bs = true->chB (bs.map (UL f ox oy)) = true
 | [],_=>rfl
 | [_],_=>rfl
 | a :: b :: l,h=>by
  have h':decide (ZU a b <= 1) = true /\ chB (b :: l) = true:=Bool.and_eq_true_iff.mp h;show (decide (ZU (UL f ox oy a) (UL f ox oy b) <= 1) && chB ((b :: l).map (UL f ox oy))) = true;rw [RW hf (b :: l) h'.2];have k:=Int.max_le.mp (of_decide_eq_true h'.1);rw [decide_eq_true (show ZU (UL f ox oy a) (UL f ox oy b) <= 1 from Int.max_le.mpr ⟨RG hf k.1,RG hf k.2⟩)];rfl
theorem Tb {bs:List B4} {f ox oy:Int} (h:Grd bs) (hf:Frm f ox oy):Tf (bs.map (UL f ox oy)):=by
 obtain ⟨⟨f1,f2⟩,hx,hy⟩:=hf;refine ⟨by rw [List.length_map]; exact h.1,RW f1 bs h.2.1,λ c hc=>?_⟩;obtain ⟨b,hb,rfl⟩:=List.mem_map.mp hc;obtain ⟨⟨g1,g2⟩,⟨g3,g4⟩,g5,g6⟩:=h.2.2 b hb;have a1:=Kv (a:=b.x) (lo:=-20) (hi:=35) (by lia) (by lia) f1;have a2:=Kv (a:=b.y) (lo:=-20) (hi:=35) (by lia) (by lia) f1;have a3:=Kv (a:=b.X) (lo:=-20) (hi:=35) (by lia) (by lia) f1;have a4:=Kv (a:=b.Y) (lo:=-20) (hi:=35) (by lia) (by lia) f1;have c1:b.x * f <= b.X * f:=Int.mul_le_mul_of_nonneg_right g1 (by lia);have c2:b.y * f <= b.Y * f:=Int.mul_le_mul_of_nonneg_right g2 (by lia);unfold UL okB Sh;dsimp only;refine ⟨?_,⟨⟨by lia,by lia⟩,by lia,by lia⟩,⟨by lia,by lia⟩,by lia,by lia⟩;rw [decide_eq_true (show b.x * f + ox <= b.X * f + f - 1 + ox by lia),decide_eq_true (show b.y * f + oy <= b.Y * f + f - 1 + oy by lia)];rfl
theorem Wd.put {g:Addr} (h:Wd M q) (hq:q ≠ g):Wd (DL.Z0 M g o) q:=by
 obtain ⟨f,ox,oy,bg,sp,ts,ls,h1,hh⟩:=h;exact ⟨f,ox,oy,bg,sp,ts,ls,by rw [Zs hq]; exact h1,hh⟩
theorem Wd.del {g:Addr} (h:Wd M q) (hq:q ≠ g):Wd (DL.V1 M g) q:=by
 obtain ⟨f,ox,oy,bg,sp,ts,ls,h1,hh⟩:=h;exact ⟨f,ox,oy,bg,sp,ts,ls,by rw [Jj hq]; exact h1,hh⟩
inductive Tl where
 | land (t:Int) (nm ou:Str) (bs:List B4) (wb:Int)
 | spot (t:Int) (nm:Str) (u v:Int)
 | off (w:Str) (t:Int) (nm:Str)
noncomputable def tlD:Tl->PyData
 | .land t nm ou bs wb=>.tuple [.str (Str.ofString "land"),.int t,.str nm,.str ou,.tuple (bs.map bD),.int wb]
 | .spot t nm u v=>.tuple [.str (Str.ofString "spot"),.int t,.str nm,.tuple [.int u,.int v]]
 | .off w t nm=>.tuple [.str w,.int t,.str nm]
def ZhF (t:Int) (nm:Str):Prop:=(0 <= t /\ t <= 1000000000000) /\ Jk nm
def Wx:Tl->Prop
 | .land t nm ou bs wb=>ZhF t nm /\ (ou = Str.ofString "" \/ Jk ou) /\ Tf bs /\ (0 <= wb /\ wb <= 30000000000)
 | .spot t nm u v=>ZhF t nm /\ Sh u /\ Sh v
 | .off w t nm=>ZhF t nm /\ (w = Str.ofString "drop" \/ w = Str.ofString "free")
theorem RY {x:Tl} (h:Wx x):∃ D,tlD x = .tuple D /\ Tel D:=by
 cases x with
 | land t nm ou bs wb=>exact ⟨_,rfl,_,t,nm,_,rfl,h.1.1,h.1.2,.inl ⟨rfl,ou,bs,wb,rfl,h.2⟩⟩
 | spot t nm u v=>exact ⟨_,rfl,_,t,nm,_,rfl,h.1.1,h.1.2,.inr (.inl ⟨rfl,u,v,rfl,h.2⟩)⟩
 | off w t nm=>exact ⟨_,rfl,w,t,nm,[],rfl,h.1.1,h.1.2,.inr (.inr ⟨h.2,rfl⟩)⟩
def InF (f:Int):Tl->Prop
 | .land _ _ _ bs _=>∀ b ∈ bs,((Nr b.x /\ Nr b.y) /\ (Nr b.X /\ Nr b.Y)) /\ (b.X <= b.x + 9 * f - 1 /\ b.Y <= b.y + 9 * f - 1)
 | .spot _ _ u v=>Nr u /\ Nr v
 | .off _ _ _=>True
theorem ZfR {x:Int} (h:Nr x):Sh x:=⟨by have:=h.1; lia,by have:=h.2; lia⟩
def Bi:DSp:=λ xs M Φ=>on2 xs λ x y=>onO x λ p=>onO y λ q=>Wd M q /\ q ≠ p /\ Pen M p /\ ∀ x M',Wx x->LsW M q (λ f=>InF f x)->Fr p M M'->Φ (.dat (tlD x)) M'
theorem BJ:type_of% @Bi.eq_1:=λ _ _ _=>qI
theorem TV {f ox oy:Int} {bs:List B4} {t wb:Int} {nm ou:Str} (h:Grd bs) (hf:Frm f ox oy):InF f (.land t nm ou (bs.map (UL f ox oy)) wb):=λ c hc=>by
 obtain ⟨⟨f1,f2⟩,hx,hy⟩:=hf;obtain ⟨b,hb,rfl⟩:=List.mem_map.mp hc;obtain ⟨⟨g1,g2⟩,⟨g3,g4⟩,g5,g6,g7,g8⟩:=h.2.2 b hb;have a1:=Kv (a:=b.x) (lo:=-20) (hi:=35) (by lia) (by lia) f1;have a2:=Kv (a:=b.y) (lo:=-20) (hi:=35) (by lia) (by lia) f1;have a3:=Kv (a:=b.X) (lo:=-20) (hi:=35) (by lia) (by lia) f1;have a4:=Kv (a:=b.Y) (lo:=-20) (hi:=35) (by lia) (by lia) f1;have c1:b.X * f <= (b.x + 8) * f:=Int.mul_le_mul_of_nonneg_right g7 (by lia);have c2:b.Y * f <= (b.y + 8) * f:=Int.mul_le_mul_of_nonneg_right g8 (by lia);rw [Int.add_mul] at c1 c2;unfold UL Nr;dsimp only;refine ⟨⟨⟨⟨by lia,by lia⟩,by lia,by lia⟩,⟨by lia,by lia⟩,by lia,by lia⟩,by lia,by lia⟩
theorem FG {α:Type} {P:α->Prop} {a b:α} (ha:P a) (hb:P b):∀ p ∈ [a,b],P p:=λ p hp=>by
 rcases List.mem_cons.mp hp with rfl | hp
 ·exact ha
 ·rw [List.mem_singleton.mp hp];exact hb
def ZiA (x:DV) (P:Tl->Prop):Prop:=∃ t,x = .dat (tlD t) /\ P t
def Xb (x:DV) (P:List Tl->Prop):Prop:=∃ ts:List Tl,x = .dat (.list (ts.map tlD)) /\ P ts
def Vz (ts:List Tl):Prop:=ts.length <= 20 /\ ∀ t ∈ ts,Wx t
theorem WG:∀ {l:List PyData} {n:Nat},(∀ d ∈ l,d.canLay0 = true /\ d.depth <= n)->PyData.canLayAll0 l = true /\ PyData.depthAll l <= n
 | [],_,_=>by simp [PyData.canLayAll0,PyData.depthAll]
 | d :: l,n,h=>by
  have h1:=h d (.head _);have h2:=WG (l:=l) (n:=n) λ d hd=>h d (.tail _ hd);rw [PyData.canLayAll0,PyData.depthAll,h1.1,h2.1];exact ⟨rfl,by have:=h1.2; have:=h2.2; lia⟩
theorem YK (h:∀ d ∈ l,d.canLay0 = true /\ d.depth <= n):(PyData.tuple l).canLay0 = true /\ (PyData.tuple l).depth <= n + 1:=by
 obtain ⟨a,b⟩:=WG h;rw [PyData.canLay0,PyData.depth];exact ⟨a,by lia⟩
theorem Xe {s:Str} (h:Jk s):(PyData.str s).canLay0 = true:=by
 show s.cps.all (λ c=>decide (c < 0x110000)) = true;rw [<- Array.all_toList];exact List.all_eq_true.mpr λ c hc=>decide_eq_true (by have:=h.2 c hc; lia)
theorem YM (i:Int) (n:Nat):(PyData.int i).canLay0 = true /\ (PyData.int i).depth <= n:=by simp [PyData.canLay0,PyData.depth]
theorem XA (u v:Int):(PyData.tuple [.int u,.int v]).canLay0 = true /\ (PyData.tuple [.int u,.int v]).depth <= 1:=YK (n:=0) (FG (YM u 0) (YM v 0))
theorem Zep {x:Tl} (h:Wx x):(tlD x).canLay0 = true /\ (tlD x).depth <= 5:=by
 have st:∀ {s:Str},(PyData.str s).canLay0 = true->(PyData.str s).canLay0 = true /\ (PyData.str s).depth <= 4:=λ e=>⟨e,by simp [PyData.depth]⟩;have lit:∀ s ∈ [Str.ofString "land",Str.ofString "spot",Str.ofString "drop",Str.ofString "free",Str.ofString ""],(PyData.str s).canLay0 = true:=by walk_at "k"
 cases x with
 | land t nm ou bs wb=>
  refine YK (n:=4) λ d hd=>?_;simp only [List.mem_cons,List.not_mem_nil,or_false] at hd
  rcases hd with rfl | rfl | rfl | rfl | rfl | rfl
  ·exact st (lit _ (by simp))
  ·exact YM _ _
  ·exact st (Xe h.1.2)
  ·rcases h.2.1 with rfl | n
   ·exact st (lit _ (by simp))
   ·exact st (Xe n)
  ·have:=YK (l:=bs.map bD) (n:=2) λ d hd=>by
    obtain ⟨b,_,rfl⟩:=List.mem_map.mp hd;exact YK (n:=1) (FG (XA b.x b.y) (XA b.X b.Y))
   exact ⟨this.1,by lia⟩
  ·exact YM _ _
 | spot t nm u v=>
  refine YK (n:=4) λ d hd=>?_;simp only [List.mem_cons,List.not_mem_nil,or_false] at hd
  rcases hd with rfl | rfl | rfl | rfl
  ·exact st (lit _ (by simp))
  ·exact YM _ _
  ·exact st (Xe h.1.2)
  ·exact ⟨(XA u v).1,Nat.le_trans (XA u v).2 (by decide)⟩
 | off w t nm=>
  refine YK (n:=4) λ d hd=>?_;simp only [List.mem_cons,List.not_mem_nil,or_false] at hd
  rcases hd with rfl | rfl | rfl
  ·rcases h.2 with rfl | rfl
   ·exact st (lit _ (by simp))
   ·exact st (lit _ (by simp))
  ·exact YM _ _
  ·exact st (Xe h.1.2)
theorem Zas {ts:List Tl} (h:∀ t ∈ ts,Wx t):PyData.canLayAll0 (ts.map tlD) = true /\ PyData.depthAll (ts.map tlD) <= 5:=WG λ d hd=>by
 obtain ⟨x,hx,rfl⟩:=List.mem_map.mp hd;exact Zep (h x hx)
theorem ZhB {x:Tl} (h:Wx x):Pl 20 63000 (tlD x):=by
 obtain ⟨D,e,w,t,nm,l,rfl,ht,hn,hk⟩:=RY h;obtain ⟨a,_,_,b,_⟩:=Cf hk;rw [e];exact (Pl.tup (Pls.cons b (Pls.cons (Zeo (by lia)) (Pls.cons (pNm hn) a)))).le (by decide) (by decide)
theorem WY {ts:List Tl} (h:Vz ts):Shw (.list (ts.map tlD)):=by
 have o:=Od.lst (Pls.all (k:=20) (n:=63000) (m:=20) (l:=ts.map tlD) (by rw [List.length_map]; exact h.1) λ d hd=>by
  obtain ⟨x,hx,rfl⟩:=List.mem_map.mp hd
  exact ZhB (h.2 x hx))
 exact ⟨o.s,o.m,Nat.le_trans o.dp (by decide),Nat.le_trans (JD _ o.s) (Nat.le_trans o.z (by rw [sizeLine_eq]; decide))⟩
theorem GA {ts:List Tl} (h:∀ t ∈ ts,Wx t):B1 (.list (ts.map tlD)) (.list (ts.map tlD)) = true /\ PyData.eqv (.list (ts.map tlD)) (.list (ts.map tlD)) = true:=by
 obtain ⟨a,b⟩:=Zas h;have c:(PyData.list (ts.map tlD)).canLay0 = true:=a;refine ⟨?_,PySem.SeqAt.eqv_refl _ c⟩;unfold B1;rw [c,PyData.depth];simp only [Bool.and_self,Bool.true_and,Nat.min_self];exact Nat.ble_eq_true_of_le (by lia)
def Ru:DSp:=λ xs M Φ=>on2 xs λ x y=>∃ d,(x = .dat d \/ ∃ q ds,x = .own q /\ M q = some (.lst ds) /\ d = .list ds) /\ y = .dat d /\ (B1 d d = true /\ PyData.eqv d d = true /\ Shw d) /\ Φ (.dat (.bool true)) M
theorem O9:type_of% @Ru.eq_1:=λ _ _ _=>qI
def RU:DSp:=λ xs M Φ=>on3 xs λ x y z=>onO x λ p=>onO y λ q=>onI z λ m=>m = 12 /\ Wd M q /\ q ≠ p /\ Pen M p /\ ∀ (ts:List Tl) (M':Mp) (r:Addr),ts.length <= 12->(∀ t ∈ ts,Wx t)->LsW M q (λ f=>∀ t ∈ ts,InF f t)->M' r = some (.lst (ts.map tlD))->M r = none->(∀ a,a ≠ p->M a ≠ none->M' a = M a)->Pen M' p->r ≠ p->Φ (.own r) M'
theorem NA:type_of% @RU.eq_1:=λ _ _ _=>qI
theorem S0 {ts:List Tl} {F:Mp->Prop} (hr:M r = some (.lst (ts.map tlD))) (hP:Pen M p) (hrp:r ≠ p) (hl:ts.length <= 12) (ht:∀ t ∈ ts,Wx t) (k:∀ (ts':List Tl) (M':Mp),Vz ts'->(∀ t ∈ ts',t ∈ ts)->(∀ a,a ≠ p->a ≠ r->M a ≠ none->M' a = M a)->M' r = some (.lst (ts'.map tlD))->Pen M' p->F M') :
  if (!(ts.map tlD).isEmpty) = true then Pen M p /\ ∀ (r1:Int) (M1:Mp),0 <= r1->r1 < 3->Fr p M M1->(if decide (r1 = 0) = true then JR (M1 r) λ _=>JR (M1 r) λ ds=>((0:Int) < ds.length /\ (ds.length:Int) < 1000000000000000000000000000000000000000000000000000000000000) /\ Pen M1 p /\ ∀ (r2:Int) (M2:Mp),0 <= r2->r2 < ds.length->Fr p M1 M2->JR (M2 r) λ ds=>Ky ds r2 λ d=>JR (M2 r) λ ds=>ds.length < 16777216 /\ F (Z0 M2 r (.lst (ds ++ [d]))) else F M1) else F M:=by
 have len:=List.length_map (as:=ts) tlD;cases ts with
 | nil=>exact k [] M ⟨by decide,λ t h=>(nomatch h)⟩ (λ t h=>h) (λ _ _ _ _=>rfl) hr hP
 | cons a l=>
  rw [if_pos (by rfl)];refine ⟨hP,λ r1 M1 _ _ f1=>?_⟩;have q1:=f1.own hr hrp;refine Zk (λ _=>?_) λ _=>k (a :: l) M1 ⟨by lia,ht⟩ (λ t h=>h) (λ b h1 _ h2=>f1.2 b h1 h2) q1 f1.1;rw [q1,Vc,Vc,len];have pos:0 < (a :: l).length:=by rw [List.length_cons]; lia
  refine ⟨⟨by lia,by lia⟩,f1.1,λ r2 M2 h0 h1 f2=>?_⟩;have q2:=f2.own q1 hrp;rw [q2,Vc];obtain ⟨j,rfl⟩:=Int.eq_ofNat_of_zero_le h0;have hj:j < (a :: l).length:=by lia
  refine YR (d:=tlD (a :: l)[j]) (VX (by rw [List.getElem?_map,List.getElem?_eq_getElem hj]; rfl)) ?_;rw [Vc];refine ⟨by lia,?_⟩;refine k ((a :: l) ++ [(a :: l)[j]]) _ ⟨by rw [List.length_append,List.length_singleton]; lia,λ t m=>?_⟩ (λ t m=>?_) (λ b h1 h2 h3=>by rw [Zs h2]; exact (f1.trans f2).2 b h1 h3) (by rw [Zq,List.map_append]; rfl) (f2.1.put (Ne.symm hrp))
  ·rcases List.mem_append.mp m with m | m
   ·exact ht t m
   ·rw [List.mem_singleton.mp m];exact ht _ (List.getElem_mem hj)
  rcases List.mem_append.mp m with m | m
  ·exact m
  ·rw [List.mem_singleton.mp m];exact List.getElem_mem hj
def Zji (P:Program) (w:World) (K:Fk) (mg:Str->Option Value) (base:Heap) (n:Nat) (f:Addr) (fd:FuncData) (S:DSp):Prop:=∃ ps k,k <= n /\ Qa P w K mg base CX0 k f fd ps (lift K S) /\ ∀ (s:Shared) (us:List Value),us.length = ps.length->BindsTo s fd ⟨us,[]⟩ (ps.zip us)
def Chg (P:Program) (w:World) (K:Fk) (mg:Str->Option Value) (base:Heap) (n:Nat) (f:Addr) (G:Int->Int->Int × Int) (M:Mp):Prop:=∃ fd S,Zji P w K mg base n f fd S /\ M f = some (.ext (YC f fd)) /\ ∀ (u v:Int) (Φ:DK),Φ (.dat (.tuple [.int (G u v).1,.int (G u v).2])) M->S [.dat (.tuple [.int u,.int v])] M Φ
noncomputable def bxT (G:Int->Int->Int × Int) (b:B4):PyData:=.tuple [.tuple [.int (min (G b.x b.y).1 (G b.X b.Y).1),.int (min (G b.x b.y).2 (G b.X b.Y).2)],.tuple [.int (max (G b.x b.y).1 (G b.X b.Y).1),.int (max (G b.x b.y).2 (G b.X b.Y).2)]]
def Ze1 (P:Program) (w:World) (K:Fk) (mg:Str->Option Value) (base:Heap):DSp:=λ xs M Φ=>on2 xs λ x y=>onX x λ b=>onO y λ f=>∃ G,Chg P w K mg base 4 f G M /\ Φ (.dat (bxT G b)) M
noncomputable def tlC (G:Int->Int->Int × Int):Tl->PyData
 | .land t nm ou bs wb=>.tuple [.str (Str.ofString "land"),.int t,.str nm,.str ou,.tuple (bs.map (bxT G)),.int wb]
 | .spot t nm u v=>.tuple [.str (Str.ofString "spot"),.int t,.str nm,.tuple [.int (G u v).1,.int (G u v).2]]
 | .off w t nm=>.tuple [.str w,.int t,.str nm]
def TlW:Tl->Prop
 | .land _ _ _ bs _=>bs.length <= 6
 | .spot _ _ _ _=>True
 | .off w _ _=>w = Str.ofString "drop" \/ w = Str.ofString "free"
def Sx (P:Program) (w:World) (K:Fk) (mg:Str->Option Value) (base:Heap):DSp:=λ xs M Φ=>on2 xs λ x y=>ZiA x λ t=>onO y λ f=>TlW t /\ ∃ G,Chg P w K mg base 4 f G M /\ Φ (.dat (tlC G t)) M
noncomputable def ZgN:List Stmt->Expr
 | [.Return (some (.Call _ [.ListComp (.Call _ [_,l] _ _) _ _ _] _ _)) _]=>l
 | _=>.Constant .none 0 ⟨0,0,0,0⟩
noncomputable def Fg:Expr->Arguments
 | .Lambda a _ _ _=>a
 | _=>default
noncomputable def Fd:Expr->Expr
 | .Lambda _ b _ _=>b
 | e=>e
noncomputable def Bn:Expr->Scope
 | .Lambda _ _ s _=>s
 | _=>default
noncomputable abbrev Jw:Expr:=ZgN (Qr Kg)
theorem PN:JJ ["spot", "dx", "dy"] ["spot"] ["dx", "dy"] (Bn Jw):=⟨rfl,rfl,rfl,by walk_at "k",rfl,by walk_at "k",by walk_at "k",by walk_at "k",by walk_at "k"⟩
theorem Vs (M:Mp) (cs:List Addr):XM M (JZ M cs) cs = M:=by
 funext b
 unfold XM JZ
 split <;> rfl
noncomputable def mvB (G:Int->Int->Int × Int) (b:B4):B4:=⟨min (G b.x b.y).1 (G b.X b.Y).1,min (G b.x b.y).2 (G b.X b.Y).2,max (G b.x b.y).1 (G b.X b.Y).1,max (G b.x b.y).2 (G b.X b.Y).2⟩
noncomputable def chT (G:Int->Int->Int × Int):Tl->Tl
 | .land t nm ou bs wb=>.land t nm ou (bs.map (mvB G)) wb
 | .spot t nm u v=>.spot t nm (G u v).1 (G u v).2
 | .off w t nm=>.off w t nm
theorem MA (G:Int->Int->Int × Int) (t:Tl):tlC G t = tlD (chT G t):=by
 cases t with
 | land t nm ou bs wb=>
  show PyData.tuple [_,_,_,_,.tuple (bs.map (bxT G)),_] = PyData.tuple [_,_,_,_,.tuple ((bs.map (mvB G)).map bD),_];rw [List.map_map];rfl
 | spot t nm u v=>rfl
 | off w t nm=>rfl
theorem Ml (n:Nat):(List.replicate n true).all id = true:=by
 induction n with
 | zero=>rfl
 | succ n ih=>rw [List.replicate_succ,List.all_cons,ih]; rfl
def Lo (ts:List Tl):Prop:=ts.length <= 20 /\ ∀ t ∈ ts,Qi (tlD t) = true /\ Zgz (tlD t) = true
def Zgb:DSp:=λ xs M Φ=>on1 xs λ x=>∃ q ts,x = .own q /\ M q = some (.lst (ts.map tlD)) /\ Lo ts /\ Φ (.own q) M
theorem ZbI:type_of% @Zgb.eq_1:=λ _ _ _=>qI
def Xd (ps:List Addr) (M:Mp) (p:Addr) (pos:Pos) (q:Str):Prop:=M p = some (.ext (VA p [])) \/ ∃ c',c' ∉ ps /\ M p = some (.ext (VA p [(pos,c')])) /\ M c' = some (.ext (Gx c' q))
theorem Xd.some {ps:List Addr} {q:Str} (h:Xd ps M p pos q):∃ l,M p = Option.some (.ext (VA p l)):=by
 rcases h with h | ⟨c',_,h,_⟩
 ·exact ⟨_,h⟩
 ·exact ⟨_,h⟩
theorem Xd.keep {ps:List Addr} {q:Str} (h:Xd ps M p pos q) (hp:M' p = M p) (hk:∀ a,a ∉ ps->M a ≠ none->M' a = M a):Xd ps M' p pos q:=by
 rcases h with h | ⟨c',n,h,hc⟩
 ·exact .inl (hp.trans h)
 ·exact .inr ⟨c',n,hp.trans h,(hk c' n (by rw [hc]; exact Option.some_ne_none _)).trans hc⟩
theorem Zdj (pos:Pos):PySem.codeAmong pos (KC []).toList = none:=rfl
theorem Zcf (pos:Pos) (c':Addr):PySem.codeAmong pos (KC [(pos,c')]).toList = some (.ref c'):=by
 simp [KC,PySem.codeAmong,PySem.rawInt]
theorem Xo {Δ:DSt} {ps:List Addr} {q:Str} {fd:Value->Value->Value->FuncData} {cl:List (Str × Addr)} {Ψ:DK} (ht:Xd ps M p pos q) (hps:∀ a ∈ ps,M a ≠ none)
  (h:∀ f c' M1 pm ct,M1 f = some (.ext (YC f (fd pm (.ref c') ct)))->M1 c' = some (.ext (Gx c' q))->M f = none->(∀ a,a ≠ p->M a ≠ none->M1 a = M a)->Xd ps M1 p pos q->Ψ (.own f) M1):ZgA cl p q pos fd Δ M Ψ:=by
 rw [Ze8]
 rcases ht with e | ⟨c',n,e,ec⟩
 ·refine ⟨[],e,.inl ⟨Zdj pos,λ c' f pm ct nc nf ne _=>?_⟩⟩;have hc:c' ∉ ps:=λ z=>hps _ z nc;have n1:c' ≠ p:=λ z=>by rw [z,e] at nc; cases nc
  have n2:f ≠ p:=λ z=>by rw [z,e] at nf; cases nf
  refine h f c' _ pm ct Zq (by rw [Zs ne,Zq]) nf (λ a na ha=>?_) (.inr ⟨c',hc,?_,?_⟩)
  ·rw [Zs (λ z=>ha (by rw [z]; exact nf)),Zs (λ z=>ha (by rw [z]; exact nc)),Zs na]
  ·rw [Zs (Ne.symm n2),Zs (Ne.symm n1),Zq];rfl
  ·rw [Zs ne,Zq]
 ·refine ⟨_,e,.inr ⟨c',Zcf pos c',λ f pm ct nf _=>?_⟩⟩;have n1:c' ≠ f:=λ z=>by rw [<- z,ec] at nf; cases nf
  have n2:p ≠ f:=λ z=>by rw [<- z,e] at nf; cases nf
  exact h f c' _ pm ct Zq (by rw [Zs n1,ec]) nf (λ a na ha=>by rw [Zs (λ z=>ha (by rw [z]; exact nf))]) (.inr ⟨c',n,by rw [Zs n2,e],by rw [Zs n1,ec]⟩)
theorem Xn {hb:Heap} {outer:List Env} (hu:Under hb outer s) (he:frs (env :: outer) = s.heap.objs.size :: frs outer) (hc:∀ q ∈ cl,s.heap.objs.size < q.2):∀ q ∈ cl,hb.get? q.2 = none /\ ¬ q.2 ∈ frs (env :: outer):=λ q hq=>by
 have h1:=hc q hq;have h2:=hu.1;refine ⟨?_,λ z=>?_⟩
 ·cases e:hb.get? q.2 with
  | none=>rfl
  | some o=>have:=Heap.lt_size e; lia
 ·rw [he] at z
  rcases List.mem_cons.mp z with z | z
  ·lia
  ·have:=hu.2 _ z;lia
noncomputable abbrev UX:Pos:=⟨66,40,66,81⟩
noncomputable abbrev Ha:Str:=Str.ofString "moved" ++ Str.ofString ".<locals>." ++ Str.ofString "<lambda>"
noncomputable abbrev K7:Pos:=⟨70,32,70,70⟩
noncomputable abbrev De:Str:=Str.ofString "turned" ++ Str.ofString ".<locals>." ++ Str.ofString "<lambda>"
noncomputable abbrev Rl:Pos:=⟨218,43,218,124⟩
noncomputable abbrev ZiU:Str:=Str.ofString "_law_moved_right" ++ Str.ofString ".<locals>." ++ Str.ofString "<lambda>"
noncomputable abbrev Rn:Pos:=⟨228,43,228,111⟩
noncomputable abbrev ZiO:Str:=Str.ofString "_law_turned_right" ++ Str.ofString ".<locals>." ++ Str.ofString "<lambda>"
noncomputable abbrev tbs (T:Tx K mg base):List Addr:=[T.JO,T.Jh,T.ZS,T.ZP]
def Q7 (T:Tx K mg base) (M:Mp):Prop:=(Xd (tbs T) M T.JO UX Ha /\ Xd (tbs T) M T.Jh K7 De) /\ Xd (tbs T) M T.ZS Rl ZiU /\ Xd (tbs T) M T.ZP Rn ZiO
def Kp (T:Tx K mg base) (M M':Mp):Prop:=Q7 T M' /\ ∀ a,a ∉ tbs T->M a ≠ none->M' a = M a
theorem Q7.all {T:Tx K mg base} (h:Q7 T M):∀ a ∈ tbs T,∃ l,M a = some (.ext (VA a l)):=λ a ha=>by
 obtain ⟨⟨h1,h2⟩,h3,h4⟩:=h;simp only [tbs,List.mem_cons,List.not_mem_nil,or_false] at ha
 rcases ha with rfl | rfl | rfl | rfl
 ·exact h1.some
 ·exact h2.some
 ·exact h3.some
 ·exact h4.some
theorem Q7.ne {T:Tx K mg base} (h:Q7 T M):∀ a ∈ tbs T,M a ≠ none:=λ a ha=>by
 obtain ⟨l,e⟩:=h.all a ha;rw [e];exact Option.some_ne_none _
theorem Q7.no {T:Tx K mg base} (h:Q7 T M) (ha:M a = none):a ∉ tbs T:=λ z=>h.ne a z ha
theorem Kp.refl {T:Tx K mg base} (h:Q7 T M):Kp T M M:=⟨h,λ _ _ _=>rfl⟩
theorem Kp.trans {T:Tx K mg base} {M1 M2:Mp} (h:Kp T M M1) (k:Kp T M1 M2):Kp T M M2:=⟨k.1,λ a na ha=>by
 have e:=h.2 a na ha
 rw [k.2 a na (by rw [e]; exact ha),e]⟩
theorem Q7.keep {T:Tx K mg base} (h:Q7 T M) (hk:∀ a ∈ tbs T,M' a = M a) (hc:∀ a φ,a ∉ tbs T->M a = some (.ext φ)->M' a = M a):Q7 T M':=by
 have go:∀ {p pos q},p ∈ tbs T->Xd (tbs T) M p pos q->Xd (tbs T) M' p pos q:=λ {p pos q} hp h=>by
  rcases h with h | ⟨c',n,h,e⟩
  ·exact .inl ((hk p hp).trans h)
  ·exact .inr ⟨c',n,(hk p hp).trans h,(hc c' _ n e).trans e⟩
 exact ⟨⟨go (by simp) h.1.1,go (by simp) h.1.2⟩,go (by simp) h.2.1,go (by simp) h.2.2⟩
theorem Q7.put {T:Tx K mg base} (h:Q7 T M) (hr:∀ φ,M r ≠ some (.ext φ)):Q7 T (Z0 M r o):=h.keep (λ a ha=>by
 obtain ⟨l,e⟩:=h.all a ha
 exact Zs λ z=>hr _ (by rw [<- z]; exact e)) λ a φ _ e=>Zs λ z=>hr φ (by rw [<- z]; exact e)
theorem Q7.new {T:Tx K mg base} (h:Q7 T M) (hr:M r = none):Q7 T (Z0 M r o):=h.put λ φ e=>by rw [hr] at e; cases e
theorem Q7.del {T:Tx K mg base} (h:Q7 T M) (hr:∀ φ,M r ≠ some (.ext φ)):Q7 T (V1 M r):=h.keep (λ a ha=>by
 obtain ⟨l,e⟩:=h.all a ha
 exact Jj λ z=>hr _ (by rw [<- z]; exact e)) λ a φ _ e=>Jj λ z=>hr φ (by rw [<- z]; exact e)
theorem Kp.new {T:Tx K mg base} (h:Kp T M M') (hr:M' r = none):Kp T M (Z0 M' r o):=⟨h.1.new hr,λ a na ha=>by
 have e:=h.2 a na ha
 rw [Zs λ z=>ha (by rw [<- e,z]; exact hr),e]⟩
theorem Kp.fresh {T:Tx K mg base} (h:Kp T M M') (hr:M' r = none):M r = none:=by
 by_cases e:M r = none
 ·exact e
 ·rw [h.2 r (h.1.no hr) e] at hr;exact absurd hr e
theorem Ov {T:Tx K mg base} {M1:Mp} (h:Q7 T M) (k:∀ a,a ≠ T.JO->M a ≠ none->M1 a = M a) (t:Xd (tbs T) M1 T.JO UX Ha):Kp T M M1:=by
 have d:=T.kd;simp only [List.nodup_cons,List.mem_cons,List.not_mem_nil,or_false,not_or] at d;have out:∀ a,a ∉ tbs T->M a ≠ none->M1 a = M a:=λ a na ha=>k a (λ z=>na (by rw [z]; simp)) ha;have go:∀ {p pos q},p ≠ T.JO->Xd (tbs T) M p pos q->Xd (tbs T) M1 p pos q:=λ {p pos q} hp h=>h.keep (k p hp (by obtain ⟨l,e⟩:=h.some; rw [e]; exact Option.some_ne_none _)) out;exact ⟨⟨⟨t,go (Ne.symm d.1.1) h.1.2⟩,go (Ne.symm d.1.2.1) h.2.1,go (Ne.symm d.1.2.2) h.2.2⟩,out⟩
def Zfb (T:Tx K mg base):DSp:=λ xs M Φ=>on3 xs λ x y z=>Xb x λ ts=>onI y λ dx=>onI z λ dy=>(ts.length <= 20 /\ (∀ t ∈ ts,TlW t) /\ Lo (ts.map (chT λ u v=>(u + dx,v + dy)))) /\ Q7 T M /\
 ∀ M' r,M r = none->M' r = some (.lst ((ts.map (chT λ u v=>(u + dx,v + dy))).map tlD))->Kp T M M'->Φ (.own r) M'
theorem TU:type_of% @Zfb.eq_1:=λ _ _ _ _=>qI
noncomputable def tnX (n u:Int):Int:=if n = 1 \/ n = 3 \/ n = 5 \/ n = 7 then -u else u
noncomputable def tnY (n v:Int):Int:=if n = 2 \/ n = 3 \/ n = 6 \/ n = 7 then -v else v
noncomputable def tnG (n u v:Int):Int × Int:=if 3 < n then (tnY n v,tnX n u) else (tnX n u,tnY n v)
def CD:DSp:=λ xs M Φ=>on2 xs λ x y=>onP x λ u v=>onI y λ n=>(0 <= n /\ n <= 7) /\ Φ (.dat (.tuple [.int (tnG n u v).1,.int (tnG n u v).2])) M
theorem Lp:type_of% @CD.eq_1:=λ _ _ _=>qI
def Zci (T:Tx K mg base):DSp:=λ xs M Φ=>on2 xs λ x y=>Xb x λ ts=>onI y λ n=>(ts.length <= 20 /\ (∀ t ∈ ts,TlW t) /\ 0 <= n /\ n <= 7) /\ Q7 T M /\
 ∀ M' r,M r = none->M' r = some (.lst ((ts.map (chT (tnG n))).map tlD))->Kp T M M'->Φ (.own r) M'
theorem T1:type_of% @Zci.eq_1:=λ _ _ _ _=>qI
noncomputable def Xp (p:Int × Int):PyData:=.tuple [.int p.1,.int p.2]
noncomputable def N4 (x y Y:Int):List (Int × Int):=(List.range (Y + 1 - y).toNat).map λ (j:Nat)=>(x,y + (j:Int))
noncomputable def EZ (b:B4):List (Int × Int):=(List.range (b.X + 1 - b.x).toNat).flatMap λ (i:Nat)=>N4 (b.x + (i:Int)) b.y b.Y
def Zd2:DSp:=λ xs M Φ=>on1 xs λ x=>onX x λ b=>(b.X <= b.x + 17 /\ b.Y <= b.y + 17) /\ ((Sh b.x /\ Sh b.y) /\ (Sh b.X /\ Sh b.Y)) /\ Φ (.dat (.list ((EZ b).map Xp))) M
theorem Td:type_of% @Zd2.eq_1:=λ _ _ _=>qI
def SmB (b:B4):Prop:=(b.x <= b.X /\ b.X <= b.x + 17) /\ (b.y <= b.Y /\ b.Y <= b.y + 17)
def Sml:Tl->Prop
 | .land _ _ _ bs _=>∀ b ∈ bs,SmB b
 | .spot _ _ _ _=>True
 | .off _ _ _=>True
def Zcn:DSp:=λ xs M Φ=>on3 xs λ x y z=>Xb x λ ts=>onI z λ n=>y = .dat (.list ((ts.map (chT (tnG n))).map tlD)) /\ (Vz ts /\ (∀ t ∈ ts,Sml t) /\ 0 <= n /\ n <= 7) /\ Φ (.dat (.bool true)) M
theorem S5:type_of% @Zcn.eq_1:=λ _ _ _=>qI
def ZiV (T:Tx K mg base):DSp:=λ xs M Φ=>on3 xs λ x y z=>Xb x λ ts=>onI y λ dx=>onI z λ dy=>(Vz ts /\ Vz (ts.map (chT λ u v=>(u + dx,v + dy)))) /\ Q7 T M /\ ∀ M',Kp T M M'->Φ (.dat (.bool true)) M'
theorem Zb8:type_of% @ZiV.eq_1:=λ _ _ _ _=>qI
def Ziv (T:Tx K mg base):DSp:=λ xs M Φ=>on3 xs λ x y z=>Xb x λ ts=>onI y λ n=>onB z λ sm=>(Vz ts /\ (0 <= n /\ n <= 7) /\ (sm = true->∀ t ∈ ts,Sml t)) /\ Q7 T M /\ ∀ M',Kp T M M'->Φ (.dat (.bool true)) M'
theorem Zdm:type_of% @Ziv.eq_1:=λ _ _ _ _=>qI
theorem ZgM {n:Int} (h0:0 <= n) (h1:n <= 7):(Builtin.bitAnd n 1 != 0) = decide (n = 1 \/ n = 3 \/ n = 5 \/ n = 7):=by
 have:n = 0 \/ n = 1 \/ n = 2 \/ n = 3 \/ n = 4 \/ n = 5 \/ n = 6 \/ n = 7:=by lia
 rcases this with rfl | rfl | rfl | rfl | rfl | rfl | rfl | rfl <;> decide +kernel
theorem ZcL {n:Int} (h0:0 <= n) (h1:n <= 7):(Builtin.bitAnd n 2 != 0) = decide (n = 2 \/ n = 3 \/ n = 6 \/ n = 7):=by
 have:n = 0 \/ n = 1 \/ n = 2 \/ n = 3 \/ n = 4 \/ n = 5 \/ n = 6 \/ n = 7:=by lia
 rcases this with rfl | rfl | rfl | rfl | rfl | rfl | rfl | rfl <;> decide +kernel
theorem Zcj {n:Int} (h0:0 <= n) (h1:n <= 7):(Builtin.bitAnd n 4 != 0) = decide (3 < n):=by
 have:n = 0 \/ n = 1 \/ n = 2 \/ n = 3 \/ n = 4 \/ n = 5 \/ n = 6 \/ n = 7:=by lia
 rcases this with rfl | rfl | rfl | rfl | rfl | rfl | rfl | rfl <;> decide +kernel
local macro_rules | `(tactic| walk_at "rk")=>`(tactic| try simp (config:={ maxSteps:=10000000 }) only [↓Pq,↓Py,↓P8,↓ON,↓OE,↓PV,↓Nj,↓Rh,↓MK,↓ZbM,↓ZbB,↓Tn,↓Za8,↓ZaH,↓Rj,↓OQ,↓OT,↓OI,↓Ng,↓Rc,↓NO,↓OW,↓OA,↓P9,↓OS,↓Zb7,↓Zjq,↓Zg4,↓Zhb,↓ZjC,↓Pn,↓Zck,↓ZhI,↓Zdu,↓ZaJ,↓ZfH,↓Za2,↓Zg3,↓Zfw,↓Zhm,↓ZcR,↓Ze6,↓Zbc,↓ZcN,↓Zfe,↓ZbQ,↓ZdF,↓NM,↓Nu,↓N6,↓Nz,↓Pj,↓PY,↓ZeW,↓ZgG,↓Zar,↓Pz,↓P2,↓ZaM,↓Zf1,↓Oz,↓Ex,↓Ox,↓ZfT,↓Zdr,↓F8,↓Zaw,↓ZdV,↓Zbe,↓ZcY,↓Te,↓ZcP,↓ZdP,↓Yd,↓EY,↓Cp,↓Of,↓OZ,↓Zbt,↓Za4,↓ZeR,↓Mt,↓Zbk,↓Th,↓N9,↓PL,↓Zax,↓Zf3,↓Zft,↓Zbw,↓ZbD,↓Oo,↓OL,↓ZbW,↓ZdO,↓LB,↓Zdd,↓Lj,↓ZaY,↓Zc1,↓Ln,↓OU,↓NG,↓Nd,↓M0,FO,H9,OM,NJ,PJ,Fe,J2,Lx,ZhQ,Px,Zer,RH,SR,RP,ZcW,isNone_none,Bz,EK,Eo,Cn,GC,CB,
 Option.bind_some,Option.bind_none,Option.join_some,Option.join_none,Option.getD_some,Option.map_some,Option.map_none,List.getElem?_cons_zero,List.getElem?_cons_succ,List.set_cons_zero,List.set_cons_succ,List.map_cons,List.map_nil,List.length_cons,List.length_nil,List.replicate,List.cons_append,List.nil_append,List.any_cons,List.any_nil,
 Zq,Gq,↓reduceIte,Bool.not_true,Bool.not_false,Bool.or_false,Bool.or_true,Bool.true_or,Bool.false_or,Bool.and_true,Bool.and_false,Bool.true_and,Bool.false_and,Bool.bne_true,Bool.bne_false,Bool.false_eq_true,eq_self,true_and,and_true,ZfC,Zeq,Ze2,exists_eq_left',exists_eq_left,Option.some.injEq,Nat.reduceAdd,Nat.reduceSub,Nat.zero_add,Nat.reduceLT,Nat.reduceLeDiff,Int.reduceToNat,Int.reducePow,Int.reduceSub,Int.reduceMul,Int.reduceAdd,Int.reduceNeg,
 Int.reduceLT,Int.reduceLE,Int.reduceEq,Int.zero_add,Int.cast_ofNat_Int,decide_true,decide_false,sizeLine_eq,Za9,O1,Zc8,ZcV,Zhu,Zg8,Zhs,ZgF,ZgX,Zib,CA,BF,EH,EJ,Ck,GX,Cz,G3,U5,BD,BX,Gs,Ua,UR,Uu,Uw,UZ,Ge,WV,KN,W7,UM,Gb,BO,BU,UW,Uj,Gz,Cc,BM,EV,E3,Cu,GQ,Ct,G7,GB,Cv,Ce,U7,WW,Gh,↓D6,↓PM,↓PD,↓OK,ZaF,Za6,↓Zij,↓Zc9,↓ZfY,↓Zcl,↓ZfQ,↓Mm,↓Zh7,↓Tc,↓ZhZ,↓Zdt,↓Pg,↓Zaz,↓Zbh,↓BA,↓LV,↓Zd4,↓Zbj,↓Rb,↓Za7,↓Zfi,↓Ti,↓F5,↓Zbz,↓ZaI,↓Nc,↓ZaN,↓S8,↓MT,↓PR,ZaB,↓Og,↓Lb,↓Ho,↓W4,↓B5,↓MC,↓PK,↓OJ,↓BJ,↓FI,↓OC,↓Zbp,↓Tq,↓Hj,↓Pc,↓Nl,↓Zaf,↓O9,↓NA,↓O5,↓BK,↓ZbI,↓ZgW,↓Zbn,ZcX,ZcB,↓ZaC,Zfu,Zf6,↓UG,↓Uo,↓ZbX,↓ZfN,↓Zbq,↓Hc,↓E5,↓Lp,↓TU,↓T1,↓Td,↓S5,↓Zb8,↓Zdm])
theorem Jf (T:Tx K mg base):Qa P w K mg base CX0 1 T.K1 T.Ws ["thing"] (lift K spW):=by
 refine okD T.Jb.F Cr (λ xs M Φ h=>by obtain ⟨_,rfl,_⟩:=Zu h; rfl) λ cdv A outer s H E hr=>⟨_,(Zg (Zn (Qt (Zi (Kh (Ta _)) rfl T.Qb Z5 (Za (Zb 0) (Za (B7 rfl T.ZdY Sk) Zd))) (Jg (ZdI (Zi (Kh (Rf _)) rfl T.Qb Z5 (Za (Zb 0) (Za (B7 rfl T.ZfL Zbs) Zd)))))))),λ xs M Φ h=>?_⟩;replace h:=Zu h;obtain ⟨x1,rfl,h⟩:=h;replace h:=ZR h;obtain ⟨d,rfl,h⟩:=h;walk_at "rk";cases d <;> simpa [ZL,tyN,ZN] using h
theorem VY (T:Tx K mg base):Qa P w K mg base CX0 2 T.KR T.KW ["thing"] (lift K ZiL):=by
 refine okD T.Vm.F BG (λ xs M Φ h=>by obtain ⟨_,rfl,_⟩:=Zu h; rfl) λ cdv A outer s H E hr=>⟨_,(Zg (Zn (Qt (cO T.Jb (Jf T) hr (Za (Zb 0) Zd)) (Jg (Us YO YO (Dc (Q3 rfl T.RE)) (Zb 0) (Q3 rfl T.RE)))))),λ xs M Φ h=>?_⟩;replace h:=Zu h;obtain ⟨x1,rfl,h⟩:=h;replace h:=ZR h;obtain ⟨d,rfl,h⟩:=h;walk_at "rk";cases d with
 | int i=>
  walk_at "rk";simp only [ZN];walk_at "rk";refine Zk (λ h1=>?_) λ h1=>?_
  ·simpa [ZC,h1] using h
  ·simpa [ZC,h1] using h
 | _=>simpa [ZN,ZC] using h
theorem KP (T:Tx K mg base):Qa P w K mg base CX0 2 T.V5 T.V9 ["thing"] (lift K Zjb):=by
 refine okD T.Yh.F KG (λ xs M Φ h=>by obtain ⟨_,rfl,_⟩:=Zu h; rfl) λ cdv A outer s H E hr=>⟨_,(Zg (Zn (Qt (Zi (Kh (kit_tuple _)) rfl T.Qb Z5 (Za (Zb 0) (Za (B7 rfl T.JC QJ) Zd))) (Qt (QE (KJ hr) (Zi QS rfl T.JL Qv (Za (Zb 0) Zd)) Zc) (Qt (cO T.Jb (Jf T) hr (Za (Zh (Zb 0) Zc) Zd)) (Jg (cO T.Jb (Jf T) hr (Za (Zh (Zb 0) Zc) Zd)))))))),λ xs M Φ h=>?_⟩;replace h:=Zu h;obtain ⟨x1,rfl,h⟩:=h;replace h:=ZR h;obtain ⟨d,rfl,h⟩:=h;cases d with
 | tuple ds=>
  walk_at "rk";rw [Zi7];refine Zk (λ h1=>?_) λ h1=>?_
  ·obtain ⟨a,b,rfl⟩:=YY h1;walk_at "rk";cases q:ZN a with
   | true=>
    walk_at "rk"
    simpa [VH,q] using h
   | false=>
    walk_at "rk"
    simpa [VH,q] using h
  ·rw [(G4 h1).1] at h;exact h
 | _=>
  walk_at "rk";exact h
theorem YH (T:Tx K mg base):Qa P w K mg base CX0 3 T.UI T.UE ["thing"] (lift K Zik):=by
 refine okD T.Yo.F ES (λ xs M Φ h=>by obtain ⟨_,rfl,_⟩:=Zu h; rfl) λ cdv A outer s H E hr=>⟨_,(Zg (Zn (Qt (cO T.Yh (KP T) hr (Za (Zb 0) Zd)) (Qt (cO T.Vm (VY T) hr (Za (Zh (Zb 0) Zc) Zd)) (Jg (cO T.Vm (VY T) hr (Za (Zh (Zb 0) Zc) Zd))))))),λ xs M Φ h=>?_⟩;replace h:=Zu h;obtain ⟨x1,rfl,h⟩:=h;replace h:=ZR h;obtain ⟨d,rfl,h⟩:=h;walk_at "rk";cases q:VH d with
 | false=>
  walk_at "rk";rw [Eb q] at h;exact h
 | true=>
  obtain ⟨x,y,rfl⟩:=Sa q;walk_at "rk";replace h:Φ (.dat (.bool (ZC (.int x) && ZC (.int y)))) M:=h;cases q1:ZC (.int x) with
  | false=>
   rw [q1] at h;walk_at "rk";exact h
  | true=>
   rw [q1] at h;walk_at "rk";exact h
theorem Ga (T:Tx K mg base):Qa P w K mg base CX0 1 T.XR T.Ka ["box"] (lift K ZdZ):=by
 refine okD T.XS.F U0 (λ xs M Φ h=>by obtain ⟨_,rfl,_⟩:=Zu h; rfl) λ cdv A outer s H E hr=>⟨_,(Zg (Zn (Qt (QE YO (Zh (Zh (Zb 0) Zc) Zc) (Zh (Zh (Zb 0) Zc) Zc)) (Jg (QE YO (Zh (Zh (Zb 0) Zc) Zc) (Zh (Zh (Zb 0) Zc) Zc)))))),λ xs M Φ h=>?_⟩;replace h:=Zu h;obtain ⟨x1,rfl,h⟩:=h;replace h:=Kd h;obtain ⟨b,rfl,h⟩:=h;walk_at "rk";refine Zk (λ h1=>?_) (λ h1=>?_)
 ·unfold okB at h
  simpa [h1] using h
 ·unfold okB at h
  simpa [h1] using h
theorem Lc (T:Tx K mg base):Qa P w K mg base CX0 4 T.CU T.Dd ["thing"] (lift K ZiI):=by
 refine okD T.Df.F FK (λ xs M Φ h=>by obtain ⟨_,rfl,_⟩:=Zu h; rfl) λ cdv A outer s H E hr=>⟨_,(Ze (Qm (DW.dt (GV (QD (QY (Zi (Kh (kit_tuple _)) rfl T.Qb Z5 (Za (Zb 0) (Za (B7 rfl T.JC QJ) Zd))))) (Y2 (Z7 (Zhv hr) (Zi QS rfl T.JL Qv (Za (Zb 0) Zd)) Zc)))) (Zg (Zn Y9)) Zw)
 (Zg (Zn (Qt (cO T.Yo (YH T) hr (Za (Zh (Zb 0) Zc) Zd)) (Qt (cO T.Yo (YH T) hr (Za (Zh (Zb 0) Zc) Zd)) (Jg (cO T.XS (Ga T) hr (Za (Zb 0) Zd)))))))),λ xs M Φ h=>?_⟩
 replace h:=Zu h;obtain ⟨x1,rfl,h⟩:=h;replace h:=ZR h;obtain ⟨d,rfl,h⟩:=h;cases d with
 | tuple ds=>
  walk_at "h";rw [Zi7]
  by_cases h1:ds.length = 2
  ·obtain ⟨a,b,rfl⟩:=YY h1;replace h:Φ (.dat (.bool (QB a && (QB b && okB (toB (.tuple [a,b])))))) M:=h;subst_vars;walk_at "rk";cases q:QB a with
   | false=>
    rw [q] at h;walk_at "rk";exact h
   | true=>
    rw [q] at h;walk_at "rk";cases q2:QB b with
    | false=>
     rw [q2] at h;walk_at "rk";exact h
    | true=>
     rw [q2] at h;obtain ⟨x,y,rfl,_⟩:=WI q;obtain ⟨x',y',rfl,_⟩:=WI q2;walk_at "rk";exact h
  ·rw [decide_eq_false h1];rw [(G4 h1).2.2] at h;walk_at "rk";exact h
 | _=>
  walk_at "hd";refine ZZ λ A B hA hB=>?_;walk_at "rk";subst hA;exact h
theorem Rq (T:Tx K mg base):Qa P w K mg base CX0 1 T.ZcS T.ZcO ["one", "other", "way"] (lift K Zgg):=by
 refine okD T.ZbC.F ZfG (λ xs M Φ h=>by obtain ⟨_,_,_,rfl,_⟩:=QT h; rfl) λ cdv A outer s H E hr=>⟨_,(Zg (Zn (Zi (Zak rfl) rfl T.Nt D7 (Za Zc (Za (Zj Qp (Zh (Zh (Zb 1) Zc) (Zb 2)) (Zh (Zh (Zb 0) Zc) (Zb 2))) (Za (Zj Qp (Zh (Zh (Zb 0) Zc) (Zb 2)) (Zh (Zh (Zb 1) Zc) (Zb 2))) Zd)))))),λ xs M Φ h=>?_⟩;replace h:=QT h;obtain ⟨x1,x2,x3,rfl,h⟩:=h;replace h:=Kd h;obtain ⟨a,rfl,h⟩:=h;replace h:=Kd h;obtain ⟨b,rfl,h⟩:=h;replace h:=Zt h;obtain ⟨i,rfl,hi,h⟩:=h
 rcases hi with rfl | rfl
 ·walk_at "rk";exact h
 ·walk_at "rk";exact h
theorem Y6 (T:Tx K mg base):Qa P w K mg base CX0 2 T.J7 T.Vj ["one", "other"] (lift K Gd):=by
 refine okD T.J6.F Y7 (λ xs M Φ h=>by obtain ⟨_,_,rfl,_⟩:=ZK h; rfl) λ cdv A outer s H E hr=>⟨_,(Zg (Zn (Zi (BI rfl) rfl T.Nt D7 (Za (cO T.ZbC (Rq T) hr (Za (Zb 0) (Za (Zb 1) (Za Zc Zd)))) (Za (cO T.ZbC (Rq T) hr (Za (Zb 0) (Za (Zb 1) (Za Zc Zd)))) Zd))))),λ xs M Φ h=>?_⟩;replace h:=ZK h;obtain ⟨x1,x2,rfl,h⟩:=h;replace h:=Kd h;obtain ⟨a,rfl,h⟩:=h;replace h:=Kd h;obtain ⟨b,rfl,h⟩:=h;walk_at "rk";exact ⟨.inl trivial,.inr trivial,h⟩
theorem BL (T:Tx K mg base):Qa P w K mg base CX0 3 T.Wu T.Wn ["boxes"] (lift K Fi):=by
 refine okD T.K2.F CK (λ xs M Φ h=>by obtain ⟨_,rfl,_⟩:=Zu h; rfl) λ cdv A outer s H E hr=>⟨_,(Zg (Zn (Zi (Dw rfl) rfl T.NP Dk (Za (Qs false (ZE (sc:=Zf Vu) (XN:=["boxes"]) (N:=["k", "boxes"]) (ix:=[none,some 0]) rfl rfl (by walk_at "k")) (U2 rfl T.Qh (Za Zc (Za (Zi QS rfl T.JL Qv (Za (Zb 0) Zd)) Zd))) (λ C ex s H=>(Zp 0 (show List.Nodup (["k", "boxes"]:List Str) by walk_at "k"))) (λ C ex s H=>Z8) (λ C ex s H=>(QE YO (cO T.J6 (Y6 T) hr (Za (Zh (Zb 1) (Zj Qp (Zb 0) Zc)) (Za (Zh (Zb 1) (Zb 0)) Zd))) Zc)) rfl) Zd)))),λ xs M Φ h=>?_⟩;replace h:=Zu h;obtain ⟨x1,rfl,h⟩:=h;replace h:=Zbr h;obtain ⟨bs,rfl,hl,h⟩:=h;walk_at "rk";rw [List.length_map];refine ⟨⟨⟨by decide,by decide⟩,⟨by lia,by lia⟩⟩,by rw [ZI]; lia,λ i acc M'=>acc = ((List.range i).map (stB bs)).map PyData.bool /\ M' = M,⟨rfl,rfl⟩,?_,?_⟩
 ·rintro i d acc M' hd ⟨rfl,rfl⟩;have hi:i < ((bs.length:Int) - 1).toNat:=by have:=(List.getElem?_eq_some_iff.mp hd).1; rw [ZI] at this; exact this
  rw [Vq hi] at hd;cases hd;walk_at "rk";have hi':i + 1 < bs.length:=by lia
  have e1:L2.atI (bs.map bD) (1 + (i:Int) - 1) = some (bD bs[i]):=by
   rw [show 1 + (i:Int) - 1 = (i:Int) by lia];exact VX (by rw [List.getElem?_map,List.getElem?_eq_getElem (by lia)]; rfl)
  have e2:L2.atI (bs.map bD) (1 + (i:Int)) = some (bD bs[i + 1]):=by
   rw [show 1 + (i:Int) = ((i + 1:Nat):Int) by lia];exact VX (by rw [List.getElem?_map,List.getElem?_eq_getElem (by lia)]; rfl)
  refine YR e1 (YR e2 ?_);walk_at "rk";rw [List.range_succ,List.map_append,List.map_append];unfold stB;simp [List.getElem?_eq_getElem,hi',show i < bs.length by lia]
 ·rintro acc M' ⟨rfl,rfl⟩;refine ⟨_,rfl,?_⟩;rw [ZI,List.all_map,show ((bs.length:Int) - 1).toNat = bs.length - 1 by lia];rw [Mo] at h;exact h
theorem CF (T:Tx K mg base):Qa P w K mg base CX0 5 T.KY T.Wg ["thing"] (lift K Ma):=by
 refine okD T.WD.F CM (λ xs M Φ h=>by obtain ⟨_,rfl,_⟩:=Zu h; rfl) λ cdv A outer s H E hr=>⟨_,(Ze (Qm (DW.dt (GV (QD (QY (Zi (Kh (kit_tuple _)) rfl T.Qb Z5 (Za (Zb 0) (Za (B7 rfl T.JC QJ) Zd))))) (Y2 (QD (WR YO YO Zc (Zi QS rfl T.JL Qv (Za (Zb 0) Zd)) (Q3 rfl T.U6)))))) (Zg (Zn Y9)) Zw)
 (Zg (Zn (Qt (Zi (Dw rfl) rfl T.NP Dk (Za (Qs false (ZE (sc:=Zf Vo) (XN:=["thing"]) (N:=["box"]) (ix:=[none]) rfl rfl (by walk_at "k")) (SE (Zb 0)) (λ C ex s H=>(Zp 0 (show List.Nodup (["box"]:List Str) by walk_at "k"))) (λ C ex s H=>Z8) (λ C ex s H=>(cO T.Df (Lc T) hr (Za (Zb 0) Zd))) rfl) Zd)) (Jg (cO T.K2 (BL T) hr (Za (Zb 0) Zd))))))),λ xs M Φ h=>?_⟩
 replace h:=Zu h;obtain ⟨x1,rfl,h⟩:=h;replace h:=ZR h;obtain ⟨d,rfl,h⟩:=h;cases d with
 | tuple ds=>
  walk_at "h";refine Zk (λ h1=>Gm (λ h2=>?_) λ h2=>?_) λ h1=>?_
  ·rw [GR (.inr h2)] at h;exact h
  ·have e:Q9 (.tuple ds) = (ds.all JY && chB (ds.map toB)):=by
    show ((decide (1 <= ds.length) && decide (ds.length <= 6)) && _) = _;rw [decide_eq_true (show 1 <= ds.length by lia),decide_eq_true (show ds.length <= 6 by lia)];rfl
   rw [e] at h;subst_vars;walk_at "rk";refine ⟨by lia,λ i acc M'=>acc = ((ds.take i).map JY).map PyData.bool /\ M' = M,⟨rfl,rfl⟩,?_,?_⟩
   ·rintro i d acc M' hd ⟨rfl,rfl⟩;walk_at "rk";rw [<- take_snoc _ hd,List.map_append];rfl
   ·rintro acc M' ⟨rfl,rfl⟩;refine ⟨_,rfl,?_⟩;rw [List.take_length,List.all_map];show if ds.all JY = true then _ else _
    cases q:ds.all JY with
    | false=>
     rw [q] at h;walk_at "rk";exact h
    | true=>
     rw [q] at h;obtain ⟨bs,rfl⟩:=C7 q;rw [XJ] at h;walk_at "rk";rw [List.length_map] at h2;exact ⟨by lia,h⟩
  ·rw [GR (.inl h1)] at h;exact h
 | _=>
  walk_at "hd";refine ZZ λ A B hA hB=>?_;walk_at "rk";subst hA;exact h
theorem EO (T:Tx K mg base):Qa P w K mg base CX0 2 T.GY T.Gn ["thing"] (lift K spT):=by
 refine okD T.Gu.F Er (λ xs M Φ h=>by obtain ⟨_,rfl,_⟩:=Zu h; rfl) λ cdv A outer s H E hr=>⟨_,(Zg (Zn (Qt (cO T.Jb (Jf T) hr (Za (Zb 0) Zd)) (Jg (Us YO YO Zc (Zb 0) (Q3 rfl T.By)))))),λ xs M Φ h=>?_⟩;replace h:=Zu h;obtain ⟨x1,rfl,h⟩:=h;replace h:=ZR h;obtain ⟨d,rfl,h⟩:=h;walk_at "rk";cases d with
 | int i=>
  walk_at "rk";simp only [ZN];walk_at "rk";refine Zk (λ h1=>?_) λ h1=>?_
  ·simpa [Jy,h1] using h
  ·simpa [Jy,h1] using h
 | _=>simpa [ZN,Jy] using h
theorem Wa (T:Tx K mg base):Qa P w K mg base CX0 1 T.Bd T.G5 ["thing"] (lift K spN):=by
 refine okD T.X6.F El (λ xs M Φ h=>by obtain ⟨_,rfl,_⟩:=Zu h; rfl) λ cdv A outer s H E hr=>⟨_,(Ze (Qm (DW.dt (GV (QD (QY (Zi (Kh (Zav _)) rfl T.Qb Z5 (Za (Zb 0) (Za (B7 rfl T.Zdy Ry) Zd))))) (Y2 (QD (WR YO YO Zc (Zi Hn rfl T.JL Qv (Za (Zb 0) Zd)) (Q3 rfl T.KL)))))) (Zg (Zn Y9)) Zw)
 (Zg (Zn (Zi (Dw rfl) rfl T.NP Dk (Za (Qs false (ZE (sc:=Zf Yr) (XN:=["thing"]) (N:=["sign"]) (ix:=[none]) rfl rfl (by walk_at "k")) (Zct (Zb 0)) (λ C ex s H=>(Zp 0 (show List.Nodup (["sign"]:List Str) by walk_at "k"))) (λ C ex s H=>Z8) (λ C ex s H=>(Us RS RS Zv (Zb 0) Zv)) rfl) Zd))))),λ xs M Φ h=>?_⟩
 replace h:=Zu h;obtain ⟨x1,rfl,h⟩:=h;replace h:=ZR h;obtain ⟨d,rfl,hk,h⟩:=h;cases d with
 | str s=>
  have hl:s.length <= 2000000:=by simpa [KA] using hk
  walk_at "h";refine ⟨by lia,Zk (λ h1=>Gm (λ h2=>?_) λ h2=>?_) λ h1=>?_⟩
  ·rw [UJ (.inr h2)] at h;exact h
  ·have e:Qd (.str s) = s.cps.toList.all NZ:=by
    show ((decide (1 <= s.length) && decide (s.length <= 8)) && s.cps.toList.all NZ) = _;rw [decide_eq_true (show 1 <= s.length by lia),decide_eq_true (show s.length <= 8 by lia)];rfl
   rw [e] at h;subst_vars;walk_at "rk";refine ⟨by rw [List.length_map,str_len]; lia,λ i acc M'=>acc = ((s.cps.toList.take i).map NZ).map PyData.bool /\ M' = M,⟨rfl,rfl⟩,?_,?_⟩
   ·rintro i d acc M' hd ⟨rfl,rfl⟩;obtain ⟨c,ec,rfl⟩:=Jx hd;unfold N2;walk_at "rk";rw [ZgK,ZhT];refine Zk (λ h3=>?_) λ h3=>?_
    ·rw [<- take_snoc _ ec,List.map_append];simp [NZ,h3]
    ·rw [<- take_snoc _ ec,List.map_append];simp [NZ,h3]
   ·rintro acc M' ⟨rfl,rfl⟩;refine ⟨_,rfl,?_⟩;rw [List.length_map,List.take_length,List.all_map];exact h
  ·rw [UJ (.inl h1)] at h;exact h
 | _=>
  walk_at "hd";refine ZZ λ A B hA hB=>?_;walk_at "rk";subst hA;exact h
theorem VZ (T:Tx K mg base):Qa P w K mg base CX0 2 T.Js T.Jr ["thing"] (lift K Zi8):=by
 refine okD T.Ju.F VW (λ xs M Φ h=>by obtain ⟨_,rfl,_⟩:=Zu h; rfl) λ cdv A outer s H E hr=>⟨_,(Zg (Zn (ZgJ (QE (Vd hr) (Zb 0) Zv) (Jg (cO T.X6 (Wa T) hr (Za (Zb 0) Zd)))))),λ xs M Φ h=>?_⟩;replace h:=Zu h;obtain ⟨x1,rfl,h⟩:=h;replace h:=ZR h;obtain ⟨d,rfl,hk,h⟩:=h;walk_at "rk";cases q:isS d (Str.ofString "") with
 | true=>
  rw [q] at h;walk_at "rk";exact h
 | false=>
  rw [q] at h;walk_at "rk";exact ⟨hk,h⟩
theorem Bb (T:Tx K mg base):Qa P w K mg base CX0 3 T.XC T.Xr ["thing"] (lift K Zey):=by
 refine okD T.XG.F UK (λ xs M Φ h=>by obtain ⟨_,rfl,_⟩:=Zu h; rfl) λ cdv A outer s H E hr=>⟨_,(Zg (Zn (Qt (cO T.Vm (VY T) hr (Za (Zb 0) Zd)) (Jg (QE Zfd (Zb 0) Zc))))),λ xs M Φ h=>?_⟩;replace h:=Zu h;obtain ⟨x1,rfl,h⟩:=h;replace h:=ZR h;obtain ⟨d,rfl,h⟩:=h;walk_at "rk";cases d with
 | int i=>
  replace h:Φ (.dat (.bool (decide (0 <= i) && decide (i <= 999999999999)))) M:=h;walk_at "rk";show if (decide (-999999999999 <= i) && decide (i <= 999999999999)) = true then _ else _
  by_cases h1:i <= 999999999999
  ·by_cases h2:0 <= i
   ·rw [decide_eq_true h1,decide_eq_true h2] at h;rw [decide_eq_true h1,decide_eq_true (show -999999999999 <= i by lia)];walk_at "rk";rw [decide_eq_true h2];exact h
   ·rw [decide_eq_false h2] at h;rw [decide_eq_true h1,Bool.and_true];refine Zk (λ h3=>?_) λ h3=>?_
    ·walk_at "rk";rw [decide_eq_false h2];exact h
    ·exact h
  ·rw [decide_eq_false h1,Bool.and_false] at h;rw [decide_eq_false h1,Bool.and_false];exact h
 | _=>
  walk_at "rk";exact h
theorem WJ (T:Tx K mg base):Qa P w K mg base CX0 6 T.Y3 T.YX ["thing"] (lift K SG):=by
 refine okD T.Y0.F Ug (λ xs M Φ h=>by obtain ⟨_,rfl,_⟩:=Zu h; rfl) λ cdv A outer s H E hr=>⟨_,(Ze (Qm (DW.dt (GV (QD (QY (Zi (Kh (kit_tuple _)) rfl T.Qb Z5 (Za (Zb 0) (Za (B7 rfl T.JC QJ) Zd))))) (Y2 (Z7 LX (Zi QS rfl T.JL Qv (Za (Zb 0) Zd)) Zc)))) (Zg (Zn Y9)) Zw)
 (Ze (Qm (DW.dt (GV (QD (QY (cO T.Gu (EO T) hr (Za (Zh (Zb 0) Zc) Zd)))) (Y2 (QD (QY (cO T.X6 (Wa T) hr (Za (Zh (Zb 0) Zc) Zd))))))) (Zg (Zn Y9)) Zw)
 (Ze (Qm (Z7 (Vd hr) (Zh (Zb 0) Zc) Zv) (Zg (Zn (Qt (QE (KJ hr) (Zi QS rfl T.JL Qv (Za (Zb 0) Zd)) Zc) (Qt (cO T.Ju (VZ T) hr (Za (Zh (Zb 0) Zc) Zd)) (Qt (cO T.WD (CF T) hr (Za (Zh (Zb 0) Zc) Zd)) (Jg (cO T.XG (Bb T) hr (Za (Zh (Zb 0) Zc) Zd)))))))) Zw)
 (Ze (Qm (Z7 (Vd hr) (Zh (Zb 0) Zc) Zv) (Zg (Zn (Qt (QE (KJ hr) (Zi QS rfl T.JL Qv (Za (Zb 0) Zd)) Zc) (Jg (cO T.Yo (YH T) hr (Za (Zh (Zb 0) Zc) Zd)))))) Zw)
 (Zg (Zn (Qt (QE (KJ hr) (Zi QS rfl T.JL Qv (Za (Zb 0) Zd)) Zc) (Jg (QE (Zdg hr) (Zh (Zb 0) Zc) (ZG (Za Zv (Za Zv Zd)))))))))))),λ xs M Φ h=>?_⟩
 replace h:=Zu h;obtain ⟨x1,rfl,h⟩:=h;replace h:=ZR h;obtain ⟨d,rfl,hk,h⟩:=h;cases d with
 | tuple ds=>
  walk_at "hd";refine ZZ λ A B hA hB=>?_;walk_at "rk";refine Zk (λ h1=>?_) λ h1=>?_
  ·rw [LM (by lia)] at h;subst hA;exact h
  ·subst hB;obtain ⟨k,t,n,l,rfl⟩:=Ob (ds:=ds) (by lia);replace hk:(KA k && (KA t && (KA n && l.all KA))) = true:=hk;simp only [Bool.and_eq_true] at hk;obtain ⟨_,_,hn,hl⟩:=hk;replace h:Φ (.dat (.bool (Jy t && (Qd n && VO k l)))) M:=h;walk_at "rk";walk_at "hd";refine ZZ λ A B hA hB=>?_;walk_at "rk";cases q1:Jy t with
   | false=>
    rw [q1] at h;subst hA;walk_at "rk";exact h
   | true=>
    rw [q1] at h;walk_at "rk";refine ⟨hn,?_⟩;cases q2:Qd n with
    | false=>
     rw [q2] at h;subst hA;walk_at "rk";exact h
    | true=>
     rw [q2] at h;unfold VO at h;subst hB;walk_at "rk";walk_at "hd";refine ZZ λ A B hA hB=>?_;walk_at "rk";cases q3:isS k (Str.ofString "land") with
     | true=>
      rw [q3] at h;subst hA;walk_at "rk";refine Zk (λ h2=>?_) λ h2=>?_
      ·obtain ⟨o,v,z,rfl⟩:=Ri (ds:=l) (by lia);replace h:Φ (.dat (.bool ((isS o (Str.ofString "") || Qd o) && (Q9 v && DQ z)))) M:=h;replace hl:(KA o && _) = true:=hl;walk_at "rk";refine ⟨(Bool.and_eq_true_iff.mp hl).1,?_⟩;cases q4:(isS o (Str.ofString "") || Qd o) with
       | false=>
        rw [q4] at h;exact h
       | true=>
        rw [q4] at h;walk_at "rk";cases q5:Q9 v with
        | false=>
         rw [q5] at h;exact h
        | true=>
         rw [q5] at h;exact h
      ·rw [if_pos rfl,Zah (show l.length ≠ 3 by lia)] at h;exact h
     | false=>
      rw [q3,if_neg Bool.false_ne_true] at h;subst hB;walk_at "rk";walk_at "hd";refine ZZ λ A B hA hB=>?_;walk_at "rk";cases q4:isS k (Str.ofString "spot") with
      | true=>
       rw [q4] at h;subst hA;walk_at "rk";refine Zk (λ h2=>?_) λ h2=>?_
       ·obtain ⟨v,rfl⟩:=ZcU (ds:=l) (by lia);exact h
       ·rw [if_pos rfl,TC (show l.length ≠ 1 by lia)] at h;exact h
      | false=>
       rw [q4,if_neg Bool.false_ne_true] at h;subst_vars;walk_at "rk";refine Zk (λ h2=>?_) λ h2=>?_
       ·obtain rfl:l = []:=List.length_eq_zero_iff.mp (by lia);refine ⟨[Str.ofString "drop",Str.ofString "free"],rfl,?_⟩;simp only [List.any_cons,List.any_nil,Bool.or_false];exact h
       ·have e:l.isEmpty = false:=by
         cases l with
         | nil=>exact absurd rfl h2
         | cons _ _=>rfl
        rw [e] at h;exact h
 | _=>
  walk_at "hd";refine ZZ λ A B hA hB=>?_;walk_at "rk";subst hA;exact h
theorem Zr (T:Tx K mg base):Qa P w K mg base CX0 1 T.RM T.Sd ["_law_pen", "_law_many"] (lift K SH):=by
 refine okD T.Zz.F VN (λ xs M Φ h=>by obtain ⟨_,_,rfl,_⟩:=ZK h; rfl) λ cdv A outer s H E hr=>⟨_,(Ze (Qm (Z7 ZbS (Zh (Zb 0) Zc) Zc) (Ze (Zo 6 VN.nd (Zj JE (Zh (Zb 0) Zc) (Zb 1)))
 (Ze (Kz (Zj DX (Zh (Zb 0) Zc) (Zb 1)) (Hi (Zb 0) Zc))
 (Zg (Zn (Zb 6))))) Zw)
 (Ze (Zo 2 VN.nd (Zh (Zb 0) Zc))
 (Ze (Kz (Zj Zx (Zb 2) Zc) (Hi (Zb 0) Zc))
 (Ze (Zo 3 VN.nd Zc)
 (Ze (Qm (Z7 ZbS (Zi QS rfl T.JL Qv (Za (Zh (Zb 0) Zc) Zd)) Zc) (Zg (Zo 3 VN.nd (Zh (Zh (Zb 0) Zc) (Zj JE (Zb 2) (Zi QS rfl T.JL Qv (Za (Zh (Zb 0) Zc) Zd)))))) Zw)
 (Ze (Qm (DW.dt (Ht (Z7 LX (Zb 2) (Zi QS rfl T.JL Qv (Za (Zh (Zb 0) Zc) Zd))) (CG (Z7 Zfd (Zi Mz rfl T.TJ Hs (Za (Zb 3) Zd)) (Zj Vb Zc Zc))))) (Ze (Kz (Zj DX (Zi Mz rfl T.TJ Hs (Za (Zb 3) Zd)) (Zb 1)) (Hi (Zb 0) Zc))
 (Zg (Zn (Zj JE (Zi Mz rfl T.TJ Hs (Za (Zb 3) Zd)) (Zb 1))))) Zw)
 (Ze (Zo 4 VN.nd (Zj JE (Zj QO (Zj Zx (Zj Zx (Zj JE (Zb 3) Zc) (Zj QO Zc (Zb 2))) Zc) Zc) Zc))
 (Ze (Zo 5 VN.nd (Zj JE (Zj Zx (Zj Zx (Zj QO (Zb 4) (Zb 4)) (Zj QO Zc (Zb 4))) (Zj QO Zc (Zb 2))) Zc))
 (Zg (Zn (Zj JE (Zj Bq (Zj JE (Zj QO (Zb 5) (Zj Zx (Zj JE (Zb 5) Zc) Zc)) Zc) Zc) (Zb 1)))))))))))),λ xs M Φ h=>?_⟩
 replace h:=ZK h;obtain ⟨x1,x2,rfl,h⟩:=h;replace h:=ZW h;obtain ⟨p,rfl,h⟩:=h;replace h:=Zt h;obtain ⟨m,rfl,⟨h0,h1⟩,hp,h⟩:=h;obtain ⟨ns,i,b,hi,hp⟩:=hp.get;have lg:m.natAbs.log2 < 9000:=Nat.lt_of_lt_of_le (Ud (k:=200) (by lia) (by decide)) (by decide);have fin:∀ (x j c:Int),0 <= j->Φ (.dat (.int (x % m))) (Z0 M p (.lst [.list (ns.map PyData.int),.int j,.int c])):=λ x j c hj=>h _ _ (GW x h0).1 (GW x h0).2 (Fr.Z0 ⟨ns,j,c,hj,rfl⟩);walk_at "h";simp only [hp];walk_at "rk";refine Zk (λ h2=>?_) λ h2=>?_
 ·exact ⟨h0,⟨h0,lg⟩,fin _ _ _ hi⟩
 ·walk_at "h";simp only [hp];walk_at "rk";walk_at "h";simp only [hp];walk_at "rk";walk_at "h";walk_at "h";rw [List.length_map];refine Zk (λ hl=>?_) λ hl=>?_
  ·have hm:=GW i hl;obtain ⟨c,hc⟩:=TN (ns:=ns) hm.1 hm.2;refine ⟨hl,YR hc ?_⟩;walk_at "h";rw [List.length_map];refine Zk (λ h2=>⟨Lg _ (by decide),Zk (λ h3=>⟨⟨h0,lg⟩,h0,fin _ _ _ (by lia)⟩) λ h3=>?_⟩) λ h2=>?_
   ·walk_at "h";refine ⟨.inl (by decide),.inr (by decide),?_⟩;walk_at "h";refine ⟨.inl (by lia),.inl (by decide),.inl (by decide),?_⟩;subst_vars;walk_at "rk";refine ⟨.inl (by lia),⟨by decide,by decide⟩,by assumption,?_⟩;exact fin _ _ _ (by lia)
   ·walk_at "h";refine ⟨.inl (by decide),.inr (by decide),?_⟩;walk_at "h";refine ⟨.inl (by lia),.inl (by decide),.inl (by decide),?_⟩;subst_vars;walk_at "rk";refine ⟨.inl (by lia),⟨by decide,by decide⟩,by assumption,?_⟩;exact fin _ _ _ (by lia)
  ·walk_at "h";rw [List.length_map];refine Zk (λ h2=>absurd h2 (by lia)) λ h2=>?_;walk_at "h";refine ⟨.inl (by decide),.inr (by decide),?_⟩;walk_at "h";refine ⟨.inl (by lia),.inl (by decide),.inl (by decide),?_⟩;subst_vars;walk_at "rk";refine ⟨.inl (by lia),⟨by decide,by decide⟩,by assumption,?_⟩;exact fin _ _ _ (by lia)
theorem Xv (T:Tx K mg base):Qa P w K mg base CX0 2 T.Su T.RR ["_law_pen", "_law_many"] (lift K SA):=by
 refine okD T.Wk.F WK (λ xs M Φ h=>by obtain ⟨_,_,rfl,_⟩:=ZK h; rfl) λ cdv A outer s H E hr=>⟨_,(Ze (Qm (Z7 LX (Zb 1) (Zj Vb Zc Zc)) (Zg (Zn (cO T.Zz (Zr T) hr (Za (Zb 0) (Za (Zb 1) Zd))))) Zw)
 (Ze (Zo 2 WK.nd Zc)
 (Ze (Vr rfl T.Qh (Za (Zj Zx (Zj Bq (Zi Hn rfl T.JL Qv (Za (QR S3 rfl T.Zdy Ry (Za (Zb 1) Zd)) Zd)) Zc) Zc) Zd) (Zp 3 WK.nd) (Zg (Zo 2 WK.nd (Zj Zx (Zj QO (Zb 2) (Zj Vb Zc Zc)) (cO T.Zz (Zr T) hr (Za (Zb 0) (Za (Zj Vb Zc Zc) Zd)))))) PassesOwn.never rfl)
 (Zg (Zn (Zj JE (Zb 2) (Zb 1))))))),λ xs M Φ h=>?_⟩
 replace h:=ZK h;obtain ⟨x1,x2,rfl,h⟩:=h;replace h:=ZW h;obtain ⟨p,rfl,h⟩:=h;replace h:=Zt h;obtain ⟨m,rfl,⟨h0,h1⟩,hp,h⟩:=h;have lg:m.natAbs.log2 < 1920:=Nat.lt_of_lt_of_le (Ud (k:=200) (by lia) (by decide)) (by decide);walk_at "h";refine ⟨Lg _ (by decide),Zk (λ h2=>⟨⟨h0,h1⟩,hp,h⟩) λ h2=>?_⟩;have hz:=int_text_len_1921 lg;walk_at "h";walk_at "h";refine ⟨lg,by lia,⟨by decide,by decide⟩,⟨by lia,by lia⟩,λ i Δ M'=>∃ (v:Int) (kk:Option DV),Δ = [some (.own p),some (.dat (.int m)),some (.dat (.int v)),kk] /\ Fr p M M',⟨0,none,rfl,Fr.refl hp⟩,?_,?_⟩
 ·rintro i Δ M' hi ⟨v,kk,rfl,hf⟩;walk_at "rk";refine ⟨Lg _ (by decide),.inr (by decide),Lg _ (by decide),hf.1,λ r M2 h3 h4 f2=>?_⟩;exact ⟨_,_,rfl,hf.trans f2⟩
 ·rintro Δ M' ⟨v,kk,rfl,hf⟩;subst_vars;walk_at "rk";exact ⟨h0,h _ _ (GW v h0).1 (GW v h0).2 hf⟩
theorem C9 (T:Tx K mg base):Qa P w K mg base CX0 2 T.Li T.Lw ["_law_pen", "_law_many"] (lift K LK):=by
 refine okD T.Ci.F Q5 (λ xs M Φ h=>by obtain ⟨_,_,rfl,_⟩:=ZK h; rfl) λ cdv A outer s H E hr=>⟨_,(Ze (Zo 2 Q5.nd Zv)
 (Ze (Zo 3 Q5.nd (QC (Za Zv (Za Zv (Za Zv (Za Zv (Za Zv (Za Zv (Za Zv (Za Zv (Za Zv (Za Zv (Za Zv (Za Zv (Za Zv Zd)))))))))))))))
 (Ze (Zo 4 Q5.nd (Zay Zv (Qs false (ZE (sc:=Zf Vl) (XN:=["_law_pen", "_law_many", "_law_letters", "_law_words", "_law_base", "_law_start", "_law_manner", "_law_long", "_law_at", "_law_signs"]) (N:=["_law_k", "_law_letters", "_law_pen"]) (ix:=[none,some 2,some 0]) rfl rfl (by walk_at "k")) (QP rfl T.Qh (Za Zc Zd)) (λ C ex s H=>(Zp 0 (show List.Nodup (["_law_k", "_law_letters", "_law_pen"]:List Str) by walk_at "k"))) (λ C ex s H=>Z8) (λ C ex s H=>(Se (Zb 1) (cO T.Zz (Zr T) hr (Za (Zb 2) (Za Zc Zd))))) rfl)))
 (Ze (Zo 5 Q5.nd (cO T.Zz (Zr T) hr (Za (Zb 0) (Za Zc Zd))))
 (Ze (Zo 6 Q5.nd (cO T.Zz (Zr T) hr (Za (Zb 0) (Za Zc Zd))))
 (Ze (Qm (Z7 (KJ hr) (Zb 6) Zc) (Zg (Zn (Qs false (ZE (sc:=Zf Vl) (XN:=["_law_pen", "_law_many", "_law_letters", "_law_words", "_law_base", "_law_start", "_law_manner", "_law_long", "_law_at", "_law_signs"]) (N:=["_law_k", "_law_base", "_law_start"]) (ix:=[none,some 4,some 5]) rfl rfl (by walk_at "k")) (QP rfl T.Qh (Za (Zb 1) Zd)) (λ C ex s H=>(Zp 0 (show List.Nodup (["_law_k", "_law_base", "_law_start"]:List Str) by walk_at "k"))) (λ C ex s H=>Z8) (λ C ex s H=>(XB (Zb 1) YE (J5 (Zj Zx (Zj JE (Zj Zx (Zb 2) (Zj QO Zc (Zb 0))) Zc) Zc)))) rfl))) Zw)
 (Ze (Qm (Z7 (KJ hr) (Zb 6) Zc) (Zg (Zn (Qs false (ZE (sc:=Zf Vl) (XN:=["_law_pen", "_law_many", "_law_letters", "_law_words", "_law_base", "_law_start", "_law_manner", "_law_long", "_law_at", "_law_signs"]) (N:=["_law_k", "_law_words", "_law_start"]) (ix:=[none,some 3,some 5]) rfl rfl (by walk_at "k")) (QP rfl T.Qh (Za (Zb 1) Zd)) (λ C ex s H=>(Zp 0 (show List.Nodup (["_law_k", "_law_words", "_law_start"]:List Str) by walk_at "k"))) (λ C ex s H=>Z8) (λ C ex s H=>(Zh (Zb 1) (Zj JE (Zj Zx (Zb 2) (Zb 0)) Zc))) rfl))) Zw)
 (Ze (Zo 7 Q5.nd (Zj Zx Zc (cO T.Zz (Zr T) hr (Za (Zb 0) (Za Zc Zd)))))
 (Ze (Zo 8 Q5.nd (cO T.Zz (Zr T) hr (Za (Zb 0) (Za (Zb 7) Zd))))
 (Ze (Fp 9 false Q5.nd (ZE (sc:=Zf Vl) (XN:=["_law_pen", "_law_many", "_law_letters", "_law_words", "_law_base", "_law_start", "_law_manner", "_law_long", "_law_at", "_law_signs"]) (N:=["_law_k", "_law_letters", "_law_start"]) (ix:=[none,some 2,some 5]) rfl rfl (by walk_at "k")) (QP rfl T.Qh (Za (Zb 1) Zd)) (λ C ex s H=>(Zp 0 (show List.Nodup (["_law_k", "_law_letters", "_law_start"]:List Str) by walk_at "k"))) (λ C ex s H=>Z8) (λ C ex s H=>(Se (Zb 1) (Zj JE (Zj Zx (Zb 2) (Zj QO Zc (Zb 0))) Zc))) rfl)
 (Zg (Zn (Qs false (ZE (sc:=Zf Vl) (XN:=["_law_pen", "_law_many", "_law_letters", "_law_words", "_law_base", "_law_start", "_law_manner", "_law_long", "_law_at", "_law_signs"]) (N:=["_law_sign", "_law_base", "_law_long", "_law_at"]) (ix:=[none,some 4,some 7,some 8]) rfl rfl (by walk_at "k")) (Ko (Zb 9)) (λ C ex s H=>(Zp 0 (show List.Nodup (["_law_sign", "_law_base", "_law_long", "_law_at"]:List Str) by walk_at "k"))) (λ C ex s H=>Z8) (λ C ex s H=>(Zj LW (Zj LW (XB (Zb 1) YE (J5 (Zb 3))) (Zb 0)) (XB (Zb 1) (J5 (Zj Zx (Zb 3) Zc)) (J5 (Zb 2))))) rfl))))))))))))),λ xs M Φ h=>?_⟩
 replace h:=ZK h;obtain ⟨x1,x2,rfl,h⟩:=h;replace h:=ZW h;obtain ⟨p,rfl,h⟩:=h;replace h:=Zt h;obtain ⟨m,rfl,⟨hm0,hm8⟩,hp,h⟩:=h;walk_at "h";walk_at "h";walk_at "h";refine ⟨⟨by decide,by decide⟩,by rw [ZI]; decide,λ i acc M'=>∃ ss:List Str,acc = ss.map PyData.str /\ ss.length = i /\ (∀ s ∈ ss,Zgl s) /\ Fr p M M',⟨[],rfl,rfl,λ s hs=>(nomatch hs),Fr.refl hp⟩,?_,?_⟩
 ·rintro i d acc M' hd ⟨ss,rfl,hl,ha,hf⟩;refine ⟨hf.1,λ r M2 h0 h1 f2=>⟨by rw [Ls]; decide,?_⟩⟩;obtain ⟨c,hc,c1⟩:=SF h0 h1;refine ⟨c,hc,ss ++ [⟨#[c]⟩],by rw [List.map_append]; rfl,by rw [List.length_append,hl]; rfl,λ s hs=>?_,hf.trans f2⟩
  rcases List.mem_append.mp hs with hs | hs
  ·exact ha s hs
  ·rw [List.mem_singleton.mp hs];exact ⟨c,rfl,c1⟩
 ·rintro acc M1 ⟨ss,rfl,hl,ha,hf⟩;rw [ZI] at hl;refine ⟨ss,rfl,ZaO (B:=1) (λ y hy=>by obtain ⟨c,rfl,_⟩:=ha y hy; exact Nat.le_refl 1) (by rw [hl]; decide),?_⟩;obtain ⟨bl,bc⟩:=Mv hl ha;generalize Txt.join (Str.ofString "") ss = b at *;walk_at "h";refine ⟨hf.1,λ st M2 s0 s1 f2=>?_⟩;walk_at "h";refine ⟨f2.1,λ mn M3 m0 m1 f3=>?_⟩;have fin:∀ (ds:List PyData) (M':Mp),Nms m.toNat ds->Fr p M3 M'->Φ (.dat (.list ds)) M':=λ ds M' hn hm=>by
   obtain ⟨ss,rfl,h8,ha⟩:=hn;exact h ss M' h8 ha (((hf.trans f2).trans f3).trans hm)
  walk_at "h";refine Zk (λ z=>?_) λ z=>?_
  ·refine ⟨⟨by lia,by lia⟩,by rw [ZI]; lia,λ i acc M'=>Nms i acc /\ M' = M3,⟨⟨[],rfl,rfl,λ s hs=>(nomatch hs)⟩,rfl⟩,?_,?_⟩
   ·rintro i d acc M' hd ⟨hn,rfl⟩;have hi:i < m.toNat:=by have:=(List.getElem?_eq_some_iff.mp hd).1; rw [ZI] at this; exact this
    rw [Vq hi] at hd;cases hd;walk_at "rk";refine ⟨.inl (by decide),by lia,hn.snoc ⟨?_,λ c hc=>bc c (CJ hc)⟩⟩;have hm:=GW (st + 3 * (i:Int)) (show (0:Int) < 8 by decide);rw [Cj,C3 (by lia),bl];show 1 <= _ - 0 /\ _ - 0 <= 8;lia
   ·rintro acc M' ⟨hn,rfl⟩;rw [ZI] at hn;exact fin _ _ hn (Fr.refl f3.1)
  ·walk_at "h";refine Zk (λ z=>?_) λ z=>?_
   ·refine ⟨⟨by lia,by lia⟩,by rw [ZI]; lia,λ i acc M'=>Nms i acc /\ M' = M3,⟨⟨[],rfl,rfl,λ s hs=>(nomatch hs)⟩,rfl⟩,?_,?_⟩
    ·rintro i d acc M' hd ⟨hn,rfl⟩;have hi:i < m.toNat:=by have:=(List.getElem?_eq_some_iff.mp hd).1; rw [ZI] at this; exact this
     rw [Vq hi] at hd;cases hd;walk_at "rk";have hm:=GW (st + (i:Int)) (show (0:Int) < 13 by decide);exact tabS (l:=["land", "drop", "free", "spot", "comes", "goes", "in", "out", "stays", "wait", "none", "a", "z"]) Jk hm.1 hm.2 HY λ s hs=>hn.snoc hs
    ·rintro acc M' ⟨hn,rfl⟩;rw [ZI] at hn;exact fin _ _ hn (Fr.refl f3.1)
   ·walk_at "h";refine ⟨f3.1,λ lg M4 l0 l1 f4=>?_⟩;walk_at "h";refine ⟨⟨by lia,by lia⟩,f4.1,λ at' M5 t0 t1 f5=>?_⟩;walk_at "h";refine ⟨⟨by lia,by lia⟩,by rw [ZI]; lia,λ i acc M'=>(∃ ss:List Str,acc = ss.map PyData.str /\ ss.length = i /\ ∀ s ∈ ss,Zgl s) /\ M' = M5,⟨⟨[],rfl,rfl,λ s hs=>(nomatch hs)⟩,rfl⟩,?_,?_⟩
    ·rintro i d acc M' hd ⟨⟨ss,rfl,hl,ha⟩,rfl⟩;have hi:i < m.toNat:=by have:=(List.getElem?_eq_some_iff.mp hd).1; rw [ZI] at this; exact this
     rw [Vq hi] at hd;cases hd;walk_at "rk";have hm:=GW (st + 5 * (i:Int)) (show (0:Int) < 26 by decide);obtain ⟨c,hc,c1⟩:=SF hm.1 hm.2;refine ⟨.inl (by decide),by rw [Ls]; decide,c,by simpa using hc,ss ++ [⟨#[c]⟩],by rw [List.map_append]; rfl,by rw [List.length_append,hl]; rfl,λ s hs=>?_⟩
     rcases List.mem_append.mp hs with hs | hs
     ·exact ha s hs
     ·rw [List.mem_singleton.mp hs];exact ⟨c,rfl,c1⟩
    ·rintro acc M' ⟨⟨ss2,rfl,h8,ha2⟩,rfl⟩;rw [ZI] at h8;subst_vars;walk_at "rk";refine ⟨by rw [List.length_map,h8]; lia,λ i acc M2=>Nms i acc /\ M2 = M',⟨⟨[],rfl,rfl,λ s hs=>(nomatch hs)⟩,rfl⟩,?_,?_⟩
     ·rintro i d acc M' hd ⟨hn,rfl⟩;obtain ⟨s,es,rfl⟩:=Jx hd;obtain ⟨c,rfl,c1⟩:=ha2 s (List.mem_of_getElem? es);walk_at "rk";have k1:(MN b none (some at')).length = at'.toNat:=by
       rw [Cj,C3 t0,bl];show _ - 0 = _;lia
      have k2:(MN b (some (at' + 1)) (some (1 + lg))).length = (lg - at').toNat:=by
       rw [Cj,C3 (by lia),C3 (by lia),bl];lia
      refine ⟨by lia,by rw [k1,B9]; lia,by lia,by rw [BP,k1,k2,B9]; lia,hn.snoc ⟨?_,λ d hd=>?_⟩⟩
      ·rw [BP,BP,k1,k2,B9];lia
      ·rw [add_list,add_list,Xj] at hd
       rcases List.mem_append.mp hd with hd | hd
       ·rcases List.mem_append.mp hd with hd | hd
        ·exact bc d (CJ hd)
        ·rw [List.mem_singleton.mp hd];exact c1
       ·exact bc d (CJ hd)
     ·rintro acc M' ⟨hn,rfl⟩;rw [List.length_map,h8] at hn;exact fin _ _ hn (f4.trans f5)
theorem Pb (T:Tx K mg base):Qa P w K mg base CX0 2 T.Fh T.L3 ["_law_pen", "_law_most"] (lift K LG):=by
 refine okD T.Hk.F Jo (λ xs M Φ h=>by obtain ⟨_,_,rfl,_⟩:=ZK h; rfl) λ cdv A outer s H E hr=>⟨_,(Ze (Zo 2 Jo.nd (QC (Za (cO T.Zz (Zr T) hr (Za (Zb 0) (Za Zc Zd))) (Za (cO T.Zz (Zr T) hr (Za (Zb 0) (Za Zc Zd))) Zd))))
 (Ze (Zo 3 Jo.nd (VR (Za (ZG (Za (QR Ja rfl T.JC QJ (Za (Zb 2) Zd)) (Za (ZG (Za (Zj Zx (Zh (Zb 2) Zc) (cO T.Zz (Zr T) hr (Za (Zb 0) (Za Zc Zd)))) (Za (Zj Zx (Zh (Zb 2) Zc) (cO T.Zz (Zr T) hr (Za (Zb 0) (Za Zc Zd)))) Zd))) Zd))) Zd)))
 (Ze (Vr rfl T.Qh (Za (cO T.Zz (Zr T) hr (Za (Zb 0) (Za (Zb 1) Zd))) Zd) (Zp 4 Jo.nd) (Ze (Kz (Zh (Zb 3) (Dc Zc)) (YT (n:=2) rfl (ZV (Zp 6 Jo.nd) (ZV (Zp 7 Jo.nd) Vg))))
 (Ze (Zo 5 Jo.nd (QC (Za (cO T.Zz (Zr T) hr (Za (Zb 0) (Za Zc Zd))) (Za (cO T.Zz (Zr T) hr (Za (Zb 0) (Za Zc Zd))) Zd))))
 (Ze (C8 2 false Jo.nd (ZE (sc:=Zf Uv) (XN:=["_law_pen", "_law_most", "_law_low", "_law_found", "_law_k", "_law_wide_here", "_law_first", "_law_last"]) (N:=["_law_w", "_law_pen", "_law_first", "_law_wide_here", "_law_last"]) (ix:=[none,some 0,some 6,some 5,some 7]) rfl rfl (by walk_at "k")) (QP rfl T.Qh (Za Zc Zd)) (λ C ex s H=>(Zp 0 (show List.Nodup (["_law_w", "_law_pen", "_law_first", "_law_wide_here", "_law_last"]:List Str) by walk_at "k"))) (λ C ex s H=>Z8) (λ C ex s H=>(Zj Zx (Zj Qp (Zj Qp (Zh (Zb 2) (Zb 0)) (Zh (Zb 3) (Zb 0))) Zc) (cO T.Zz (Zr T) hr (Za (Zb 1) (Za (Zj Zx (Zj Zx (Zj Qp (Zh (Zb 4) (Zb 0)) (Zh (Zb 2) (Zb 0))) (Zh (Zb 3) (Zb 0))) Zc) Zd))))) rfl)
 (Zg (JM (Jl (Zb 3) (ZG (Za (QR Ja rfl T.JC QJ (Za (Zb 2) Zd)) (Za (ZG (Za (Zj Zx (Zh (Zb 2) Zc) (Zh (Zb 5) Zc)) (Za (Zj Zx (Zh (Zb 2) Zc) (Zh (Zb 5) Zc)) Zd))) Zd))))))))) PassesOwn.never rfl)
 (Zg (Zn (La (Zb 3))))))),λ xs M Φ h=>?_⟩
 replace h:=ZK h;obtain ⟨x1,x2,rfl,h⟩:=h;replace h:=ZW h;obtain ⟨p,rfl,h⟩:=h;replace h:=Zt h;obtain ⟨m,rfl,hm,hp,h⟩:=h;walk_at "h";refine ⟨hp,λ x1 M1 a1 b1 f1=>⟨f1.1,λ y1 M2 a2 b2 f2=>?_⟩⟩;walk_at "h";refine ⟨f2.1,λ x2 M3 a3 b3 f3=>⟨f3.1,λ y2 M4 a4 b4 f4 q hq=>?_⟩⟩;have F0:=((f1.trans f2).trans f3).trans f4;have n1:q ≠ p:=Ne.symm (f4.1.ne hq);have q0:M q = none:=F0.fresh hq;walk_at "h";refine ⟨ZjR hm,f4.1.put (Ne.symm n1),λ r M5 a5 b5 f5=>⟨Zjj hm a5 b5,?_⟩⟩
 refine ⟨λ i Δ M'=>∃ (cs:List B4) (b:B4) (k2 k4 k5 k6 k7:Option DV),Δ = [some (.own p),some (.dat (.int m)),k2,some (.own q),k4,k5,k6,k7] /\ cs.length = i /\ chB (cs ++ [b]) = true /\ (∀ c ∈ cs ++ [b],Grb i c) /\ M' q = some (.lst (cs.map bD ++ [bD b])) /\ Fr p M M',
  ⟨[],⟨x1,y1,x1 + x2,y1 + y2⟩,_,_,_,_,_,rfl,rfl,rfl,?_,f5.own Zq n1,(F0.new q0 n1).trans f5⟩,?_,?_⟩
 ·intro c hc;rw [List.mem_singleton.mp hc];exact ⟨⟨Int.le_add_of_nonneg_right a3,Int.le_add_of_nonneg_right a4⟩,⟨(Zb6 a1 b1 b3).1,(Zb6 a1 b1 b3).2.1⟩,(Zb6 a2 b2 b4).1,(Zb6 a2 b2 b4).2.1,(Zb6 a1 b1 b3).2.2,(Zb6 a2 b2 b4).2.2⟩
 ·rintro i Δ M' hi ⟨cs,b,k2,k4,k5,k6,k7,rfl,hl,hch,hcs,hq',hF⟩;have hb:=hcs b (List.mem_append_right _ (List.mem_singleton.mpr rfl));unfold Grb at hb;rw [Yd];refine Ve λ E hE=>?_;walk_at "h";simp only [hq'];walk_at "rk";walk_at "h";refine ⟨hF.1,λ w1 M6 a6 b6 f6=>⟨f6.1,λ w2 M7 a7 b7 f7=>?_⟩⟩;walk_at "h";refine ⟨⟨by decide,by decide⟩,Rt hb.1.1 hb.2.2.2.2.1 a6 b6,f7.1,λ u1 M8 a8 b8 f8=>⟨Rt hb.1.2 hb.2.2.2.2.2 a7 b7,f8.1,λ u2 M9 a9 b9 f9=>?_⟩⟩;have F1:=((f6.trans f7).trans f8).trans f9;subst_vars;walk_at "rk";simp only [F1.own hq' n1];walk_at "rk";obtain rfl:=hE trivial;refine ⟨by rw [List.length_append,List.length_map,List.length_singleton]; exact ZjJ hm b5 hi,cs ++ [b],⟨b.x - w1 - 1 + u1,b.y - w2 - 1 + u2,b.x - w1 - 1 + u1 + w1,b.y - w2 - 1 + u2 + w2⟩,_,_,_,_,_,rfl,by rw [List.length_append]; rfl,?_,λ c hc=>?_,?_,(hF.trans F1).new q0 n1⟩
  ·rw [List.append_assoc];show chB (cs ++ [b,_]) = true;rw [CP,hch,decide_eq_true (QH (Zdk b8) (Zf5 a8) (Zdk b9) (Zf5 a9))];rfl
  ·rcases List.mem_append.mp hc with hc | hc
   ·exact RB (by lia) (hcs c hc)
   ·rw [List.mem_singleton.mp hc];exact ⟨⟨Int.le_add_of_nonneg_right a6,Int.le_add_of_nonneg_right a7⟩,⟨Zf0 hb.2.1.1 b6 a8,Zda hb.2.1.2 b6 b8⟩,Zf0 hb.2.2.1 b7 a9,Zda hb.2.2.2.1 b7 b9,ZiX b6,ZiX b7⟩
  ·rw [Zq,List.map_append];rfl
 ·rintro Δ M' ⟨cs,b,k2,k4,k5,k6,k7,rfl,hl,hch,hcs,hq',hF⟩;subst_vars;walk_at "rk";simp only [hq'];walk_at "rk";rw [show cs.map bD ++ [bD b] = (cs ++ [b]).map bD by rw [List.map_append]; rfl];refine h _ _ ⟨by rw [List.length_append,List.length_singleton]; lia,hch,λ c hc=>?_⟩ (hF.gone q0 n1);exact RB (Zjn hm b5) (hcs c hc)
theorem UT (T:Tx K mg base):Qa P w K mg base CX0 1 T.Xw T.X8 ["_law_boxes_here", "_law_by", "_law_off"] (lift K Kt):=by
 refine okG T.XT.F QN (λ xs M Φ h=>by obtain ⟨_,_,_,rfl,_⟩:=QT h; rfl) λ cdv A outer s H E hr=>⟨_,(Ze (Zo 3 QN.nd (VR Zd))
 (Ze (FF (Zb 0) (YT (n:=2) rfl (ZV (Zp 4 QN.nd) (ZV (Zp 5 QN.nd) Vg))) (Ze (Zo 6 QN.nd (ZG (Za (Zj Zx (Zj QO (Zh (Zb 4) Zc) (Zb 1)) (Zh (Zb 2) Zc)) (Za (Zj Zx (Zj QO (Zh (Zb 4) Zc) (Zb 1)) (Zh (Zb 2) Zc)) Zd))))
 (Zg (JM (Jl (Zb 3) (ZG (Za (Zb 6) (Za (ZG (Za (Zj Zx (Zj Qp (Zj Zx (Zj QO (Zh (Zb 5) Zc) (Zb 1)) (Zb 1)) Zc) (Zh (Zb 2) Zc)) (Za (Zj Zx (Zj Qp (Zj Zx (Zj QO (Zh (Zb 5) Zc) (Zb 1)) (Zb 1)) Zc) (Zh (Zb 2) Zc)) Zd))) Zd))))))) PassesOwn.never rfl)
 (Zg (Zn (QR Ja rfl T.JC QJ (Za (Zb 3) Zd)))))),λ xs M Φ h=>?_⟩
 replace h:=QT h;obtain ⟨x1,x2,x3,rfl,h⟩:=h;replace h:=ZaS h;obtain ⟨bs,rfl,h⟩:=h;replace h:=Zt h;obtain ⟨f,rfl,h⟩:=h;replace h:=MQ h;obtain ⟨ox,oy,rfl,hs,h⟩:=h;walk_at "h";intro q hq;walk_at "h";refine ⟨λ i Δ M'=>∃ k4 k5 k6,Δ = [some (.dat (.list (bs.map bD))),some (.dat (.int f)),some (.dat (.tuple [.int ox,.int oy])),some (.own q),k4,k5,k6] /\ M' = Z0 M q (.lst (((bs.take i).map (UL f ox oy)).map bD)),⟨none,none,none,rfl,rfl⟩,?_,?_⟩
 ·rintro i d Δ M' hd ⟨k4,k5,k6,rfl,rfl⟩;obtain ⟨b,eb,rfl⟩:=Jx hd;have hb:=hs.2.2 _ (List.mem_of_getElem? eb);unfold Grb at hb;refine Ew λ E hE=>?_;walk_at "rk";obtain rfl:=hE trivial;refine ⟨Zfo hb.2.1.1 hb.1.1 hb.2.1.2,Zfo hb.2.2.1 hb.1.2 hb.2.2.2.1,ZcG hb.2.1.1 hb.1.1 hb.2.1.2,ZcG hb.2.2.1 hb.1.2 hb.2.2.2.1,by rw [List.length_map,List.length_map,List.length_take]; have:=hs.1.2; lia,_,_,_,rfl,?_⟩;rw [<- take_snoc (UL f ox oy) eb,List.map_append];rfl
 ·rintro Δ M' ⟨k4,k5,k6,rfl,rfl⟩;rw [List.length_map,List.take_length];subst_vars;walk_at "rk";exact RT hq h
theorem Ep (T:Tx K mg base):Qa P w K mg base CX0 3 T.Bc T.Bj ["_law_pen"] (lift K U9):=by
 refine okD T.UH.F Vp (λ xs M Φ h=>by obtain ⟨_,rfl,_⟩:=Zu h; rfl) λ cdv A outer s H E hr=>⟨_,(Ze (Zo 1 Vp.nd (Zh (QC (Za Zc (Za Zc (Za Zc (Za Zc (Za Zc (Za (Zj Vb Zc Zc) Zd))))))) (cO T.Zz (Zr T) hr (Za (Zb 0) (Za Zc Zd)))))
 (Ze (Zo 2 Vp.nd (Zh (QC (Za (ZG (Za Zc (Za Zc Zd))) (Za (ZG (Za (Zj Qp (cO T.Zz (Zr T) hr (Za (Zb 0) (Za Zc Zd))) Zc) (Za (Zj Qp (cO T.Zz (Zr T) hr (Za (Zb 0) (Za Zc Zd))) Zc) Zd))) Zd))) (cO T.Zz (Zr T) hr (Za (Zb 0) (Za Zc Zd)))))
 (Ze (Qm (Z7 (KJ hr) (Zb 1) (Zj Vb Zc Zc)) (Zg (Zo 2 Vp.nd (ZG (Za (cO T.Wk (Xv T) hr (Za (Zb 0) (Za (Zj Vb Zc Zc) Zd))) (Za (Zj Qp Zc (cO T.Wk (Xv T) hr (Za (Zb 0) (Za (Zj Vb Zc Zc) Zd)))) Zd))))) Zw)
 (Zg (Zn (ZG (Za (Zb 1) (Za (Zb 2) Zd)))))))),λ xs M Φ h=>?_⟩
 replace h:=Zu h;obtain ⟨x1,rfl,h⟩:=h;replace h:=ZW h;obtain ⟨p,rfl,hp,h⟩:=h;walk_at "h";refine ⟨Lg _ (by decide),hp,λ r1 M1 a1 b1 f1=>tab (l:=[1,1,1,2,1000,10000000000]) (λ t=>1 <= t /\ t <= 10000000000) a1 (by simp only [List.length_cons,List.length_nil]; lia) (by decide) λ f hf=>?_⟩;walk_at "h";refine ⟨f1.1,λ x M2 a2 b2 f2=>⟨f2.1,λ y M3 a3 b3 f3=>⟨f3.1,λ r4 M4 a4 b4 f4=>?_⟩⟩⟩;have F:=((f1.trans f2).trans f3).trans f4;have two:∃ ox oy:Int,(-20 <= ox /\ ox <= 20) /\ (-20 <= oy /\ oy <= 20) /\ ∀ P:PyData->Prop,Ky [.tuple [.int 0,.int 0],.tuple [.int (x - 20),.int (y - 20)]] r4 P = P (.tuple [.int ox,.int oy]):=by
  have:r4 = 0 \/ r4 = 1:=by lia
  rcases this with rfl | rfl
  ·exact ⟨0,0,by lia,by lia,λ P=>rfl⟩
  ·exact ⟨x - 20,y - 20,by lia,by lia,λ P=>rfl⟩
 obtain ⟨ox,oy,hx,hy,e⟩:=two;rw [e];clear e;walk_at "h";refine ⟨Lg _ (by decide),Zk (λ z=>?_) λ z=>?_⟩
 ·walk_at "rk";refine ⟨Lg _ (by decide),f4.1,λ u M5 a5 b5 f5=>⟨Lg _ (by decide),f5.1,λ v M6 a6 b6 f6=>?_⟩⟩;subst_vars;walk_at "rk";exact h _ _ _ _ ⟨by lia,by lia,by lia⟩ ((F.trans f5).trans f6)
 ·subst_vars;walk_at "rk";exact h _ _ _ _ ⟨hf,by lia,by lia⟩ F
theorem Oy (T:Tx K mg base):Qa P w K mg base CX0 4 T.Mr T.HE ["_law_pen"] (lift K HK):=by
 refine okD T.HN.F Jn (λ xs M Φ h=>by obtain ⟨_,rfl,_⟩:=Zu h; rfl) λ cdv A outer s H E hr=>⟨_,(Ze (Kz (cO T.UH (Ep T) hr (Za (Zb 0) Zd)) (YT (n:=2) rfl (ZV (Zp 6 Jn.nd) (ZV (Zp 7 Jn.nd) Vg))))
 (Ze (Zo 1 Jn.nd (Zj Vb Zc Zc))
 (Ze (Zo 2 Jn.nd (Zh (QC (Za Zc (Za Zc (Za (Zj Qp (Zb 1) Zc) (Za (cO T.Wk (Xv T) hr (Za (Zb 0) (Za (Zj Qp (Zb 1) Zc) Zd))) Zd))))) (cO T.Zz (Zr T) hr (Za (Zb 0) (Za Zc Zd)))))
 (Ze (Zo 3 Jn.nd (Zj Zx Zc (cO T.Zz (Zr T) hr (Za (Zb 0) (Za Zc Zd)))))
 (Ze (Zo 4 Jn.nd (cO T.Ci (C9 T) hr (Za (Zb 0) (Za (Zj Zx Zc (cO T.Zz (Zr T) hr (Za (Zb 0) (Za Zc Zd)))) Zd))))
 (Ze (Zo 5 Jn.nd (cO T.Ci (C9 T) hr (Za (Zb 0) (Za (Zj Zx Zc (cO T.Zz (Zr T) hr (Za (Zb 0) (Za Zc Zd)))) Zd))))
 (Zg (Zn (Pk Wz (Wi 6) Wz (Wi 7) Wz (Wi 2) Wz (Wi 3) Wz (Wi 4) Wz (Wi 5)))))))))),λ xs M Φ h=>?_⟩
 replace h:=Zu h;obtain ⟨x1,rfl,h⟩:=h;replace h:=ZW h;obtain ⟨p,rfl,hp,h⟩:=h;walk_at "h";refine ⟨hp,λ f ox oy M1 hf f1=>?_⟩;walk_at "h";refine ⟨Lg _ (by decide),?_⟩;walk_at "h";refine ⟨f1.1,λ r2 M2 a2 b2 f2=>⟨f2.1,λ r3 M3 a3 b3 f3=>tab (l:=[0,3,999999999992,r2]) (λ t=>0 <= t /\ t <= 999999999992) a3 (by simp only [List.length_cons,List.length_nil]; lia) (λ w hw=>?_) λ bg hb=>?_⟩⟩
 ·simp only [List.mem_cons,List.not_mem_nil,or_false] at hw;lia
 walk_at "h";refine ⟨f3.1,λ r4 M4 a4 b4 f4=>?_⟩;walk_at "h";refine ⟨f4.1,λ r5 M5 a5 b5 f5=>⟨⟨by lia,by lia⟩,f5.1,λ ts M6 tl th f6=>?_⟩⟩;walk_at "h";refine ⟨f6.1,λ r7 M7 a7 b7 f7=>⟨⟨by lia,by lia⟩,f7.1,λ ls M8 ll lh f8=>?_⟩⟩;have F:=((((((f1.trans f2).trans f3).trans f4).trans f5).trans f6).trans f7).trans f8;subst_vars;walk_at "rk";refine ⟨by walk_at "k",λ q hq=>?_⟩;have n1:q ≠ p:=Ne.symm (f8.1.ne hq);exact h q _ ⟨f,ox,oy,bg,1 + r4,ts,ls,Zq,hf,hb,by lia,⟨by lia,th⟩,⟨by lia,lh⟩⟩ n1 (F.new (F.fresh hq) n1)
theorem Za5 (T:Tx K mg base):Qa P w K mg base CX0 3 T.Sf T.RK ["_law_pen", "_law_world_here"] (lift K Rp):=by
 refine okD T.RL.F Hm (λ xs M Φ h=>by obtain ⟨_,_,rfl,_⟩:=ZK h; rfl) λ cdv A outer s H E hr=>⟨_,(Ze (Zo 2 Hm.nd ((QW hr) (Zb 1) Zv))
 (Zg (Zn (QR Ja rfl T.JC QJ (Za (NW false (ZE (sc:=Zf Ed) (XN:=["_law_pen", "_law_world_here", "_law_by"]) (N:=["_law_w", "_law_by", "_law_pen", "_law_world_here"]) (ix:=[none,some 2,some 0,some 1]) rfl rfl (by walk_at "k")) (QP rfl T.Qh (Za Zc Zd)) (λ C ex s H=>(Zp 0 (show List.Nodup (["_law_w", "_law_by", "_law_pen", "_law_world_here"]:List Str) by walk_at "k"))) (λ C ex s H=>Z8) (λ C ex s H=>(Zj Zx (Zj Zx (Zj QO (Zj Qp (cO T.Zz (Zr T) hr (Za (Zb 2) (Za Zc Zd))) Zc) (Zb 1)) (cO T.Wk (Xv T) hr (Za (Zb 2) (Za (Zb 1) Zd)))) (Zh ((QW hr) (Zb 3) Zv) (Zb 0)))) rfl) Zd))))),λ xs M Φ h=>?_⟩
 replace h:=ZK h;obtain ⟨x1,x2,rfl,h⟩:=h;replace h:=ZW h;obtain ⟨p,rfl,h⟩:=h;replace h:=ZW h;obtain ⟨q,rfl,hw,n1,hp,h⟩:=h;obtain ⟨f,ox,oy,bg,sp,ts,ls,hq,⟨hf,hx,hy⟩,hw⟩:=hw;walk_at "h";simp only [hq,ZgQ];subst_vars;walk_at "rk";refine ⟨⟨by decide,by decide⟩,hp,λ r1 M1 a1 b1 f1=>⟨.inl (by lia),⟨by lia,by lia⟩,f1.1,λ r2 M2 a2 b2 f2=>?_⟩⟩;simp only [(f1.trans f2).own hq n1,ZbV];walk_at "rk";refine ⟨f2.1,λ r3 M3 a3 b3 f3=>⟨.inl (by lia),⟨by lia,by lia⟩,f3.1,λ r4 M4 a4 b4 f4=>?_⟩⟩;have F:=((f1.trans f2).trans f3).trans f4;simp only [F.own hq n1,ZbV];walk_at "rk";have e1:=Kv (a:=r1 - 2) (lo:=-2) (hi:=14) (by lia) (by lia) hf.1;have e2:=Kv (a:=r3 - 2) (lo:=-2) (hi:=14) (by lia) (by lia) hf.1;exact h _ _ _ ⟨by lia,by lia⟩ ⟨by lia,by lia⟩ F
theorem ZaT (T:Tx K mg base):Qa P w K mg base CX0 3 T.RX T.RN ["_law_pen", "_law_world_here", "_law_time"] (lift K R8):=by
 refine okD T.RO.F VM (λ xs M Φ h=>by obtain ⟨_,_,_,rfl,_⟩:=QT h; rfl) λ cdv A outer s H E hr=>⟨_,(Ze (Zo 3 VM.nd ((QW hr) (Zb 1) Zv))
 (Ze (Zo 4 VM.nd ((QW hr) (Zb 1) Zv))
 (Ze (Zo 5 VM.nd (Zh (Zj Tw (Zj Zdl (VR (Za Zv Zd)) (Zi QS rfl T.JL Qv (Za (Zb 3) Zd))) (Zb 3)) (cO T.Zz (Zr T) hr (Za (Zb 0) (Za (Zj QO Zc (Zi QS rfl T.JL Qv (Za (Zb 3) Zd))) Zd)))))
 (Ze (Zo 6 VM.nd (cO T.Hk (Pb T) hr (Za (Zb 0) (Za (Zh (QC (Za Zc (Za Zc (Za Zc (Za Zc Zd))))) (cO T.Zz (Zr T) hr (Za (Zb 0) (Za Zc Zd)))) Zd))))
 (Ze (Zo 7 VM.nd (Zj Bq (Zj QO (Zh (QC (Za Zc (Za Zc (Za Zc (Za Zc (Za Zc Zd)))))) (cO T.Zz (Zr T) hr (Za (Zb 0) (Za Zc Zd)))) (Zb 4)) (Zh (QC (Za Zc (Za Zc Zd))) (cO T.Zz (Zr T) hr (Za (Zb 0) (Za Zc Zd))))))
 (Ze (Zo 8 VM.nd (Zh (Zb 3) (cO T.Zz (Zr T) hr (Za (Zb 0) (Za (Zi QS rfl T.JL Qv (Za (Zb 3) Zd)) Zd)))))
 (Zg (Zn (ZG (Za Zv (Za (Zb 2) (Za (Zb 8) (Za (Zb 5) (Za (cO T.XT (UT T) hr (Za (Zb 6) (Za (Zb 4) (Za ((QW hr) (Zb 1) Zv) Zd)))) (Za (Zb 7) Zd))))))))))))))),λ xs M Φ h=>?_⟩
 replace h:=QT h;obtain ⟨x1,x2,x3,rfl,h⟩:=h;replace h:=ZW h;obtain ⟨p,rfl,h⟩:=h;replace h:=ZW h;obtain ⟨q,rfl,h⟩:=h;replace h:=Zt h;obtain ⟨t,rfl,hw,n1,hp,h⟩:=h;obtain ⟨f,ox,oy,bg,sp,ts,ls,hq,hf,hw⟩:=hw;obtain ⟨_,_,_,hl,hn⟩:=hw;walk_at "h";simp only [hq,MF];walk_at "h";simp only [hq,ZgQ];walk_at "h";intro g hg;have ng:g ≠ p:=Ne.symm (hp.ne hg);rw [SI,<- List.length_append,SI,List.length_map,List.length_map,List.length_append,List.length_replicate];refine ⟨by lia,by lia,.inl (by decide),⟨by lia,by lia⟩,hp.put (Ne.symm ng),λ r1 M1 a1 b1 f1=>?_⟩;replace f1:=(Fr.new (Fr.refl hp) hg ng).trans f1;refine tabS (λ s=>s = Str.ofString "" \/ Jk s) a1 (by rw [List.length_append,List.length_replicate]; lia) (λ s hs=>?_) λ ou ho=>?_
 ·rcases List.mem_append.mp hs with hs | hs
  ·exact .inl (List.eq_of_mem_replicate hs)
  ·exact .inr (hn s hs)
 walk_at "h";refine ⟨f1.1,λ r2 M2 a2 b2 f2=>tab (l:=[3,3,3,6]) (λ t=>1 <= t /\ t <= 6) a2 (by simp only [List.length_cons,List.length_nil]; lia) (by decide) λ m hm=>?_⟩;walk_at "rk";refine ⟨hm,f2.1,λ bs M3 hb f3=>?_⟩;walk_at "h";refine ⟨f3.1,λ r4 M4 a4 b4 f4=>tab (l:=[0,0,1,2,3]) (λ t=>0 <= t /\ t <= 3) a4 (by simp only [List.length_cons,List.length_nil]; lia) (by decide) λ wb hwb=>?_⟩;walk_at "rk";refine ⟨.inl (by lia),f4.1,λ r5 M5 a5 b5 f5=>tab (l:=[1,2]) (λ t=>t = 1 \/ t = 2) a5 (by simp only [List.length_cons,List.length_nil]; lia) (by decide) λ dv hdv=>?_⟩;walk_at "rk";replace hdv:dv = 1 \/ dv = 2:=hdv;refine ⟨⟨by lia,by lia⟩,?_⟩;walk_at "h";rw [List.length_map];refine ⟨⟨by lia,by lia⟩,f5.1,λ r6 M6 a6 b6 f6=>?_⟩;have F:=((((f1.trans f2).trans f3).trans f4).trans f5).trans f6;refine tabS Jk a6 b6 hn λ nm hnm=>?_;subst_vars;walk_at "rk";simp only [F.own hq n1,ZbV];walk_at "rk";exact ⟨hb,h nm ou bs f ox oy _ _ hnm ho (LsW.of hq rfl) hb hf (Zfk hwb.1 hwb.2 hf.1 hdv) F⟩
theorem En (T:Tx K mg base):Qa P w K mg base CX0 4 T.US T.G6 ["_law_pen", "_law_world_here"] (lift K Bi):=by
 refine okD T.GZ.F Vx (λ xs M Φ h=>by obtain ⟨_,_,rfl,_⟩:=ZK h; rfl) λ cdv A outer s H E hr=>⟨_,(Ze (Zo 2 Vx.nd (cO T.Zz (Zr T) hr (Za (Zb 0) (Za Zc Zd))))
 (Ze (Zo 3 Vx.nd (Zj Zx ((QW hr) (Zb 1) Zv) (cO T.Zz (Zr T) hr (Za (Zb 0) (Za ((QW hr) (Zb 1) Zv) Zd)))))
 (Ze (Zo 4 Vx.nd (Zh ((QW hr) (Zb 1) Zv) (cO T.Zz (Zr T) hr (Za (Zb 0) (Za (Zi QS rfl T.JL Qv (Za ((QW hr) (Zb 1) Zv) Zd)) Zd)))))
 (Ze (Qm (Z7 LX (Zb 2) Zc) (Zg (Zn (cO T.RO (ZaT T) hr (Za (Zb 0) (Za (Zb 1) (Za (Zb 3) Zd)))))) Zw)
 (Ze (Qm (Z7 (KJ hr) (Zb 2) Zc) (Zg (Zn (ZG (Za Zv (Za (Zb 3) (Za (Zh ((QW hr) (Zb 1) Zv) (cO T.Zz (Zr T) hr (Za (Zb 0) (Za (Zi QS rfl T.JL Qv (Za ((QW hr) (Zb 1) Zv) Zd)) Zd)))) Zd)))))) Zw)
 (Ze (Qm (Z7 (KJ hr) (Zb 2) Zc) (Zg (Zn (ZG (Za Zv (Za (Zb 3) (Za (Zb 4) Zd)))))) Zw)
 (Zg (Zn (ZG (Za Zv (Za (Zb 3) (Za (Zb 4) (Za (cO T.RL (Za5 T) hr (Za (Zb 0) (Za (Zb 1) Zd))) Zd))))))))))))),λ xs M Φ h=>?_⟩
 replace h:=ZK h;obtain ⟨x1,x2,rfl,h⟩:=h;replace h:=ZW h;obtain ⟨p,rfl,h⟩:=h;replace h:=ZW h;obtain ⟨q,rfl,hw,n1,hp,h⟩:=h;obtain ⟨f,ox,oy,bg,sp,ts,ls,hq,hf,hbg,hsp,hts,hls⟩:=id hw;walk_at "h";refine ⟨hp,λ r M1 a1 b1 f1=>?_⟩;have hq1:=f1.own hq n1;walk_at "h";simp only [hq1,T5,ZfD];walk_at "rk";refine ⟨⟨by lia,by lia⟩,f1.1,λ r2 M2 a2 b2 f2=>?_⟩;have hq2:=f2.own hq1 n1;have hl1:=hts.1;have hl2:=hls.1;walk_at "h";simp only [hq2,Nh];walk_at "rk";rw [List.length_map];refine ⟨⟨by lia,by lia⟩,f2.1,λ r3 M3 a3 b3 f3=>tabS (l:=ts) (λ s=>s ∈ ts) a3 b3 (λ s hs=>hs) λ nm mnm=>?_⟩;have hnm:=hts.2 nm mnm;have hq3:=f3.own hq2 n1;have F3:=(f1.trans f2).trans f3;have hw3:=hw.fr F3 n1;have ht:0 <= bg + r2 /\ bg + r2 <= 1000000000000:=by lia
 walk_at "h";refine Zk (λ z=>?_) λ z=>?_
 ·refine ⟨hw3,n1,f3.1,λ ln ou bs f' ox' oy' wb M4 hln hou hlw hbs hf' hwb f4=>?_⟩;exact h (.land (bg + r2) ln ou (bs.map (UL f' ox' oy')) wb) M4 ⟨⟨ht,hln⟩,hou,Tb hbs hf',hwb⟩ ((hlw.fr F3 n1).imp λ g e=>by rw [e]; exact TV hbs hf') (F3.trans f4)
 ·walk_at "h";refine Zk (λ z1=>?_) λ z1=>?_
  ·simp only [hq3,MF];walk_at "rk";rw [List.length_map];refine ⟨⟨by lia,by lia⟩,f3.1,λ r4 M4 a4 b4 f4=>tabS (l:=ls) (λ s=>s ∈ ls) a4 b4 (λ s hs=>hs) λ ln mln=>?_⟩;exact h (.off (Str.ofString "drop") (bg + r2) ln) M4 ⟨⟨ht,hls.2 ln mln⟩,.inl rfl⟩ (LsW.of hq trivial) (F3.trans f4)
  ·walk_at "h";refine Zk (λ z2=>?_) λ z2=>?_
   ·exact h (.off (Str.ofString "free") (bg + r2) nm) M3 ⟨⟨ht,hnm⟩,.inr rfl⟩ (LsW.of hq trivial) F3
   ·subst_vars;walk_at "rk";refine ⟨hw3,n1,f3.1,λ u v M4 hu hv f4=>?_⟩;exact h (.spot (bg + r2) nm u v) M4 ⟨⟨ht,hnm⟩,ZfR hu,ZfR hv⟩ (LsW.of hq ⟨hu,hv⟩) (F3.trans f4)
theorem W5 (T:Tx K mg base):Qa P w K mg base CX0 1 T.R9 T.Sl ["_law_found", "_law_due"] (lift K Ru):=by
 refine okD T.UC.F TQ (λ xs M Φ h=>by obtain ⟨_,_,rfl,_⟩:=ZK h; rfl) λ cdv A outer s H E hr=>⟨_,(Zg (Zn (Qt (QE (Fn hr) (Zb 0) (Zb 1)) (Jg (QE (Vd hr) (Zi (Oq hr) rfl T.Wj YA (Za (Zb 0) Zd)) (Zi (X0 hr) rfl T.Wj YA (Za (Zb 1) Zd))))))),λ xs M Φ h=>?_⟩;replace h:=ZK h;obtain ⟨x1,x2,rfl,h⟩:=h;obtain ⟨d,hx,rfl,⟨h1,h2,h3⟩,h⟩:=h
 rcases hx with rfl | ⟨q,ds,rfl,hq,rfl⟩
 ·walk_at "rk";rw [h2,if_pos rfl];refine ⟨h1,h3,h3,?_⟩;rw [show isS (PyData.str d.shown) d.shown = true from decide_eq_true rfl];exact h
 ·have h2:PyData.eqvAll ds ds = true:=h2;walk_at "rk";rw [hq];walk_at "rk";rw [h2,if_pos rfl];refine ⟨h1,h3,h3,?_⟩;rw [show isS (PyData.str (PyData.list ds).shown) (PyData.list ds).shown = true from decide_eq_true rfl];exact h
theorem Zag (T:Tx K mg base):Qa P w K mg base CX0 5 T.SO T.Ro ["_law_pen", "_law_world_here", "_law_most"] (lift K RU):=by
 refine okD T.SD.F ZbK (λ xs M Φ h=>by obtain ⟨_,_,_,rfl,_⟩:=QT h; rfl) λ cdv A outer s H E hr=>⟨_,(Zg (Zn (Qs true (ZE (sc:=Zf D5) (XN:=["_law_pen", "_law_world_here", "_law_most"]) (N:=["_law_k", "_law_pen", "_law_world_here"]) (ix:=[none,some 0,some 1]) rfl rfl (by walk_at "k")) (QP rfl T.Qh (Za (cO T.Zz (Zr T) hr (Za (Zb 0) (Za (Zj Zx (Zb 2) Zc) Zd))) Zd)) (λ C ex s H=>(Zp 0 (show List.Nodup (["_law_k", "_law_pen", "_law_world_here"]:List Str) by walk_at "k"))) (λ C ex s H=>Z8) (λ C ex s H=>(cO T.GZ (En T) hr (Za (Zb 1) (Za (Zb 2) Zd)))) rfl))),λ xs M Φ h=>?_⟩;replace h:=QT h;obtain ⟨x1,x2,x3,rfl,h⟩:=h;replace h:=ZW h;obtain ⟨p,rfl,h⟩:=h;replace h:=ZW h;obtain ⟨q,rfl,h⟩:=h;replace h:=Zt h;obtain ⟨m,rfl,rfl,hw,hne,hp,h⟩:=h;walk_at "rk";refine ⟨hp,λ r M1 r0 r1 f1=>⟨⟨by lia,by lia⟩,by rw [ZI]; lia,λ i acc M'=>∃ ts:List Tl,acc = ts.map tlD /\ ts.length = i /\ (∀ t ∈ ts,Wx t) /\ LsW M q (λ f=>∀ t ∈ ts,InF f t) /\ Fr p M M',⟨[],rfl,rfl,λ t ht=>(nomatch ht),λ _ _ _ _ _ _ _ _ t ht=>(nomatch ht),f1⟩,?_,?_⟩⟩
 ·rintro i d acc M' hd ⟨ts,rfl,hl,ht,hw2,hF⟩;refine ⟨hw.fr hF hne,hne,hF.1,λ x M2 hx hwx f2=>?_⟩;have hwx:=hwx.fr hF hne;refine ⟨ts ++ [x],by rw [List.map_append]; rfl,by rw [List.length_append,hl]; rfl,λ t m=>?_,λ f ox oy bg sp tn ln e t m=>?_,hF.trans f2⟩
  ·rcases List.mem_append.mp m with m | m
   ·exact ht t m
   ·rw [List.mem_singleton.mp m];exact hx
  ·rcases List.mem_append.mp m with m | m
   ·exact hw2 f ox oy bg sp tn ln e t m
   ·rw [List.mem_singleton.mp m];exact hwx f ox oy bg sp tn ln e
 ·rintro acc M' ⟨ts,rfl,hl,ht,hw2,hF⟩ s hs;rw [ZI] at hl;have sp:s ≠ p:=Ne.symm (hF.1.ne hs)
  exact h ts _ s (by lia) ht hw2 Zq (hF.fresh hs) (λ a ha hn=>by
   have e:=hF.2 a ha hn
   rw [Zs (λ z=>hn (by rw [<- e,z]; exact hs)),e]) (hF.1.put (Ne.symm sp)) sp
theorem Kb (T:Tx K mg base):Qa P w K mg base CX0 5 T.VJ T.VE ["box", "change"] (lift K (Ze1 P w K mg base)):=by
 refine okD T.VI.F Qc (λ xs M Φ h=>by obtain ⟨_,_,rfl,_⟩:=ZK h; rfl) λ cdv A outer s H E hr=>⟨_,(Ze (Zo 2 Qc.nd (Vv (P:=P) (w:=w) (K:=K) (mg:=mg) (base:=base) (Zb 1) (Za (Zh (Zb 0) Zc) Zd) hr))
 (Ze (Zo 3 Qc.nd (Vv (P:=P) (w:=w) (K:=K) (mg:=mg) (base:=base) (Zb 1) (Za (Zh (Zb 0) Zc) Zd) hr))
 (Ze (Zo 4 Qc.nd (ZG (Za (Zi (HB rfl) rfl T.Zet Sq (Za (Zh (Zb 2) Zc) (Za (Zh (Zb 3) Zc) Zd))) (Za (Zi (HB rfl) rfl T.Zet Sq (Za (Zh (Zb 2) Zc) (Za (Zh (Zb 3) Zc) Zd))) Zd))))
 (Ze (Zo 5 Qc.nd (ZG (Za (Zi (BI rfl) rfl T.Nt D7 (Za (Zh (Zb 2) Zc) (Za (Zh (Zb 3) Zc) Zd))) (Za (Zi (BI rfl) rfl T.Nt D7 (Za (Zh (Zb 2) Zc) (Za (Zh (Zb 3) Zc) Zd))) Zd))))
 (Zg (Zn (ZG (Za (Zb 4) (Za (Zb 5) Zd))))))))),λ xs M Φ h=>?_⟩
 replace h:=ZK h;obtain ⟨x1,x2,rfl,h⟩:=h;replace h:=Kd h;obtain ⟨b,rfl,h⟩:=h;replace h:=ZW h;obtain ⟨f,rfl,G,⟨fd,S,⟨ps,k,hk,F,hb⟩,hM,hS⟩,h⟩:=h;walk_at "h";refine ⟨fd,ps,S,k,hk,F,hb,hM,hS _ _ _ ?_⟩;walk_at "h";refine ⟨fd,ps,S,k,hk,F,hb,hM,hS _ _ _ ?_⟩;walk_at "h";walk_at "h";subst_vars;walk_at "rk";exact h
theorem Yc (T:Tx K mg base):Qa P w K mg base CX0 6 T.YV T.YZ ["telling", "change"] (lift K (Sx P w K mg base)):=by
 refine okD T.J8.F Uq (λ xs M Φ h=>by obtain ⟨_,_,rfl,_⟩:=ZK h; rfl) λ cdv A outer s H E hr=>⟨_,(Ze (Qm (Z7 (Vd hr) (Zh (Zb 0) Zc) Zv) (Zg (Zn (Zj Xh (V3 (Zb 0) YE (J5 Zc)) (ZG (Za (Vv (P:=P) (w:=w) (K:=K) (mg:=mg) (base:=base) (Zb 1) (Za (Zh (Zb 0) Zc) Zd) hr) Zd))))) Zw)
 (Ze (Qm (Z7 (Vd hr) (Zh (Zb 0) Zc) Zv) (Zg (Zn (Zj Xh (V3 (Zb 0) YE (J5 Zc)) (ZG (Za (QR Ja rfl T.JC QJ (Za (Qs false (ZE (sc:=Zf Jt) (XN:=["telling", "change"]) (N:=["box", "change"]) (ix:=[none,some 1]) rfl rfl (by walk_at "k")) (SE (Zh (Zb 0) Zc)) (λ C ex s H=>(Zp 0 (show List.Nodup (["box", "change"]:List Str) by walk_at "k"))) (λ C ex s H=>Z8) (λ C ex s H=>(cO T.VI (Kb (P:=P) (w:=w) (base:=base) T) hr (Za (Zb 0) (Za (Zb 1) Zd)))) rfl) Zd)) (Za (Zh (Zb 0) Zc) Zd)))))) Zw)
 (Zg (Zn (Zb 0))))),λ xs M Φ h=>?_⟩
 replace h:=ZK h;obtain ⟨x1,x2,rfl,h⟩:=h;obtain ⟨t,rfl,h⟩:=h;replace h:=ZW h;obtain ⟨f,rfl,hw,G,hC,h⟩:=h;obtain ⟨fd,S,⟨ps,k,hk,F,hb⟩,hM,hS⟩:=id hC;cases t with
 | land t nm ou bs wb=>
  have hw:bs.length <= 6:=hw;have len:=List.length_map (as:=bs) bD;unfold tlD;walk_at "h";rw [Zi4.1,if_neg Bool.false_ne_true];walk_at "h";rw [Zgi,if_pos rfl];refine ⟨by decide,by lia,λ i acc M'=>acc = (bs.take i).map (bxT G) /\ M' = M,⟨rfl,rfl⟩,?_,?_⟩
  ·rintro i d acc M' hd ⟨rfl,rfl⟩;obtain ⟨b,eb,rfl⟩:=Jx hd;walk_at "rk";exact ⟨b,rfl,G,hC,take_snoc _ eb,rfl⟩
  ·rintro acc M' ⟨rfl,rfl⟩;rw [len,List.take_length];walk_at "rk";exact ⟨Nat.le_of_ble_eq_true rfl,h⟩
 | spot t nm u v=>
  unfold tlD;walk_at "h";rw [ZhU,if_pos rfl];refine ⟨by decide,fd,ps,S,k,by lia,F,hb,hM,hS _ _ _ ?_⟩;exact ⟨Nat.le_of_ble_eq_true rfl,h⟩
 | off w t nm=>
  have nw:isS (.str w) (Str.ofString "land") = false /\ isS (.str w) (Str.ofString "spot") = false:=by
   rcases hw with rfl | rfl
   ·exact Zf7
   ·exact ZdM
  unfold tlD;walk_at "h";rw [nw.2,if_neg Bool.false_ne_true];walk_at "h";rw [nw.1,if_neg Bool.false_ne_true];subst_vars;walk_at "rk";exact h
theorem L1 {q:Str} {f c':Addr} {pm ct:Value} (hinj:∀ x y c,cl.lookup x = some c->cl.lookup y = some c->x = y) (hfr:∀ x c,cl.lookup x = some c->x ∈ (["dx", "dy"]:List Str)) (hnd:∀ q ∈ cl,cl.lookup q.1 = some q.2) :
  Qa P w K mg base CX0 1 f (PySem.W.kla_fn "<lambda>" q (Fg Jw) (Fd Jw) (Bn Jw) cl pm (.ref c') ct) ["spot"] (lift K (LU f c' (PySem.W.kla_fn "<lambda>" q (Fg Jw) (Fd Jw) (Bn Jw) cl pm (.ref c') ct) q 1 ["dx", "dy"] cl
   (λ xs cxs M Φ=>∃ u v dx dy,xs = [.dat (.tuple [.int u,.int v])] /\ cxs = [.dat (.int dx),.dat (.int dy)] /\ Φ (.dat (.tuple [.int (u + dx),.int (v + dy)])) M))):=by
 refine Zgx PN hinj hfr hnd λ A outer s H hr=>⟨_,(ZG (Za (Zj Zx (Zh (Zb 0) Zc) (Zb 1)) (Za (Zj Zx (Zh (Zb 0) Zc) (Zb 2)) Zd))),λ xs cxs M Φ h=>?_⟩;obtain ⟨u,v,dx,dy,rfl,rfl,h⟩:=h;walk_at "rk";exact h
theorem LA {q:Str} {f c' a1 a2:Addr} {o1 o2:Obj} {pm ct:Value} {M:Mp} (hinj:∀ x y c,cl.lookup x = some c->cl.lookup y = some c->x = y) (hfr:∀ x c,cl.lookup x = some c->x ∈ (["dx", "dy"]:List Str)) (hnd:∀ q ∈ cl,cl.lookup q.1 = some q.2)
  (hF:M f = some (.ext (YC f (PySem.W.kla_fn "<lambda>" q (Fg Jw) (Fd Jw) (Bn Jw) cl pm (.ref c') ct)))) (hC:M c' = some (.ext (Gx c' q))) (h1:cl.lookup (Str.ofString "dx") = some a1 /\ M a1 = some (.ext (JT a1 o1)) /\ JW o1 (.dat (.int dx))) (h2:cl.lookup (Str.ofString "dy") = some a2 /\ M a2 = some (.ext (JT a2 o2)) /\ JW o2 (.dat (.int dy))) :
  Chg P w K mg base 4 f (λ u v=>(u + dx,v + dy)) M:=by
 refine ⟨_,_,⟨["spot"],1,by decide,L1 hinj hfr hnd,λ s us hl=>?_⟩,hF,λ u v Φ h=>⟨rfl,hF,hC,[.dat (.int dx),.dat (.int dy)],rfl,λ i x y e1 e2=>?_,u,v,dx,dy,rfl,rfl,?_⟩⟩
 ·match us,hl with
  | [u],_=>exact .of_eq rfl
 ·match i,e1,e2 with
  | 0,e1,e2=>cases e1; cases e2; exact ⟨a1,o1,h1⟩
  | 1,e1,e2=>cases e1; cases e2; exact ⟨a2,o2,h2⟩
  | i + 2,e1,_=>simp at e1
 ·show Φ _ (XM M (JZ M _) _);rw [Vs];exact h
theorem EB (T:Tx K mg base):Qa P w K mg base CX0 9 T.GS T.GL ["tellings"] (lift K Zgb):=by
 refine okD T.U3.F EN (λ xs M Φ h=>by obtain ⟨_,rfl,_⟩:=Zu h; rfl) λ cdv A outer s H E hr=>⟨_,(Ze (Qm (QD (QY (Hq [0] (Zi (Dw rfl) rfl T.NP Dk (Za (Qs false (ZE (sc:=Zf Ye) (XN:=["tellings"]) (N:=["telling"]) (ix:=[none]) rfl rfl (by walk_at "k")) (Ko (Zb 0)) (λ C ex s H=>(Zp 0 (show List.Nodup (["telling"]:List Str) by walk_at "k"))) (λ C ex s H=>Z8) (λ C ex s H=>(cO T.Y0 (WJ T) hr (Za (Zb 0) Zd))) rfl) Zd))))) (Zg Dm) Zw)
 (Zg (Zn (Zb 0)))),λ xs M Φ h=>?_⟩
 replace h:=Zu h;obtain ⟨x1,rfl,h⟩:=h;obtain ⟨q,ts,rfl,hq,hts,h⟩:=h;walk_at "h";refine ⟨.list (ts.map tlD),.lst hq,?_⟩;walk_at "rk";have len:=List.length_map (as:=ts) tlD;have l20:=hts.1;refine ⟨by lia,λ i acc M'=>acc = (List.replicate i true).map PyData.bool /\ M' = (λ _=>none),⟨rfl,rfl⟩,?_,?_⟩
 ·rintro i d acc M' hd ⟨rfl,rfl⟩;obtain ⟨x,ex,rfl⟩:=Jx hd;obtain ⟨a,b⟩:=hts.2 x (List.mem_of_getElem? ex);refine ⟨b,?_,rfl⟩;rw [a,List.replicate_succ',List.map_append];rfl
 ·rintro acc M' ⟨rfl,rfl⟩;refine ⟨List.replicate _ true,rfl,?_⟩;rw [Ml];walk_at "rk";refine ⟨rfl,?_⟩;subst_vars;walk_at "rk";exact h
theorem lk2 {p q:Str} (h:List.lookup x [(p,b),(q,a)] = some c):(x = p /\ c = b) \/ (x = q /\ c = a):=by
 rw [List.lookup_cons] at h
 by_cases e:x = p
 ·rw [e,beq_self_eq_true] at h;cases h;exact .inl ⟨e,rfl⟩
 ·rw [beq_false_of_ne e] at h;rw [List.lookup_cons] at h
  by_cases e2:x = q
  ·rw [e2,beq_self_eq_true] at h;cases h;exact .inr ⟨e2,rfl⟩
  ·rw [beq_false_of_ne e2] at h;cases h
theorem Lu {p q:Str} (n:a ≠ b):∀ x y c,List.lookup x [(p,b),(q,a)] = some c->List.lookup y [(p,b),(q,a)] = some c->x = y:=λ x y c h1 h2=>by
 rcases lk2 h1 with ⟨rfl,rfl⟩ | ⟨rfl,rfl⟩
 ·rcases lk2 h2 with ⟨rfl,_⟩ | ⟨_,e⟩
  ·rfl
  ·exact absurd e.symm n
 ·rcases lk2 h2 with ⟨_,e⟩ | ⟨rfl,_⟩
  ·exact absurd e n
  ·rfl
theorem WE (T:Tx K mg base):Qa P w K mg base CX0 12 T.Mn T.Cw ["tellings", "dx", "dy"] (lift K (Zfb T)):=by
 refine okL T.Ul.F Oa (λ xs M Φ h=>by obtain ⟨_,_,_,rfl,_⟩:=QT h; rfl) λ A outer s H E hr hu=>⟨_,(Zg (Zn (cO T.U3 (EB T) hr (Za (Qs true (ZE (sc:=Zf Kg) (XN:=["tellings", "dx", "dy"]) (N:=["telling", "dx", "dy"]) (ix:=[none,some 1,some 2]) rfl rfl (by walk_at "k")) (Ko (Zb 0)) (λ C ex s H=>(Zp 0 (show List.Nodup (["telling", "dx", "dy"]:List Str) by walk_at "k"))) (λ C ex s H=>Z8) (λ C ex s H=>(cL T.J8 (Yc (P:=P) (w:=w) (base:=base) T) hr (Qq "dx" (Qq "dy" Vf)) (Za (Zb 0) (Za (WN (Qq "dx" (Qq "dy" Vf)) T.Xi T.Xg T.bm) Zd)))) rfl) Zd)))),λ xs M Φ h=>?_⟩;replace h:=QT h;obtain ⟨x1,x2,x3,rfl,h⟩:=h;obtain ⟨ts,rfl,h⟩:=h;replace h:=Zt h;obtain ⟨dx,rfl,h⟩:=h;replace h:=Zt h;obtain ⟨dy,rfl,⟨hl,hw,hk⟩,hT,h⟩:=h;have len:=List.length_map (as:=ts) tlD;walk_at "rk";refine ⟨by lia,λ i acc M'=>acc = ((ts.take i).map (chT λ u v=>(u + dx,v + dy))).map tlD /\ Kp T M M',⟨rfl,Kp.refl hT⟩,?_,?_⟩
 ·rintro i d acc M' hd ⟨rfl,hF⟩;obtain ⟨t,et,rfl⟩:=Jx hd;walk_at "rk";refine ⟨Xn hu rfl λ q hq=>?_,Xo hF.1.1.1 hF.1.ne λ f c' M1 pm ct hf hc nf hM hT1=>?_⟩
  ·simp only [List.mem_cons,List.not_mem_nil,or_false] at hq
   rcases hq with rfl | rfl
   ·exact Nat.lt_succ_self _
   ·exact Nat.lt_succ_of_lt (Nat.lt_succ_self _)
  ·intro ob hn hob;have nf:∀ a ≠ f,True:=λ _ _=>trivial;have out:∀ {a:Addr} {o:OO},M1 a = some o->Ke M1 _ ob a = some o:=λ {a o} e=>(Qg λ z=>by rw [hn a z] at e; cases e).trans e;refine (show ∃ t0,DV.dat (tlD t) = .dat (tlD t0) /\ (TlW t0 /\ ∃ G,Chg P w K mg base 4 f G _ /\ _) from ⟨t,rfl,hw t (List.mem_of_getElem? et),_,LA (Lu ?_) (λ x c e=>?_) (λ q hq=>?_) (out hf) (out hc) ⟨rfl,QA (by simp),hob _ List.mem_cons_self 1 _ rfl rfl trivial⟩ ⟨rfl,QA (by simp),hob _ (List.mem_cons_of_mem _ List.mem_cons_self) 2 _ rfl rfl trivial⟩,λ c hc=>QA hc,?_,?_⟩)
   ·exact Nat.ne_of_lt (Nat.lt_succ_self _)
   ·rcases lk2 e with ⟨rfl,_⟩ | ⟨rfl,_⟩
    ·simp
    ·simp
   ·simp only [List.mem_cons,List.not_mem_nil,or_false] at hq
    rcases hq with rfl | rfl
    ·rfl
    ·rfl
   ·rw [MA,List.map_map,List.map_map];exact take_snoc _ et
   ·rw [K0 hn];exact hF.trans (Ov hF.1 hM hT1)
 ·rintro acc M' ⟨rfl,hF⟩ p hp;rw [len,List.take_length];exact ⟨p,ts.map (chT λ u v=>(u + dx,v + dy)),rfl,Zq,hk,NV (h _ p (hF.fresh hp) Zq (hF.new hp))⟩
theorem KQ (T:Tx K mg base):Qa P w K mg base CX0 1 T.V4 T.Yk ["spot", "number"] (lift K CD):=by
 refine okD T.Yf.F Jz (λ xs M Φ h=>by obtain ⟨_,_,rfl,_⟩:=ZK h; rfl) λ cdv A outer s H E hr=>⟨_,(Ze (Zo 2 Jz.nd (ZbR (Tg (Zj FV (Zb 1) (Q3 rfl T.OV))) (Dc (Zh (Zb 0) Zc)) (Zh (Zb 0) Zc)))
 (Ze (Zo 3 Jz.nd (ZbR (Tg (Zj FV (Zb 1) (Q3 rfl T.Pp))) (Dc (Zh (Zb 0) Zc)) (Zh (Zb 0) Zc)))
 (Zg (Zn (ZbR (Tg (Zj FV (Zb 1) (Q3 rfl T.BY))) (ZG (Za (Zb 3) (Za (Zb 2) Zd))) (ZG (Za (Zb 2) (Za (Zb 3) Zd)))))))),λ xs M Φ h=>?_⟩
 replace h:=ZK h;obtain ⟨x1,x2,rfl,h⟩:=h;replace h:=MQ h;obtain ⟨u,v,rfl,h⟩:=h;replace h:=Zt h;obtain ⟨n,rfl,⟨h0,h1⟩,h⟩:=h;walk_at "h";rw [ZgM h0 h1];have fin:∀ x y,x = tnX n u->y = tnY n v->(if decide (3 < n) = true then Φ (.dat (.tuple [.int y,.int x])) M else Φ (.dat (.tuple [.int x,.int y])) M):=λ x y e1 e2=>by
  subst e1 e2;unfold tnG at h
  by_cases z:3 < n
  ·rw [if_pos z] at h;rw [if_pos (decide_eq_true z)];exact h
  ·rw [if_neg z] at h;rw [decide_eq_false z,if_neg Bool.false_ne_true];exact h
 have mid:∀ x,x = tnX n u->(if decide (n = 2 \/ n = 3 \/ n = 6 \/ n = 7) = true then (if decide (3 < n) = true then Φ (.dat (.tuple [.int (-v),.int x])) M else Φ (.dat (.tuple [.int x,.int (-v)])) M) else (if decide (3 < n) = true then Φ (.dat (.tuple [.int v,.int x])) M else Φ (.dat (.tuple [.int x,.int v])) M)):=λ x e=>
  Zk (λ z=>fin x _ e (by unfold tnY; rw [if_pos z])) λ z=>fin x _ e (by unfold tnY; rw [if_neg z])
 refine Zk (λ z=>?_) λ z=>?_
 ·have m:=mid (-u) (by unfold tnX; rw [if_pos z]);walk_at "h";rw [ZcL h0 h1];subst_vars;walk_at "rk";rw [Zcj h0 h1];exact m
 ·have m:=mid u (by unfold tnX; rw [if_neg z]);walk_at "h";rw [ZcL h0 h1];subst_vars;walk_at "rk";rw [Zcj h0 h1];exact m
theorem Zjw {n:Int}:(decide (1 = n) || (decide (3 = n) || (decide (5 = n) || decide (7 = n)))) = decide (n = 1 \/ n = 3 \/ n = 5 \/ n = 7):=by
 rw [Bool.eq_iff_iff];simp only [Bool.or_eq_true,decide_eq_true_eq];constructor <;> (intro h; lia)
theorem ZiS {n:Int}:(decide (2 = n) || (decide (3 = n) || (decide (6 = n) || decide (7 = n)))) = decide (n = 2 \/ n = 3 \/ n = 6 \/ n = 7):=by
 rw [Bool.eq_iff_iff];simp only [Bool.or_eq_true,decide_eq_true_eq];constructor <;> (intro h; lia)
theorem JX (T:Tx K mg base):Qa P w K mg base CX0 1 T.Vk T.J3 ["_law_spot_here", "_law_number"] (lift K CD):=by
 refine okD T.Je.F Z6 (λ xs M Φ h=>by obtain ⟨_,_,rfl,_⟩:=ZK h; rfl) λ cdv A outer s H E hr=>⟨_,(Ze (Kz (Zb 0) (YT (n:=2) rfl (ZV (Zp 2 Z6.nd) (ZV (Zp 3 Z6.nd) Vg))))
 (Ze (Qm (Z7 (Zen hr) (Zb 1) (ZG (Za Zc (Za Zc (Za Zc (Za Zc Zd)))))) (Zg (Zo 2 Z6.nd (Zj Qp Zc (Zb 2)))) Zw)
 (Ze (Qm (Z7 (Zen hr) (Zb 1) (ZG (Za Zc (Za Zc (Za Zc (Za Zc Zd)))))) (Zg (Zo 3 Z6.nd (Zj Qp Zc (Zb 3)))) Zw)
 (Zg (Zn (Zh (QC (Za (ZG (Za (Zb 2) (Za (Zb 3) Zd))) (Za (ZG (Za (Zb 3) (Za (Zb 2) Zd))) Zd))) (QR ZcH rfl T.ZdY Sk (Za (QE ZbS (Zb 1) Zc) Zd)))))))),λ xs M Φ h=>?_⟩
 replace h:=ZK h;obtain ⟨x1,x2,rfl,h⟩:=h;replace h:=MQ h;obtain ⟨u,v,rfl,h⟩:=h;replace h:=Zt h;obtain ⟨n,rfl,⟨h0,h1⟩,h⟩:=h;walk_at "h";walk_at "h";rw [Zjw];have fin:∀ x y,x = tnX n u->y = tnY n v->Ky [PyData.tuple [.int x,.int y],PyData.tuple [.int y,.int x]] (if decide (3 < n) = true then 1 else 0) λ e=>Φ (.dat e) M:=λ x y e1 e2=>by
  subst e1 e2;unfold tnG at h
  by_cases z:3 < n
  ·rw [if_pos z] at h;rw [if_pos (decide_eq_true z)];exact h
  ·rw [if_neg z] at h;rw [decide_eq_false z,if_neg Bool.false_ne_true];exact h
 have mid:∀ x,x = tnX n u->(okIn (PyData.int n) [PyData.int 2,PyData.int 3,PyData.int 6,PyData.int 7] = true /\ (if decide (n = 2 \/ n = 3 \/ n = 6 \/ n = 7) = true then (Ky [PyData.tuple [.int x,.int (0 - v)],PyData.tuple [.int (0 - v),.int x]] (if decide (3 < n) = true then 1 else 0) λ e=>Φ (.dat e) M) else (Ky [PyData.tuple [.int x,.int v],PyData.tuple [.int v,.int x]] (if decide (3 < n) = true then 1 else 0) λ e=>Φ (.dat e) M))):=λ x e=>
  ⟨rfl,Zk (λ z=>fin x _ e (by unfold tnY; rw [if_pos z]; lia)) λ z=>fin x _ e (by unfold tnY; rw [if_neg z])⟩
 refine ⟨rfl,Zk (λ z=>?_) λ z=>?_⟩
 ·have m:=mid (0 - u) (by unfold tnX; rw [if_pos z]; lia);walk_at "h";rw [ZiS];subst_vars;walk_at "rk";exact m
 ·have m:=mid u (by unfold tnX; rw [if_neg z]);walk_at "h";rw [ZiS];subst_vars;walk_at "rk";exact m
noncomputable def Zfr:List Stmt->Expr
 | [_,.Return (some (.ListComp (.Call _ [_,l] _ _) _ _ _)) _]=>l
 | _=>.Constant .none 0 ⟨0,0,0,0⟩
noncomputable abbrev QI:Expr:=Zfr (Qr V8)
theorem L6:JJ ["spot", "number"] ["spot"] ["number"] (Bn QI):=⟨rfl,rfl,rfl,by walk_at "k",rfl,by walk_at "k",by walk_at "k",by walk_at "k",by walk_at "k"⟩
theorem lk1 {p:Str} (h:List.lookup x [(p,a)] = some c):x = p /\ c = a:=by
 rw [List.lookup_cons] at h
 by_cases e:x = p
 ·rw [e,beq_self_eq_true] at h;cases h;exact ⟨e,rfl⟩
 ·rw [beq_false_of_ne e] at h;cases h
theorem Xq (p:Str) (a:Addr):List.lookup p [(p,a)] = some a:=by rw [List.lookup_cons,beq_self_eq_true]
theorem EC (T:Tx K mg base) {q:Str} {f c' a:Addr} {pm ct:Value} :
  Qa P w K mg base CX0 2 f (PySem.W.kla_fn "<lambda>" q (Fg QI) (Fd QI) (Bn QI) [("number",a)] pm (.ref c') ct) ["spot"] (lift K (LU f c' (PySem.W.kla_fn "<lambda>" q (Fg QI) (Fd QI) (Bn QI) [("number",a)] pm (.ref c') ct) q 1 ["number"] [("number",a)]
   (λ xs cxs M Φ=>∃ u v n,xs = [.dat (.tuple [.int u,.int v])] /\ cxs = [.dat (.int n)] /\ (0 <= n /\ n <= 7) /\ Φ (.dat (.tuple [.int (tnG n u v).1,.int (tnG n u v).2])) M))):=by
 refine Zgx L6 (λ x y c h1 h2=>(lk1 h1).1.trans (lk1 h2).1.symm) (λ x c h=>by rw [(lk1 h).1]; exact List.mem_cons_self) (λ q hq=>by rw [List.mem_singleton.mp hq]; exact Xq _ _) λ A outer s H hr=>⟨_,(cO T.Yf (KQ T) hr (Za (Zb 0) (Za (Zb 1) Zd))),λ xs cxs M Φ h=>?_⟩;obtain ⟨u,v,n,rfl,rfl,hn,h⟩:=h;walk_at "rk";exact ⟨hn,h⟩
theorem E4 (T:Tx K mg base) {q:Str} {f c' a:Addr} {o:Obj} {pm ct:Value} {M:Mp} {n:Int} (hn:0 <= n /\ n <= 7)
  (hF:M f = some (.ext (YC f (PySem.W.kla_fn "<lambda>" q (Fg QI) (Fd QI) (Bn QI) [("number",a)] pm (.ref c') ct)))) (hC:M c' = some (.ext (Gx c' q))) (h1:M a = some (.ext (JT a o)) /\ JW o (.dat (.int n))) :
  Chg P w K mg base 4 f (tnG n) M:=by
 refine ⟨_,_,⟨["spot"],2,by decide,EC T,λ s us hl=>?_⟩,hF,λ u v Φ h=>⟨rfl,hF,hC,[.dat (.int n)],rfl,λ i x y e1 e2=>?_,u,v,n,rfl,rfl,hn,?_⟩⟩
 ·match us,hl with
  | [u],_=>exact .of_eq rfl
 ·match i,e1,e2 with
  | 0,e1,e2=>cases e1; cases e2; exact ⟨a,o,Xq _ _,h1⟩
  | i + 1,e1,_=>simp at e1
 ·show Φ _ (XM M (JZ M _) _);rw [Vs];exact h
theorem Ll {T:Tx K mg base} {M1:Mp} (h:Q7 T M) (k:∀ a,a ≠ T.Jh->M a ≠ none->M1 a = M a) (t:Xd (tbs T) M1 T.Jh K7 De):Kp T M M1:=by
 have d:=T.kd;simp only [List.nodup_cons,List.mem_cons,List.not_mem_nil,or_false,not_or] at d;have out:∀ a,a ∉ tbs T->M a ≠ none->M1 a = M a:=λ a na ha=>k a (λ z=>na (by rw [z]; simp)) ha;have go:∀ {p pos q},p ≠ T.Jh->Xd (tbs T) M p pos q->Xd (tbs T) M1 p pos q:=λ {p pos q} hp h=>h.keep (k p hp (by obtain ⟨l,e⟩:=h.some; rw [e]; exact Option.some_ne_none _)) out;exact ⟨⟨⟨go d.1.1 h.1.1,t⟩,go (Ne.symm d.2.1.1) h.2.1,go (Ne.symm d.2.1.2) h.2.2⟩,out⟩
theorem XH (T:Tx K mg base):Qa P w K mg base CX0 12 T.C0 T.Um ["tellings", "number"] (lift K (Zci T)):=by
 refine okL T.Xk.F Lm (λ xs M Φ h=>by obtain ⟨_,_,rfl,_⟩:=ZK h; rfl) λ A outer s H E hr hu=>⟨_,(Ze (Qm (DW.dt (GV (QD (QY (cO T.Jb (Jf T) hr (Za (Zb 1) Zd)))) (Y2 (QD (WR YO YO Zc (Zb 1) (Q3 rfl T.BZ)))))) (Zg Dm) Zw)
 (Zg (Zn (Qs true (ZE (sc:=Zf V8) (XN:=["tellings", "number"]) (N:=["telling", "number"]) (ix:=[none,some 1]) rfl rfl (by walk_at "k")) (Ko (Zb 0)) (λ C ex s H=>(Zp 0 (show List.Nodup (["telling", "number"]:List Str) by walk_at "k"))) (λ C ex s H=>Z8) (λ C ex s H=>(cL T.J8 (Yc (P:=P) (w:=w) (base:=base) T) hr (Qq "number" Vf) (Za (Zb 0) (Za (WN (Qq "number" Vf) T.Ym T.V2 T.bm) Zd)))) rfl)))),λ xs M Φ h=>?_⟩
 replace h:=ZK h;obtain ⟨x1,x2,rfl,h⟩:=h;obtain ⟨ts,rfl,h⟩:=h;replace h:=Zt h;obtain ⟨n,rfl,⟨hl,hw,h0,h1⟩,hT,h⟩:=h;have len:=List.length_map (as:=ts) tlD;walk_at "h";rw [if_neg (show ¬ (!ZN (PyData.int n)) = true from Bool.false_ne_true),if_pos (decide_eq_true h0),if_neg (by rw [decide_eq_true h1]; exact Bool.false_ne_true)];subst_vars;walk_at "rk";refine ⟨by lia,λ i acc M'=>acc = ((ts.take i).map (chT (tnG n))).map tlD /\ Kp T M M',⟨rfl,Kp.refl hT⟩,?_,?_⟩
 ·rintro i d acc M' hd ⟨rfl,hF⟩;obtain ⟨t,et,rfl⟩:=Jx hd;walk_at "rk";refine ⟨Xn hu rfl λ q hq=>?_,Xo hF.1.1.2 hF.1.ne λ f c' M1 pm ct hf hc nf hM hT1=>?_⟩
  ·rw [List.mem_singleton.mp hq];exact Nat.lt_succ_self _
  ·intro ob hn hob;have out:∀ {a:Addr} {o:OO},M1 a = some o->Ke M1 _ ob a = some o:=λ {a o} e=>(Qg λ z=>by rw [hn a z] at e; cases e).trans e;refine (show ∃ t0,DV.dat (tlD t) = .dat (tlD t0) /\ (TlW t0 /\ ∃ G,Chg P w K mg base 4 f G _ /\ _) from ⟨t,rfl,hw t (List.mem_of_getElem? et),_,E4 T ⟨h0,h1⟩ (out hf) (out hc) ⟨QA List.mem_cons_self,hob _ List.mem_cons_self 1 _ rfl rfl trivial⟩,λ c hc=>QA hc,?_,?_⟩)
   ·rw [MA,List.map_map,List.map_map];exact take_snoc _ et
   ·rw [K0 hn];exact hF.trans (Ll hF.1 hM hT1)
 ·rintro acc M' ⟨rfl,hF⟩ p hp;rw [len,List.take_length];exact NV (h _ p (hF.fresh hp) Zq (hF.new hp))
def ZgL (P:Program) (w:World) (K:Fk) (mg:Str->Option Value) (base:Heap) (f:Addr) (G:Int->Int->Int × Int) (M:Mp):Prop:=∀ M':Mp,(∀ a φ,M a = some (.ext φ)->M' a = some (.ext φ))->Chg P w K mg base 4 f G M'
def Zam (P:Program) (w:World) (K:Fk) (mg:Str->Option Value) (base:Heap):DSp:=λ xs M Φ=>on2 xs λ x y=>Xb x λ ts=>onO y λ f=>(ts.length <= 20 /\ ∀ t ∈ ts,TlW t) /\ ∃ G,ZgL P w K mg base f G M /\ ∀ M',(∀ a,M a ≠ none->M' a = M a)->Φ (.dat (.list ((ts.map (chT G)).map tlD))) M'
theorem ZfJ {a b:Int} (h:ns.Perm [a,b]) (s:ns.Pairwise (· <= ·)):ns = [min a b,max a b]:=by
 match ns,h.length_eq,h,s with
 | [c,d],_,h,s=>
  have hcd:c <= d:=by
   rw [List.pairwise_cons] at s;exact s.1 d List.mem_cons_self
  have two:(c = a /\ d = b) \/ (c = b /\ d = a):=by
   have hc:c ∈ [a,b]:=h.mem_iff.mp List.mem_cons_self
   rcases List.mem_cons.mp hc with rfl | hc
   ·exact .inl ⟨rfl,by have:=(List.perm_cons c).mp h; simpa using this⟩
   ·cases List.mem_singleton.mp hc;exact .inr ⟨rfl,by have:=(List.perm_cons b).mp (h.trans (List.Perm.swap b a [])); simpa using this⟩
  rcases two with ⟨rfl,rfl⟩ | ⟨rfl,rfl⟩
  ·rw [Int.min_eq_left hcd,Int.max_eq_right hcd]
  ·rw [Int.min_eq_right hcd,Int.max_eq_left hcd]
theorem WA {g:DTG} {tb:DTS} {D:Z9} (h:∀ TB:DTS,TB = tb->GJ g TB D ds Δ M):GJ g tb D ds Δ M:=h tb rfl
theorem KS (T:Tx K mg base):Qa P w K mg base CX0 6 T.UP T.GO ["_law_tellings", "_law_change"] (lift K (Zam P w K mg base)):=by
 refine okD T.Kq.F ZY (λ xs M Φ h=>by obtain ⟨_,_,rfl,_⟩:=ZK h; rfl) λ cdv A outer s H E hr=>⟨_,(Ze (Zo 2 ZY.nd (VR Zd))
 (Ze (FF (Zb 0) (Zp 3 ZY.nd) (Ze (Qm (Z7 (Vd hr) (Zh (Zb 3) Zc) Zv) (Zg (Zo 3 ZY.nd (Zj Xh (V3 (Zb 3) YE (J5 Zc)) (ZG (Za (Vv (P:=P) (w:=w) (K:=K) (mg:=mg) (base:=base) (Zb 1) (Za (Zh (Zb 3) Zc) Zd) hr) Zd))))) (Zg (Qm (Z7 (Vd hr) (Zh (Zb 3) Zc) Zv) (Ze (Zo 4 ZY.nd (VR Zd))
 (Ze (Zac (Zh (Zb 3) Zc) (YT (n:=2) rfl (ZV (Zp 5 ZY.nd) (ZV (Zp 6 ZY.nd) Vg))) (Ze (Kz (ZG (Za (Vv (P:=P) (w:=w) (K:=K) (mg:=mg) (base:=base) (Zb 1) (Za (Zb 5) Zd) hr) (Za (Vv (P:=P) (w:=w) (K:=K) (mg:=mg) (base:=base) (Zb 1) (Za (Zb 6) Zd) hr) Zd))) (YT (n:=2) rfl (ZV (Zp 8 ZY.nd) (ZV (Zp 9 ZY.nd) Vg))))
 (Ze (C8 7 false ZY.nd (ZE (sc:=Zf Yg) (XN:=["_law_tellings", "_law_change", "_law_found", "_law_one", "_law_boxes_here", "_law_low", "_law_high", "_law_ways", "_law_first", "_law_last"]) (N:=["_law_w", "_law_first", "_law_last"]) (ix:=[none,some 8,some 9]) rfl rfl (by walk_at "k")) (QP rfl T.Qh (Za Zc Zd)) (λ C ex s H=>(Zp 0 (show List.Nodup (["_law_w", "_law_first", "_law_last"]:List Str) by walk_at "k"))) (λ C ex s H=>Z8) (λ C ex s H=>(Zi ED rfl T.W6 Kw (Za (QC (Za (Zh (Zb 1) (Zb 0)) (Za (Zh (Zb 2) (Zb 0)) Zd))) Zd))) rfl)
 (Zg (JM (Jl (Zb 4) (ZG (Za (ZG (Za (Zh (Zh (Zb 7) Zc) Zc) (Za (Zh (Zh (Zb 7) Zc) Zc) Zd))) (Za (ZG (Za (Zh (Zh (Zb 7) Zc) Zc) (Za (Zh (Zh (Zb 7) Zc) Zc) Zd))) Zd)))))))) PassesOwn.never rfl)
 (Zg (Zo 3 ZY.nd (Zj Xh (V3 (Zb 3) YE (J5 Zc)) (ZG (Za (QR Ja rfl T.JC QJ (Za (La (Zb 4)) Zd)) (Za (Zh (Zb 3) Zc) Zd)))))))) Zw)))
 (Zg (JM (Jl (Zb 2) (Zb 3))))) PassesOwn.never rfl)
 (Zg (Zn (La (Zb 2)))))),λ xs M Φ h=>?_⟩
 replace h:=ZK h;obtain ⟨x1,x2,rfl,h⟩:=h;obtain ⟨ts,rfl,h⟩:=h;replace h:=ZW h;obtain ⟨f,rfl,⟨hl,hw⟩,G,hC,h⟩:=h;have len:=List.length_map (as:=ts) tlD;walk_at "h";intro q hq;walk_at "h";refine WA λ TB hTB=>?_;refine ⟨λ i Δ M'=>∃ k3 k4 k5 k6 k7 k8 k9,Δ = [some (.dat (.list (ts.map tlD))),some (.own f),some (.own q),k3,k4,k5,k6,k7,k8,k9] /\ (∀ a,a ≠ q->M a ≠ none->M' a = M a) /\ M' q = some (.lst (((ts.take i).map (chT G)).map tlD)),⟨_,_,_,_,_,_,_,rfl,λ a na _=>Zs na,Zq⟩,?_,?_⟩
 ·rintro i d Δ M' hd ⟨k3,k4,k5,k6,k7,k8,k9,rfl,hM,hq'⟩;obtain ⟨x,ex,rfl⟩:=Jx hd;have hwx:=hw x (List.mem_of_getElem? ex);have fin:=take_snoc (tlD ∘ chT G) ex;have sz:(((ts.take i).map (chT G)).map tlD).length < 16777216:=by
   rw [List.length_map,List.length_map,List.length_take];lia
  rw [<- List.map_map,<- List.map_map] at fin;have kp:∀ a φ,M a = some (.ext φ)->M' a = some (.ext φ):=λ a φ e=>(hM a (λ z=>by rw [z,hq] at e; cases e) (by rw [e]; exact Option.some_ne_none _)).trans e;generalize hacc:((ts.take i).map (chT G)).map tlD = acc at *;cases x with
  | land t nm ou bs wb=>
   rw [show tlD (.land t nm ou bs wb) = .tuple [.str (Str.ofString "land"),.int t,.str nm,.str ou,.tuple (bs.map bD),.int wb] from rfl];walk_at "rk";subst hTB;refine Ve λ E hE=>?_;refine Jm λ R hR=>?_;refine ZZ λ A B hA hB=>?_;walk_at "rk";rw [Zi4.1,if_neg Bool.false_ne_true];subst hB;refine ZZ λ A2 B2 hA2 hB2=>?_;walk_at "rk";rw [Zgi,if_pos rfl];subst hA2;refine Jm λ R2 hR2=>?_;walk_at "rk";intro p hp;have np:p ≠ q:=λ z=>by rw [z,hq'] at hp; cases hp
   subst hR2;refine Jm λ R3 hR3=>?_;walk_at "rk";refine WA λ TB2 hTB2=>?_;have hbs:bs.length <= 6:=hwx;have lenb:=List.length_map (as:=bs) bD;refine ⟨λ j Δ' M2=>∃ j5 j6 j7 j8 j9,Δ' = [some (.dat (.list (ts.map tlD))),some (.own f),some (.own q),some (.dat (.tuple [.str (Str.ofString "land"),.int t,.str nm,.str ou,.tuple (bs.map bD),.int wb])),some (.own p),j5,j6,j7,j8,j9] /\ (∀ a,a ≠ p->M' a ≠ none->M2 a = M' a) /\ M2 p = some (.lst ((bs.take j).map (bxT G))),⟨_,_,_,_,_,rfl,λ a na _=>Zs na,Zq⟩,?_,?_⟩
   ·rintro j d Δ' M2 hd' ⟨j5,j6,j7,j8,j9,rfl,hM2,hp2⟩;obtain ⟨b,eb,rfl⟩:=Jx hd';have kp2:∀ a φ,M a = some (.ext φ)->M2 a = some (.ext φ):=λ a φ e=>by
     have e':=kp a φ e;exact (hM2 a (λ z=>by rw [z,hp] at e'; cases e') (by rw [e']; exact Option.some_ne_none _)).trans e'
    obtain ⟨fd,S,⟨ps,k,hk,F,hb⟩,hMf,hS⟩:=hC M2 kp2;walk_at "rk";subst hTB2;refine Ve λ E2 hE2=>?_;refine Jm λ R4 hR4=>?_;walk_at "rk";refine ⟨fd,ps,S,k,by lia,F,hb,hMf,hS _ _ _ ?_⟩;walk_at "rk";refine ⟨fd,ps,S,k,by lia,F,hb,hMf,hS _ _ _ ?_⟩;walk_at "rk";subst hR4;refine Jm λ R5 hR5=>?_;walk_at "rk";refine ⟨⟨by decide,by decide⟩,[(G b.x b.y).1,(G b.X b.Y).1],.inl rfl,(by decide:2 < 64),λ ns1 p1 s1=>⟨[(G b.x b.y).2,(G b.X b.Y).2],.inl rfl,(by decide:2 < 64),λ ns2 p2 s2=>?_⟩⟩;rw [ZfJ p1 s1,ZfJ p2 s2];subst hR5;walk_at "rk";rw [hp2];obtain rfl:=hE2 trivial;exact ⟨by rw [List.length_map,List.length_take]; lia,_,_,_,_,_,rfl,λ a na ha=>by rw [Zs na]; exact hM2 a na ha,by rw [Zq,<- take_snoc (bxT G) eb]; rfl⟩
   ·rintro Δ' M2 ⟨j5,j6,j7,j8,j9,rfl,hM2,hp2⟩;rw [lenb,List.take_length] at hp2;have hq2:M2 q = M' q:=hM2 q (Ne.symm np) (by rw [hq']; exact Option.some_ne_none _);subst hR3;walk_at "rk";rw [hp2];refine ⟨by decide,Nat.le_of_ble_eq_true rfl,?_⟩;subst hR;walk_at "rk";rw [Jj (Ne.symm np),hq2,hq'];obtain rfl:=hE trivial;refine ⟨sz,_,_,_,_,_,_,_,rfl,λ a na ha=>?_,?_⟩
    ·have e:=hM a na ha;have n2:a ≠ p:=λ z=>ha (by rw [<- e,z]; exact hp);rw [Zs na,Jj n2,hM2 a n2 (by rw [e]; exact ha),e]
    ·rw [Zq,<- fin,show (tlD ∘ chT G) (.land t nm ou bs wb) = tlC G (.land t nm ou bs wb) from (MA G _).symm];rfl
  | spot t nm u v=>
   rw [show tlD (.spot t nm u v) = .tuple [.str (Str.ofString "spot"),.int t,.str nm,.tuple [.int u,.int v]] from rfl];obtain ⟨fd,S,⟨ps,k,hk,F,hb⟩,hMf,hS⟩:=hC M' kp;walk_at "rk";subst hTB;refine Ve λ E hE=>?_;refine Jm λ R hR=>?_;refine ZZ λ A B hA hB=>?_;walk_at "rk";rw [ZhU,if_pos rfl];subst hA;walk_at "rk";refine ⟨by decide,fd,ps,S,k,by lia,F,hb,hMf,hS _ _ _ ?_⟩;subst hR;refine ⟨Nat.le_of_ble_eq_true rfl,?_⟩;walk_at "rk";rw [hq'];obtain rfl:=hE trivial;exact ⟨sz,_,_,_,_,_,_,_,rfl,λ a na ha=>by rw [Zs na]; exact hM a na ha,by rw [Zq,<- fin]; rfl⟩
  | off w t nm=>
   have nw:isS (.str w) (Str.ofString "land") = false /\ isS (.str w) (Str.ofString "spot") = false:=by
    rcases hwx with rfl | rfl
    ·exact Zf7
    ·exact ZdM
   rw [show tlD (.off w t nm) = .tuple [.str w,.int t,.str nm] from rfl];walk_at "rk";subst hTB;refine Ve λ E hE=>?_;refine Jm λ R hR=>?_;refine ZZ λ A B hA hB=>?_;walk_at "rk";rw [nw.2,if_neg Bool.false_ne_true];subst hB;refine ZZ λ A2 B2 hA2 hB2=>?_;walk_at "rk";rw [nw.1,if_neg Bool.false_ne_true];subst hB2 hR;walk_at "rk";rw [hq'];obtain rfl:=hE trivial;exact ⟨sz,_,_,_,_,_,_,_,rfl,λ a na ha=>by rw [Zs na]; exact hM a na ha,by rw [Zq,<- fin]; rfl⟩
 ·rintro Δ M' ⟨k3,k4,k5,k6,k7,k8,k9,rfl,hM,hq'⟩;rw [len,List.take_length] at hq';subst_vars;walk_at "rk";rw [hq',Vc];exact h _ λ a ha=>by
   have na:a ≠ q:=λ z=>ha (by rw [z]; exact hq);rw [Jj na];exact hM a na ha
theorem Cd {x y Y:Int} {p:Int × Int}:p ∈ N4 x y Y ↔ p.1 = x /\ y <= p.2 /\ p.2 <= Y:=by
 unfold N4;rw [List.mem_map];constructor
 ·rintro ⟨j,hj,rfl⟩;rw [List.mem_range] at hj;exact ⟨rfl,by dsimp only; lia,by dsimp only; lia⟩
 ·rintro ⟨h1,h2,h3⟩;refine ⟨(p.2 - y).toNat,by rw [List.mem_range]; lia,?_⟩;refine Prod.ext h1.symm ?_;dsimp only;lia
theorem Qf {b:B4} {p:Int × Int}:p ∈ EZ b ↔ (b.x <= p.1 /\ p.1 <= b.X) /\ (b.y <= p.2 /\ p.2 <= b.Y):=by
 unfold EZ;rw [List.mem_flatMap];constructor
 ·rintro ⟨i,hi,h⟩;rw [List.mem_range] at hi;rw [Cd] at h;lia
 ·rintro ⟨⟨h1,h2⟩,h3⟩;exact ⟨(p.1 - b.x).toNat,by rw [List.mem_range]; lia,Cd.mpr ⟨by lia,h3⟩⟩
def lt2 (p q:Int × Int):Prop:=p.1 < q.1 \/ (p.1 = q.1 /\ p.2 < q.2)
instance (p q:Int × Int):Decidable (lt2 p q):=by unfold lt2; infer_instance
theorem Dn (b:B4):(EZ b).Pairwise lt2:=by
 unfold EZ;rw [List.pairwise_flatMap];refine ⟨λ i _=>?_,?_⟩
 ·unfold N4;rw [List.pairwise_map];exact List.pairwise_lt_range.imp λ {a b} h=>.inr ⟨rfl,by dsimp only; lia⟩
 ·refine List.pairwise_lt_range.imp λ {i j} h p hp q hq=>.inl ?_;rw [Cd] at hp hq;lia
theorem Dy {p q:Int × Int} (h:lt2 p q):p ≠ q:=λ e=>by
 subst e;unfold lt2 at h;lia
theorem BN {b:B4} (h1:b.X <= b.x + 17) (h2:b.Y <= b.y + 17) (m:Nat) (hm:m <= (b.X + 1 - b.x).toNat):(((List.range m).flatMap λ (i:Nat)=>N4 (b.x + (i:Int)) b.y b.Y)).length <= 324:=by
 have go:∀ k,k <= m->(((List.range k).flatMap λ (i:Nat)=>N4 (b.x + (i:Int)) b.y b.Y)).length = k * (b.Y + 1 - b.y).toNat:=λ k=>by
  induction k with
  | zero=>intro _; simp
  | succ k ih=>
   intro hk;rw [List.range_succ,List.flatMap_append,List.length_append,ih (by lia),Nat.succ_mul]
   congr 1
   simp [N4]
 rw [go m (Nat.le_refl _)];have a:m <= 18:=by lia
 have b:(b.Y + 1 - b.y).toNat <= 18:=by lia
 exact Nat.le_trans (Nat.mul_le_mul a b) (by decide)
theorem Zej (p q:Int × Int):ltD (Xp p) (Xp q) = decide (lt2 p q):=by
 unfold Xp lt2;rw [ltD,VL,VL,VL];simp only [PyData.eqv,ltD,beq_iff_eq]
 by_cases e:p.1 = q.1
 ·simp only [e,Int.lt_irrefl,false_or,true_and,if_true]
  by_cases e2:p.2 = q.2
  ·simp [e2]
  ·simp [e2]
 ·simp [e]
theorem U4 {l:List (Int × Int)} (h:l.length <= 324):Wq (l.map Xp):=by
 refine ⟨by rw [List.length_map,sizeLine_eq]; lia,.tint λ d hd=>?_,λ d hd=>?_,λ d hd e he=>?_⟩
 ·obtain ⟨p,_,rfl⟩:=List.mem_map.mp hd;exact ⟨p.1,[.int p.2],rfl⟩
 ·obtain ⟨p,_,rfl⟩:=List.mem_map.mp hd;refine ⟨by simp [Xp,pln,Bm],(XA p.1 p.2).1,Nat.le_trans (XA p.1 p.2).2 (by decide)⟩
 ·obtain ⟨p,_,rfl⟩:=List.mem_map.mp hd;obtain ⟨q,_,rfl⟩:=List.mem_map.mp he;simp [Xp,Qx,Q1]
theorem Dx:∀ {l m:List (Int × Int)},l.Pairwise lt2->m.Pairwise lt2->(∀ p,p ∈ l ↔ p ∈ m)->l = m
 | [],[],_,_,_=>rfl
 | [],b :: m,_,_,h=>by have:=(h b).mpr List.mem_cons_self; cases this
 | a :: l,[],_,_,h=>by have:=(h a).mp List.mem_cons_self; cases this
 | a :: l,b :: m,h1,h2,h=>by
  rw [List.pairwise_cons] at h1 h2;have e:a = b:=by
   rcases List.mem_cons.mp ((h a).mp List.mem_cons_self) with e | e
   ·exact e
   ·rcases List.mem_cons.mp ((h b).mpr List.mem_cons_self) with e' | e'
    ·exact e'.symm
    ·have x:=h1.1 b e';have y:=h2.1 a e;unfold lt2 at x y;lia
  subst e;rw [Dx h1.2 h2.2 λ p=>⟨λ hp=>?_,λ hp=>?_⟩]
  ·rcases List.mem_cons.mp ((h p).mp (List.mem_cons_of_mem _ hp)) with e | e
   ·exact absurd e.symm (Dy (h1.1 p hp))
   ·exact e
  ·rcases List.mem_cons.mp ((h p).mpr (List.mem_cons_of_mem _ hp)) with e | e
   ·exact absurd e.symm (Dy (h2.1 p hp))
   ·exact e
noncomputable def toP:PyData->Int × Int
 | .tuple [.int a,.int b]=>(a,b)
 | _=>(0,0)
theorem UD {l m:List (Int × Int)} (hp:ds.Perm (l.map Xp)) (hs:ds.Pairwise leD) (hn:l.Nodup) (hm:m.Pairwise lt2) (h:∀ p,p ∈ l ↔ p ∈ m):ds = m.map Xp:=by
 have e1:ds = (ds.map toP).map Xp:=by
  rw [List.map_map]
  conv=>lhs; rw [<- List.map_id ds]
  refine List.map_congr_left λ d hd=>?_;obtain ⟨p,_,rfl⟩:=List.mem_map.mp (hp.mem_iff.mp hd);rfl
 have e2:(ds.map toP).Perm l:=by
  have z:=hp.map toP;rw [List.map_map,show toP ∘ Xp = id from funext λ p=>rfl,List.map_id] at z;exact z
 have n2:(ds.map toP).Nodup:=e2.nodup_iff.mpr hn;rw [e1] at hs;generalize ds.map toP = k at *;rw [List.pairwise_map] at hs;have s2:k.Pairwise lt2:=by
  refine (List.Pairwise.and hs n2).imp λ {p q} ⟨a,b⟩=>?_;unfold leD at a;rw [Zej] at a;have a:=of_decide_eq_false a;unfold lt2 at a ⊢;have:¬ (p.1 = q.1 /\ p.2 = q.2):=λ z=>b (Prod.ext z.1 z.2);lia
 rw [e1,Dx s2 hm λ p=>e2.mem_iff.trans (h p)]
theorem WU {n:Int} (h0:0 <= n) (h1:n <= 7):(∀ u v,tnG n u v = (u,v)) \/ (∀ u v,tnG n u v = (-u,v)) \/ (∀ u v,tnG n u v = (u,-v)) \/ (∀ u v,tnG n u v = (-u,-v)) \/ (∀ u v,tnG n u v = (v,u)) \/ (∀ u v,tnG n u v = (v,-u)) \/ (∀ u v,tnG n u v = (-v,u)) \/ (∀ u v,tnG n u v = (-v,-u)):=by
 have:n = 0 \/ n = 1 \/ n = 2 \/ n = 3 \/ n = 4 \/ n = 5 \/ n = 6 \/ n = 7:=by lia
 rcases this with rfl | rfl | rfl | rfl | rfl | rfl | rfl | rfl
 ·exact .inl λ u v=>rfl
 ·exact .inr (.inl λ u v=>rfl)
 ·exact .inr (.inr (.inl λ u v=>rfl))
 ·exact .inr (.inr (.inr (.inl λ u v=>rfl)))
 ·exact .inr (.inr (.inr (.inr (.inl λ u v=>rfl))))
 ·exact .inr (.inr (.inr (.inr (.inr (.inl λ u v=>rfl)))))
 ·exact .inr (.inr (.inr (.inr (.inr (.inr (.inl λ u v=>rfl))))))
 ·exact .inr (.inr (.inr (.inr (.inr (.inr (.inr (λ u v=>rfl)))))))
theorem Mh {x y:OO} (h:M p = none) (n:p ≠ q):DL.V1 (DL.Z0 (DL.Z0 M p x) q y) p = DL.Z0 M q y:=by
 funext a
 by_cases e:a = p
 ·rw [e,Yq,Zs n,h]
 ·rw [Jj e]
  by_cases e2:a = q
  ·rw [e2,Zq,Zq]
  ·rw [Zs e2,Zs e2,Zs e]
theorem G8 (T:Tx K mg base):Qa P w K mg base CX0 1 T.Ef T.CS ["_law_box"] (lift K Zd2):=by
 refine okG T.Ut.F XW (λ xs M Φ h=>by obtain ⟨_,rfl,_⟩:=Zu h; rfl) λ cdv A outer s H E hr=>⟨_,(Ze (Zo 1 XW.nd (VR Zd))
 (Ze (Pe rfl T.Qh (Za (Zh (Zh (Zb 0) Zc) Zc) (Za (Zj Zx (Zh (Zh (Zb 0) Zc) Zc) Zc) Zd)) (Zp 2 XW.nd) (Zg (JM (Mu (Zb 1) (Qs true (ZE (sc:=Zf Xm) (XN:=["_law_box", "_law_found", "_law_x"]) (N:=["_law_y", "_law_x"]) (ix:=[none,some 2]) rfl rfl (by walk_at "k")) (U2 rfl T.Qh (Za (Zh (Zh (Zb 0) Zc) Zc) (Za (Zj Zx (Zh (Zh (Zb 0) Zc) Zc) Zc) Zd))) (λ C ex s H=>(Zp 0 (show List.Nodup (["_law_y", "_law_x"]:List Str) by walk_at "k"))) (λ C ex s H=>Z8) (λ C ex s H=>(ZG (Za (Zb 1) (Za (Zb 0) Zd)))) rfl)))) PassesOwn.never rfl)
 (Zg (Zn (Zi (Wy hr) rfl T.W6 Kw (Za (Zb 1) Zd)))))),λ xs M Φ h=>?_⟩
 replace h:=Zu h;obtain ⟨x1,rfl,h⟩:=h;replace h:=Kd h;obtain ⟨b,rfl,⟨h1,h2⟩,hs,h⟩:=h;unfold Sh at hs;walk_at "h";intro q hq;walk_at "h";refine ⟨⟨⟨by lia,by lia⟩,by lia,by lia⟩,λ i Δ M'=>∃ k2,Δ = [some (.dat (bD b)),some (.own q),k2] /\ M' = Z0 M q (.lst (((List.range i).flatMap λ (i:Nat)=>N4 (b.x + (i:Int)) b.y b.Y).map Xp)),⟨_,rfl,rfl⟩,?_,?_⟩
 ·rintro i Δ M' hi ⟨k2,rfl,rfl⟩;rw [Yd];walk_at "rk";refine ⟨⟨⟨by lia,by lia⟩,by lia,by lia⟩,by rw [ZI]; lia,λ j acc M'=>acc = ((List.range j).map λ (k:Nat)=>(b.x + (i:Int),b.y + (k:Int))).map Xp /\ M' = Z0 M q (.lst (((List.range i).flatMap λ (i:Nat)=>N4 (b.x + (i:Int)) b.y b.Y).map Xp)),⟨rfl,rfl⟩,?_,?_⟩
  ·rintro j d acc M' hd ⟨rfl,rfl⟩;have hj:j < (K6 b.y (b.Y + 1 - b.y).toNat).length:=(List.getElem?_eq_some_iff.mp hd).1;rw [ZI] at hj;rw [Vq hj] at hd;cases hd;refine ⟨?_,rfl⟩;rw [List.range_succ,List.map_append,List.map_append];rfl
  ·rintro acc M' ⟨rfl,rfl⟩ p hp;have np:p ≠ q:=λ z=>by rw [z,Zq] at hp; cases hp
   have l1:=BN h1 h2 i (by lia);rw [ZI,Zs (Ne.symm np),Zq,Vc];refine ⟨np,?_,_,rfl,?_⟩
   ·rw [List.length_map,List.length_map,List.length_map,List.length_range];lia
   ·rw [Mh hp np,Gq,List.range_succ,List.flatMap_append,List.map_append,List.flatMap_cons,List.flatMap_nil,List.append_nil];rfl
 ·rintro Δ M' ⟨k2,rfl,rfl⟩;subst_vars;walk_at "rk";refine ⟨U4 (BN h1 h2 _ (Nat.le_refl _)),λ ds' hp hs=>?_⟩;have hp:ds'.Perm ((EZ b).map Xp):=hp;rw [UD hp hs ((Dn b).imp Dy) (Dn b) λ p=>Iff.rfl];exact RT hq h
theorem Zeb (l:List (Int × Int)):B1 (.list (l.map Xp)) (.list (l.map Xp)) = true /\ PyData.eqvAll (l.map Xp) (l.map Xp) = true:=by
 obtain ⟨a,b⟩:=WG (l:=l.map Xp) (n:=1) λ d hd=>by
  obtain ⟨p,_,rfl⟩:=List.mem_map.mp hd;exact XA p.1 p.2
 have c:(PyData.list (l.map Xp)).canLay0 = true:=a;refine ⟨?_,PySem.SeqAt.eqv_refl _ c⟩;unfold B1;rw [c,PyData.depth];simp only [Bool.and_self,Bool.true_and,Nat.min_self];exact Nat.ble_eq_true_of_le (by lia)
theorem Zga {n:Int} (h0:0 <= n) (h1:n <= 7) {p q:Int × Int} (h:tnG n p.1 p.2 = tnG n q.1 q.2):p = q:=by
 refine Prod.ext ?_ ?_ <;> (rcases WU h0 h1 with e | e | e | e | e | e | e | e <;> (rw [e,e,Prod.mk.injEq] at h; lia))
theorem W2 {G:Int->Int->Int × Int} {b:B4} {x y X Y:Int} (h1:min (G b.x b.y).1 (G b.X b.Y).1 = x) (h2:min (G b.x b.y).2 (G b.X b.Y).2 = y) (h3:max (G b.x b.y).1 (G b.X b.Y).1 = X) (h4:max (G b.x b.y).2 (G b.X b.Y).2 = Y):mvB G b = ⟨x,y,X,Y⟩:=by
 subst h1 h2 h3 h4;rfl
theorem mvc {n:Int} (h0:0 <= n) (h1:n <= 7):((∀ u v,tnG n u v = (u,v)) /\ ∀ b:B4,b.x <= b.X /\ b.y <= b.Y->mvB (tnG n) b = ⟨b.x,b.y,b.X,b.Y⟩) \/ ((∀ u v,tnG n u v = (-u,v)) /\ ∀ b:B4,b.x <= b.X /\ b.y <= b.Y->mvB (tnG n) b = ⟨-b.X,b.y,-b.x,b.Y⟩) \/ ((∀ u v,tnG n u v = (u,-v)) /\ ∀ b:B4,b.x <= b.X /\ b.y <= b.Y->mvB (tnG n) b = ⟨b.x,-b.Y,b.X,-b.y⟩) \/ ((∀ u v,tnG n u v = (-u,-v)) /\ ∀ b:B4,b.x <= b.X /\ b.y <= b.Y->mvB (tnG n) b = ⟨-b.X,-b.Y,-b.x,-b.y⟩) \/ ((∀ u v,tnG n u v = (v,u)) /\ ∀ b:B4,b.x <= b.X /\ b.y <= b.Y->mvB (tnG n) b = ⟨b.y,b.x,b.Y,b.X⟩) \/ ((∀ u v,tnG n u v = (v,-u)) /\ ∀ b:B4,b.x <= b.X /\ b.y <= b.Y->mvB (tnG n) b = ⟨b.y,-b.X,b.Y,-b.x⟩) \/ ((∀ u v,tnG n u v = (-v,u)) /\ ∀ b:B4,b.x <= b.X /\ b.y <= b.Y->mvB (tnG n) b = ⟨-b.Y,b.x,-b.y,b.X⟩) \/ ((∀ u v,tnG n u v = (-v,-u)) /\ ∀ b:B4,b.x <= b.X /\ b.y <= b.Y->mvB (tnG n) b = ⟨-b.Y,-b.X,-b.y,-b.x⟩):=by
 rcases WU h0 h1 with e | e | e | e | e | e | e | e
 ·exact .inl ⟨e,λ b hb=>W2 (by simp only [e]; exact Int.min_eq_left hb.1) (by simp only [e]; exact Int.min_eq_left hb.2) (by simp only [e]; exact Int.max_eq_right hb.1) (by simp only [e]; exact Int.max_eq_right hb.2)⟩
 ·exact .inr (.inl ⟨e,λ b hb=>W2 (by simp only [e]; exact Int.min_eq_right (Int.neg_le_neg hb.1)) (by simp only [e]; exact Int.min_eq_left hb.2) (by simp only [e]; exact Int.max_eq_left (Int.neg_le_neg hb.1)) (by simp only [e]; exact Int.max_eq_right hb.2)⟩)
 ·exact .inr (.inr (.inl ⟨e,λ b hb=>W2 (by simp only [e]; exact Int.min_eq_left hb.1) (by simp only [e]; exact Int.min_eq_right (Int.neg_le_neg hb.2)) (by simp only [e]; exact Int.max_eq_right hb.1) (by simp only [e]; exact Int.max_eq_left (Int.neg_le_neg hb.2))⟩))
 ·exact .inr (.inr (.inr (.inl ⟨e,λ b hb=>W2 (by simp only [e]; exact Int.min_eq_right (Int.neg_le_neg hb.1)) (by simp only [e]; exact Int.min_eq_right (Int.neg_le_neg hb.2)) (by simp only [e]; exact Int.max_eq_left (Int.neg_le_neg hb.1)) (by simp only [e]; exact Int.max_eq_left (Int.neg_le_neg hb.2))⟩)))
 ·exact .inr (.inr (.inr (.inr (.inl ⟨e,λ b hb=>W2 (by simp only [e]; exact Int.min_eq_left hb.2) (by simp only [e]; exact Int.min_eq_left hb.1) (by simp only [e]; exact Int.max_eq_right hb.2) (by simp only [e]; exact Int.max_eq_right hb.1)⟩))))
 ·exact .inr (.inr (.inr (.inr (.inr (.inl ⟨e,λ b hb=>W2 (by simp only [e]; exact Int.min_eq_left hb.2) (by simp only [e]; exact Int.min_eq_right (Int.neg_le_neg hb.1)) (by simp only [e]; exact Int.max_eq_right hb.2) (by simp only [e]; exact Int.max_eq_left (Int.neg_le_neg hb.1))⟩)))))
 ·exact .inr (.inr (.inr (.inr (.inr (.inr (.inl ⟨e,λ b hb=>W2 (by simp only [e]; exact Int.min_eq_right (Int.neg_le_neg hb.2)) (by simp only [e]; exact Int.min_eq_left hb.1) (by simp only [e]; exact Int.max_eq_left (Int.neg_le_neg hb.2)) (by simp only [e]; exact Int.max_eq_right hb.1)⟩))))))
 ·exact .inr (.inr (.inr (.inr (.inr (.inr (.inr (⟨e,λ b hb=>W2 (by simp only [e]; exact Int.min_eq_right (Int.neg_le_neg hb.2)) (by simp only [e]; exact Int.min_eq_right (Int.neg_le_neg hb.1)) (by simp only [e]; exact Int.max_eq_left (Int.neg_le_neg hb.2)) (by simp only [e]; exact Int.max_eq_left (Int.neg_le_neg hb.1))⟩)))))))
theorem Hv {n:Int} (h0:0 <= n) (h1:n <= 7) {P:Int->Prop} (hP:∀ x,P x->P (-x)) {R:Int->Int->Prop} (hR:∀ x X,R x X->R (-X) (-x)) {b:B4} (hb:b.x <= b.X /\ b.y <= b.Y) (h:R b.x b.X /\ R b.y b.Y) (hp:(P b.x /\ P b.y) /\ (P b.X /\ P b.Y)) :
  (R (mvB (tnG n) b).x (mvB (tnG n) b).X /\ R (mvB (tnG n) b).y (mvB (tnG n) b).Y) /\ (P (mvB (tnG n) b).x /\ P (mvB (tnG n) b).y) /\ (P (mvB (tnG n) b).X /\ P (mvB (tnG n) b).Y):=by
 rcases mvc h0 h1 with ⟨e,e'⟩ | ⟨e,e'⟩ | ⟨e,e'⟩ | ⟨e,e'⟩ | ⟨e,e'⟩ | ⟨e,e'⟩ | ⟨e,e'⟩ | ⟨e,e'⟩ <;> rw [e' b hb]
 ·exact ⟨⟨h.1,h.2⟩,⟨hp.1.1,hp.1.2⟩,hp.2.1,hp.2.2⟩
 ·exact ⟨⟨hR _ _ h.1,h.2⟩,⟨hP _ hp.2.1,hp.1.2⟩,hP _ hp.1.1,hp.2.2⟩
 ·exact ⟨⟨h.1,hR _ _ h.2⟩,⟨hp.1.1,hP _ hp.2.2⟩,hp.2.1,hP _ hp.1.2⟩
 ·exact ⟨⟨hR _ _ h.1,hR _ _ h.2⟩,⟨hP _ hp.2.1,hP _ hp.2.2⟩,hP _ hp.1.1,hP _ hp.1.2⟩
 ·exact ⟨⟨h.2,h.1⟩,⟨hp.1.2,hp.1.1⟩,hp.2.2,hp.2.1⟩
 ·exact ⟨⟨h.2,hR _ _ h.1⟩,⟨hp.1.2,hP _ hp.2.1⟩,hp.2.2,hP _ hp.1.1⟩
 ·exact ⟨⟨hR _ _ h.2,h.1⟩,⟨hP _ hp.2.2,hp.1.1⟩,hP _ hp.1.2,hp.2.1⟩
 ·exact ⟨⟨hR _ _ h.2,hR _ _ h.1⟩,⟨hP _ hp.2.2,hP _ hp.2.1⟩,hP _ hp.1.2,hP _ hp.1.1⟩
theorem VD (x:Int) (h:Sh x):Sh (-x):=by
 unfold Sh at h ⊢;lia
theorem OP {n:Int} (h0:0 <= n) (h1:n <= 7) {b:B4} (h:SmB b) (hs:(Sh b.x /\ Sh b.y) /\ (Sh b.X /\ Sh b.Y)):((mvB (tnG n) b).X <= (mvB (tnG n) b).x + 17 /\ (mvB (tnG n) b).Y <= (mvB (tnG n) b).y + 17) /\ ((Sh (mvB (tnG n) b).x /\ Sh (mvB (tnG n) b).y) /\ (Sh (mvB (tnG n) b).X /\ Sh (mvB (tnG n) b).Y)):=
 Hv h0 h1 VD (R:=λ x X=>X <= x + 17) (λ x X h=>by lia) ⟨h.1.1,h.2.1⟩ ⟨h.1.2,h.2.2⟩ hs
theorem NN {n:Int} (h0:0 <= n) (h1:n <= 7) {b:B4} (hx:b.x <= b.X) (hy:b.y <= b.Y) (p:Int × Int):p ∈ (EZ b).map (λ p=>tnG n p.1 p.2) ↔ p ∈ EZ (mvB (tnG n) b):=by
 rw [List.mem_map,Qf]
 rcases mvc h0 h1 with ⟨e,e'⟩ | ⟨e,e'⟩ | ⟨e,e'⟩ | ⟨e,e'⟩ | ⟨e,e'⟩ | ⟨e,e'⟩ | ⟨e,e'⟩ | ⟨e,e'⟩ <;> (rw [e' b ⟨hx,hy⟩]; simp only [e])
 ·exact ⟨λ ⟨q,hq,ep⟩=>by rw [Qf] at hq; subst ep; exact ⟨hq.1,hq.2⟩,λ h=>⟨(p.1,p.2),Qf.mpr ⟨h.1,h.2⟩,Prod.ext (rfl) (rfl)⟩⟩
 ·exact ⟨λ ⟨q,hq,ep⟩=>by rw [Qf] at hq; subst ep; exact ⟨⟨Int.neg_le_neg hq.1.2,Int.neg_le_neg hq.1.1⟩,hq.2⟩,λ h=>⟨(-p.1,p.2),Qf.mpr ⟨⟨Int.le_neg_of_le_neg h.1.2,Int.neg_le_of_neg_le h.1.1⟩,h.2⟩,Prod.ext (Int.neg_neg _) (rfl)⟩⟩
 ·exact ⟨λ ⟨q,hq,ep⟩=>by rw [Qf] at hq; subst ep; exact ⟨hq.1,⟨Int.neg_le_neg hq.2.2,Int.neg_le_neg hq.2.1⟩⟩,λ h=>⟨(p.1,-p.2),Qf.mpr ⟨h.1,⟨Int.le_neg_of_le_neg h.2.2,Int.neg_le_of_neg_le h.2.1⟩⟩,Prod.ext (rfl) (Int.neg_neg _)⟩⟩
 ·exact ⟨λ ⟨q,hq,ep⟩=>by rw [Qf] at hq; subst ep; exact ⟨⟨Int.neg_le_neg hq.1.2,Int.neg_le_neg hq.1.1⟩,⟨Int.neg_le_neg hq.2.2,Int.neg_le_neg hq.2.1⟩⟩,λ h=>⟨(-p.1,-p.2),Qf.mpr ⟨⟨Int.le_neg_of_le_neg h.1.2,Int.neg_le_of_neg_le h.1.1⟩,⟨Int.le_neg_of_le_neg h.2.2,Int.neg_le_of_neg_le h.2.1⟩⟩,Prod.ext (Int.neg_neg _) (Int.neg_neg _)⟩⟩
 ·exact ⟨λ ⟨q,hq,ep⟩=>by rw [Qf] at hq; subst ep; exact ⟨hq.2,hq.1⟩,λ h=>⟨(p.2,p.1),Qf.mpr ⟨h.2,h.1⟩,Prod.ext (rfl) (rfl)⟩⟩
 ·exact ⟨λ ⟨q,hq,ep⟩=>by rw [Qf] at hq; subst ep; exact ⟨hq.2,⟨Int.neg_le_neg hq.1.2,Int.neg_le_neg hq.1.1⟩⟩,λ h=>⟨(-p.2,p.1),Qf.mpr ⟨⟨Int.le_neg_of_le_neg h.2.2,Int.neg_le_of_neg_le h.2.1⟩,h.1⟩,Prod.ext (rfl) (Int.neg_neg _)⟩⟩
 ·exact ⟨λ ⟨q,hq,ep⟩=>by rw [Qf] at hq; subst ep; exact ⟨⟨Int.neg_le_neg hq.2.2,Int.neg_le_neg hq.2.1⟩,hq.1⟩,λ h=>⟨(p.2,-p.1),Qf.mpr ⟨h.2,⟨Int.le_neg_of_le_neg h.1.2,Int.neg_le_of_neg_le h.1.1⟩⟩,Prod.ext (Int.neg_neg _) (rfl)⟩⟩
 ·exact ⟨λ ⟨q,hq,ep⟩=>by rw [Qf] at hq; subst ep; exact ⟨⟨Int.neg_le_neg hq.2.2,Int.neg_le_neg hq.2.1⟩,⟨Int.neg_le_neg hq.1.2,Int.neg_le_neg hq.1.1⟩⟩,λ h=>⟨(-p.2,-p.1),Qf.mpr ⟨⟨Int.le_neg_of_le_neg h.2.2,Int.neg_le_of_neg_le h.2.1⟩,⟨Int.le_neg_of_le_neg h.1.2,Int.neg_le_of_neg_le h.1.1⟩⟩,Prod.ext (Int.neg_neg _) (Int.neg_neg _)⟩⟩
theorem KH (T:Tx K mg base):Qa P w K mg base CX0 2 T.V7 T.Yt ["_law_tellings", "_law_told", "_law_number"] (lift K Zcn):=by
 refine okD T.Yn.F Qo (λ xs M Φ h=>by obtain ⟨_,_,_,rfl,_⟩:=QT h; rfl) λ cdv A outer s H E hr=>⟨_,(Ze (Hu (ZdW rfl T.Zcp (Za (Zb 0) (Za (Zb 1) Zd))) (YT (n:=2) rfl (ZV (Zp 3 Qo.nd) (ZV (Zp 4 Qo.nd) Vg))) (Zg (Qm (Z7 (Vd hr) (Zh (Zb 3) Zc) Zv) (Zg (Hu (S6 rfl T.Zcp (Za (Zh (Zb 3) Zc) (Za (Zh (Zb 4) Zc) Zd))) (YT (n:=2) rfl (ZV (Zp 5 Qo.nd) (ZV (Zp 6 Qo.nd) Vg))) (Zg (Qm (Z7 (Zcv hr) (Zi (Wy hr) rfl T.W6 Kw (Za (Qs false (ZE (sc:=Zf Q8) (XN:=["_law_tellings", "_law_told", "_law_number", "_law_one", "_law_other", "_law_box", "_law_there"]) (N:=["_law_spot_here", "_law_number"]) (ix:=[none,some 2]) rfl rfl (by walk_at "k")) (Ko (cO T.Ut (G8 T) hr (Za (Zb 5) Zd))) (λ C ex s H=>(Zp 0 (show List.Nodup (["_law_spot_here", "_law_number"]:List Str) by walk_at "k"))) (λ C ex s H=>Z8) (λ C ex s H=>(cO T.Je (JX T) hr (Za (Zb 0) (Za (Zb 1) Zd)))) rfl) Zd)) (cO T.Ut (G8 T) hr (Za (Zb 6) Zd))) (Zg (Zn Y9)) Zw)) PassesOwn.never rfl)) Zw)) PassesOwn.never rfl)
 (Zg (Zn Y9))),λ xs M Φ h=>?_⟩
 replace h:=QT h;obtain ⟨x1,x2,x3,rfl,h⟩:=h;obtain ⟨ts,rfl,h⟩:=h;replace h:=Zt h;obtain ⟨n,rfl,rfl,⟨hts,hw,h0,h1⟩,h⟩:=h;walk_at "h";refine ⟨λ i Δ M'=>∃ k3 k4 k5 k6,Δ = [some (.dat (.list (ts.map tlD))),some (.dat (.list ((ts.map (chT (tnG n))).map tlD))),some (.dat (.int n)),k3,k4,k5,k6] /\ M' = M,⟨_,_,_,_,rfl,rfl⟩,?_,?_⟩
 ·rintro i d Δ M' hd ⟨k3,k4,k5,k6,rfl,rfl⟩;obtain ⟨t,et,rfl⟩:∃ t,ts[i]? = some t /\ d = .tuple [tlD t,tlD (chT (tnG n) t)]:=by
   unfold Ff at hd;rw [List.getElem?_zipWith,List.getElem?_map,List.getElem?_map,List.getElem?_map] at hd;cases e:ts[i]? with
   | none=>simp [e] at hd
   | some t=>rw [e] at hd; exact ⟨t,rfl,by simpa using hd.symm⟩
  have mt:=List.mem_of_getElem? et;cases t with
  | land t nm ou bs wb=>
   rw [show tlD (.land t nm ou bs wb) = .tuple [.str (Str.ofString "land"),.int t,.str nm,.str ou,.tuple (bs.map bD),.int wb] from rfl,show tlD (chT (tnG n) (.land t nm ou bs wb)) = .tuple [.str (Str.ofString "land"),.int t,.str nm,.str ou,.tuple ((bs.map (mvB (tnG n))).map bD),.int wb] from rfl];walk_at "rk";rw [Zgi,if_pos rfl];refine ⟨λ j Δ M2=>∃ j5 j6,Δ = [some (.dat (.list (ts.map tlD))),some (.dat (.list ((ts.map (chT (tnG n))).map tlD))),some (.dat (.int n)),_,_,j5,j6] /\ M2 = M',⟨_,_,rfl,rfl⟩,?_,?_⟩
   ·rintro j d Δ M' hd' ⟨j5,j6,rfl,rfl⟩;obtain ⟨b,eb,rfl⟩:∃ b,bs[j]? = some b /\ d = .tuple [bD b,bD (mvB (tnG n) b)]:=by
     unfold Ff at hd';rw [List.getElem?_zipWith,List.getElem?_map,List.getElem?_map,List.getElem?_map] at hd';cases e:bs[j]? with
     | none=>simp [e] at hd'
     | some t=>rw [e] at hd'; exact ⟨t,rfl,by simpa using hd'.symm⟩
    have hb:=hw _ mt b (List.mem_of_getElem? eb);have hsh:=(hts.2 _ mt).2.2.1.2.2 b (List.mem_of_getElem? eb);have l324:(EZ b).length <= 324:=BN hb.1.2 hb.2.2 _ (Nat.le_refl _);obtain ⟨m1,m2⟩:=OP h0 h1 hb hsh.2;walk_at "rk";refine ⟨⟨hb.1.2,hb.2.2⟩,hsh.2,by rw [List.length_map]; lia,λ i acc M2=>acc = (((EZ b).take i).map λ p=>tnG n p.1 p.2).map Xp /\ M2 = M',⟨rfl,rfl⟩,?_,?_⟩
    ·rintro i d acc M2 hd ⟨rfl,rfl⟩;obtain ⟨p,ep,rfl⟩:=Jx hd;refine ⟨⟨h0,h1⟩,?_,rfl⟩;rw [List.map_map,List.map_map];exact take_snoc (Xp ∘ λ p=>tnG n p.1 p.2) ep
    ·rintro acc M2 ⟨rfl,rfl⟩;rw [List.length_map,List.take_length];refine ⟨U4 (by rw [List.length_map]; exact l324),λ ds' hp hs=>?_⟩;have nd:((EZ b).map λ p=>tnG n p.1 p.2).Nodup:=List.pairwise_map.mpr ((Dn b).imp λ h e=>Dy h (Zga h0 h1 e));rw [UD hp hs nd (Dn _) (NN h0 h1 hb.1.1 hb.2.1)];obtain ⟨q1,q2⟩:=Zeb (EZ (mvB (tnG n) b));refine ⟨m1,m2,q1,?_⟩;rw [q2,Bool.not_true,if_neg Bool.false_ne_true];exact ⟨_,_,rfl,rfl⟩
   ·rintro Δ M' ⟨j5,j6,rfl,rfl⟩;exact ⟨_,_,_,_,rfl,rfl⟩
  | spot t nm u v=>
   rw [show tlD (.spot t nm u v) = .tuple [.str (Str.ofString "spot"),.int t,.str nm,.tuple [.int u,.int v]] from rfl];walk_at "rk";rw [ZiF,if_neg Bool.false_ne_true];exact ⟨_,_,_,_,rfl⟩
  | off w t nm=>
   have nw:isS (.str w) (Str.ofString "land") = false /\ isS (.str w) (Str.ofString "spot") = false:=by
    rcases (hts.2 _ mt).2 with rfl | rfl
    ·exact Zf7
    ·exact ZdM
   rw [show tlD (.off w t nm) = .tuple [.str w,.int t,.str nm] from rfl];walk_at "rk";rw [nw.1,if_neg Bool.false_ne_true];exact ⟨_,_,_,_,rfl⟩
 ·rintro Δ M' ⟨k3,k4,k5,k6,rfl,rfl⟩;subst_vars;walk_at "rk";exact h
noncomputable def ZfE:List Stmt->Expr
 | .Assign _ (.Call _ [_,l] _ _) _ :: _=>l
 | _=>.Constant .none 0 ⟨0,0,0,0⟩
noncomputable def Zfc:List Stmt->Expr
 | _ :: .Assign _ (.Call _ [_,l] _ _) _ :: _=>l
 | _=>.Constant .none 0 ⟨0,0,0,0⟩
noncomputable abbrev MV:Expr:=ZfE (Qr Q4)
noncomputable abbrev MY:Expr:=Zfc (Qr QK)
theorem Zhe:JJ ["_law_spot_here", "_law_dx", "_law_dy"] ["_law_spot_here"] ["_law_dx", "_law_dy"] (Bn MV):=⟨rfl,rfl,rfl,by walk_at "k",rfl,by walk_at "k",by walk_at "k",by walk_at "k",by walk_at "k"⟩
theorem ZeU {q:Str} {f c':Addr} {pm ct:Value} (hinj:∀ x y c,cl.lookup x = some c->cl.lookup y = some c->x = y) (hfr:∀ x c,cl.lookup x = some c->x ∈ (["_law_dx", "_law_dy"]:List Str)) (hnd:∀ q ∈ cl,cl.lookup q.1 = some q.2) :
  Qa P w K mg base CX0 1 f (PySem.W.kla_fn "<lambda>" q (Fg MV) (Fd MV) (Bn MV) cl pm (.ref c') ct) ["_law_spot_here"] (lift K (LU f c' (PySem.W.kla_fn "<lambda>" q (Fg MV) (Fd MV) (Bn MV) cl pm (.ref c') ct) q 1 ["_law_dx", "_law_dy"] cl
   (λ xs cxs M Φ=>∃ u v dx dy,xs = [.dat (.tuple [.int u,.int v])] /\ cxs = [.dat (.int dx),.dat (.int dy)] /\ Φ (.dat (.tuple [.int (u + dx),.int (v + dy)])) M))):=by
 refine Zgx Zhe hinj hfr hnd λ A outer s H hr=>⟨_,(ZG (Za (Zj Zx (Zh (Zb 0) Zc) (Zb 1)) (Za (Zj Zx (Zh (Zb 0) Zc) (Zb 2)) Zd))),λ xs cxs M Φ h=>?_⟩;obtain ⟨u,v,dx,dy,rfl,rfl,h⟩:=h;walk_at "rk";exact h
theorem ZeJ {q:Str} {f c' a1 a2:Addr} {o1 o2:Obj} {pm ct:Value} {M:Mp} {dx dy:Int} (hinj:∀ x y c,cl.lookup x = some c->cl.lookup y = some c->x = y) (hfr:∀ x c,cl.lookup x = some c->x ∈ (["_law_dx", "_law_dy"]:List Str)) (hnd:∀ q ∈ cl,cl.lookup q.1 = some q.2)
  (hF:M f = some (.ext (YC f (PySem.W.kla_fn "<lambda>" q (Fg MV) (Fd MV) (Bn MV) cl pm (.ref c') ct)))) (hC:M c' = some (.ext (Gx c' q))) (h1:cl.lookup (Str.ofString "_law_dx") = some a1 /\ M a1 = some (.ext (JT a1 o1)) /\ JW o1 (.dat (.int dx))) (h2:cl.lookup (Str.ofString "_law_dy") = some a2 /\ M a2 = some (.ext (JT a2 o2)) /\ JW o2 (.dat (.int dy))) :
  Chg P w K mg base 4 f (λ u v=>(u + dx,v + dy)) M:=by
 refine ⟨_,_,⟨["_law_spot_here"],1,by decide,ZeU hinj hfr hnd,λ s us hl=>?_⟩,hF,λ u v Φ h=>⟨rfl,hF,hC,[.dat (.int dx),.dat (.int dy)],rfl,λ i x y e1 e2=>?_,u,v,dx,dy,rfl,rfl,?_⟩⟩
 ·match us,hl with
  | [u],_=>exact .of_eq rfl
 ·match i,e1,e2 with
  | 0,e1,e2=>cases e1; cases e2; exact ⟨a1,o1,h1⟩
  | 1,e1,e2=>cases e1; cases e2; exact ⟨a2,o2,h2⟩
  | i + 2,e1,_=>simp at e1
 ·show Φ _ (XM M (JZ M _) _);rw [Vs];exact h
theorem Zh4:JJ ["_law_spot_here", "_law_number"] ["_law_spot_here"] ["_law_number"] (Bn MY):=⟨rfl,rfl,rfl,by walk_at "k",rfl,by walk_at "k",by walk_at "k",by walk_at "k",by walk_at "k"⟩
theorem Zel (T:Tx K mg base) {q:Str} {f c' a:Addr} {pm ct:Value} :
  Qa P w K mg base CX0 2 f (PySem.W.kla_fn "<lambda>" q (Fg MY) (Fd MY) (Bn MY) [("_law_number",a)] pm (.ref c') ct) ["_law_spot_here"] (lift K (LU f c' (PySem.W.kla_fn "<lambda>" q (Fg MY) (Fd MY) (Bn MY) [("_law_number",a)] pm (.ref c') ct) q 1 ["_law_number"] [("_law_number",a)]
   (λ xs cxs M Φ=>∃ u v n,xs = [.dat (.tuple [.int u,.int v])] /\ cxs = [.dat (.int n)] /\ (0 <= n /\ n <= 7) /\ Φ (.dat (.tuple [.int (tnG n u v).1,.int (tnG n u v).2])) M))):=by
 refine Zgx Zh4 (λ x y c h1 h2=>(lk1 h1).1.trans (lk1 h2).1.symm) (λ x c h=>by rw [(lk1 h).1]; exact List.mem_cons_self) (λ q hq=>by rw [List.mem_singleton.mp hq]; exact Xq _ _) λ A outer s H hr=>⟨_,(cO T.Je (JX T) hr (Za (Zb 0) (Za (Zb 1) Zd))),λ xs cxs M Φ h=>?_⟩;obtain ⟨u,v,n,rfl,rfl,hn,h⟩:=h;walk_at "rk";exact ⟨hn,h⟩
theorem ZcD (T:Tx K mg base) {q:Str} {f c' a:Addr} {o:Obj} {pm ct:Value} {M:Mp} {n:Int} (hn:0 <= n /\ n <= 7)
  (hF:M f = some (.ext (YC f (PySem.W.kla_fn "<lambda>" q (Fg MY) (Fd MY) (Bn MY) [("_law_number",a)] pm (.ref c') ct)))) (hC:M c' = some (.ext (Gx c' q))) (h1:M a = some (.ext (JT a o)) /\ JW o (.dat (.int n))) :
  Chg P w K mg base 4 f (tnG n) M:=by
 refine ⟨_,_,⟨["_law_spot_here"],2,by decide,Zel T,λ s us hl=>?_⟩,hF,λ u v Φ h=>⟨rfl,hF,hC,[.dat (.int n)],rfl,λ i x y e1 e2=>?_,u,v,n,rfl,rfl,hn,?_⟩⟩
 ·match us,hl with
  | [u],_=>exact .of_eq rfl
 ·match i,e1,e2 with
  | 0,e1,e2=>cases e1; cases e2; exact ⟨a,o,Xq _ _,h1⟩
  | i + 1,e1,_=>simp at e1
 ·show Φ _ (XM M (JZ M _) _);rw [Vs];exact h
theorem ZhV {T:Tx K mg base} {M1:Mp} (h:Q7 T M) (k:∀ a,a ≠ T.ZS->M a ≠ none->M1 a = M a) (t:Xd (tbs T) M1 T.ZS Rl ZiU):Kp T M M1:=by
 have d:=T.kd;simp only [List.nodup_cons,List.mem_cons,List.not_mem_nil,or_false,not_or] at d;have out:∀ a,a ∉ tbs T->M a ≠ none->M1 a = M a:=λ a na ha=>k a (λ z=>na (by rw [z]; simp)) ha;have go:∀ {p pos q},p ≠ T.ZS->Xd (tbs T) M p pos q->Xd (tbs T) M1 p pos q:=λ {p pos q} hp h=>h.keep (k p hp (by obtain ⟨l,e⟩:=h.some; rw [e]; exact Option.some_ne_none _)) out;exact ⟨⟨⟨go d.1.2.1 h.1.1,go d.2.1.1 h.1.2⟩,t,go (Ne.symm d.2.2.1) h.2.2⟩,out⟩
theorem ZhE {T:Tx K mg base} {M1:Mp} (h:Q7 T M) (k:∀ a,a ≠ T.ZP->M a ≠ none->M1 a = M a) (t:Xd (tbs T) M1 T.ZP Rn ZiO):Kp T M M1:=by
 have d:=T.kd;simp only [List.nodup_cons,List.mem_cons,List.not_mem_nil,or_false,not_or] at d;have out:∀ a,a ∉ tbs T->M a ≠ none->M1 a = M a:=λ a na ha=>k a (λ z=>na (by rw [z]; simp)) ha;have go:∀ {p pos q},p ≠ T.ZP->Xd (tbs T) M p pos q->Xd (tbs T) M1 p pos q:=λ {p pos q} hp h=>h.keep (k p hp (by obtain ⟨l,e⟩:=h.some; rw [e]; exact Option.some_ne_none _)) out;exact ⟨⟨⟨go d.1.2.2 h.1.1,go d.2.1.2 h.1.2⟩,go d.2.2.1 h.2.1,t⟩,out⟩
theorem Kp.gw {T:Tx K mg base} {M1 M2:Mp} (h:Kp T M M1) (k:∀ a,M1 a ≠ none->M2 a = M1 a):Kp T M M2:=⟨h.1.keep (λ a ha=>k a (h.1.ne a ha)) λ a φ _ e=>k a (by rw [e]; exact Option.some_ne_none _),λ a na ha=>by
 have e:=h.2 a na ha
 rw [k a (by rw [e]; exact ha),e]⟩
theorem Q7.ext {T:Tx K mg base} (h:Q7 T M):Q7 T (Wh M):=h.keep (λ a ha=>by
 obtain ⟨l,e⟩:=h.all a ha
 rw [Vw e,e]) λ a φ _ e=>by rw [Vw e,e]
theorem Kp.back {T:Tx K mg base} {M1 M2:Mp} (h:Kp T M M1) (k:Kp T (Wh M1) M2) (hh:∀ a o,M1 a = some o->(∀ φ,o ≠ .ext φ)->M2 a = none):Kp T M (Xy M1 M2) /\ ∀ a φ,M1 a = some (.ext φ)->∃ ψ,M2 a = some (.ext ψ):=by
 have ke:∀ a φ,M1 a = some (.ext φ)->∃ ψ,M2 a = some (.ext ψ):=λ a φ e=>by
  by_cases na:a ∈ tbs T
  ·obtain ⟨l,e⟩:=k.1.all a na;exact ⟨_,e⟩
  ·exact ⟨φ,(k.2 a na (by rw [Vw e]; exact Option.some_ne_none _)).trans (Vw e)⟩
 refine ⟨⟨k.1.keep (λ a ha=>?_) (λ a φ _ e=>?_),λ a na ha=>?_⟩,ke⟩
 ·obtain ⟨l,e⟩:=k.1.all a ha;rw [Yw e,e]
 ·rw [Yw e,e]
 ·have e1:=h.2 a na ha;cases z:M1 a with
  | none=>rw [e1] at z; exact absurd z ha
  | some o=>
   by_cases ex:∃ φ,o = .ext φ
   ·obtain ⟨φ,rfl⟩:=ex;rw [Yw ((k.2 a na (by rw [Vw z]; exact Option.some_ne_none _)).trans (Vw z)),<- e1,z]
   ·have n2:=hh a o z λ φ e=>ex ⟨φ,e⟩;rw [Ys (λ φ e=>by rw [n2] at e; cases e),e1]
theorem WT {M1 M2:Mp} (hr:M1 r = some (.lst ds)) (hh:∀ a o,M1 a = some o->(∀ φ,o ≠ .ext φ)->M2 a = none):Xy M1 M2 r = some (.lst ds):=by
 have n2:=hh r _ hr λ φ e=>nomatch e;rw [Ys (λ φ e=>by rw [n2] at e; cases e),hr]
theorem Kp.upd {T:Tx K mg base} (h:Kp T M M') (hr:M' r = some (.lst ds)) (n:M r = none):Kp T M (Z0 M' r o):=⟨h.1.put (λ φ e=>by rw [hr] at e; cases e),λ a na ha=>by
 rw [Zs λ z=>ha (by rw [z]; exact n)]
 exact h.2 a na ha⟩
theorem So {ts:List Tl} {G:Int->Int->Int × Int} (h1:ts.length <= 20 /\ ∀ t ∈ ts,TlW t) (h2:ZgL P w K mg base f G M) (h3:∀ M',(∀ a,M a ≠ none->M' a = M a)->Φ (.dat (.list ((ts.map (chT G)).map tlD))) M'):Zam P w K mg base [.dat (.list (ts.map tlD)),.own f] M Φ:=⟨ts,rfl,h1,G,h2,h3⟩
theorem Wr {b:B4} (h:okB b = true):b.x <= b.X /\ b.y <= b.Y:=by
 unfold okB at h;rw [Bool.and_eq_true,decide_eq_true_eq,decide_eq_true_eq] at h;exact h
theorem ZgS {b:B4} (h:b.x <= b.X /\ b.y <= b.Y):mvB (λ u v=>(u + (0 - dx),v + (0 - dy))) (mvB (λ u v=>(u + dx,v + dy)) b) = b:=by
 obtain ⟨x,y,X,Y⟩:=b;unfold mvB;dsimp only at h ⊢
 congr 1 <;> lia
theorem Zfl {G G':Int->Int->Int × Int} (hs:∀ u v,G' (G u v).1 (G u v).2 = (u,v)) (hb:∀ b:B4,b.x <= b.X /\ b.y <= b.Y->mvB G' (mvB G b) = b) {ts:List Tl} (h:∀ t ∈ ts,Wx t):(ts.map (chT G)).map (chT G') = ts:=by
 rw [List.map_map]
 conv=>rhs; rw [<- List.map_id ts]
 refine List.map_congr_left λ t ht=>?_;have ho:=h t ht;cases t with
 | land t nm ou bs wb=>
  show Tl.land t nm ou ((bs.map (mvB G)).map (mvB G')) wb = _;rw [List.map_map];have e:bs.map (mvB G' ∘ mvB G) = bs:=by
   conv=>rhs; rw [<- List.map_id bs]
   exact List.map_congr_left λ b mb=>hb b (Wr (ho.2.2.1.2.2 b mb).1)
  rw [e];rfl
 | spot t nm u v=>
  show Tl.spot t nm (G' (G u v).1 (G u v).2).1 (G' (G u v).1 (G u v).2).2 = _;rw [hs];rfl
 | off w t nm=>rfl
theorem Zb2 {t:Tl} (h:Wx t):TlW t:=by
 cases t with
 | land t nm ou bs wb=>exact h.2.2.1.1.2
 | spot t nm u v=>trivial
 | off w t nm=>exact h.2
theorem LN {ts:List Tl} (h:Vz ts):Lo ts:=⟨h.1,λ t ht=>by
 obtain ⟨D,e,hD⟩:=RY (h.2 t ht);rw [e]
 exact Zfv hD⟩
theorem KO (T:Tx K mg base):Qa P w K mg base CX0 20 T.Yp T.JS ["_law_tellings", "_law_dx", "_law_dy"] (lift K (ZiV T)):=by
 refine okL T.Yi.F Qn (λ xs M Φ h=>by obtain ⟨_,_,_,rfl,_⟩:=QT h; rfl) λ A outer s H E hr hu=>⟨_,(Ze (Zo 3 Qn.nd (cL T.Kq (KS (P:=P) (w:=w) (base:=base) T) hr (Qq "_law_dx" (Qq "_law_dy" Vf)) (Za (Zb 0) (Za (WN (Qq "_law_dx" (Qq "_law_dy" Vf)) T.QM T.QL T.bm) Zd))))
 (Ze (Zo 4 Qn.nd (Zi (X0 hr) rfl T.Wj YA (Za (Zb 0) Zd)))
 (Ze (Vr rfl T.Qh (Za Zc Zd) (Zp 5 Qn.nd) (Ze (Zo 6 Qn.nd (cO T.Ul (WE T) hr (Za (Zb 0) (Za (Zb 1) (Za (Zb 2) Zd)))))
 (Ze (Qm (DW.dt (GV (QD (QY (cO T.UC (W5 T) hr (Za (Zb 6) (Za (Zb 3) Zd))))) (Y2 (QD (QY (Fu [6,1,2,0] (cO T.UC (W5 T) hr (Za (cO T.Ul (WE T) hr (Za (Zb 6) (Za (Zj Qp Zc (Zb 1)) (Za (Zj Qp Zc (Zb 2)) Zd)))) (Za (Zb 0) Zd))))))))) (Zg (Zn Y9)) Zw)
 (Zg (JM (Jl (Zb 6) Sw))))) PassesOwn.never rfl)
 (Zg (Zn (QE (Vd hr) (Zi (X0 hr) rfl T.Wj YA (Za (Zb 0) Zd)) (Zb 4))))))),λ xs M Φ h=>?_⟩
 replace h:=QT h;obtain ⟨x1,x2,x3,rfl,h⟩:=h;obtain ⟨ts,rfl,h⟩:=h;replace h:=Zt h;obtain ⟨dx,rfl,h⟩:=h;replace h:=Zt h;obtain ⟨dy,rfl,⟨hts,hto⟩,hT,h⟩:=h;walk_at "h";refine ⟨Xn hu rfl λ q hq=>?_,Xo hT.2.1 hT.ne λ f c' M1 pm ct hf hc nf hM hT1=>?_⟩
 ·simp only [List.mem_cons,List.not_mem_nil,or_false] at hq
  rcases hq with rfl | rfl
  ·exact Nat.lt_succ_self _
  ·exact Nat.lt_succ_of_lt (Nat.lt_succ_self _)
 intro ob hn hob;have out:∀ {a:Addr} {o:OO},M1 a = some o->Ke M1 _ ob a = some o:=λ {a o} e=>(Qg λ z=>by rw [hn a z] at e; cases e).trans e;refine So ⟨hts.1,λ t ht=>Zb2 (hts.2 t ht)⟩ (λ M' kp=>ZeJ (Lu ?_) (λ x c e=>?_) (λ q hq=>?_) (kp _ _ (out hf)) (kp _ _ (out hc)) ⟨rfl,kp _ _ (QA List.mem_cons_self),hob _ List.mem_cons_self 1 _ rfl rfl trivial⟩ ⟨rfl,kp _ _ (QA (List.mem_cons_of_mem _ List.mem_cons_self)),hob _ (List.mem_cons_of_mem _ List.mem_cons_self) 2 _ rfl rfl trivial⟩) λ M2 hM2=>⟨λ c hc=>?_,?_⟩
 ·exact Nat.ne_of_lt (Nat.lt_succ_self _)
 ·rcases lk2 e with ⟨rfl,_⟩ | ⟨rfl,_⟩
  ·simp
  ·simp
 ·simp only [List.mem_cons,List.not_mem_nil,or_false] at hq
  rcases hq with rfl | rfl
  ·rfl
  ·rfl
 ·have e:=QA (M:=M1) (ob:=ob) hc;rw [hM2 c (by rw [e]; exact Option.some_ne_none _),e]
 have K3:=(ZhV hT hM hT1).gw (M2:=JZ M2 _) λ a ha=>by
  have na:a ∉ _:=λ z=>ha (hn a z);rw [Vi na,hM2 a (by rw [Qg na]; exact ha),Qg na]
 generalize JZ M2 [s.heap.objs.size + 1,s.heap.objs.size + 1 + 1] = M3 at K3 ⊢;obtain ⟨q1,q2⟩:=GA hts.2;have q3:=WY hts;obtain ⟨o1,o2⟩:=GA hto.2;have o3:=WY hto;walk_at "h";refine ⟨q3,?_⟩;walk_at "h";refine ⟨⟨by decide,by decide⟩,λ i Δ M'=>∃ k5 k6,Δ = [some (.dat (.list (ts.map tlD))),some (.dat (.int dx)),some (.dat (.int dy)),some (.dat (.list ((ts.map (chT λ u v=>(u + dx,v + dy))).map tlD))),some (.dat (.str (PyData.list (ts.map tlD)).shown)),k5,k6] /\ Kp T M M',⟨_,_,rfl,K3⟩,?_,?_⟩
 ·rintro i Δ M' hi ⟨k5,k6,rfl,kp⟩;rw [Yd];walk_at "h";refine ⟨ts,rfl,⟨hts.1,λ t ht=>Zb2 (hts.2 t ht),LN hto⟩,kp.1,λ M4 r hr hr4 k4=>?_⟩;walk_at "h";refine ⟨_,.inr ⟨r,_,rfl,hr4,rfl⟩,rfl,⟨o1,o2,o3⟩,?_⟩;walk_at "rk";refine ⟨_,.lst hr4,_,.dat _,_,.dat _,_,.dat _,?_⟩;have cc:=Zfl (G:=λ u v=>(u + dx,v + dy)) (G':=λ u v=>(u + (0 - dx),v + (0 - dy))) (λ u v=>Prod.ext (by dsimp only; lia) (by dsimp only; lia)) (λ b hb=>ZgS hb) hts.2;rw [Rw,Rw];refine ⟨ts.map (chT λ u v=>(u + dx,v + dy)),rfl,⟨hto.1,λ t ht=>Zb2 (hto.2 t ht),by rw [cc]; exact LN hts⟩,k4.1.ext,λ M5 s5 n5 hs5 kk5=>?_⟩;rw [cc] at hs5;refine ⟨_,.inr ⟨s5,_,rfl,hs5,rfl⟩,rfl,⟨q1,q2,q3⟩,λ hh=>?_⟩;obtain ⟨kb,ke⟩:=Kp.back (kp.trans k4) kk5 hh;refine ⟨rfl,ke,?_⟩;subst_vars;walk_at "rk";rw [WT hr4 hh];exact ⟨by rw [List.length_map,List.length_map]; have:=hts.1; lia,_,_,rfl,kb.upd (WT hr4 hh) (kp.fresh hr)⟩
 ·rintro Δ M' ⟨k5,k6,rfl,kp⟩;subst_vars;walk_at "rk";refine ⟨q3,?_⟩;rw [show isS (PyData.str (PyData.list (ts.map tlD)).shown) (PyData.list (ts.map tlD)).shown = true from decide_eq_true rfl];exact NV (h _ kp)
theorem Ze3 {a b a' b':Int} (h:gp a b a' b' <= 1):a' - b <= 1 /\ a - b' <= 1:=by
 unfold gp at h;lia
theorem ZeV {a b:B4} (h:ZU a b <= 1):(b.x - a.X <= 1 /\ a.x - b.X <= 1) /\ (b.y - a.Y <= 1 /\ a.y - b.Y <= 1):=by
 have k:=Int.max_le.mp h;exact ⟨Ze3 k.1,Ze3 k.2⟩
theorem Sn {F:B4->B4} (hF:∀ a b:B4,(a.x <= a.X /\ a.y <= a.Y)->(b.x <= b.X /\ b.y <= b.Y)->ZU a b <= 1->ZU (F a) (F b) <= 1):∀ bs:List B4,(∀ b ∈ bs,b.x <= b.X /\ b.y <= b.Y)->chB bs = true->chB (bs.map F) = true
 | [],_,_=>rfl
 | [_],_,_=>rfl
 | a :: b :: l,hb,h=>by
  have h':decide (ZU a b <= 1) = true /\ chB (b :: l) = true:=Bool.and_eq_true_iff.mp h;show (decide (ZU (F a) (F b) <= 1) && chB ((b :: l).map F)) = true;rw [Sn hF (b :: l) (λ c hc=>hb c (List.mem_cons_of_mem _ hc)) h'.2,decide_eq_true (hF a b (hb a List.mem_cons_self) (hb b (List.mem_cons_of_mem _ List.mem_cons_self)) (of_decide_eq_true h'.1))];rfl
theorem sub_neg {a b:Int} (h:a - b <= 1):-b - -a <= 1:=by lia
theorem ZgZ {n:Int} (h0:0 <= n) (h1:n <= 7) (a b:B4) (ha:a.x <= a.X /\ a.y <= a.Y) (hb:b.x <= b.X /\ b.y <= b.Y) (h:ZU a b <= 1):ZU (mvB (tnG n) a) (mvB (tnG n) b) <= 1:=by
 have k:=ZeV h
 rcases mvc h0 h1 with ⟨e,e'⟩ | ⟨e,e'⟩ | ⟨e,e'⟩ | ⟨e,e'⟩ | ⟨e,e'⟩ | ⟨e,e'⟩ | ⟨e,e'⟩ | ⟨e,e'⟩ <;> rw [e' a ha,e' b hb]
 ·exact QH (k.1.1) (k.1.2) (k.2.1) (k.2.2)
 ·exact QH (sub_neg k.1.2) (sub_neg k.1.1) (k.2.1) (k.2.2)
 ·exact QH (k.1.1) (k.1.2) (sub_neg k.2.2) (sub_neg k.2.1)
 ·exact QH (sub_neg k.1.2) (sub_neg k.1.1) (sub_neg k.2.2) (sub_neg k.2.1)
 ·exact QH (k.2.1) (k.2.2) (k.1.1) (k.1.2)
 ·exact QH (k.2.1) (k.2.2) (sub_neg k.1.2) (sub_neg k.1.1)
 ·exact QH (sub_neg k.2.2) (sub_neg k.2.1) (k.1.1) (k.1.2)
 ·exact QH (sub_neg k.2.2) (sub_neg k.2.1) (sub_neg k.1.2) (sub_neg k.1.1)
theorem HF {F:B4->B4} {bs:List B4} (h:Tf bs) (hF:∀ a b:B4,(a.x <= a.X /\ a.y <= a.Y)->(b.x <= b.X /\ b.y <= b.Y)->ZU a b <= 1->ZU (F a) (F b) <= 1)
  (hk:∀ b ∈ bs,((F b).x <= (F b).X /\ (F b).y <= (F b).Y) /\ (Sh (F b).x /\ Sh (F b).y) /\ (Sh (F b).X /\ Sh (F b).Y)):Tf (bs.map F):=by
 refine ⟨by rw [List.length_map]; exact h.1,Sn hF bs (λ b hb=>Wr (h.2.2 b hb).1) h.2.1,λ c hc=>?_⟩;obtain ⟨b,hb,rfl⟩:=List.mem_map.mp hc;obtain ⟨k1,k2⟩:=hk b hb;refine ⟨?_,k2⟩;unfold okB;rw [decide_eq_true k1.1,decide_eq_true k1.2];rfl
theorem Zhw {n:Int} (h0:0 <= n) (h1:n <= 7) {t:Tl} (h:Wx t):Wx (chT (tnG n) t):=by
 cases t with
 | land t nm ou bs wb=>
  refine ⟨h.1,h.2.1,HF h.2.2.1 (ZgZ h0 h1) λ b hb=>?_,h.2.2.2⟩;obtain ⟨k1,k2⟩:=h.2.2.1.2.2 b hb;exact Hv h0 h1 VD (R:=λ x X=>x <= X) (λ x X h=>Int.neg_le_neg h) (Wr k1) (Wr k1) k2
 | spot t nm u v=>
  obtain ⟨h1',h2,h3⟩:=h;refine ⟨h1',?_⟩
  rcases WU h0 h1 with e | e | e | e | e | e | e | e <;> rw [e]
  ·exact ⟨h2,h3⟩
  ·exact ⟨VD _ h2,h3⟩
  ·exact ⟨h2,VD _ h3⟩
  ·exact ⟨VD _ h2,VD _ h3⟩
  ·exact ⟨h3,h2⟩
  ·exact ⟨h3,VD _ h2⟩
  ·exact ⟨VD _ h3,h2⟩
  ·exact ⟨VD _ h3,VD _ h2⟩
 | off w t nm=>exact h
theorem Zd7 {n:Int} (h0:0 <= n) (h1:n <= 7) {ts:List Tl} (h:Vz ts):Vz (ts.map (chT (tnG n))):=⟨by rw [List.length_map]; exact h.1,λ t ht=>by
 obtain ⟨x,hx,rfl⟩:=List.mem_map.mp ht
 exact Zhw h0 h1 (h.2 x hx)⟩
noncomputable def ZbU (n:Int):Int:=if n = 5 then 6 else if n = 6 then 5 else n
theorem Zca {n:Int} (h0:0 <= n) (h1:n <= 7):0 <= ZbU n /\ ZbU n <= 7:=by
 unfold ZbU
 split
 ·lia
 ·split <;> lia
theorem Ze4 {n:Int} (h0:0 <= n) (h1:n <= 7) {P:PyData->Prop} (h:P (.int (ZbU n))):Ky [.int 0,.int 1,.int 2,.int 3,.int 4,.int 6,.int 5,.int 7] n P:=by
 have:n = 0 \/ n = 1 \/ n = 2 \/ n = 3 \/ n = 4 \/ n = 5 \/ n = 6 \/ n = 7:=by lia
 rcases this with rfl | rfl | rfl | rfl | rfl | rfl | rfl | rfl <;> exact h
theorem T2 {n:Int} (h0:0 <= n) (h1:n <= 7) (u v:Int):tnG (ZbU n) (tnG n u v).1 (tnG n u v).2 = (u,v):=by
 have:n = 0 \/ n = 1 \/ n = 2 \/ n = 3 \/ n = 4 \/ n = 5 \/ n = 6 \/ n = 7:=by lia
 rcases this with rfl | rfl | rfl | rfl | rfl | rfl | rfl | rfl
 ·rfl
 ·show ((-(-u):Int),(v:Int)) = (u,v)
  exact Prod.ext (by first | rfl | (dsimp only; lia)) (by first | rfl | (dsimp only; lia))
 ·show ((u:Int),(-(-v):Int)) = (u,v)
  exact Prod.ext (by first | rfl | (dsimp only; lia)) (by first | rfl | (dsimp only; lia))
 ·show ((-(-u):Int),(-(-v):Int)) = (u,v)
  exact Prod.ext (by first | rfl | (dsimp only; lia)) (by first | rfl | (dsimp only; lia))
 ·rfl
 ·show ((-(-u):Int),(v:Int)) = (u,v)
  exact Prod.ext (by first | rfl | (dsimp only; lia)) (by first | rfl | (dsimp only; lia))
 ·show ((u:Int),(-(-v):Int)) = (u,v)
  exact Prod.ext (by first | rfl | (dsimp only; lia)) (by first | rfl | (dsimp only; lia))
 ·show ((-(-u):Int),(-(-v):Int)) = (u,v)
  exact Prod.ext (by first | rfl | (dsimp only; lia)) (by first | rfl | (dsimp only; lia))
theorem Om {n:Int} (h0:0 <= n) (h1:n <= 7) (b:B4) (hb:b.x <= b.X /\ b.y <= b.Y):mvB (tnG (ZbU n)) (mvB (tnG n) b) = b:=by
 obtain ⟨x,y,X,Y⟩:=b;dsimp only at hb;have:n = 0 \/ n = 1 \/ n = 2 \/ n = 3 \/ n = 4 \/ n = 5 \/ n = 6 \/ n = 7:=by lia
 rcases this with rfl | rfl | rfl | rfl | rfl | rfl | rfl | rfl
 ·have e1:mvB (tnG 0) ⟨x,y,X,Y⟩ = ⟨x,y,X,Y⟩:=by
   show (⟨min (x) (X),min (y) (Y),max (x) (X),max (y) (Y)⟩:B4) = _
   congr 1 <;> lia
  rw [e1];show (⟨min (x) (X),min (y) (Y),max (x) (X),max (y) (Y)⟩:B4) = _
  congr 1 <;> lia
 ·have e1:mvB (tnG 1) ⟨x,y,X,Y⟩ = ⟨-X,y,-x,Y⟩:=by
   show (⟨min (-(x)) (-(X)),min (y) (Y),max (-(x)) (-(X)),max (y) (Y)⟩:B4) = _
   congr 1 <;> lia
  rw [e1];show (⟨min (-(-X)) (-(-x)),min (y) (Y),max (-(-X)) (-(-x)),max (y) (Y)⟩:B4) = _
  congr 1 <;> lia
 ·have e1:mvB (tnG 2) ⟨x,y,X,Y⟩ = ⟨x,-Y,X,-y⟩:=by
   show (⟨min (x) (X),min (-(y)) (-(Y)),max (x) (X),max (-(y)) (-(Y))⟩:B4) = _
   congr 1 <;> lia
  rw [e1];show (⟨min (x) (X),min (-(-Y)) (-(-y)),max (x) (X),max (-(-Y)) (-(-y))⟩:B4) = _
  congr 1 <;> lia
 ·have e1:mvB (tnG 3) ⟨x,y,X,Y⟩ = ⟨-X,-Y,-x,-y⟩:=by
   show (⟨min (-(x)) (-(X)),min (-(y)) (-(Y)),max (-(x)) (-(X)),max (-(y)) (-(Y))⟩:B4) = _
   congr 1 <;> lia
  rw [e1];show (⟨min (-(-X)) (-(-x)),min (-(-Y)) (-(-y)),max (-(-X)) (-(-x)),max (-(-Y)) (-(-y))⟩:B4) = _
  congr 1 <;> lia
 ·have e1:mvB (tnG 4) ⟨x,y,X,Y⟩ = ⟨y,x,Y,X⟩:=by
   show (⟨min (y) (Y),min (x) (X),max (y) (Y),max (x) (X)⟩:B4) = _
   congr 1 <;> lia
  rw [e1];show (⟨min (x) (X),min (y) (Y),max (x) (X),max (y) (Y)⟩:B4) = _
  congr 1 <;> lia
 ·have e1:mvB (tnG 5) ⟨x,y,X,Y⟩ = ⟨y,-X,Y,-x⟩:=by
   show (⟨min (y) (Y),min (-(x)) (-(X)),max (y) (Y),max (-(x)) (-(X))⟩:B4) = _
   congr 1 <;> lia
  rw [e1];show (⟨min (-(-X)) (-(-x)),min (y) (Y),max (-(-X)) (-(-x)),max (y) (Y)⟩:B4) = _
  congr 1 <;> lia
 ·have e1:mvB (tnG 6) ⟨x,y,X,Y⟩ = ⟨-Y,x,-y,X⟩:=by
   show (⟨min (-(y)) (-(Y)),min (x) (X),max (-(y)) (-(Y)),max (x) (X)⟩:B4) = _
   congr 1 <;> lia
  rw [e1];show (⟨min (x) (X),min (-(-Y)) (-(-y)),max (x) (X),max (-(-Y)) (-(-y))⟩:B4) = _
  congr 1 <;> lia
 ·have e1:mvB (tnG 7) ⟨x,y,X,Y⟩ = ⟨-Y,-X,-y,-x⟩:=by
   show (⟨min (-(y)) (-(Y)),min (-(x)) (-(X)),max (-(y)) (-(Y)),max (-(x)) (-(X))⟩:B4) = _
   congr 1 <;> lia
  rw [e1];show (⟨min (-(-X)) (-(-x)),min (-(-Y)) (-(-y)),max (-(-X)) (-(-x)),max (-(-Y)) (-(-y))⟩:B4) = _
  congr 1 <;> lia
theorem Kx (T:Tx K mg base):Qa P w K mg base CX0 20 T.VG T.JA ["_law_tellings", "_law_number", "_law_is_small"] (lift K (Ziv T)):=by
 refine okL T.VB.F Z2 (λ xs M Φ h=>by obtain ⟨_,_,_,rfl,_⟩:=QT h; rfl) λ A outer s H E hr hu=>⟨_,(Ze (Zo 3 Z2.nd (Zh (QC (Za Zc (Za Zc (Za Zc (Za Zc (Za Zc (Za Zc (Za Zc (Za Zc Zd))))))))) (Zb 1)))
 (Ze (Zo 4 Z2.nd (cL T.Kq (KS (P:=P) (w:=w) (base:=base) T) hr (Qq "_law_number" Vf) (Za (Zb 0) (Za (WN (Qq "_law_number" Vf) T.Qy T.Qu T.bm) Zd))))
 (Ze (Zo 5 Z2.nd (Zi (X0 hr) rfl T.Wj YA (Za (Zb 0) Zd)))
 (Ze (Vr rfl T.Qh (Za Zc Zd) (Zp 6 Z2.nd) (Ze (Zo 7 Z2.nd (cO T.Xk (XH T) hr (Za (Zb 0) (Za (Zb 1) Zd))))
 (Ze (Qm (DW.dt (GV (QD (QY (cO T.UC (W5 T) hr (Za (Zb 7) (Za (Zb 4) Zd))))) (Y2 (QD (QY (Fu [7,3,0] (cO T.UC (W5 T) hr (Za (cO T.Xk (XH T) hr (Za (Zb 7) (Za (Zb 3) Zd))) (Za (Zb 0) Zd))))))))) (Zg (Zn Y9)) Zw)
 (Ze (Qm (DW.dt (Ht (QY (Zb 2)) (CG (QD (QY (Hq [0,7,1] (cO T.Yn (KH T) hr (Za (Zb 0) (Za (Zb 7) (Za (Zb 1) Zd)))))))))) (Zg (Zn Y9)) Zw)
 (Ze (JM (Em (Zb 7)))
 (Zg (JM (Jl (Zb 7) Sw))))))) PassesOwn.never rfl)
 (Zg (Zn (QE (Vd hr) (Zi (X0 hr) rfl T.Wj YA (Za (Zb 0) Zd)) (Zb 5)))))))),λ xs M Φ h=>?_⟩
 replace h:=QT h;obtain ⟨x1,x2,x3,rfl,h⟩:=h;obtain ⟨ts,rfl,h⟩:=h;replace h:=Zt h;obtain ⟨n,rfl,h⟩:=h;replace h:=XQ h;obtain ⟨sm,rfl,⟨hts,⟨h0,h1⟩,hsm⟩,hT,h⟩:=h;have hto:=Zd7 h0 h1 hts;walk_at "h";refine Ze4 h0 h1 ?_;walk_at "h";refine ⟨Xn hu rfl λ q hq=>?_,Xo hT.2.2 hT.ne λ f c' M1 pm ct hf hc nf hM hT1=>?_⟩
 ·rw [List.mem_singleton.mp hq];exact Nat.lt_succ_self _
 intro ob hn hob;have out:∀ {a:Addr} {o:OO},M1 a = some o->Ke M1 _ ob a = some o:=λ {a o} e=>(Qg λ z=>by rw [hn a z] at e; cases e).trans e;refine So ⟨hts.1,λ t ht=>Zb2 (hts.2 t ht)⟩ (λ M' kp=>ZcD T ⟨h0,h1⟩ (kp _ _ (out hf)) (kp _ _ (out hc)) ⟨kp _ _ (QA List.mem_cons_self),hob _ List.mem_cons_self 1 _ rfl rfl trivial⟩) λ M2 hM2=>⟨λ c hc=>?_,?_⟩
 ·have e:=QA (M:=M1) (ob:=ob) hc;rw [hM2 c (by rw [e]; exact Option.some_ne_none _),e]
 have K3:=(ZhE hT hM hT1).gw (M2:=JZ M2 _) λ a ha=>by
  have na:a ∉ _:=λ z=>ha (hn a z);rw [Vi na,hM2 a (by rw [Qg na]; exact ha),Qg na]
 generalize JZ M2 [s.heap.objs.size + 1] = M3 at K3 ⊢;obtain ⟨q1,q2⟩:=GA hts.2;have q3:=WY hts;obtain ⟨o1,o2⟩:=GA hto.2;have o3:=WY hto;have cc:=Zfl (T2 h0 h1) (Om h0 h1) hts.2;have hun:=Zca h0 h1;walk_at "h";refine ⟨q3,?_⟩;walk_at "h";refine ⟨⟨by decide,by decide⟩,λ i Δ M'=>∃ k5 k6,Δ = [some (.dat (.list (ts.map tlD))),some (.dat (.int n)),some (.dat (.bool sm)),some (.dat (.int (ZbU n))),some (.dat (.list ((ts.map (chT (tnG n))).map tlD))),some (.dat (.str (PyData.list (ts.map tlD)).shown)),k5,k6] /\ Kp T M M',⟨_,_,rfl,K3⟩,?_,?_⟩
 ·rintro i Δ M' hi ⟨k5,k6,rfl,kp⟩;rw [Yd];walk_at "h";refine ⟨ts,rfl,⟨hts.1,λ t ht=>Zb2 (hts.2 t ht),h0,h1⟩,kp.1,λ M4 r hr hr4 k4=>?_⟩;walk_at "h";refine ⟨_,.inr ⟨r,_,rfl,hr4,rfl⟩,rfl,⟨o1,o2,o3⟩,?_⟩;walk_at "rk";refine ⟨_,.lst hr4,_,.dat _,_,.dat _,?_⟩;refine ⟨ts.map (chT (tnG n)),rfl,⟨hto.1,λ t ht=>Zb2 (hto.2 t ht),hun⟩,k4.1.ext,λ M5 s5 n5 hs5 kk5=>?_⟩;rw [cc] at hs5;refine ⟨_,.inr ⟨s5,_,rfl,hs5,rfl⟩,rfl,⟨q1,q2,q3⟩,λ hh=>?_⟩;obtain ⟨kb,ke⟩:=Kp.back (kp.trans k4) kk5 hh;refine ⟨rfl,ke,?_⟩;have hrb:=WT hr4 hh;walk_at "h";cases sm with
  | true=>
   rw [if_pos rfl];refine ⟨_,.dat _,_,.lst hrb,_,.dat _,ts,rfl,rfl,⟨hts,hsm rfl,h0,h1⟩,rfl,?_⟩;walk_at "h";rw [hrb];walk_at "rk";subst_vars;walk_at "rk";exact ⟨by rw [List.length_reverse,List.length_map,List.length_map]; have:=hts.1; lia,_,_,rfl,kb.upd hrb (kp.fresh hr)⟩
  | false=>
   rw [if_neg Bool.false_ne_true];walk_at "h";rw [hrb];walk_at "rk";subst_vars;walk_at "rk";exact ⟨by rw [List.length_reverse,List.length_map,List.length_map]; have:=hts.1; lia,_,_,rfl,kb.upd hrb (kp.fresh hr)⟩
 ·rintro Δ M' ⟨k5,k6,rfl,kp⟩;subst_vars;walk_at "rk";refine ⟨q3,?_⟩;rw [show isS (PyData.str (PyData.list (ts.map tlD)).shown) (PyData.list (ts.map tlD)).shown = true from decide_eq_true rfl];exact NV (h _ kp)
def Zjk (T:Tx K mg base):DSp:=GP (tbs T)
theorem Q7.fr {T:Tx K mg base} (h:Q7 T M) (hp:Pen M p) (k:Fr p M M'):Q7 T M':=by
 obtain ⟨o,⟨ns,i,b,_,rfl⟩,e⟩:=hp;have np:∀ {a φ},M a = some (.ext φ)->a ≠ p:=λ {a φ} ea z=>by rw [z,e] at ea; cases ea
 refine h.keep (λ a ha=>?_) λ a φ _ ea=>k.2 a (np ea) (by rw [ea]; exact Option.some_ne_none _);obtain ⟨l,ea⟩:=h.all a ha;exact k.2 a (np ea) (by rw [ea]; exact Option.some_ne_none _)
theorem Q7.not {T:Tx K mg base} (h:Q7 T M) (ha:∀ φ,M a ≠ some (.ext φ)):a ∉ tbs T:=λ z=>by
 obtain ⟨l,e⟩:=h.all a z;exact ha _ e
theorem Kp.pen {T:Tx K mg base} (h:Kp T M M') (ht:Q7 T M) (hp:Pen M p):Pen M' p:=by
 obtain ⟨o,ho,e⟩:=hp;refine ⟨o,ho,?_⟩;rw [h.2 p (ht.not λ φ z=>by rw [e] at z; obtain ⟨_,_,_,_,rfl⟩:=ho; cases z) (by rw [e]; exact Option.some_ne_none _),e]
theorem Kp.wld {T:Tx K mg base} {f ox oy bg sp:Int} {tn ln:List Str} (h:Kp T M M') (ht:Q7 T M) (e:M q = some (UQ f ox oy bg sp tn ln)):M' q = some (UQ f ox oy bg sp tn ln):=by
 rw [h.2 q (ht.not λ φ z=>by rw [e] at z; cases z) (by rw [e]; exact Option.some_ne_none _),e]
theorem MR {b:B4} (h:b.x <= b.X /\ b.y <= b.Y):mvB (λ u v=>(u + dx,v + dy)) b = ⟨b.x + dx,b.y + dy,b.X + dx,b.Y + dy⟩:=
 W2 (Int.min_eq_left (Int.add_le_add_right h.1 dx)) (Int.min_eq_left (Int.add_le_add_right h.2 dy)) (Int.max_eq_right (Int.add_le_add_right h.1 dx)) (Int.max_eq_right (Int.add_le_add_right h.2 dy))
theorem Wb {x d:Int} (h:Nr x) (hd:-100000000000 <= d /\ d <= 100000000000):Sh (x + d):=by
 unfold Nr at h;unfold Sh;lia
theorem W3 {a b d:Int} (h:a - b <= 1):a + d - (b + d) <= 1:=by lia
theorem ZdG {f:Int} (hx:-100000000000 <= dx /\ dx <= 100000000000) (hy:-100000000000 <= dy /\ dy <= 100000000000) {t:Tl} (h:Wx t) (hi:InF f t):Wx (chT (λ u v=>(u + dx,v + dy)) t):=by
 cases t with
 | land t nm ou bs wb=>
  refine ⟨h.1,h.2.1,HF h.2.2.1 (λ a b ha hb k=>?_) λ b hb=>?_,h.2.2.2⟩
  ·have k:=ZeV k;rw [MR ha,MR hb];exact QH (W3 k.1.1) (W3 k.1.2) (W3 k.2.1) (W3 k.2.2)
  ·have k1:=Wr (h.2.2.1.2.2 b hb).1;have k2:=(hi b hb).1;rw [MR k1];exact ⟨⟨Int.add_le_add_right k1.1 dx,Int.add_le_add_right k1.2 dy⟩,⟨Wb k2.1.1 hx,Wb k2.1.2 hy⟩,Wb k2.2.1 hx,Wb k2.2.2 hy⟩
 | spot t nm u v=>exact ⟨h.1,Wb hi.1 hx,Wb hi.2 hy⟩
 | off w t nm=>exact h
theorem Zb0 {f:Int} (hx:-100000000000 <= dx /\ dx <= 100000000000) (hy:-100000000000 <= dy /\ dy <= 100000000000) {ts:List Tl} (h:Vz ts) (hi:∀ t ∈ ts,InF f t):Vz (ts.map (chT λ u v=>(u + dx,v + dy))):=⟨by rw [List.length_map]; exact h.1,λ t ht=>by
 obtain ⟨x,mx,rfl⟩:=List.mem_map.mp ht
 exact ZdG hx hy (h.2 x mx) (hi x mx)⟩
theorem ZfF {f:Int} (hf:f < 3) {t:Tl} (h:Wx t) (hi:InF f t):Sml t:=by
 cases t with
 | land t nm ou bs wb=>
   intro b hb;have k1:=Wr (h.2.2.1.2.2 b hb).1;have k2:=(hi b hb).2;unfold SmB;lia
 | spot t nm u v=>trivial
 | off w t nm=>trivial
theorem Zeg (T:Tx K mg base):Qa P w K mg base CX0 21 T.ZfK T.Zdz ["_law_script"] (lift K (Zjk T)):=by
 refine okD T.o_law.F YU (λ xs M Φ ⟨ns,e,_⟩=>by rw [e]; rfl) λ cdv A outer s H E hr=>⟨_,(Ze (Zo 1 YU.nd (VR (Za (Zb 0) (Za Zc (Za Zc Zd)))))
 (Ze (Zo 2 YU.nd (cO T.HN (Oy T) hr (Za (Zb 1) Zd)))
 (Ze (Zo 3 YU.nd (cO T.SD (Zag T) hr (Za (Zb 1) (Za (Zb 2) (Za Zc Zd)))))
 (Ze (Qm (DW.dt (Ht (Z7 (Pt hr) (Zb 3) (QC Zd)) (CG (Z7 (KJ hr) (cO T.Zz (Zr T) hr (Za (Zb 1) (Za Zc Zd))) Zc)))) (Zg (JM (Jl (Zb 3) (Zh (Zb 3) (cO T.Zz (Zr T) hr (Za (Zb 1) (Za (Zi QS rfl T.JL Qv (Za (Zb 3) Zd)) Zd))))))) Zw)
 (Ze (ZbG 3 (Zo 4 YU.nd (Zj Vb Zc Zc)))
 (Ze (Zo 5 YU.nd (QC (Za Zc (Za Zc (Za (Zj Qp (cO T.Zz (Zr T) hr (Za (Zb 1) (Za Zc Zd))) Zc) (Za (Zj Qp (cO T.Wk (Xv T) hr (Za (Zb 1) (Za (Zj QO Zc (Zb 4)) Zd))) (Zb 4)) (Za (Zb 4) (Za (Zj Qp Zc (Zb 4)) Zd))))))))
 (Ze (Vr rfl T.Qh (Za Zc Zd) (Zp 6 YU.nd) (Zg (Qm (QD (QY (cO T.Yi (KO T) hr (Za (Zb 3) (Za (Zh (Zb 5) (cO T.Zz (Zr T) hr (Za (Zb 1) (Za Zc Zd)))) (Za (Zh (Zb 5) (cO T.Zz (Zr T) hr (Za (Zb 1) (Za Zc Zd)))) Zd)))))) (Zg (Zn Y9)) Zw)) PassesOwn.never rfl)
 (Ze (Vr rfl T.Qh (Za Zc Zd) (Zp 7 YU.nd) (Zg (Qm (QD (QY (cO T.VB (Kx T) hr (Za (Zb 3) (Za (Zb 7) (Za (QE LX ((QW hr) (Zb 2) Zv) Zc) Zd)))))) (Zg (Zn Y9)) Zw)) PassesOwn.never rfl)
 (Zg (Zn (Qt (QE (Fn hr) (cO T.Ul (WE T) hr (Za (QC Zd) (Za (Zj Vb Zc Zc) (Za Zc Zd)))) (QC Zd)) (Jg (QE (Fn hr) (cO T.Xk (XH T) hr (Za (QC Zd) (Za Zc Zd))) (QC Zd)))))))))))))),λ xs M Φ ⟨ns,e,hn,hT,h⟩=>?_⟩
 subst e;have hT0:Q7 T M:=⟨⟨.inl (hT _ (by simp)),.inl (hT _ (by simp))⟩,.inl (hT _ (by simp)),.inl (hT _ (by simp))⟩
 walk_at "h";intro p hp;walk_at "h";refine ⟨Pen.Z0 ⟨ns,0,0,Int.le_refl 0,rfl⟩,λ q M2 hw hne f2=>?_⟩;have hT2:Q7 T M2:=(hT0.new hp).fr (Pen.Z0 ⟨ns,0,0,Int.le_refl 0,rfl⟩) f2;walk_at "h";refine ⟨hw,hne,f2.1,λ ts M3 r hl ht hin hr3 hr2 hF3 hP3 hrp=>?_⟩;have hT3:Q7 T M3:=hT2.fr f2.1 ⟨hP3,hF3⟩;obtain ⟨f,ox,oy,bg,sp,tn,ln,hq,hf,hbg,hsp,htn,hln⟩:=id hw;have hin:=hin f ox oy bg sp tn ln hq;have hqr:q ≠ r:=λ z=>by
  rw [z,hr2] at hq;cases hq
 have hq3:M3 q = some (UQ f ox oy bg sp tn ln):=by
  rw [hF3 q hne (by rw [hq]; exact Option.some_ne_none _)];exact hq
 walk_at "hd";rename_i R hR;walk_at "rk";rw [hr3];walk_at "rk";refine S0 (F:=λ M'=>R _ _ M') hr3 hP3 hrp hl ht λ ts4 M4 hts hsub hF4 hr4 hP4=>?_;have hin4:∀ t ∈ ts4,InF f t:=λ t m=>hin t (hsub t m);have hq4:M4 q = some (UQ f ox oy bg sp tn ln):=by
  rw [hF4 q hne hqr (by rw [hq3]; exact Option.some_ne_none _)];exact hq3
 have npr:∀ {a φ},M3 a = some (.ext φ)->a ≠ p /\ a ≠ r:=λ {a φ} ea=>by
  constructor
  ·intro z;obtain ⟨o,⟨_,_,_,_,rfl⟩,e⟩:=hP3;rw [z,e] at ea;cases ea
  ·intro z;rw [z,hr3] at ea;cases ea
 have hT4:Q7 T M4:=hT3.keep (λ a ha=>by
  obtain ⟨l,ea⟩:=hT3.all a ha
  exact hF4 a (npr ea).1 (npr ea).2 (by rw [ea]; exact Option.some_ne_none _)) λ a φ _ ea=>hF4 a (npr ea).1 (npr ea).2 (by rw [ea]; exact Option.some_ne_none _)
 have hT5:Q7 T (V1 M4 r):=hT4.del λ φ e=>by rw [hr4] at e; cases e
 have pd:Pen (V1 M4 r) p:=hP4.del (Ne.symm hrp);have hq5:V1 M4 r q = some (UQ f ox oy bg sp tn ln):=by rw [Jj hqr]; exact hq4
 walk_at "h";rw [hr4];walk_at "rk";refine ⟨Lg _ (by decide),?_⟩;generalize V1 M4 r = M5 at hT5 pd hq5 ⊢;walk_at "h";refine ⟨pd,λ w1 M6 a6 b6 f6=>?_⟩;refine ⟨.inl (by lia),f6.1,λ w2 M7 a7 b7 f7=>?_⟩;have F7:=f6.trans f7;have hT7:=hT5.fr pd F7;have hq7:=F7.own hq5 hne;have menu:∀ x ∈ [0,1,w1 - 20,w2 - 100000000000,100000000000,-100000000000],-100000000000 <= x /\ x <= 100000000000:=λ x hx=>by
  simp only [List.mem_cons,List.not_mem_nil,or_false] at hx;lia
 walk_at "h";refine ⟨⟨by decide,by decide⟩,λ i Δ M'=>∃ k6,Δ = [some (.dat (.list (ns.map PyData.int))),some (.own p),some (.own q),some (.dat (.list (ts4.map tlD))),some (.dat (.int 100000000000)),some (.dat (.list [.int 0,.int 1,.int (w1 - 20),.int (w2 - 100000000000),.int 100000000000,.int (-100000000000)])),k6,none] /\ Q7 T M' /\ Pen M' p /\ M' q = some (UQ f ox oy bg sp tn ln),⟨_,rfl,hT7,f7.1,hq7⟩,?_,?_⟩
 ·rintro i Δ M' hi ⟨k6,rfl,hTi,hPi,hqi⟩;walk_at "rk";refine ⟨hPi,λ r1 M8 a8 b8 f8=>tab (l:=[0,1,w1 - 20,w2 - 100000000000,100000000000,-100000000000]) (λ t=>-100000000000 <= t /\ t <= 100000000000) a8 (by simp only [List.length_cons,List.length_nil]; lia) menu λ dx hdx=>?_⟩;walk_at "rk";refine ⟨f8.1,λ r2 M9 a9 b9 f9=>tab (l:=[0,1,w1 - 20,w2 - 100000000000,100000000000,-100000000000]) (λ t=>-100000000000 <= t /\ t <= 100000000000) a9 (by simp only [List.length_cons,List.length_nil]; lia) menu λ dy hdy=>?_⟩;have F9:=f8.trans f9;have hT9:=hTi.fr hPi F9;walk_at "rk";refine ⟨ts4,rfl,⟨hts,Zb0 hdx hdy hts hin4⟩,hT9,λ M10 k10=>?_⟩;walk_at "rk";exact ⟨_,rfl,k10.1,k10.pen hT9 f9.1,k10.wld hT9 (F9.own hqi hne)⟩
 ·rintro Δ M' ⟨k6,rfl,hTi,hPi,hqi⟩;walk_at "h";refine ⟨⟨by decide,by decide⟩,λ i Δ M'=>∃ k7,Δ = [some (.dat (.list (ns.map PyData.int))),some (.own p),some (.own q),some (.dat (.list (ts4.map tlD))),some (.dat (.int 100000000000)),some (.dat (.list [.int 0,.int 1,.int (w1 - 20),.int (w2 - 100000000000),.int 100000000000,.int (-100000000000)])),k6,k7] /\ Q7 T M' /\ M' q = some (UQ f ox oy bg sp tn ln),⟨_,rfl,hTi,hqi⟩,?_,?_⟩
  ·rintro i Δ M6' hi ⟨k7,rfl,hTj,hqj⟩;walk_at "rk";simp only [hqj,ZgQ];walk_at "rk";exact ⟨ts4,rfl,⟨hts,⟨by lia,by lia⟩,λ z t mt=>ZfF (of_decide_eq_true z) (hts.2 t mt) (hin4 t mt)⟩,hTj,λ M8 k8=>⟨_,rfl,k8.1,k8.wld hTj hqj⟩⟩
  ·rintro Δ M6' ⟨k7,rfl,hTj,hqj⟩;subst_vars;walk_at "rk";have z0:Vz []:=⟨by decide,λ t ht=>(nomatch ht)⟩
   obtain ⟨q1,q2⟩:=GA z0.2;have q1:B1 (PyData.list []) (PyData.list []) = true:=q1;have q2:PyData.eqvAll [] [] = true:=q2;refine ⟨Lg _ (by decide),[],rfl,⟨by decide,λ t ht=>(nomatch ht),by decide,λ t ht=>(nomatch ht)⟩,hTj,λ M8 r8 n8 h8 k8=>?_⟩;rw [h8];simp only [List.map_nil,Vc];refine ⟨q1,?_⟩;rw [if_pos q2];refine ⟨[],rfl,⟨by decide,λ t ht=>(nomatch ht)⟩,k8.1,λ M9 r9 n9 h9 k9=>?_⟩;rw [h9];simp only [List.map_nil,Vc];refine ⟨q1,?_⟩;rw [q2];exact h _ λ p hp=>k9.1.all p hp
end
def Ow (K:Fk) (x:Str) (st:Stmt) (f:Addr) (fd:FuncData):Prop:=PySem.W.nsIn K mainGlobals x = some (some (.ref f)) /\ Fun K x x st f fd
theorem Z4 {od an:Option Addr} {sl:Array (Option Value)} {oc kV dc cd:Value} (a:PySem.W.nsIn K mainGlobals x = some (some (.ref f))) (l:K.lookup f = some ⟨oc,od,.func (PySem.W.fnOf x x (VP st) (Qr st) (Zf st) .none kV dc pm an cd ct),sl⟩) (c:PySem.W.codeIn K cd x = true) (k:PySem.W.keepIn K (.ref f) = true):Ow K x st f (PySem.W.fnOf x x (VP st) (Qr st) (Zf st) .none kV dc pm an cd ct):=⟨a,ZdH l c k⟩
theorem Zy {ps:List Str} (X:K.In h) (G:h.Ns mainGlobals mg) (o:Ow K x st f fd) (b:∀ (kV doc pm:Value) (an:Option Addr) (cdv ct:Value) (us:List Value),us.length = ps.length->bindArgs (PySem.W.fnOf x x (VP st) (Qr st) (Zf st) .none kV doc pm an cdv ct) ⟨us,[]⟩ = pure (ps.zip us)):Own K mg x st ps f fd:=⟨o.2,PySem.W.mg_of X G o.1,o.2.binds b⟩
theorem Ux {α:Type} {P:List α->Prop} (h:∀ a0,P [a0]) (l:List α) (e:l.length = 1):P l:=by
 match l,e with
 | [a0],_=>exact h a0
theorem D4 {α:Type} {P:List α->Prop} (h:∀ a0 a1,P [a0,a1]) (l:List α) (e:l.length = 2):P l:=by
 match l,e with
 | [a0,a1],_=>exact h a0 a1
theorem RJ {α:Type} {P:List α->Prop} (h:∀ a0 a1 a2,P [a0,a1,a2]) (l:List α) (e:l.length = 3):P l:=by
 match l,e with
 | [a0,a1,a2],_=>exact h a0 a1 a2
theorem all_mk {l:PySem.W.OpenLaw} {w:World} {fa:Addr} (X:K.In h) (G:h.Ns mainGlobals mg) (hfa:mg "law" = some (.ref fa))
  {f0 f1 f2 f3 f4 f5 f6 f7 f8 f9 f10 f11 f12 f13 f14 f15 f16 f17 f18 f19 f20 f21 f22 f23 f24 f25 f26 f27 f28 f29 f30 f31 f32 f33 f34 f35 f36 f37 f38 f39:Addr} {d0 d1 d2 d3 d4 d5 d6 d7 d8 d9 d10 d11 d12 d13 d14 d15 d16 d17 d18 d19 d20 d21 d22 d23 d24 d25 d26 d27 d28 d29 d30 d31 d32 d33 d34 d35 d36 d37 d38 d39:FuncData} {tk0:Tok} {tk1:Tok} {tk2:Tok} {tk3:Tok} {tk4:Tok} {tk5:Tok} {tk6:Tok} {tk7:Tok} {ck_moved cp_moved:Addr} {ck_turned cp_turned:Addr} {ck_moved_right cp_moved_right:Addr} {ck_turned_right cp_turned_right:Addr}
  (o0:Ow K "is_whole" YD f0 d0)
  (o1:Ow K "is_short" YG f1 d1)
  (o2:Ow K "is_any_spot" JQ f2 d2)
  (o3:Ow K "is_spot" X5 f3 d3)
  (o4:Ow K "is_box" Up f4 d4)
  (o5:Ow K "has_spots" VU f5 d5)
  (o6:Ow K "steps_between" Jd f6 d6)
  (o7:Ow K "gap" Zap f7 d7)
  (o8:Ow K "is_shape" Vo f8 d8)
  (o9:Ow K "is_chain" Vu f9 d9)
  (o10:Ow K "is_name" Yr f10 d10)
  (o11:Ow K "is_time" Xu f11 d11)
  (o12:Ow K "is_telling" J9 f12 d12)
  (o13:Ow K "is_name_or_empty" Qz f13 d13)
  (o14:Ow K "is_wobble" VS f14 d14)
  (o15:Ow K "moved" Kg f15 d15)
  (o16:Ow K "turned" V8 f16 d16)
  (o17:Ow K "checked" Ye f17 d17)
  (o18:Ow K "with_spots" Jt f18 d18)
  (o19:Ow K "with_corners" Jv f19 d19)
  (o20:Ow K "turned_spot" JK f20 d20)
  (o21:Ow K "_law_take" HS f21 d21)
  (o22:Ow K "_law_wide" MI f22 d22)
  (o23:Ow K "_law_same" s_same f23 d23)
  (o24:Ow K "_law_boxes" Uv f24 d24)
  (o25:Ow K "_law_stretched" VT f25 d25)
  (o26:Ow K "_law_stretch" XI f26 d26)
  (o27:Ow K "_law_names" Vl f27 d27)
  (o28:Ow K "_law_world" B3 f28 d28)
  (o29:Ow K "_law_spot" Ed f29 d29)
  (o30:Ow K "_law_land" L7 f30 d30)
  (o31:Ow K "_law_telling" X4 f31 d31)
  (o32:Ow K "_law_some" D5 f32 d32)
  (o33:Ow K "_law_changed" Yg f33 d33)
  (o34:Ow K "_law_turned_spot" Ji f34 d34)
  (o35:Ow K "_law_inside" Xm f35 d35)
  (o36:Ow K "_law_boxes_right" Q8 f36 d36)
  (o37:Ow K "_law_moved_right" Q4 f37 d37)
  (o38:Ow K "_law_turned_right" QK f38 d38)
  (o39:Ow K "law" ZaZ f39 d39)
  (z0:PySem.W.nsIn K mainGlobals "abs" = some none)
  (z1:PySem.W.nsIn K mainGlobals "all" = some none)
  (z2:PySem.W.nsIn K mainGlobals "bool" = some none)
  (z3:PySem.W.nsIn K mainGlobals "int" = some none)
  (z4:PySem.W.nsIn K mainGlobals "isinstance" = some none)
  (z5:PySem.W.nsIn K mainGlobals "len" = some none)
  (z6:PySem.W.nsIn K mainGlobals "max" = some none)
  (z7:PySem.W.nsIn K mainGlobals "min" = some none)
  (z8:PySem.W.nsIn K mainGlobals "range" = some none)
  (z9:PySem.W.nsIn K mainGlobals "repr" = some none)
  (z10:PySem.W.nsIn K mainGlobals "sorted" = some none)
  (z11:PySem.W.nsIn K mainGlobals "str" = some none)
  (z12:PySem.W.nsIn K mainGlobals "tuple" = some none)
  (z13:PySem.W.nsIn K mainGlobals "zip" = some none)
  (u0:PySem.W.nsIn K mainGlobals "MOST" = some (some (.int 999999999999 tk0)))
  (u1:PySem.W.nsIn K mainGlobals "MOST_BOXES" = some (some (.int 6 tk1)))
  (u2:PySem.W.nsIn K mainGlobals "MOST_LETTERS" = some (some (.int 8 tk2)))
  (u3:PySem.W.nsIn K mainGlobals "LAST_TIME" = some (some (.int 1000000000000 tk3)))
  (u4:PySem.W.nsIn K mainGlobals "X_SIGN" = some (some (.int 1 tk4)))
  (u5:PySem.W.nsIn K mainGlobals "Y_SIGN" = some (some (.int 2 tk5)))
  (u6:PySem.W.nsIn K mainGlobals "EXCHANGED" = some (some (.int 4 tk6)))
  (u7:PySem.W.nsIn K mainGlobals "LAST_TURN" = some (some (.int 7 tk7)))
  (Xi:d15.code = .ref ck_moved) (Xg:PySem.W.codeHdIn K ck_moved cp_moved = true)
  (Ym:d16.code = .ref ck_turned) (V2:PySem.W.codeHdIn K ck_turned cp_turned = true)
  (QM:d37.code = .ref ck_moved_right) (QL:PySem.W.codeHdIn K ck_moved_right cp_moved_right = true)
  (Qy:d38.code = .ref ck_turned_right) (Qu:PySem.W.codeHdIn K ck_turned_right cp_turned_right = true)
  (kd:([cp_moved,cp_turned,cp_moved_right,cp_turned_right]:List Addr).Nodup) :
  ∃ fd:FuncData,(∀ (s:Shared) (v:Value),BindsTo s fd ⟨[v],[]⟩ [("_law_script",v)]) /\ ∀ base:Heap,K.In base->base.Ns mainGlobals mg->BmB base mg->Qa l.prog w K mg base CX0 21 fa fd ["_law_script"] (lift K (GP [cp_moved,cp_turned,cp_moved_right,cp_turned_right])):=by
 have e:=hfa.symm.trans (PySem.W.mg_of X G o39.1);cases e;obtain ⟨_,_,_,_,_,_,_,_,_,rfl,_,_⟩:=o39.2.ex;exact ⟨_,λ s v=>.of_eq rfl,λ base _ _ B=>Zeg (⟨B,_,_,Zy X G o0 λ _ _ _ _ _ _=>Ux λ _=>rfl,_,_,Zy X G o1 λ _ _ _ _ _ _=>Ux λ _=>rfl,_,_,Zy X G o2 λ _ _ _ _ _ _=>Ux λ _=>rfl,_,_,Zy X G o3 λ _ _ _ _ _ _=>Ux λ _=>rfl,_,_,Zy X G o4 λ _ _ _ _ _ _=>Ux λ _=>rfl,_,_,Zy X G o5 λ _ _ _ _ _ _=>Ux λ _=>rfl,_,_,Zy X G o6 λ _ _ _ _ _ _=>D4 λ _ _=>rfl,_,_,Zy X G o7 λ _ _ _ _ _ _=>RJ λ _ _ _=>rfl,_,_,Zy X G o8 λ _ _ _ _ _ _=>Ux λ _=>rfl,_,_,Zy X G o9 λ _ _ _ _ _ _=>Ux λ _=>rfl,_,_,Zy X G o10 λ _ _ _ _ _ _=>Ux λ _=>rfl,_,_,Zy X G o11 λ _ _ _ _ _ _=>Ux λ _=>rfl,_,_,Zy X G o12 λ _ _ _ _ _ _=>Ux λ _=>rfl,_,_,Zy X G o13 λ _ _ _ _ _ _=>Ux λ _=>rfl,_,_,Zy X G o14 λ _ _ _ _ _ _=>Ux λ _=>rfl,_,_,Zy X G o15 λ _ _ _ _ _ _=>RJ λ _ _ _=>rfl,_,_,Zy X G o16 λ _ _ _ _ _ _=>D4 λ _ _=>rfl,_,_,Zy X G o17 λ _ _ _ _ _ _=>Ux λ _=>rfl,_,_,Zy X G o18 λ _ _ _ _ _ _=>D4 λ _ _=>rfl,_,_,Zy X G o19 λ _ _ _ _ _ _=>D4 λ _ _=>rfl,_,_,Zy X G o20 λ _ _ _ _ _ _=>D4 λ _ _=>rfl,_,_,Zy X G o21 λ _ _ _ _ _ _=>D4 λ _ _=>rfl,_,_,Zy X G o22 λ _ _ _ _ _ _=>D4 λ _ _=>rfl,_,_,Zy X G o23 λ _ _ _ _ _ _=>D4 λ _ _=>rfl,_,_,Zy X G o24 λ _ _ _ _ _ _=>D4 λ _ _=>rfl,_,_,Zy X G o25 λ _ _ _ _ _ _=>RJ λ _ _ _=>rfl,_,_,Zy X G o26 λ _ _ _ _ _ _=>Ux λ _=>rfl,_,_,Zy X G o27 λ _ _ _ _ _ _=>D4 λ _ _=>rfl,_,_,Zy X G o28 λ _ _ _ _ _ _=>Ux λ _=>rfl,_,_,Zy X G o29 λ _ _ _ _ _ _=>D4 λ _ _=>rfl,_,_,Zy X G o30 λ _ _ _ _ _ _=>RJ λ _ _ _=>rfl,_,_,Zy X G o31 λ _ _ _ _ _ _=>D4 λ _ _=>rfl,_,_,Zy X G o32 λ _ _ _ _ _ _=>RJ λ _ _ _=>rfl,_,_,Zy X G o33 λ _ _ _ _ _ _=>D4 λ _ _=>rfl,_,_,Zy X G o34 λ _ _ _ _ _ _=>D4 λ _ _=>rfl,_,_,Zy X G o35 λ _ _ _ _ _ _=>Ux λ _=>rfl,_,_,Zy X G o36 λ _ _ _ _ _ _=>RJ λ _ _ _=>rfl,_,_,Zy X G o37 λ _ _ _ _ _ _=>RJ λ _ _ _=>rfl,_,_,Zy X G o38 λ _ _ _ _ _ _=>RJ λ _ _ _=>rfl,_,_,Zy X G o39 λ _ _ _ _ _ _=>Ux λ _=>rfl,_,_,Xi,Xg,_,_,Ym,V2,_,_,QM,QL,_,_,Qy,Qu,kd,PySem.W.mg_none_of X G z0,PySem.W.mg_none_of X G z1,PySem.W.mg_none_of X G z2,PySem.W.mg_none_of X G z3,PySem.W.mg_none_of X G z4,PySem.W.mg_none_of X G z5,PySem.W.mg_none_of X G z6,PySem.W.mg_none_of X G z7,PySem.W.mg_none_of X G z8,PySem.W.mg_none_of X G z9,PySem.W.mg_none_of X G z10,PySem.W.mg_none_of X G z11,PySem.W.mg_none_of X G z12,PySem.W.mg_none_of X G z13,_,PySem.W.mg_of X G u0,_,PySem.W.mg_of X G u1,_,PySem.W.mg_of X G u2,_,PySem.W.mg_of X G u3,_,PySem.W.mg_of X G u4,_,PySem.W.mg_of X G u5,_,PySem.W.mg_of X G u6,_,PySem.W.mg_of X G u7⟩:Tx K mg base)⟩
theorem walk {l:PySem.W.OpenLaw} {q:Program} {loose:List Str} {XP:(Str->Option Value)->Heap->Prop} {YP:World->Heap->Prop} {d:DefRec} {K:Params->Fk} (hn:l.most = some 63) (hdf:d.params.defaults = [])
  {ts:List Addr} (hY:∀ (w:World) (h:Heap),YP w h->(K w.params).In h /\ ∀ p ∈ ts,h.get? p = some (PySem.W.tabObj #[]) /\ (∃ c,PySem.W.codeHdIn (K w.params) c p = true) /\ (K w.params).lookup p = none)
  (F:∀ (w:World) (mg:Str->Option Value) (fa:Addr) (h:Heap),(K w.params).In h->h.Ns mainGlobals mg->mg d.name = some (.ref fa) ->
   ∃ fd:FuncData,(∀ (s:Shared) (u:Value),BindsTo s fd ⟨[u],[]⟩ [("_law_script",u)]) /\ ∀ base:Heap,(K w.params).In base->base.Ns mainGlobals mg->BmB base mg->Qa l.prog w (K w.params) mg base CX0 21 fa fd ["_law_script"] (lift (K w.params) (GP ts))) :
  PySem.W.WalkO q loose XP YP l.row.toRowW d [] (λ f vs=>PySem.call f vs):=
 O6 (n:=63) (k:=21) (x := "_law_script") (CX:=λ _=>CX0) (sp:=λ w=>lift (K w.params) (GP ts)) hn (by decide) hdf ⟨rfl,by decide,by decide,rfl⟩ hY F
  (λ w H a ns hl hO hS=>Ek hl hO hS) λ _ _ _ _ _ z=>z
end My
set_option genInjectivity false in
structure PySem.W.Fast:Prop where
 (tw7197839553313415525 tw4673047038079309371 tw7467432788958535398 tw14799024112574556829 tw280662733659159080 tw1820077001843454939 tw3573308467401590369 tw6590299621054402390 tw6339045979194131263 tw8602581124554445942 tw4604768825936891214 tw7820421275665089208 tw14343447566251107144 tw1263069672226176194 tw15681711788245900659 tw4631848807649015685 tw2298751174152475469 tw14984766333446981783 tw3162199113938052065 tw420624572744175543 tw814858460425569021 tw9035035894718126869 tw6210925473733189931 tw8116028827891307324 tw15759300569960925411 tw1973478078972637474 tw18178644551031832178 tw4141580876227027764 tw8961756987005776289 tw7910705071857587402 tw13612086830629280099 tw6710713467507623355 tw12361253875967817912 tw8424013647465617367 tw12532265645510639399 tw18201535383331735022 tw12476383025097238156 tw10917515518237416287 tw7984131219961567022 tw10067084686440066003 tw17340018215114242772 tw5414160639474944658 tw11506281591678070015 tw5560295252520014584 tw13342130257302548967 tw8024808011799562240 tw17462136390294393590 tw15406823064622808244 tw16048326513539102565 tw3961151046340598934 tw810048797361572046 tw5372983599549204471 tw14914447001946396895 tw15822035073552192778 tw14214359559324482276 tw4646724730071783980 tw7363851607058344061 tw13189747309682786574 tw5776913233566355812 tw1624838931576418341 tw15273844563167049315 tw11965881021653441231 tw9194850073525281344 tw5211373151127191810 tw13569026723195358592 tw6422359153001348598 tw5592650117533681402 tw2030215814233062888 tw13283275595059201848 tw9693097072045387428 tw6423970290799333944 tw12169029132637785896 tw3244851994233389972 tw1704158067933996919 tw8344626353999825968 tw3898460599286499297 tw15312621725744320028 tw11688890637917913564 tw1705453508084131163 tw17715339451811398320 tw11525612482546466269 tw15880788627455718792 tw16211612998591317727 tw11070117291336461318 tw8363256408747028452 tw1730411848008192229 tw13534692334909216077 tw11149351623582215615 tw6137984642315599207 tw17961520751187119380 tw11700580828592504774 tw17855589781743354683 tw8570573936394416012 tw7027337020249050988 tw5361424432417214395 tw11265749440730357302 tw2516004863296398040 tw2151608545860386095 tw4358672913929494165 tw15161849141822998765 tw2443395904514388348 tw11221105239336790694 tw8321767152543238009 tw14417617557643957206 tw3030171030900167139 tw1264211863087227044 tw11037188138845836008 tw6337219997283833498 tw11377478616897981048 tw15578195006802418504 tw11567840479356162294 tw3132822455555729132 tw15904373791960254556 tw10876606256072528776 tw101733199008767363 tw11765707809348299462 tw6272185835074468554 tw13831430184306645601 tw12192110895752023931 tw16353152729464992499 tw444524374944507979 tw7780263835278364726 tw1524125802447397361 tw10626044152750120186 tw1273248649651470048 tw5098879168831039883 tw15649999976836624242 tw13891814773886455104 tw5955944086983506978 tw9982100782346090888 tw15816614143213785718 tw3048236030314546632 tw512353994787943271 tw997215681249638508 tw212416610258966280 tw16465489094332458062 tw2012082118537882177 tw2544948486630661812 tw7044859923187315859 tw13665457610184203034 tw5570602430944281908 tw6669492150569597631 tw2030197575624160594 tw392849883784807816 tw5687349051329154105 tw1237323201103229691 tw13873327556257492236 tw5929280646842562229 tw11202064540022344586 tw18273859296892507294 tw15418205647930021439 tw5927754421353038328 tw18219522659985214817 tw6809978229288298733 tw16288367001702913418 tw6406889928157855813 tw3536201232878824863 tw6994039465553705545 tw4306798979917676335 tw9695564466646005591 tw16866755676647869874 tw5395432635964794977 tw2241476784574368528 tw12847595950571305682 tw17908713307850692532 tw8788504547217129022 tw11244447089384200330 tw13433117842770501127 tw13153832588087300013 tw8728553545257533855 tw7333148477770194025 tw16802665958440385397 tw8362689781340599318 tw10642668195121618541 tw11693985805595006676 tw17631973400574437505 tw1863154826670736723 tw15750043368809156137 tw6990702953862291729 tw2174095019177774689 tw14378064873622332289 tw12971061954415856749 tw7287132791554092069 tw1517471972957766575 tw8529455979157738732 tw6144406926546881549 tw747015892105229618 tw4285038987045375645 tw692661324001980384 tw2166621919768362764 tw14862294035254429615 tw13088013861931578778 tw7148690467361711237 tw5912004024586307884 tw16489664646665954180 tw12022912401850317144 tw8171472359876473425 tw10100054881978102844 tw12116314307812048708 tw14366729981734467024 tw9771281619839320754 tw10046955495929923380 tw4771703930309498006 tw1858259205305709356 tw5091771360432992309 tw17436372286487064821 tw7029834566345996117 tw17139591750442492046 tw16444371905301425854 tw16294521134456914118 tw18002293750895158926 tw13443187676619595244 tw3814230470848603893 tw17522811298917219662 tw14121796068717888815 tw5668277645147353953 tw8008939976599964667 tw14283876869396519954 tw13100828884564289953 tw1442847545901026673 tw10861810608098747310 tw3016016398357051641 tw15021073166195895937 tw4686020493351138127 tw14789139108824905930 tw15333879543037263156 tw15911981681077886413 tw7895623286681779796 tw1965980026300125796 tw13671835360077106535 tw6831994527441354631 tw2911742172553550151 tw14038240457489844141 tw3809982909918474619 tw890046128823740752 tw10190329030459278843 tw6350445467012922323 tw608777815613339909 tw5392709171503618504 tw10845283245613799891 tw12908232720083141892 tw8042153284909200057 tw5673018787739391488 tw4364758150131126890 tw13717181770831883043 tw9522120599253030251 tw17261586915056971829 tw1890001870315112273 tw12050572935785441595 tw12814450185541665974 tw14194873429359819297 tw14865341770668054189 tw10672965607979524504 tw1709123226283022699 tw13570789137601618520 tw10411326573444310128 tw17991169631022286844 tw16229418457251128228 tw6371762473817599041 tw14830544635231571793 tw12704203206910868397 tw9753370709735580336 tw1216673620810771422 tw14306367618782622527 tw14258933783308894870 tw4121205731969222475 tw18207513150132764670 tw6984144810495915606 tw7328475007788980051 tw1364028050739076595 tw15800639471646476613 tw805499561262047036 tw7404478010883242683 tw6685087427666275325 tw4777783644187297756 tw9693914849934308718 tw7431749770138427655:True)
open PySem.W
set_option maxRecDepth 100000 in
set_option maxHeartbeats 0 in
theorem PySem.Challenge.cw_landsentered_k41_moved_and_turned_holds : PySem.Challenge.rw_landsentered_k41_moved_and_turned.Holds := by
 w_on; o_law; k_head; (case hw => w_witness2)
 k_fill
 refine My.walk (l := PySem.Challenge.rw_landsentered_k41_moved_and_turned) (ts := [152, 157, 284, 291]) rfl rfl (fun w h Y => ⟨PySem.W.km_in_of Y, ?T⟩) ?F
 case T =>
  exact List.forall_mem_cons.mpr ⟨⟨PySem.W.km_tabs_of Y _ (by k_mem), ⟨154, by kernel_rfl⟩, by kernel_rfl⟩, List.forall_mem_cons.mpr ⟨⟨PySem.W.km_tabs_of Y _ (by k_mem), ⟨159, by kernel_rfl⟩, by kernel_rfl⟩, List.forall_mem_cons.mpr ⟨⟨PySem.W.km_tabs_of Y _ (by k_mem), ⟨288, by kernel_rfl⟩, by kernel_rfl⟩, List.forall_mem_cons.mpr ⟨⟨PySem.W.km_tabs_of Y _ (by k_mem), ⟨295, by kernel_rfl⟩, by kernel_rfl⟩, fun _ h => nomatch h⟩⟩⟩⟩
 case F =>
  intro w mg fa h KX G hmg
  refine' My.all_mk (ck_moved := 154) (cp_moved := 152) (ck_turned := 159) (cp_turned := 157) (ck_moved_right := 288) (cp_moved_right := 284) (ck_turned_right := 295) (cp_turned_right := 291) KX G hmg (My.Z4 ?_ ?_ ?_ ?_) (My.Z4 ?_ ?_ ?_ ?_) (My.Z4 ?_ ?_ ?_ ?_) (My.Z4 ?_ ?_ ?_ ?_) (My.Z4 ?_ ?_ ?_ ?_) (My.Z4 ?_ ?_ ?_ ?_) (My.Z4 ?_ ?_ ?_ ?_) (My.Z4 ?_ ?_ ?_ ?_) (My.Z4 ?_ ?_ ?_ ?_) (My.Z4 ?_ ?_ ?_ ?_) (My.Z4 ?_ ?_ ?_ ?_) (My.Z4 ?_ ?_ ?_ ?_) (My.Z4 ?_ ?_ ?_ ?_) (My.Z4 ?_ ?_ ?_ ?_) (My.Z4 ?_ ?_ ?_ ?_) (My.Z4 ?_ ?_ ?_ ?_) (My.Z4 ?_ ?_ ?_ ?_) (My.Z4 ?_ ?_ ?_ ?_) (My.Z4 ?_ ?_ ?_ ?_) (My.Z4 ?_ ?_ ?_ ?_) (My.Z4 ?_ ?_ ?_ ?_) (My.Z4 ?_ ?_ ?_ ?_) (My.Z4 ?_ ?_ ?_ ?_) (My.Z4 ?_ ?_ ?_ ?_) (My.Z4 ?_ ?_ ?_ ?_) (My.Z4 ?_ ?_ ?_ ?_) (My.Z4 ?_ ?_ ?_ ?_) (My.Z4 ?_ ?_ ?_ ?_) (My.Z4 ?_ ?_ ?_ ?_) (My.Z4 ?_ ?_ ?_ ?_) (My.Z4 ?_ ?_ ?_ ?_) (My.Z4 ?_ ?_ ?_ ?_) (My.Z4 ?_ ?_ ?_ ?_) (My.Z4 ?_ ?_ ?_ ?_) (My.Z4 ?_ ?_ ?_ ?_) (My.Z4 ?_ ?_ ?_ ?_) (My.Z4 ?_ ?_ ?_ ?_) (My.Z4 ?_ ?_ ?_ ?_) (My.Z4 ?_ ?_ ?_ ?_) (My.Z4 ?_ ?_ ?_ ?_) ?_ ?_ ?_ ?_ ?_ ?_ ?_ ?_ ?_ ?_ ?_ ?_ ?_ ?_ ?_ ?_ ?_ ?_ ?_ ?_ ?_ ?_ ?Xi ?Xg ?Ym ?V2 ?QM ?QL ?Qy ?Qu ?kd
  any_goals first | k_is | kit_is | decide +kernel
  all_goals first | rfl | kernel_rfl | decide
